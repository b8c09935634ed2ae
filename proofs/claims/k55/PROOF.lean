import PyProof.Rows.All
import Wide.All
import OpenK.AllK
import Wide.FinOn
import Lean
import PyProof.EqAt
import PyProof.EqKinds
import PyProof.TupleCall
import PySem.Challenge.RW_netfinder_k55_whole_nets_of_stretches
set_option Elab.async false
set_option linter.all false
set_option maxRecDepth 100000
set_option compiler.extract_closed false
set_option bootstrap.genMatcherCode false
noncomputable section
theorem Zz{a b:Prop}(x:a)(y:b):a∧b:=⟨x,y⟩
def P2:=@PySem.wpAny_bind
def P4:=@PySem.wpAny_pure
def P5:=@List.length_map
def P6:=@List.size_toArray
def P7:=@List.mem_append_right
def P8:=@List.mem_cons_self
def P9:=@Nat.le_refl
def Qa:=@if_pos
def Qb:=@Bool.false_ne_true
def Qc:=@PySem.Heap.lt_size
def Qd:=@List.mem_append_left
def Qe:=@List.map_map
def Qf:=@if_neg
def Qg:=@List.mem_cons_of_mem
def Qh:=@List.mem_cons
def Qi:=@List.map_append
def Qj:=@List.mem_of_getElem?
def Qk:=@Nat.lt_of_lt_of_le
def Ql:=@List.length_cons
def Qm:=@decide_eq_true_eq
def Qn:=@List.map_cons
def Qo:=@Bool.and_eq_true
def Qp:=@List.all_eq_true
def Qq:=@Nat.ne_of_lt
def Qr:=@List.length_range
def Qs:=@List.length_singleton
def Qt:=@List.mem_iff_getElem?
def Qu:=@Option.some.inj
def Qv:=@Bool.eq_iff_iff
def Qw:=@List.nodup_cons
def Qx:=@List.mem_singleton
def Qy:=@List.length_take
def Qz:=@Option.bind_eq_some_iff
def QA:=@Option.map_eq_some_iff
def QB:=@decide_eq_false
def QC:=@List.mem_range
def QD:=@List.mem_map
def QF:=@List.nodup_append
def QH:=@List.mem_append
def QJ:=@Nat.zero_le
def QK:=@List.map_congr_left
def QL:=@Int.toNat_natCast
def QM:=@beq_iff_eq
def QR:=@List.append_nil
def QU:=@List.length_append
def QV:=@List.map_nil
def QX:=@PySem.PassesOwn.never
def QY:=@PySem.W.mg_none_of
def QZ:=@beq_self_eq_true
def Q0:=@List.not_mem_nil
def Q1:=@PySem.wpAny_newObj_type
def Q5:=@List.append_assoc
def Q6:=@List.idxOf_lt_length_of_mem
def Q7:=@Int.eq_ofNat_of_zero_le
def Q8:=@List.any_eq_true
def Q9:=@decide_eq_true
def Rb:=@PySem.wpAny_seqItems
def Rc:=@List.ext_getElem?
def Rf:=@List.all_map
def Rg:=@congrArg
def Rh:=@Nat.le_trans
def Ri:=@PySem.sizeLine_eq
def Rj:=@List.length_nil
def Rk:=@PySem.wpAny_call_entry
def Rl:=@decide_eq_false_iff_not
def Ro:=@List.eq_nil_of_length_eq_zero
def Rp:=@List.lookup_cons
def Rq:=@beq_eq_false_iff_ne
def Rr:=@Option.isSome_iff_exists
def Rt:=@List.take_add_one
def Ru:=@PySem.AutoSeq1.wpAny_loadPart'
def Rv:=@Ne.symm
def Rw:=@PySem.wpAny_pyIter_tuple
def Rx:=@PySem.wpAny_field
def Ry:=@Bool.false_eq_true
def Rz:=@List.zip_cons_cons
def RA:=@List.take_length
def RB:=@Array.length_toList
def RC:=@PySem.wpAny_pyIter_list
def RD:=@PyProof.Rows.slot_tuple_getitem
def RE:=@List.replicate_succ
def RF:=@Nat.lt_irrefl
def RG:=@PySem.wpAny_holding
def RH:=@PySem.wpAny_tryCatch
def RI:=@PySem.wpAny_Call_Name_kw
def RJ:=@PySem.wpAny_typeNameOfWhole_keyiter
def RK:=@PySem.Around.under_plainId
def RL:=@PySem.F.slot_dict_keyiterator_next
def RM:=@List.nodup_nil
def RN:=@List.any_map
def RO:=@PySem.wpAny_truthy_bool
def RP:=@List.flatten_cons
def RQ:=@PyProof.Rows.callWith_type1
def RS:=@PySem.mem_of_lookup
def RT:=@PySem.wpAny_letGo
def RU:=@PyProof.Rows.KeyOrd.kle_refl
def RV:=@List.take_of_length_le
def RW:=@PySem.F.slot_tuple_iterator_next
def RX:=@List.length_drop
def RY:=@Nat.lt_succ_self
def RZ:=@List.getElem_mem
def R0:=@PySem.F.plain_max_loop
def R3:=@PySem.F.plain_min_loop
def R4:=@PySem.wpAny_setField_rec
def R5:=@decide_false
def R6:=@PySem.Heap.size_push
def R7:=@PySem.wpAny_passesOwn
def R8:=@List.length_set
def R9:=@List.foldl_cons
def Sa:=@of_decide_eq_true
def Sb:=@List.length_zip
def Sd:=@List.filterMap_cons_none
def Se:=@List.filterMap_cons_some
def Sg:=@Nat.le_succ
def Sh:=@PySem.plainId_quiet
def Si:=@List.pairwise_cons
def Sj:=@List.mem_filter
def Sk:=@PySem.codeAny_builtin
def Sl:=@PySem.wpAny_updateSeq
def Sm:=@decide_true
def Sn:=@Option.map_some
def So:=@List.map_take
def Sq:=@List.nodup_iff_pairwise_ne
def Sr:=@List.mem_of_mem_take
def Ss:=@PySem.Calls.call_function_entry
def Su:=@List.drop_eq_getElem_cons
def Sv:=@List.toList_toArray
def Sw:=@PySem.Heap.SameBut.update
def Sy:=@PySem.wpAny_mono
def Sz:=@PySem.F.args_tuple_add_2
def SA:=@PySem.wpAny_typeOf
def SD:=@List.of_mem_zip
def SE:=@PySem.F.entry_tuple_add
def SF:=@if_true
def SG:=@PySem.Obj.data_mapFields
def SH:=@List.cons.inj
def SI:=@PySem.tupleKind_room_in1
def SJ:=@PySem.F.plainAttrs_list
def SK:=@Bool.and_self
def SM:=@List.ne_nil_of_mem
def SN:=@PySem.F.slot_tuple_add
def SO:=@PyProof.Rows.KeyOrd.kle_of_klt
def SQ:=@PySem.wpAny_dictEntries
def SR:=@List.pairwise_map
def SS:=@if_false
def SU:=@PySem.F.args_dict_keyiterator_next_1
def SV:=@Nat.zero_add
def SW:=@Option.getD_some
def SX:=@Nat.le_add_right
def SY:=@PyProof.Rows.KeyOrd.kle_trans
def S1:=@PySem.F.entry_dict_keyiterator_next
def S2:=@PySem.wpAny_updateSeq_pair
def S3:=@List.count_le_length
def S4:=@PySem.Paired.length
def S5:=@PySem.F.args_tuple_iterator_next_1
def S6:=@List.all_cons
def S7:=@Bool.and_true
def S8:=@List.filterMap_cons
def S9:=@PySem.wpAny_execs_nil
def Ta:=@List.getElem_of_mem
def Tb:=@PySem.F.entry_tuple_iterator_next
def Tc:=@PySem.F.slot_zip_next
def Td:=@Array.getD_eq_getD_getElem?
def Te:=@Nat.min_eq_left
def Tf:=@Nat.not_lt_zero
def Tg:=@PySem.Calls.Name_function_global
def Th:=@Nat.ne_of_gt
def Ti:=@List.mem_filterMap
def Tj:=@or_false
def Tn:=@List.set_set
def To:=@List.getElem_idxOf
def Tp:=@Nat.sub_self
def Tq:=@PySem.wpAny_setField
def Tr:=@List.take_zero
def Ts:=@Bool.not_false
def Tt:=@List.take_sublist
def Tu:=@PySem.wpAny_getItem_list_slice
def Tv:=@bne_self_eq_false
def Tw:=@PySem.wpAny_comprehension_free
def Tx:=@Nat.lt_succ_of_lt
def Tz:=@List.foldl_append
def TC:=@PySem.wpAny_rule
def TF:=@Option.isSome_map
def TH:=@PySem.F.slot_list_append
def TJ:=@PySem.F.type_list_append
def TK:=@PySem.F.slot_tuple_count
def TL:=@PySem.F.slot_tuple_index
def TM:=@List.length_erase_of_mem
def TN:=@Option.some.injEq
def TQ:=@List.findIdx_cons
def TR:=@List.count_append
def TU:=@PySem.wpAny_onRaise
def TV:=@PySem.wpAny_attempt
def TY:=@List.not_lt
def TZ:=@List.sum_cons
def T3:=@PySem.F.slot_list_index
def T4:=@List.filter_cons_of_pos
def T5:=@List.filter_cons_of_neg
def T6:=@Bool.not_true
def T7:=@PySem.noFill_tuple_add
def T8:=@Option.getD_none
def T9:=@PySem.F.entry_max_loop
def Ua:=@List.drop_length
def Ub:=@PySem.call_meets
def Uc:=@PySem.F.entry_min_loop
def Ud:=@PySem.W.cellsFrom_some
def Uj:=@List.Perm.append_right
def Uk:=@List.drop_eq_nil_of_le
def Ul:=@List.length_pos_of_mem
def Um:=@Nat.le_of_lt
def Up:=@PySem.concat_meets
def Uq:=@Nat.le_of_eq
def Ur:=@List.forIn_cons
def Us:=@Bool.or_eq_true
def Uu:=@PySem.wpAny_dictEpoch
def Uw:=@List.Perm.append_left
def Ux:=@List.perm_append_comm
def Uy:=@List.nil_append
def Uz:=@List.idxOf_cons
def UA:=@List.length_filter_le
def UB:=@List.count_cons_of_ne
def UC:=@PySem.typeIs_str
def UD:=@PySem.typeIs_int
def UH:=@List.getElem_toArray
def UI:=@List.findIdx_getElem
def UJ:=@List.mem_of_mem_drop
def UK:=@List.drop_zero
def UL:=@Bool.and_false
def UN:=@PySem.wpAny_of_eq
def UO:=@List.length_pos_iff
def UP:=@Nat.add_left_cancel
def UR:=@List.take_succ_cons
def US:=@List.drop_succ_cons
def UW:=@PySem.wpAny_standAt
def UX:=@PySem.seq_tuple_add
def U1:=@PySem.wpAny_newList
def U2:=@of_decide_eq_false
def U3:=@List.any_cons
def U4:=@List.getElem_range
def U5:=@PySem.call_int_int
def U6:=@List.map_drop
def U7:=@Int.cast_ofNat_Int
def Vl:=@Nat.add_zero
def Vm:=@Nat.mul_comm
def Vn:=@Nat.min_self
def VM:=@Int.le_refl
def Wo:=@bne_iff_ne
namespace L2
open PySem PySem.Spec PyProof.Rows
def IsTupN(h:Heap)(a:Addr)(items:Array Value):Prop:=∃o,h.get? a=some o/\o.cls=.type "tuple"/\(∃n,o.data=.seq items n)/\o.dict=none
theorem IsTupN.tup{h:Heap}{a:Addr}{items:Array Value}(p:IsTupN h a items):IsTup h a items:=by
 obtain⟨o,e,c,n,_⟩:=p;exact⟨o,e,c,n⟩
theorem IsTupN.new(h:Heap)(items:Array Value):IsTupN (h.push {cls:=.type "tuple",data:=.seq items}) h.objs.size items:=⟨_,Heap.get?_push_size _ rfl,rfl,⟨_,rfl⟩,rfl⟩
abbrev Key:=Sum Int Str
def p6:Key->Value->Bool
 | .inl k,v=>Value.isInt k v
 | .inr x,v=>Value.isStrOf x v
def Ek(w:World):Key->Int
 | .inl k=>hashInt k
 | .inr x=>hashStr w x
theorem bN:∀{k:Key}{v:Value},p6 k v=true->(∃i t,k=Sum.inl i/\v=Value.int i t)\/(∃x t,k=Sum.inr x/\v=Value.str x t)
 | .inl i,v,h=>by
  obtain⟨t,e⟩:=Value.isInt_shape (k:=i) (v:=v) h;exact .inl ⟨i,t,rfl,e⟩
 | .inr x,v,h=>by
  obtain⟨t,e⟩:=Value.isStrOf_shape (x:=x) (v:=v) h;exact .inr ⟨x,t,rfl,e⟩
theorem qP(i:Int)(t:Tok):p6 (.inl i) (.int i t)=true:=by simp[p6,Value.isInt]
theorem qQ(x:Str)(t:Tok):p6 (.inr x) (.str x t)=true:=by simp[p6,Value.isStrOf]
theorem zR(a b:Int):decide ((Sum.inl a:Key)=Sum.inl b)=(a==b):=by
 by_cases e:a=b
 ·subst e;simp
 ·have h:¬ (Sum.inl a:Key)=Sum.inl b:=fun q=>e (Sum.inl.inj q)
  rw[QB h];exact(Rq.mpr e).symm
theorem zS(a b:Str):decide ((Sum.inr a:Key)=Sum.inr b)=decide (a=b):=by
 by_cases e:a=b
 ·subst e;simp
 ·have h:¬ (Sum.inr a:Key)=Sum.inr b:=fun q=>e (Sum.inr.inj q)
  rw[QB h,QB e]
theorem zT(a:Int)(b:Str):decide ((Sum.inl a:Key)=Sum.inr b)=false:=QB (fun q=>nomatch q)
theorem zU(a:Str)(b:Int):decide ((Sum.inr a:Key)=Sum.inl b)=false:=QB (fun q=>nomatch q)
noncomputable def mixKind(prog:Program)(w:World):PySem.KeyKind prog w Key where
 is:=p6
 hash:=Ek w
 inj:=fun v a b ha hb=>by
  rcases bN ha with⟨i,t,rfl,rfl⟩|⟨x,t,rfl,rfl⟩
  ·rcases bN hb with⟨j,u,rfl,e⟩|⟨y,u,rfl,e⟩
   ·injection e with e1 _;rw[e1]
   ·exact nomatch e
  ·rcases bN hb with⟨j,u,rfl,e⟩|⟨y,u,rfl,e⟩
   ·exact nomatch e
   ·injection e with e1 _;rw[e1]
 byValue:=fun k v h=>by
  rcases bN h with⟨i,t,rfl,rfl⟩|⟨x,t,rfl,rfl⟩ <;> rfl
 pyHash:=fun hv h=>by
  rcases bN hv with⟨i,t,rfl,rfl⟩|⟨x,t,rfl,rfl⟩
  ·exact wpAny_pyHash_int h
  ·exact wpAny_pyHash_str h
 eqBool:=fun hu hv h=>by
  rcases bN hu with⟨i,t,rfl,rfl⟩|⟨x,t,rfl,rfl⟩
  ·rcases bN hv with⟨j,u,rfl,rfl⟩|⟨y,u,rfl,rfl⟩
   ·rw[zR]at h;exact wpAny_eqBool_int h
   ·rw[zT]at h;exact SeqAt.EqAt.int_str i t y u _ _ _ _ h
  ·rcases bN hv with⟨j,u,rfl,rfl⟩|⟨y,u,rfl,rfl⟩
   ·rw[zU]at h;exact SeqAt.EqAt.str_int x t j u _ _ _ _ h
   ·rw[zS]at h;exact wpAny_eqBool_str h
 «strs»:=fun k x t v h=>by
  rcases bN h with⟨i,u,rfl,e⟩|⟨y,u,rfl,e⟩
  ·exact nomatch e
  ·injection e with e1 _;subst e1;cases v <;> rfl
theorem nR(prog:Program)(w:World)(i:Int)(t:Tok):(mixKind prog w).is (.inl i) (.int i t)=true:=qP i t
theorem nS(prog:Program)(w:World)(x:Str)(t:Tok):(mixKind prog w).is (.inr x) (.str x t)=true:=qQ x t
inductive V where
 |non|bl (b:Bool)|int (i:Int)|str (x:Str)|byt (b:Array UInt8)|flt (b:UInt64)|ref (a:Addr)|ty (n:String)
 deriving DecidableEq
noncomputable def RelV:V->Value->Prop
 | .non,u=>u=Value.none
 | .bl b,u=>u=Value.bool b
 | .int i,u=>∃t,u=Value.int i t
 | .str x,u=>∃t,u=Value.str x t
 | .byt b,u=>∃t,u=Value.bytes b t
 | .flt b,u=>∃t,u=Value.float b t
 | .ref a,u=>u=Value.ref a
 | .ty n,u=>u=Value.type n
abbrev Vals:List V->List Value->Prop:=Paired RelV
theorem Vals.length{xs:List V}{us:List Value}(r:Vals xs us):xs.length=us.length:=S4 r
theorem Vals.get:∀{xs:List V}{us:List Value}{i:Nat}{x:V},Vals xs us->xs[i]?=some x->∃u,us[i]?=some u/\RelV x u
 |_,_,_,_,.nil,e=>by simp at e
 |_,_,0,_,.cons r _,e=>by simp at e;subst e;exact⟨_,rfl,r⟩
 |_,_,i+1,x,.cons _ t,e=>by
  obtain⟨u,h1,h2⟩:=Vals.get (i:=i) (x:=x) t (by simpa using e);exact⟨u,by simpa using h1,h2⟩
theorem Vals.set{x:V}{u:Value}(r:RelV x u):∀{xs:List V}{us:List Value}(i:Nat),Vals xs us->Vals (xs.set i x) (us.set i u)
 |_,_,_,.nil=>.nil
 |_,_,0,.cons _ t=>.cons r t
 |_,_,i+1,.cons q t=>.cons q (Vals.set r i t)
theorem Vals.append:∀{xs ys:List V}{us ws:List Value},Vals xs us->Vals ys ws->Vals (xs++ys) (us++ws)
 |_,_,_,_,.nil,s=>s
 |_,_,_,_,.cons r t,s=>.cons r (Vals.append t s)
theorem Vals.take:∀{xs:List V}{us:List Value}(n:Nat),Vals xs us->Vals (xs.take n) (us.take n)
 |_,_,0,_=>.nil
 |_,_,_+1,.nil=>.nil
 |_,_,n+1,.cons r t=>.cons r (Vals.take n t)
theorem Vals.drop:∀{xs:List V}{us:List Value}(n:Nat),Vals xs us->Vals (xs.drop n) (us.drop n)
 |_,_,0,r=>r
 |_,_,_+1,.nil=>.nil
 |_,_,n+1,.cons _ t=>Vals.drop n t
theorem Vals.none_of:∀{xs:List V}{us:List Value}{i:Nat},Vals xs us->xs[i]?=none->us[i]?=none:=fun{xs us i} r e=>by
 have h1:=r.length;have h2:xs.length<=i:=List.getElem?_eq_none_iff.mp e;exact List.getElem?_eq_none_iff.mpr (by lia)
def RelO:Option V->Option Value->Prop
 |some v,some u=>RelV v u
 |none,none=>True
 |_,_=>False
def KV{κ:Type}:List (κ×V)->List (κ×Value)->Prop:=Paired fun(p:κ×V) (q:κ×Value)=>p.1=q.1/\RelV p.2 q.2
def kV:Key->V
 | .inl i=>.int i
 | .inr x=>.str x
inductive HO where
 |lst (xs:List V)
 |tup (xs:List V)
 |dK (Ff:List (Key×V))|dT (Ff:List (List Key×V))
 |set (S:Int->Bool) (n:Nat)
 |ins (C dx:Addr) (fs:List (Str×V))
 |own (x:Addr)
 |xd (fs:List (Str×V))
 |met (f x:Addr)
 |rng (lo hi:Int)
 |frz (o:Obj) (u:HO)
 |tbl (ps:Array Value)
 |ext (φ:Heap->Prop)
abbrev Hp:=Addr->Option HO
def upd(H:Hp)(a:Addr)(o:HO):Hp:=fun b=>if b=a then some o else H b
theorem aV{H:Hp}{a:Addr}{o:HO}:upd H a o a=some o:=by unfold upd;rw[Qa rfl]
theorem aD{H:Hp}{a b:Addr}{o:HO}(h:b≠a):upd H a o b=H b:=by unfold upd;rw[Qf h]
theorem CD{H:Hp}{a b:Addr}{o u:HO}(h:H a=some o)(h':H b=some u)(d:o≠u):a≠b:=by
 intro e;subst e;rw[h]at h';exact d (Qu h')
theorem aQ{H:Hp}{a b:Addr}{o:HO}(h:H a=some o)(h':H b=none):a≠b:=by
 intro e;subst e;rw[h]at h';cases h'
section
variable(P:Program)(w:World)
noncomputable def ObjOk(H:Hp)(h:Heap)(a:Addr):HO->Prop
 | .lst xs=>xs.length<=sizeLine/\∃(Fg:List Value) (n:Nat),Vals xs Fg/\h.get? a=some {cls:=.type "list",data:=.seq Fg.toArray n}
 | .tup xs=>xs.length<=sizeLine/\∃Fg:List Value,Vals xs Fg/\IsTupN h a Fg.toArray
 | .dK Ff=>Ff.length<=sizeLine/\(a==sysModules)=false/\∃vs,KV Ff vs/\h.DictOf (mixKind P w) a vs
 | .dT Ff=>Ff.length<=sizeLine/\(a==sysModules)=false/\∃xs:List (List Key×Addr×Value),
   Paired (fun(p:List Key×V) (q:List Key×Addr×Value)=>p.1=q.1/\H q.2.1=some (.tup (p.1.map kV))/\RelV p.2 q.2.2) Ff xs/\
   ∃o es ep,h.get? a=some o/\o.ExactDict/\o.data=.dict es ep/\es.toList=xs.map (entryOfKey (tupleKind (mixKind P w)))/\(xs.map (·.1)).Nodup
 | .set S n=>h.SetOf (intKind P w) a S n
 | .ins C dx fs=>H dx=some (.own a)/\fs.length<=1000/\dx≠a/\h.get? a=some (PySem.W.instObj C dx)/\
   ∃mA,h.Ns1 dx mA/\(∀f,RelO (fs.lookup f) (mA f))/\PySem.Within mA (fs.map (·.1))
 | .own _=>∃o,h.get? a=some o
 | .xd fs=>∃mA,h.Ns1 a mA/\∀f,RelO (fs.lookup f) (mA f)
 | .rng lo hi=>∃t u v,h.get? a=some {cls:=.type "range",data:=.fields #[.int lo t,.int hi u,.int 1 v]}
 | .frz o u=>h.get? a=some o/\ObjOk H h a u
 | .tbl ps=>h.get? a=some {cls:=.none,data:=.fields ps}
 | .met f x=>h.get? a=some (PySem.W.methodObj (.ref f) (.ref x))
 | .ext φ=>φ h/\(∃o,h.get? a=some o)/\∀h1 h2:Heap,φ h1->(∀o,h1.get? a=some o->h2.get? a=some o)->φ h2
def HOk(H:Hp)(h:Heap):Prop:=∀a o,H a=some o->ObjOk P w H h a o
end
section
variable{P:Program}{w:World}{H H':Hp}{h h':Heap}{a:Addr}{o:HO}
theorem ObjOk.lt(x:ObjOk P w H h a o):a<h.objs.size:=by
 cases o with
 |lst xs=>obtain⟨_,_,_,_,e⟩:=x;exact Qc e
 |tup xs=>obtain⟨_,_,_,p⟩:=x;exact p.tup.lt
 |dK Ff=>obtain⟨_,_,_,_,o,_,_,e,_⟩:=x;exact Qc e
 |dT Ff=>obtain⟨_,_,_,_,o,_,_,e,_⟩:=x;exact Qc e
 |set S n=>obtain⟨o,_,_,_,e,_⟩:=x;exact Qc e
 |ins C dx fs=>obtain⟨_,_,_,e,_⟩:=x;exact Qc e
 |own y=>obtain⟨_,e⟩:=x;exact Qc e
 |xd fs=>obtain⟨_,⟨_,_,_,e,_⟩,_⟩:=x;exact Qc e
 |rng lo hi=>obtain⟨_,_,_,e⟩:=x;exact Qc e
 |frz ob u=>obtain⟨e,_⟩:=x;exact Qc e
 |tbl ps=>exact Qc (show h.get? a=some _ from x)
 |met f y=>exact Qc (show h.get? a=some _ from x)
 |ext φ=>obtain⟨_,⟨_,e⟩,_⟩:=x;exact Qc e
theorem Paired.mapP{α β:Type}{F G:α->β->Prop}:∀{l₁:List α}{l₂:List β},Paired F l₁ l₂->(∀a b,F a b->G a b)->Paired G l₁ l₂
 |_,_,.nil,_=>.nil
 |_,_,.cons r t,f=>.cons (f _ _ r) (Paired.mapP t f)
theorem ObjOk.stay(x:ObjOk P w H h a o)(k:∀b u,(b=a\/H b=some (.own a))->h.get? b=some u->h'.get? b=some u)
  (ho:∀b,H b=some (.own a)->H' b=some (.own a)) (ht:∀b xs,H b=some (.tup xs)->H' b=some (.tup xs)):ObjOk P w H' h' a o:=by
 induction o with
 |lst xs=>obtain⟨z,Fg,n,r,e⟩:=x;exact⟨z,Fg,n,r,k _ _ (.inl rfl) e⟩
 |tup xs=>obtain⟨z,Fg,r,ob,e,c⟩:=x;exact⟨z,Fg,r,ob,k _ _ (.inl rfl) e,c⟩
 |dK Ff=>obtain⟨z,y,vs,r,ob,es,ep,e,c⟩:=x;exact⟨z,y,vs,r,ob,es,ep,k _ _ (.inl rfl) e,c⟩
 |dT Ff=>
  obtain⟨z,y,xs,r,ob,es,ep,e,c⟩:=x;exact⟨z,y,xs,Paired.mapP r fun p q z=>⟨z.1,ht _ _ z.2.1,z.2.2⟩,ob,es,ep,k _ _ (.inl rfl) e,c⟩
 |set S n=>obtain⟨ob,es,ep,t,e,c⟩:=x;exact⟨ob,es,ep,t,k _ _ (.inl rfl) e,c⟩
 |ins C dx fs=>
  obtain⟨d,z,ne,e,mA,⟨od,es,ep,e2,c⟩,r⟩:=x;exact⟨ho _ d,z,ne,k _ _ (.inl rfl) e,mA,⟨od,es,ep,k _ _ (.inr d) e2,c⟩,r⟩
 |own y=>obtain⟨ob,e⟩:=x;exact⟨ob,k _ _ (.inl rfl) e⟩
 |xd fs=>obtain⟨mA,⟨od,es,ep,e,c⟩,r⟩:=x;exact⟨mA,⟨od,es,ep,k _ _ (.inl rfl) e,c⟩,r⟩
 |rng lo hi=>obtain⟨t,u,v,e⟩:=x;exact⟨t,u,v,k _ _ (.inl rfl) e⟩
 |frz ob u ih=>obtain⟨e,q⟩:=x;exact⟨k _ _ (.inl rfl) e,ih q⟩
 |tbl ps=>
  have e:h.get? a=some {cls:=.none,data:=.fields ps}:=x;show h'.get? a=some {cls:=.none,data:=.fields ps};exact k a _ (.inl rfl) e
 |met f y=>
  have e:h.get? a=some (PySem.W.methodObj (.ref f) (.ref y)):=x;show h'.get? a=some (PySem.W.methodObj (.ref f) (.ref y));exact k a _ (.inl rfl) e
 |ext φ=>obtain⟨p,⟨o,e⟩,st⟩:=x;exact⟨st _ _ p fun o q=>k _ _ (.inl rfl) q,⟨o,k _ _ (.inl rfl) e⟩,st⟩
theorem HOk.lt(x:HOk P w H h)(e:H a=some o):a<h.objs.size:=(x a o e).lt
theorem HOk.fresh(x:HOk P w H h)(e:h.objs.size<=a):H a=none:=by
 cases q:H a with
 |none=>rfl
 |some u=>exact absurd (Qk (x.lt q) e) (RF _)
theorem HOk.kept(x:HOk P w H h)(k:∀b u,h.get? b=some u->h'.get? b=some u):HOk P w H h':=fun a o e=>
 (x a o e).stay (fun b u _ q=>k b u q) (fun _ q=>q) fun _ _ q=>q
theorem HOk.laid(x:HOk P w H h)(k:∀b u,h.get? b=some u->h'.get? b=some u)(hp:h.objs.size<=a)(new:ObjOk P w (upd H a o) h' a o):HOk P w (upd H a o) h':=fun b u e=>by
 have hn:=x.fresh hp;by_cases hb:b=a
 ·subst hb;rw[aV]at e;cases e;exact new
 ·rw[aD hb]at e;exact(x b u e).stay (fun c v _ q=>k c v q) (fun c q=>by rw[aD (aQ q hn)];exact q) fun c xs q=>by rw[aD (aQ q hn)];exact q
end
def Rd(H:Hp)(a:Addr)(u:HO):Prop:=H a=some u\/∃o,H a=some (.frz o u)
theorem Rd.ok{P:Program}{w:World}{H:Hp}{h:Heap}{a:Addr}{u:HO}(r:Rd H a u)(x:HOk P w H h):ObjOk P w H h a u:=by
 rcases r with r|⟨o,r⟩
 ·exact x a u r
 ·obtain⟨_,q⟩:=x a _ r;exact q
def MP:Option HO->Prop
 |some (.lst _)=>True
 |some (.dK _)=>True
 |some (.dT _)=>True
 |some (.set _ _)=>True
 |some (.ins _ _ _)=>True
 |some (.ext _)=>True
 |_=>False
section
variable{P:Program}{w:World}{H:Hp}{h h':Heap}{x e:Addr}{o':HO}
theorem HOk.write(ok:HOk P w H h)(mu:MP (H x))(he:e=x\/H e=some (.own x))(k:∀b u,b≠e->h.get? b=some u->h'.get? b=some u)(MA:∃u,h'.get? e=some u)
  (new:ObjOk P w (upd H x o') h' x o'):HOk P w (upd H x o') h':=fun b u q=>by
 have JF:∀c y,H c=some (.own y)->c≠x:=fun c y r z=>by subst z;rw[r]at mu;exact mu
 have ntup:∀c xs,H c=some (.tup xs)->c≠x:=fun c xs r z=>by subst z;rw[r]at mu;exact mu
 by_cases hb:b=x
 ·subst hb;rw[aV]at q;cases q;exact new
 ·rw[aD hb]at q;by_cases JG:b=e
  ·have q':H b=some (.own x):=by
    rcases he with z|z
    ·exact absurd (JG.trans z) hb
    ·rw[JG];exact z
   rw[q]at q';cases q';obtain⟨v,hv⟩:=MA;exact⟨v,by rw[JG];exact hv⟩
  ·refine(ok b u q).stay (fun c v hc r=>k c v ?_ r) (fun c r=>by rw[aD (JF c b r)];exact r) fun c xs r=>by rw[aD (ntup c xs r)];exact r
   rcases hc with rfl|hc
   ·exact JG
   ·rintro rfl;rcases he with z|z
    ·exact JF c b hc z
    ·rw[hc]at z;cases z;exact hb rfl
end
structure Un(fs ex:List Addr)(H H':Hp)(h h':Heap):Prop where
 keep:∀b o,h.get? b=some o->H b=none->b∉fs->b∉ex->h'.get? b=some o
 slot:∀b o,h.get? b=some o->H b=none->b∈fs->b∉ex->∃sl,h'.get? b=some {o with slots:=sl}
 free:∀b o,h.get? b=some o->H b=none->b∉ex->H' b=none
 there:∀b o,h.get? b=some o->b∉ex->∃o',h'.get? b=some o'
 tups:∀b xs,H b=some (.tup xs)->H' b=some (.tup xs)
 frzs:∀b o u,H b=some (.frz o u)->H' b=some (.frz o u)
 tbls:∀b ps,H b=some (.tbl ps)->∃more,H' b=some (.tbl (ps++more))
section
variable{fs fs' ex ex':List Addr}{H H1 H2:Hp}{h h1 h2 h':Heap}{a x e:Addr}{o:HO}
theorem Un.any(u:Un fs ex H H1 h h1){b:Addr}{ob:Obj}(q:h.get? b=some ob)(n:H b=none)(hx:b∉ex):∃sl,h1.get? b=some {ob with slots:=sl}:=by
 by_cases hb:b∈fs
 ·exact u.slot b ob q n hb hx
 ·exact⟨ob.slots,u.keep b ob q n hb hx⟩
theorem Un.kept(k:∀b u,h.get? b=some u->h'.get? b=some u):Un fs ex H H h h':=
 ⟨fun b ob q _ _ _=>k b ob q,fun b ob q _ _ _=>⟨ob.slots,k b ob q⟩,fun _ _ _ n _=>n,fun b ob q _=>⟨ob,k b ob q⟩,fun _ _ q=>q,fun _ _ _ q=>q,fun _ ps q=>⟨#[],by rw[q];simp⟩⟩
theorem Un.refl:Un fs ex H H h h:=Un.kept fun _ _ q=>q
theorem Un.laid(k:∀b u,h.get? b=some u->h'.get? b=some u)(hp:h.objs.size<=a)(hn:H a=none):Un fs ex H (upd H a o) h h' where
 keep:=fun b u q _ _ _=>k b u q
 slot:=fun b u q _ _ _=>⟨u.slots,k b u q⟩
 free:=fun b u q n _=>by rw[aD (Qq (Qk (Qc q) hp))];exact n
 there:=fun b u q _=>⟨u,k b u q⟩
 tups:=fun b xs q=>by rw[aD (aQ q hn)];exact q
 frzs:=fun b u xs q=>by rw[aD (aQ q hn)];exact q
 tbls:=fun b ps q=>⟨#[],by rw[aD (aQ q hn),q];simp⟩
theorem Un.write(mu:MP (H x))(he:e=x\/H e=some (.own x))(k:∀b u,b≠e->h.get? b=some u->h'.get? b=some u)(MA:∃u,h'.get? e=some u):Un fs ex H (upd H x o) h h':=by
 have hx:∀b,H b=none->b≠x:=fun b n z=>by subst z;rw[n]at mu;exact mu
 have hb:∀b,H b=none->b≠e:=fun b n z=>by
  subst z;rcases he with r|r
  ·exact hx b n r
  ·rw[n]at r;cases r
 have hm:∀b u,H b=some u->¬ MP (some u)->b≠x:=fun b u q nm z=>by subst z;rw[q]at mu;exact nm mu
 refine⟨fun b u q n _ _=>k b u (hb b n) q,fun b u q n _ _=>⟨u.slots,k b u (hb b n) q⟩,fun b u q n _=>by rw[aD (hx b n)];exact n,fun b u q _=>?_,
  fun b xs q=>by rw[aD (hm b _ q fun z=>z)];exact q,fun b u xs q=>by rw[aD (hm b _ q fun z=>z)];exact q,fun b ps q=>⟨#[],by rw[aD (hm b _ q fun z=>z),q];simp⟩⟩
 by_cases JG:b=e
 ·subst JG;exact MA
 ·exact⟨u,k b u JG q⟩
end
def trk(h:Heap)(H:Hp):List Addr:=(List.range h.objs.size).filter fun a=>(H a).isSome
def uD(h:Heap)(H:Hp):Heap:=PySem.W.hideAll h (trk h H)
theorem qR(h:Heap)(H:Hp):(uD h H).objs.size=h.objs.size:=PySem.W.hideAll_size _ _
theorem uE{h:Heap}{H:Hp}{b:Addr}{o:Obj}(e:h.get? b=some o)(n:H b=none):(uD h H).get? b=some o:=
 PySem.W.hideAll_get _ e fun hm=>by
  have q:(H b).isSome=true:=(Sj.mp hm).2;rw[n]at q;simp at q
theorem xq{h:Heap}{H:Hp}{b:Addr}{o:Obj}(e:(uD h H).get? b=some o):h.get? b=some o/\H b=none:=by
 have e':h.get? b=some o:=PySem.W.of_hideAll (trk h H) e;refine⟨e',?_⟩;cases q:H b with
 |none=>rfl
 |some x=>
  have hm:b∈trk h H:=Sj.mpr ⟨QC.mpr (Qc e'),by simp[q]⟩;have z:(uD h H).get? b=none:=PySem.W.hideAll_none (trk h H) hm;rw[z]at e;cases e
def xr(g h:Heap)(L:Addr):List (Addr×Obj):=(List.range h.objs.size).filterMap fun a=>if a=L\/(g.get? a).isSome=true then none else(h.get? a).map fun o=>(a,o)
def dI(g h:Heap)(L d:Addr):List (Addr×Obj):=(xr g h L).filter fun p=>decide (p.1≠d)
structure Mod(K:W.Frag)(mg:Str->Option Value)(base:Heap):Prop where
 kin:K.In base
 glob:base.Ns mainGlobals mg
 blt:∃mb,base.Ns builtinsNs mb/\∀x:Str,x≠"__name__"->mb x=bootBuiltins x
 nolimit:base.NoLimit
structure Cx where
 prog:Program
 w:World
 K:W.Frag
 mg:Str->Option Value
 base:Heap
 A:Around
 N:List Str
 s₀:Shared
 H₀:Hp
 env:Env
 outer:List Env
 stack:List Env
 ex:List Addr
 fn:Str->Bool
 calm:Bool
 pn:List (Addr×Obj)
 xe:Value->Shared->Prop
def Jz(l:List Env):List Addr:=l.filterMap (·.frame)
abbrev Cx.fs(X:Cx):List Addr:=Jz X.outer
def Oo(sc:Scope)(x:Str):Prop:=sc.names.lookup x=some .local\/sc.names.lookup x=some .cell\/sc.names.lookup x=some .free
def Loc(sc:Scope)(x:Str):Prop:=sc.names.lookup x=some .local\/sc.names.lookup x=some .cell
def D8(sc:Scope)(x:Str):Bool:=match sc.names.lookup x with
 |some .local=>true
 |some .cell=>true
 |_=>false
theorem lo{sc:Scope}{x:Str}(h:D8 sc x=true):Loc sc x:=by
 unfold D8 at h;split at h
 ·exact .inl (by assumption)
 ·exact .inr (by assumption)
 ·cases h

def El(env:Env)(h:Heap)(m:Str->Option Value)(x:Str)(u:Value):Prop:=
 (env.kindOf x=some .local/\m x=some u)\/((env.kindOf x=some .cell\/env.kindOf x=some .free)/\∃c,env.cells.lookup x=some c/\h.IsCell c (some u))
structure Cx.Ok(X:Cx):Prop where
 mod:Mod X.K X.mg X.base
 kind:X.env.scope.kind=.function
 glob:X.env.globals=mainGlobals
 blt:X.env.builtins=builtinsNs
 above:X.s₀.heap.objs.size<=X.env.locals
 inj:∀x y c,X.env.cells.lookup x=some c->X.env.cells.lookup y=some c->x=y
 has:∀x,(X.env.kindOf x=some .cell\/X.env.kindOf x=some .free)->∃c,X.env.cells.lookup x=some c
 cab:∀x c,X.fn x=true->X.env.cells.lookup x=some c->X.s₀.heap.objs.size<=c
 hd:X.calm=true->X.A.handled=none
 frames:X.A.frames=some X.stack
 stk:X.stack=X.outer\/(X.stack=X.env::X.outer/\X.env.frame=some X.env.locals)
 exf:∀b∈X.ex,b≠X.env.locals/\∀x c,X.env.cells.lookup x=some c->c≠b
 bs:∀b o,X.base.get? b=some o->X.s₀.heap.get? b=some o/\X.H₀ b=none
 bsz:X.base.objs.size<=X.s₀.heap.objs.size
 noex:∀b o,X.base.get? b=some o->b∉X.ex
 exfs:∀b∈X.ex,b∉X.fs
 funs:X.s₀.heap.FunFrames X.base X.outer
 frf:∀b∈X.fs,X.H₀ b=none
structure Inv(X:Cx)(pi:List (Addr×Obj))(σ:List (Option V))(H:Hp)(s:Shared):Prop where
 ok:X.Ok
 os:s.os=X.s₀.os
 bare:AllBare s.gens
 base:Un X.fs X.ex X.H₀ H X.s₀.heap s.heap
 loc:∃m,s.heap.Ns X.env.locals m/\∀(i:Nat) (x:Str) (v:V),X.N[i]?=some x->σ[i]?=some (some v)->Oo X.env.scope x->∃u,RelV v u/\El X.env s.heap m x u
 cell:∀x c,X.env.cells.lookup x=some c->∃v,s.heap.IsCell c v
 free:H X.env.locals=none
 freeC:∀x c,X.env.cells.lookup x=some c->H c=none
 pin:∀p∈X.pn++pi,s.heap.get? p.1=some p.2/\H p.1=none/\p.1≠X.env.locals/\p.1∉X.fs/\∀v,p.2.data≠.cell v
 hok:HOk X.prog X.w H s.heap
 len:σ.length=X.N.length
section
variable{X:Cx}{pi:List (Addr×Obj)}{σ:List (Option V)}{H H':Hp}{s:Shared}{h':Heap}
theorem Cx.Ok.nofr(ok:X.Ok){b:Addr}{o:Obj}(e:X.base.get? b=some o):b∉X.fs:=fun hb=>by
 have:=(ok.funs.mem hb).1;rw[e]at this;cases this
theorem Inv.bs(I:Inv X pi σ H s):∀b o,X.base.get? b=some o->s.heap.get? b=some o/\H b=none:=fun b o e=>
 ⟨I.base.keep b o (I.ok.bs b o e).1 (I.ok.bs b o e).2 (I.ok.nofr e) (I.ok.noex b o e),I.base.free b o (I.ok.bs b o e).1 (I.ok.bs b o e).2 (I.ok.noex b o e)⟩
theorem Inv.bk(I:Inv X pi σ H s):∀b o,X.base.get? b=some o->s.heap.get? b=some o:=fun b o e=>(I.bs b o e).1
theorem Inv.mod(I:Inv X pi σ H s):Mod X.K X.mg X.base:=I.ok.mod
theorem Inv.kIn(I:Inv X pi σ H s):X.K.In s.heap:=I.ok.mod.kin.keeps I.bk
theorem Inv.lt(I:Inv X pi σ H s):X.env.locals<s.heap.objs.size:=let⟨_,hn,_⟩:=I.loc;hn.lt
theorem Inv.sz(I:Inv X pi σ H s):X.s₀.heap.objs.size<=s.heap.objs.size:=Rh I.ok.above (Um I.lt)
theorem Inv.nofs(I:Inv X pi σ H s){a:Addr}(h:s.heap.objs.size<=a):a∉X.fs:=fun hb=>by
 obtain⟨_,o,ho,_⟩:=I.ok.funs.mem hb;exact absurd (Qk (Qc ho) (Rh I.sz h)) (RF _)
theorem Inv.cne(I:Inv X pi σ H s):∀x c,X.env.cells.lookup x=some c->c≠X.env.locals:=fun x c e z=>by
 obtain⟨v,o,ho,hd⟩:=I.cell x c e;obtain⟨m,⟨o',es,ep,Kz,KA,_⟩,_⟩:=I.loc;rw[z,Kz]at ho;cases ho;rw[KA]at hd;cases hd
theorem Inv.funs(I:Inv X pi σ H s):s.heap.FunFrames X.base X.outer:=by
 have all:∀(l:List Env),(∀b∈Jz l,b∈X.fs)->X.s₀.heap.FunFrames X.base l->s.heap.FunFrames X.base l:=by
  intro l;induction l with
  |nil=>intro _ _;trivial
  |cons env r ih=>
   intro hs hl;obtain⟨hk,⟨L,o,hf,hn,ho,hd⟩,hr⟩:=hl;have hL:L∈X.fs:=hs L (by unfold Jz;rw[S8,hf];exact P8);obtain⟨sl,e⟩:=I.base.slot L o ho (I.ok.frf L hL) hL fun z=>I.ok.exfs L z hL
   exact⟨hk,⟨L,_,hf,hn,e,hd⟩,ih (fun b hb=>hs b (by unfold Jz;rw[S8,hf];exact Qg _ hb)) hr⟩
 exact all X.outer (fun _ hb=>hb) I.ok.funs
theorem Inv.stack(I:Inv X pi σ H s):s.heap.FunFrames X.base X.stack:=by
 rcases I.ok.stk with e|⟨e,hf⟩
 ·rw[e];exact I.funs
 ·rw[e];obtain⟨m,hn,_⟩:=I.loc;refine .cons (by rw[I.ok.kind];decide) hf hn ?_ I.funs;exact Heap.get?_none_of_le (Rh I.ok.bsz I.ok.above)
theorem Inv.stkSub(I:Inv X pi σ H s):∀b∈Jz X.stack,b∈X.env.locals::X.fs:=fun b hb=>by
 rcases I.ok.stk with e|⟨e,hf⟩
 ·rw[e]at hb;exact Qg _ hb
 ·rw[e]at hb;unfold Jz at hb;rw[S8,hf]at hb;exact hb
theorem Inv.stkFree(I:Inv X pi σ H s):∀b∈Jz X.stack,H b=none:=fun b hb=>by
 rcases Qh.mp (I.stkSub b hb) with e|hb
 ·rw[e];exact I.free
 ·obtain⟨_,o,ho,_⟩:=I.ok.funs.mem hb;exact I.base.free b o ho (I.ok.frf b hb) fun z=>I.ok.exfs b z hb
theorem Inv.step{g':Array GenState}{t':Nat}{d':Drawn}{ch:List Addr}(I:Inv X pi σ H s)
  (Kr:∀b∈ch,(b∈X.ex\/X.s₀.heap.objs.size<=b)/\b≠X.env.locals/\(∀x c,X.env.cells.lookup x=some c->c≠b)/\∀p∈X.pn++pi,p.1≠b)
  (keep:∀b o,b≠X.env.locals->b∉X.fs->b∉ch->s.heap.get? b=some o->H b=none->h'.get? b=some o)
  (slot:∀b o,b≠X.env.locals->b∈X.fs->b∉ch->s.heap.get? b=some o->H b=none->∃sl,h'.get? b=some {o with slots:=sl}) (free:∀b o,b∉ch->s.heap.get? b=some o->H b=none->H' b=none)
  (there:∀b o,b∉ch->s.heap.get? b=some o->∃o',h'.get? b=some o')
  (tups:∀b xs,H b=some (.tup xs)->H' b=some (.tup xs)) (frzs:∀b o u,H b=some (.frz o u)->H' b=some (.frz o u)) (tbls:∀b ps,H b=some (.tbl ps)->∃more,H' b=some (.tbl (ps++more)))
  (ns:∀m,s.heap.Ns X.env.locals m->h'.Ns X.env.locals m) (hok:HOk X.prog X.w H' h') (hg:AllBare g'):
  Inv X pi σ H' {s with heap:=h',gens:=g',drawn:=d',toks:=t'}:=by
 have Pd:∀b o,X.s₀.heap.get? b=some o->b≠X.env.locals:=fun b o e=>Qq (Qk (Qc e) I.ok.above)
 have N0:∀b o,X.s₀.heap.get? b=some o->b∉X.ex->b∉ch:=fun b o e hx hb=>by
  rcases(Kr b hb).1 with z|z
  ·exact hx z
  ·exact absurd (Qk (Qc e) z) (RF _)
 have cellK:∀x c,X.env.cells.lookup x=some c->∀v,s.heap.IsCell c v->h'.IsCell c v:=fun x c e v Fs=>by
  obtain⟨o,ho,hd⟩:=Fs;have MQ:c∉ch:=fun z=>(Kr c z).2.2.1 x c e rfl
  by_cases hc:c∈X.fs
  ·obtain⟨sl,q⟩:=slot c o (I.cne x c e) hc MQ ho (I.freeC x c e);exact⟨_,q,hd⟩
  ·exact⟨o,keep c o (I.cne x c e) hc MQ ho (I.freeC x c e),hd⟩
 refine⟨I.ok,I.os,hg,⟨fun b o e n hb hx=>?_,fun b o e n hb hx=>?_,fun b o e n hx=>?_,fun b o e hx=>?_,fun b xs e=>tups b xs (I.base.tups b xs e),fun b o xs e=>frzs b o xs (I.base.frzs b o xs e),fun b ps e=>?_⟩,?_,fun x c e=>?_,?_,fun x c e=>?_,fun p hp=>?_,hok,I.len⟩
 ·exact keep b o (Pd b o e) hb (N0 b o e hx) (I.base.keep b o e n hb hx) (I.base.free b o e n hx)
 ·obtain⟨sl,e1⟩:=I.base.slot b o e n hb hx;obtain⟨sl',e2⟩:=slot b _ (Pd b o e) hb (N0 b o e hx) e1 (I.base.free b o e n hx);exact⟨sl',e2⟩
 ·obtain⟨o',e1⟩:=I.base.there b o e hx;exact free b o' (N0 b o e hx) e1 (I.base.free b o e n hx)
 ·obtain⟨o',e1⟩:=I.base.there b o e hx;exact there b o' (N0 b o e hx) e1
 ·obtain⟨m1,e1⟩:=I.base.tbls b ps e;obtain⟨m2,e2⟩:=tbls b _ e1;exact⟨m1++m2,by rw[e2,Array.append_assoc]⟩
 ·obtain⟨m,hn,hl⟩:=I.loc;refine⟨m,ns m hn,fun i x v e1 e2 e3=>?_⟩;obtain⟨u,r,l⟩:=hl i x v e1 e2 e3;refine⟨u,r,?_⟩;rcases l with l|⟨k,c,e,z⟩
  ·exact .inl l
  ·exact .inr ⟨k,c,e,cellK x c e _ z⟩
 ·obtain⟨v,z⟩:=I.cell x c e;exact⟨v,cellK x c e v z⟩
 ·obtain⟨m,⟨o,_,_,ho,_⟩,_⟩:=I.loc;exact free _ o (fun z=>(Kr _ z).2.1 rfl) ho I.free
 ·obtain⟨v,o,ho,hd⟩:=I.cell x c e;exact free c o (fun z=>(Kr c z).2.2.1 x c e rfl) ho (I.freeC x c e)
 ·obtain⟨e,n,ne,nf,d⟩:=I.pin p hp;have MQ:p.1∉ch:=fun z=>(Kr p.1 z).2.2.2 p hp rfl
  exact⟨keep p.1 p.2 ne nf MQ e n,free p.1 p.2 MQ e n,ne,nf,d⟩
theorem Inv.un{t':Nat}(I:Inv X pi σ H s)(u:Un X.fs [] H H' s.heap h')(hok:HOk X.prog X.w H' h'):Inv X pi σ H' {s with heap:=h',toks:=t'}:=by
 obtain⟨m,⟨o,es,ep,ho,r⟩,_⟩:=id I.loc;obtain⟨sl,hL⟩:=u.any ho I.free (by simp);exact I.step (g':=s.gens) (d':=s.drawn) (ch:=[]) (fun _ z=>nomatch z) (fun b o _ hb _ e n=>u.keep b o e n hb (by simp)) (fun b o _ hb _ e n=>u.slot b o e n hb (by simp)) (fun b o _ e n=>u.free b o e n (by simp)) (fun b o _ e=>u.there b o e (by simp)) u.tups u.frzs u.tbls (fun m' hm=>by
  obtain⟨o',Ia,Oq,Kz,r'⟩:=hm;rw[ho]at Kz;cases Kz;exact⟨_,Ia,Oq,hL,r'⟩) hok I.bare
theorem Inv.call{g':Array GenState}{t':Nat}{d':Drawn}{ch:List Addr}(I:Inv X pi σ H s)(u:Un (Jz X.stack) ch H H' s.heap h')(hok:HOk X.prog X.w H' h')(hg:AllBare g')
  (Kr:∀b∈ch,(b∈X.ex\/X.s₀.heap.objs.size<=b)/\b≠X.env.locals/\(∀x c,X.env.cells.lookup x=some c->c≠b)/\∀p∈X.pn++pi,p.1≠b):
  Inv X pi σ H' {s with heap:=h',gens:=g',drawn:=d',toks:=t'}:=by
 obtain⟨m,⟨o,es,ep,ho,r⟩,_⟩:=id I.loc;obtain⟨sl,hL⟩:=u.any ho I.free fun z=>(Kr _ z).2.1 rfl
 exact I.step (ch:=ch) Kr (fun b o hL hb hc e n=>u.keep b o e n (fun z=>(Qh.mp (I.stkSub b z)).elim hL hb) hc) (fun b o _ _ hc e n=>u.any e n hc) (fun b o hc e n=>u.free b o e n hc) (fun b o hc e=>u.there b o e hc) u.tups u.frzs u.tbls (fun m' hm=>by
  obtain⟨o',Ia,Oq,Kz,r'⟩:=hm;rw[ho]at Kz;cases Kz;exact⟨_,Ia,Oq,hL,r'⟩) hok hg
theorem Inv.turned{t':Nat}{it:Addr}(I:Inv X pi σ H s)(k:∀b o,b≠it->s.heap.get? b=some o->h'.get? b=some o)(hn:H it=none)(hL:it≠X.env.locals)
  (h1:it∈X.ex\/X.s₀.heap.objs.size<=it) (h2:∀x c,X.env.cells.lookup x=some c->c≠it) (h3:∀p∈X.pn++pi,p.1≠it):Inv X pi σ H {s with heap:=h',toks:=t'}:=by
 have Pe:∀b u,H b=some u->b≠it:=fun b u e z=>by rw[z,hn]at e;cases e
 refine I.step (g':=s.gens) (d':=s.drawn) (ch:=[it]) (fun b hb=>?_) (fun b o _ _ hc e _=>k b o (fun z=>hc (by simp[z])) e) (fun b o _ _ hc e _=>⟨o.slots,k b o (fun z=>hc (by simp[z])) e⟩) (fun _ _ _ _ n=>n)
  (fun b o hc e=>⟨o,k b o (fun z=>hc (by simp[z])) e⟩) (fun _ _ e=>e) (fun _ _ _ e=>e) (fun b ps e=>⟨#[],by rw[e];simp⟩) (fun m hm=>?_) (fun b u e=>?_) I.bare
 ·have e:b=it:=by simpa using hb
  subst e;exact⟨h1,hL,h2,h3⟩
 ·obtain⟨o,es,ep,ho,r⟩:=hm;exact⟨o,es,ep,k _ o (Rv hL) ho,r⟩
 ·refine(I.hok b u e).stay (fun c v hc q=>k c v ?_ q) (fun _ q=>q) fun _ _ q=>q
  rcases hc with z|z
  ·rw[z];exact Pe b u e
  ·exact Pe c _ z
theorem Inv.tok(I:Inv X pi σ H s)(t:Nat):Inv X pi σ H {s with toks:=t}:=I.un (h':=s.heap) (t':=t) Un.refl I.hok
theorem Inv.kept{t':Nat}(I:Inv X pi σ H s)(k:∀b u,s.heap.get? b=some u->h'.get? b=some u):Inv X pi σ H {s with heap:=h',toks:=t'}:=I.un (Un.kept k) (I.hok.kept k)
theorem Inv.laid{a:Addr}{o:HO}{t':Nat}(I:Inv X pi σ H s)(k:∀b u,s.heap.get? b=some u->h'.get? b=some u)(hp:s.heap.objs.size<=a)(new:ObjOk X.prog X.w (upd H a o) h' a o):
  Inv X pi σ (upd H a o) {s with heap:=h',toks:=t'}:=I.un (Un.laid k hp (I.hok.fresh hp)) (I.hok.laid k hp new)
theorem Inv.write{x e:Addr}{o:HO}{t':Nat}(I:Inv X pi σ H s)(mu:MP (H x))(he:e=x\/H e=some (.own x))(k:∀b u,b≠e->s.heap.get? b=some u->h'.get? b=some u)(MA:∃u,h'.get? e=some u)
  (new:ObjOk X.prog X.w (upd H x o) h' x o):Inv X pi σ (upd H x o) {s with heap:=h',toks:=t'}:=I.un (Un.write mu he k MA) (I.hok.write mu he k MA new)
theorem Inv.pins_of{Lr:List (Addr×Obj)}(I:Inv X pi σ H s)(h:∀p∈Lr,s.heap.get? p.1=some p.2/\H p.1=none/\p.1≠X.env.locals/\p.1∉X.fs/\∀v,p.2.data≠.cell v):Inv X Lr σ H s:=
 ⟨I.ok,I.os,I.bare,I.base,I.loc,I.cell,I.free,I.freeC,fun p hp=>(QH.mp hp).elim (fun z=>I.pin p (Qd _ z)) (h p),I.hok,I.len⟩
theorem oV{N:List Str}(hN:N.Nodup){i j:Nat}{x:Str}(a:N[i]?=some x)(b:N[j]?=some x):i=j:=by
 obtain⟨h1,e1⟩:=List.getElem?_eq_some_iff.mp a;obtain⟨h2,e2⟩:=List.getElem?_eq_some_iff.mp b;exact(List.getElem_inj hN).mp (e1.trans e2.symm)
theorem lY{M:Model}{A:Around}{E:Value->Shared->Prop}{i:Nat}{x:Str}{v:V}{u:Value}{Q:Unit->Shared->Prop}(I:Inv X pi σ H s)(hN:X.N.Nodup)(hi:X.N[i]?=some x)(hx:Loc X.env.scope x)(r:RelV v u)
  (h:∀s',Inv X pi (σ.set i (some v)) H s'->(∃a,Heap.SameBut a s.heap s'.heap/\(a=X.env.locals\/X.env.cells.lookup x=some a))->Q () s') (hf:X.fn x=true\/X.env.scope.names.lookup x=some .local:=by first|exact .inl rfl|exact .inr rfl|assumption):wpAny M A (storeName X.env x u) Q E s:=by
 obtain⟨m,hn,hl⟩:=id I.loc;have hcls:(X.env.scope.kind==.class||(X.env.scope.kind==.module&&X.env.locals != X.env.globals))=false:=by rw[I.ok.kind];rfl
 have hiσ:i<σ.length:=by rw[I.len];exact(List.getElem?_eq_some_iff.mp hi).1
 have cne:=I.cne;have tracked:∀{a:Addr}{h':Heap},(∃o,s.heap.get? a=some o/\H a=none)->Heap.SameBut a s.heap h'->HOk X.prog X.w H h':=fun{a h'} ha hs b ob e=>by
  obtain⟨_,_,Ls⟩:=ha;refine(I.hok b ob e).stay (fun c w' hc q=>(hs.2 c ?_).trans q) (fun _ q=>q) fun _ _ q=>q
  rintro rfl;rcases hc with rfl|hc
  ·rw[Ls]at e;cases e
  ·rw[Ls]at hc;cases hc
 rcases hx with hk|hk
 ·refine wpAny_storeName_local hk hn (fun h' hn' hs=>?_) hcls;obtain⟨oL,_,_,hoL,_⟩:=id hn;refine h _ ⟨I.ok,I.os,I.bare,⟨fun b o e n hb hx=>?_,fun b o e n hb hx=>?_,I.base.free,fun b o e hx=>?_,I.base.tups,I.base.frzs,I.base.tbls⟩,⟨_,hn',fun j y v' e1 e2 e3=>?_⟩,fun y c e=>?_,I.free,I.freeC,fun p hp=>?_,tracked ⟨oL,hoL,I.free⟩ hs,by simpa using I.len⟩ ⟨_,hs,.inl rfl⟩
  ·exact(hs.2 b (Qq (Qk (Qc e) I.ok.above))).trans (I.base.keep b o e n hb hx)
  ·obtain⟨sl,e1⟩:=I.base.slot b o e n hb hx;exact⟨sl,(hs.2 b (Qq (Qk (Qc e) I.ok.above))).trans e1⟩
  ·obtain⟨o',e1⟩:=I.base.there b o e hx;exact⟨o',(hs.2 b (Qq (Qk (Qc e) I.ok.above))).trans e1⟩
  ·by_cases hj:j=i
   ·subst hj;rw[hi]at e1;cases e1;rw[List.getElem?_set_self hiσ]at e2;cases e2;exact⟨u,r,.inl ⟨hk,by simp⟩⟩
   ·rw[List.getElem?_set_ne (Rv hj)]at e2;obtain⟨u',r',q⟩:=hl j y v' e1 e2 e3;refine⟨u',r',?_⟩;rcases q with⟨k,e⟩|⟨k,c,e,z⟩
    ·refine .inl ⟨k,?_⟩;have:y≠x:=fun e=>hj (oV hN e1 (e▸hi))
     simp[this,e]
    ·exact .inr ⟨k,c,e,z.sameBut hs (cne y c e)⟩
  ·obtain⟨w',z⟩:=I.cell y c e;exact⟨w',z.sameBut hs (cne y c e)⟩
  ·obtain⟨e,n,ne,nf,d⟩:=I.pin p hp;exact⟨(hs.2 p.1 ne).trans e,n,ne,nf,d⟩
 ·have JH:X.fn x=true:=by
   rcases hf with z|z
   ·exact z
   ·rw[z]at hk;cases hk
  obtain⟨c,hc⟩:=I.ok.has x (.inl hk);obtain⟨w',z⟩:=I.cell x c hc;refine wpAny_storeName_cell I.ok.kind hk hc z (fun h' HP hs=>?_);obtain⟨oc,Pf,hocd⟩:=id z;refine h {s with heap:=h'} ⟨I.ok,I.os,I.bare,⟨fun b o e n hb hx=>?_,fun b o e n hb hx=>?_,I.base.free,fun b o e hx=>?_,I.base.tups,I.base.frzs,I.base.tbls⟩,⟨m,hn.sameBut hs (Rv (cne x c hc)),fun j y v' e1 e2 e3=>?_⟩,fun y c' e=>?_,I.free,I.freeC,fun p hp=>?_,tracked ⟨oc,Pf,I.freeC x c hc⟩ hs,by simpa using I.len⟩ ⟨c,hs,.inr hc⟩
  ·exact(hs.2 b (Qq (Qk (Qc e) (I.ok.cab x c JH hc)))).trans (I.base.keep b o e n hb hx)
  ·obtain⟨sl,e1⟩:=I.base.slot b o e n hb hx;exact⟨sl,(hs.2 b (Qq (Qk (Qc e) (I.ok.cab x c JH hc)))).trans e1⟩
  ·obtain⟨o',e1⟩:=I.base.there b o e hx;exact⟨o',(hs.2 b (Qq (Qk (Qc e) (I.ok.cab x c JH hc)))).trans e1⟩
  ·by_cases hj:j=i
   ·subst hj;rw[hi]at e1;cases e1;rw[List.getElem?_set_self hiσ]at e2;cases e2;exact⟨u,r,.inr ⟨.inl hk,c,hc,HP⟩⟩
   ·rw[List.getElem?_set_ne (Rv hj)]at e2;obtain⟨u',r',q⟩:=hl j y v' e1 e2 e3;refine⟨u',r',?_⟩;rcases q with q|⟨k,c',e,z'⟩
    ·exact .inl q
    ·refine .inr ⟨k,c',e,z'.sameBut hs ?_⟩;rintro rfl;exact hj (oV hN e1 (I.ok.inj _ _ _ e hc▸hi))
  ·by_cases hcc:c'=c
   ·subst hcc;exact⟨_,HP⟩
   ·obtain⟨w2,z2⟩:=I.cell y c' e;exact⟨w2,z2.sameBut hs hcc⟩
  ·obtain⟨e,n,ne,nf,d⟩:=I.pin p hp;refine⟨(hs.2 p.1 ?_).trans e,n,ne,nf,d⟩;intro q;rw[q,Pf]at e;have q':oc=p.2:=Qu e;exact d w' (by rw[<-q'];exact hocd)
theorem oW{M:Model}{A:Around}{E:Value->Shared->Prop}{i:Nat}{x:Str}{v:V}{u:Value}{Q:Unit->Shared->Prop}(I:Inv X pi σ H s)(hN:X.N.Nodup)(hi:X.N[i]?=some x)(hx:Loc X.env.scope x)(r:RelV v u)
  (h:∀s',Inv X pi (σ.set i (some v)) H s'->Q () s') (hf:X.fn x=true\/X.env.scope.names.lookup x=some .local:=by first|exact .inl rfl|exact .inr rfl|assumption):wpAny M A (storeName X.env x u) Q E s:=
 lY I hN hi hx r (fun s' I' _=>h s' I') hf
theorem Inv.call'{s':Shared}{ch:List Addr}(I:Inv X pi σ H s)(ho:s'.os=s.os)(u:Un (Jz X.stack) ch H H' s.heap s'.heap)(hok:HOk X.prog X.w H' s'.heap)(hg:AllBare s'.gens)
  (Kr:∀b∈ch,(b∈X.ex\/X.s₀.heap.objs.size<=b)/\b≠X.env.locals/\(∀x c,X.env.cells.lookup x=some c->c≠b)/\∀p∈X.pn++pi,p.1≠b):Inv X pi σ H' s':=by
 obtain⟨h',g',d',t',o'⟩:=s';have e:o'=s.os:=ho;subst e;exact I.call (g':=g') (t':=t') (d':=d') u hok hg Kr
end
abbrev XK:=Value->Option Addr->Hp->Prop
abbrev St:=List (Option V)
abbrev VK:=V->Hp->Prop
abbrev TE:=St->Hp->VK->Prop
abbrev TT:=St->Hp->(Bool->Hp->Prop)->Prop
abbrev TA:=St->Hp->(List V->Hp->Prop)->Prop
structure Ends where
 nx:St->Hp->Prop
 rt:VK
 bk:St->Hp->Prop:=fun _ _=>False
 ct:St->Hp->Prop:=fun _ _=>False
abbrev TS:=Ends->St->Hp->Prop
def EP(X:Cx)(pi:List (Addr×Obj))(σ:St)(Q:VK)(u:Value)(s':Shared):Prop:=∃v H',Inv X pi σ H' s'/\RelV v u/\Q v H'
def TP(X:Cx)(pi:List (Addr×Obj))(σ:St)(Q:Bool->Hp->Prop)(b:Bool)(s':Shared):Prop:=∃H',Inv X pi σ H' s'/\Q b H'
def AP(X:Cx)(pi:List (Addr×Obj))(σ:St)(Q:List V->Hp->Prop)(us:List Value)(s':Shared):Prop:=∃vs H',Inv X pi σ H' s'/\Vals vs us/\Q vs H'
def SP(X:Cx)(pi:List (Addr×Obj))(D:Ends)(f:Flow)(s':Shared):Prop:=
 match f with
 | .next=>∃σ' H',Inv X pi σ' H' s'/\D.nx σ' H'
 | .brk=>∃σ' H',Inv X pi σ' H' s'/\D.bk σ' H'
 | .cont=>∃σ' H',Inv X pi σ' H' s'/\D.ct σ' H'
 | .ret u=>∃v σ' H',Inv X pi σ' H' s'/\RelV v u/\D.rt v H'
def PE(X:Cx)(e:Expr)(t:TE):Prop:=
 ∀(pi:List (Addr×Obj)) (s:Shared) (σ:St) (H:Hp) (Q:VK),Inv X pi σ H s->t σ H Q->wpAny (model X.prog X.w) X.A (eval e X.env) (EP X pi σ Q) X.xe s
def PT(X:Cx)(e:Expr)(t:TT):Prop:=
 ∀(pi:List (Addr×Obj)) (s:Shared) (σ:St) (H:Hp) (Q:Bool->Hp->Prop),Inv X pi σ H s->t σ H Q->wpAny (model X.prog X.w) X.A (isTrue e X.env (eval e X.env)) (TP X pi σ Q) X.xe s
def PW(X:Cx)(e:Expr)(t:TT):Prop:=
 ∀(whole:Sem Value) (pi:List (Addr×Obj)) (s:Shared) (σ:St) (H:Hp) (Q:Bool->Hp->Prop),Inv X pi σ H s->t σ H Q->wpAny (model X.prog X.w) X.A (isTrue e X.env whole) (TP X pi σ Q) X.xe s
theorem PW.pt{X:Cx}{e:Expr}{t:TT}(h:PW X e t):PT X e t:=h _
def PA(X:Cx)(es:List Expr)(t:TA):Prop:=
 ∀(pos:Pos) (pi:List (Addr×Obj)) (s:Shared) (σ:St) (H:Hp) (Q:List V->Hp->Prop),Inv X pi σ H s->t σ H Q->wpAny (model X.prog X.w) X.A (spliced (backTo pos (starEach es X.env))) (AP X pi σ Q) X.xe s
def PS(X:Cx)(st:Stmt)(t:TS):Prop:=
 ∀(pi:List (Addr×Obj)) (s:Shared) (σ:St) (H:Hp) (D:Ends),Inv X pi σ H s->t D σ H->wpAny (model X.prog X.w) X.A (exec st X.env) (SP X pi D) X.xe s
def PSs(X:Cx)(st:List Stmt)(t:TS):Prop:=
 ∀(pi:List (Addr×Obj)) (s:Shared) (σ:St) (H:Hp) (D:Ends),Inv X pi σ H s->t D σ H->wpAny (model X.prog X.w) X.A (execs st X.env) (SP X pi D) X.xe s
theorem Fy{α:Type}{t:Sem α}{Q Q':α->Shared->Prop}{M:Model}{A:Around}{E:Value->Shared->Prop}{s:Shared}(h:wpAny M A t Q E s)(hQ:∀a s,Q a s->Q' a s):wpAny M A t Q' E s:=Sy h hQ fun _ _ x=>x
section
variable{X:Cx}
theorem bin{a b:Expr}{ta tb:TE}(ha:PE X a ta)(hb:PE X b tb){pi:List (Addr×Obj)}{s:Shared}{σ:St}{H:Hp}{R:V->V->Hp->Prop}(I:Inv X pi σ H s)(h:ta σ H fun x H1=>tb σ H1 fun y H2=>R x y H2)
  {α:Type}{Q:α->Shared->Prop}{f:Value->Value->Sem α}
  (hf:∀v u s2 x y H2,Inv X pi σ H2 s2->RelV x v->RelV y u->R x y H2->wpAny (model X.prog X.w) X.A (f v u) Q X.xe s2):
  wpAny (model X.prog X.w) X.A (eval a X.env) (fun v s₁=>wpAny (model X.prog X.w) X.A (eval b X.env) (fun u s₂=>wpAny (model X.prog X.w) X.A (f v u) Q X.xe s₂) X.xe s₁) X.xe s:=by
 refine Fy (ha pi s σ H _ I h) fun v s1 Fz=>?_
 obtain⟨x,H1,I1,r1,q1⟩:=Fz;refine Fy (hb pi s1 σ H1 _ I1 q1) fun u s2 Fz=>?_
 obtain⟨y,H2,I2,r2,q2⟩:=Fz;exact hf v u s2 x y H2 I2 r1 r2 q2
def qL(i:Nat):TE:=fun σ H Q=>∃v,σ[i]?=some (some v)/\Q v H
def tC(v:V):TE:=fun _ H Q=>Q v H
theorem zV{i:Nat}{x:Str}{pos:Pos}(hN:X.N[i]?=some x)(hv:Oo X.env.scope x)(hd:(x==("__debug__" : Str))=false:=by decide)(JZ:(x==("__classdict__" : Str))=false:=by decide):PE X (.Name x pos) (qL i):=by
 intro pi s σ H Q I h;obtain⟨v,e,h⟩:=h;obtain⟨m,hn,hl⟩:=I.loc;obtain⟨u,r,l⟩:=hl i x v hN e hv;have fin:EP X pi σ Q u s:=⟨v,H,I,r,h⟩
 rcases l with⟨hk,hm⟩|⟨hk,c,hc,FY⟩
 ·exact wpAny_Name (wpAny_loadName_local I.ok.kind hk hn hm fin) hd
 ·rcases hk with hk|hk
  ·exact wpAny_Name (wpAny_loadName_cell I.ok.kind hk hc FY fin) hd
  ·exact wpAny_Name (wpAny_loadName_free I.ok.kind hk hc FY fin JZ) hd
theorem zW{i j pos}:PE X (.Constant (.int i) j pos) (tC (.int i)):=fun _ _ _ H _ I h=>wpAny_Constant_int ⟨.int i,H,I.tok _,⟨_,rfl⟩,h⟩
theorem CF{b j pos}:PE X (.Constant (.bool b) j pos) (tC (.bl b)):=fun _ _ _ H _ I h=>Constant_bool ⟨.bl b,H,I,rfl,h⟩
theorem zX{j pos}:PE X (.Constant .none j pos) (tC .non):=fun _ _ _ H _ I h=>Constant_none ⟨.non,H,I,rfl,h⟩
theorem zY{x j pos}:PE X (.Constant (.str x) j pos) (tC (.str x)):=fun _ _ _ H _ I h=>Calls.Constant_str ⟨.str x,H,I.tok _,⟨_,rfl⟩,h⟩
def Gl(X:Cx)(x:Str):Prop:=X.env.kindOf x=some .globalImplicit
theorem qS{E:Value->Shared->Prop}{pi:List (Addr×Obj)}{s:Shared}{σ:St}{H:Hp}{x:Str}{u:Value}{pos:Pos}{Q:Value->Shared->Prop}(I:Inv X pi σ H s)(hg:Gl X x)(hm:X.mg x=some u)(h:Q u s)
  (hd:(x==("__debug__" : Str))=false:=by decide):wpAny (model X.prog X.w) X.A (eval (.Name x pos) X.env) Q E s:=
 Tg I.ok.kind hg (Calls.loadGlobal_global (by rw[I.ok.glob];exact I.mod.glob.keeps I.bk) hm h) hd
theorem ji{E:Value->Shared->Prop}{pi:List (Addr×Obj)}{s:Shared}{σ:St}{H:Hp}{x:Str}{u:Value}{pos:Pos}{Q:Value->Shared->Prop}(I:Inv X pi σ H s)(hg:Gl X x)(hm:X.mg x=none)(hv:bootBuiltins x=some u)(h:Q u s)
  (hn:x≠"__name__":=by decide) (hd:(x==("__debug__" : Str))=false:=by decide):wpAny (model X.prog X.w) X.A (eval (.Name x pos) X.env) Q E s:=by
 obtain⟨mb,h1,h2⟩:=I.mod.blt;exact Tg I.ok.kind hg (Calls.loadGlobal_builtin (by rw[I.ok.glob];exact I.mod.glob.keeps I.bk) hm (by rw[I.ok.blt];exact h1.keeps I.bk) ((h2 x hn).trans hv) h) hd
theorem xt{x:Str}{v:V}{u:Value}{pos:Pos}(hg:Gl X x)(hm:X.mg x=some u)(r:RelV v u)(hd:(x==("__debug__" : Str))=false:=by decide):PE X (.Name x pos) (tC v):=
 fun _ _ _ H _ I h=>qS I hg hm ⟨v,H,I,r,h⟩ hd
variable{a b:Expr}{ta tb:TE}{pos:Pos}
def PC(X:Cx)(op:CmpOp)(a b:Expr)(t:TE):Prop:=
 ∀(pi:List (Addr×Obj)) (s:Shared) (σ:St) (H:Hp) (Q:VK),Inv X pi σ H s->t σ H Q->
  wpAny (model X.prog X.w) X.A (eval a X.env) (fun v s₁=>wpAny (model X.prog X.w) X.A (eval b X.env) (fun u s₂=>wpAny (model X.prog X.w) X.A (compareOp op v u) (EP X pi σ Q) X.xe s₂) X.xe s₁) X.xe s
theorem uF(b:Expr){op:CmpOp}(h:op≠.In)(h2:op≠.NotIn):behindInMarks op b=false:=by
 have e1:(op==CmpOp.In)=false:=by cases op <;> first|rfl|exact absurd rfl h
 have e2:(op==CmpOp.NotIn)=false:=by cases op <;> first|rfl|exact absurd rfl h2
 cases b <;> simp[behindInMarks,e1,e2]
def tB(t:TE):TT:=fun σ H Q=>t σ H fun x H1=>∃c,x=.bl c/\Q c H1
theorem D9{op:CmpOp}{t:TE}(h:PC X op a b t)(h1:behindInMarks op b=false:=by first|exact uF _ (by decide) (by decide)|rfl):PT X (.Compare a [op] [b] pos) (tB t):=by
 intro pi s σ H Q I hw;refine wpAny_isTrue_Compare1 (Fy (h pi s σ H _ I hw) fun v s1 h1=>Fy h1 fun u s2 h2=>Fy h2 fun c s3 ⟨x,H1,I1,r1,q1⟩=>?_) h1;obtain⟨d,rfl,q⟩:=q1;cases r1;exact RO ⟨H1,I1,q⟩
theorem zZ{e:Expr}{t:TE}(h:PE X e t)(he:∀whole,isTrue e X.env whole=(do let v <-whole;standAt e.pos;holding [v] (truthy v)):=by intro _;rfl):PT X e (tB t):=by
 intro pi s σ H Q I hw;refine isTrue_plain (Fy (h pi s σ H _ I hw) fun v s1 ⟨x,H1,I1,r1,q1⟩=>?_) (he _);obtain⟨d,rfl,q⟩:=q1;cases r1;exact RO ⟨H1,I1,q⟩
variable{tA N1:TT}{dI:List Expr}
def Em(t u:TT):TT:=fun σ H Q=>t σ H fun c H1=>if c=true then u σ H1 Q else Q false H1
def tOr(t u:TT):TT:=fun σ H Q=>t σ H fun c H1=>if c=true then Q true H1 else u σ H1 Q
def En(t:TT):TT:=fun σ H Q=>t σ H fun c H1=>Q (!c) H1
theorem xu(ha:PT X a tA):PW X (.BoolOp .And [a] pos) tA:=by
 intro wh pi s σ H Q I h;refine isTrue_and (Fy (ha pi s σ H Q I h) fun c s1 e=>?_);cases c with
 |true=>exact isTrue_and_nil e
 |false=>exact e
theorem z4(ha:PT X a tA):PW X (.BoolOp .Or [a] pos) tA:=by
 intro wh pi s σ H Q I h;refine isTrue_or (Fy (ha pi s σ H Q I h) fun c s1 e=>?_);cases c with
 |false=>exact isTrue_or_nil e
 |true=>exact e
theorem z5(ha:PT X a tA)(hb:PW X (.BoolOp .And (b::dI) pos) N1):PW X (.BoolOp .And (a::b::dI) pos) (Em tA N1):=by
 intro wh pi s σ H Q I h;refine isTrue_and (Fy (ha pi s σ H _ I h) fun c s1 Fz=>?_);obtain⟨H1,I1,q1⟩:=Fz;cases c with
 |true=>exact hb wh pi s1 σ H1 Q I1 q1
 |false=>exact⟨H1,I1,q1⟩
theorem CG(ha:PT X a tA)(hb:PW X (.BoolOp .Or (b::dI) pos) N1):PW X (.BoolOp .Or (a::b::dI) pos) (tOr tA N1):=by
 intro wh pi s σ H Q I h;refine isTrue_or (Fy (ha pi s σ H _ I h) fun c s1 Fz=>?_);obtain⟨H1,I1,q1⟩:=Fz;cases c with
 |true=>exact⟨H1,I1,q1⟩
 |false=>exact hb wh pi s1 σ H1 Q I1 q1
theorem z6(ha:PT X a tA):PT X (.UnaryOp .Not a pos) (En tA):=by
 intro pi s σ H Q I h;exact isTrue_not (ha pi s σ H (fun c H1=>Q (!c) H1) I h)
def Eo(ta tb:TE):TE:=fun σ H Q=>ta σ H fun x H1=>∃c,x=.bl c/\if c=true then Q (.bl true) H1 else tb σ H1 Q
theorem z7{op}{t:TE}(h:PE X a t):PE X (.BoolOp op [a] pos) t:=fun pi s σ H Q I hw=>BoolOp_one (h pi s σ H Q I hw)
theorem CH(ha:PE X a ta)(hb:PE X (.BoolOp .Or (b::dI) pos) tb):PE X (.BoolOp .Or (a::b::dI) pos) (Eo ta tb):=by
 intro pi s σ H Q I h;refine BoolOp_or (Fy (ha pi s σ H _ I h) fun v s1 Fz=>?_);obtain⟨x,H1,I1,r1,q1⟩:=Fz;obtain⟨c,rfl,q1⟩:=q1;cases r1;refine RO ?_;cases c with
 |false=>exact hb pi s1 σ H1 Q I1 q1
 |true=>exact⟨.bl true,H1,I1,rfl,q1⟩
end
def SqL(K:W.Frag)(H:Hp)(a:Addr)(xs:List V):Prop:=
 Rd H a (.lst xs)\/
  ∃(o:Obj) (Fg:Array Value) (n:Nat),K.lookup a=some o/\o.cls=.type "list"/\o.dict=none/\o.data=.seq Fg n/\Fg.size<=sizeLine/\Vals xs Fg.toList
def SqT(K:W.Frag)(H:Hp)(a:Addr)(xs:List V):Prop:=
 Rd H a (.tup xs)\/
  ∃(o:Obj) (Fg:Array Value) (n:Nat),K.lookup a=some o/\o.cls=.type "tuple"/\o.dict=none/\o.data=.seq Fg n/\Fg.size<=sizeLine/\Vals xs Fg.toList
def Ep:Value->Option V
 | .none=>some .non
 | .bool b=>some (.bl b)
 | .int i _=>some (.int i)
 | .str x _=>some (.str x)
 | .bytes b _=>some (.byt b)
 | .float b _=>some (.flt b)
 | .ref a=>some (.ref a)
 | .type n=>some (.ty n)
 |_=>none
theorem RelV.abs{x:V}{u:Value}(r:RelV x u):Ep u=some x:=by
 cases x with
 |non=>cases r;rfl
 |bl _=>cases r;rfl
 |int _=>obtain⟨t,rfl⟩:=r;rfl
 |str _=>obtain⟨t,rfl⟩:=r;rfl
 |byt _=>obtain⟨t,rfl⟩:=r;rfl
 |flt _=>obtain⟨t,rfl⟩:=r;rfl
 |ref _=>cases r;rfl
 |ty _=>cases r;rfl
theorem RelV.inj{x y:V}{u:Value}(r:RelV x u)(q:RelV y u):x=y:=Qu (r.abs.symm.trans q.abs)
theorem Vals.inj:∀{xs ys:List V}{us:List Value},Vals xs us->Vals ys us->xs=ys
 |_,_,_,.nil,.nil=>rfl
 |_,_,_,.cons r t,.cons r' t'=>by rw[r.inj r',Vals.inj t t']
section
variable{X:Cx}{pi:List (Addr×Obj)}{σ:St}{H:Hp}{s:Shared}{a:Addr}{xs ys:List V}
theorem SqL.of{K:W.Frag}(h:H a=some (.lst xs)):SqL K H a xs:=.inl (.inl h)
theorem SqT.of{K:W.Frag}(h:H a=some (.tup xs)):SqT K H a xs:=.inl (.inl h)
theorem Inv.list(I:Inv X pi σ H s)(h:SqL X.K H a xs):∃Fg:List Value,Vals xs Fg/\PlainL s.heap a Fg.toArray/\xs.length<=sizeLine:=by
 rcases h with h|⟨o,Fg,n,hk,hc,hd,hs,hz,r⟩
 ·obtain⟨z,Fg,n,r,e⟩:=h.ok I.hok;exact⟨Fg,r,⟨_,n,e,rfl,rfl,rfl⟩,z⟩
 ·refine⟨Fg.toList,r,⟨o,n,I.kIn a o hk,hc,hd,by simpa using hs⟩,?_⟩;have e:=r.length;simp only[RB]at e;lia
theorem Inv.tupleN(I:Inv X pi σ H s)(h:SqT X.K H a xs):∃Fg:List Value,Vals xs Fg/\IsTupN s.heap a Fg.toArray/\xs.length<=sizeLine:=by
 rcases h with h|⟨o,Fg,n,hk,hc,hdn,hs,hz,r⟩
 ·obtain⟨z,Fg,r,p⟩:=h.ok I.hok;exact⟨Fg,r,p,z⟩
 ·refine⟨Fg.toList,r,⟨o,I.kIn a o hk,hc,⟨n,by simpa using hs⟩,hdn⟩,?_⟩;have e:=r.length;simp only[RB]at e;lia
theorem Inv.tuple(I:Inv X pi σ H s)(h:SqT X.K H a xs):∃Fg:List Value,Vals xs Fg/\IsTup s.heap a Fg.toArray/\xs.length<=sizeLine:=by
 obtain⟨Fg,r,p,z⟩:=I.tupleN h;exact⟨Fg,r,p.tup,z⟩
theorem Inv.list_inj(I:Inv X pi σ H s)(h:SqL X.K H a xs)(h':SqL X.K H a ys):xs=ys:=by
 obtain⟨Fg,r,⟨o,n,e,_,_,d⟩,_⟩:=I.list h;obtain⟨its',r',⟨o',n',e',_,_,d'⟩,_⟩:=I.list h';rw[e]at e';cases e';rw[d]at d';injection d' with d1 _;have:Fg=its':=by simpa using Rg Array.toList d1
 subst this;exact r.inj r'
theorem Inv.tuple_inj(I:Inv X pi σ H s)(h:SqT X.K H a xs)(h':SqT X.K H a ys):xs=ys:=by
 obtain⟨Fg,r,⟨o,e,_,n,d⟩,_⟩:=I.tuple h;obtain⟨its',r',⟨o',e',_,n',d'⟩,_⟩:=I.tuple h';rw[e]at e';cases e';rw[d]at d';injection d' with d1 _;have:Fg=its':=by simpa using Rg Array.toList d1
 subst this;exact r.inj r'
end
abbrev Cx.wish(X:Cx)(E:Value->Shared->Prop):Cx:={X with xe:=E}
abbrev Cx.nox(X:Cx):Cx:=X.wish fun _ _=>False
theorem Cx.Ok.wish{X:Cx}(ok:X.Ok)(E:Value->Shared->Prop):(X.wish E).Ok:=
 ⟨ok.mod,ok.kind,ok.glob,ok.blt,ok.above,ok.inj,ok.has,ok.cab,ok.hd,ok.frames,ok.stk,ok.exf,ok.bs,ok.bsz,ok.noex,ok.exfs,ok.funs,ok.frf⟩
theorem Cx.Ok.unwish{X:Cx}{E:Value->Shared->Prop}(ok:(X.wish E).Ok):X.Ok:=
 ⟨ok.mod,ok.kind,ok.glob,ok.blt,ok.above,ok.inj,ok.has,ok.cab,ok.hd,ok.frames,ok.stk,ok.exf,ok.bs,ok.bsz,ok.noex,ok.exfs,ok.funs,ok.frf⟩
section
variable{X:Cx}{pi:List (Addr×Obj)}{σ:St}{H:Hp}{s:Shared}{E:Value->Shared->Prop}
theorem Inv.wish(I:Inv X pi σ H s)(E:Value->Shared->Prop):Inv (X.wish E) pi σ H s:=⟨I.ok.wish E,I.os,I.bare,I.base,I.loc,I.cell,I.free,I.freeC,I.pin,I.hok,I.len⟩
theorem Inv.unwish(I:Inv (X.wish E) pi σ H s):Inv X pi σ H s:=⟨I.ok.unwish,I.os,I.bare,I.base,I.loc,I.cell,I.free,I.freeC,I.pin,I.hok,I.len⟩
theorem SP.unwish{D:Ends}{f:Flow}{s':Shared}(h:SP (X.wish E) pi D f s'):SP X pi D f s':=by
 cases f with
 |next=>obtain⟨σ',H',I,q⟩:=h;exact⟨σ',H',I.unwish,q⟩
 |brk=>obtain⟨σ',H',I,q⟩:=h;exact⟨σ',H',I.unwish,q⟩
 |cont=>obtain⟨σ',H',I,q⟩:=h;exact⟨σ',H',I.unwish,q⟩
 |ret u=>obtain⟨v,σ',H',I,r,q⟩:=h;exact⟨v,σ',H',I.unwish,r,q⟩
theorem PSs.nox{st:List Stmt}{t:TS}(h:PSs X.nox st t):PSs X st t:=fun pi s σ H D I hw=>
 Sy (h pi s σ H D (I.wish _) hw) (fun _ _ q=>q.unwish) fun _ _ z=>False.elim z
end
section
variable{X:Cx}{st:Stmt}{dI:List Stmt}{t u:TS}{e:Expr}{te:TE}{pos:Pos}
def CI:TS:=fun D σ H=>D.nx σ H
def Er(t u:TS):TS:=fun D σ H=>t {D with nx:=u D} σ H
theorem xv:PSs X [] CI:=fun _ _ σ H _ I h=>S9 ⟨σ,H,I,h⟩
theorem uG(h1:PS X st t)(h2:PSs X dI u):PSs X (st::dI) (Er t u):=by
 intro pi s σ H D I h;refine wpAny_execs_cons (Fy (h1 pi s σ H {D with nx:=u D} I h) fun f s1 q=>?_);cases f with
 |next=>
  obtain⟨σ',H',I',q⟩:=q;exact h2 pi s1 σ' H' D I' q
 |ret v=>exact q
 |brk=>exact q
 |cont=>exact q
theorem xw(h1:PS X st t):PSs X [st] t:=by
 intro pi s σ H D I h;refine wpAny_execs_cons (Fy (h1 pi s σ H D I h) fun f s1 q=>?_);cases f with
 |next=>exact S9 q
 |ret v=>exact q
 |brk=>exact q
 |cont=>exact q
theorem Inv.quiet{pi:List (Addr×Obj)}{σ:St}{H:Hp}{s:Shared}(I:Inv X pi σ H s):interactive X.env=false:=by simp[interactive,I.ok.kind]
def CJ(te:TE):TS:=fun D σ H=>te σ H fun _ H1=>D.nx σ H1
theorem xx(he:PE X e te)(hs:swapsWith e none pos.line X.env=pure false:=by rfl):PS X (.Expr e pos) (CJ te):=by
 intro pi s σ H D I h;exact wpAny_Expr_any (Fy (he pi s σ H _ I h) fun v s1 ⟨x,H1,I1,r1,q1⟩=>⟨σ,H1,I1,q1⟩) I.quiet hs
def Es(te:TE):TS:=fun D σ H=>te σ H D.rt
theorem z8(he:PE X e te):PS X (.Return (some e) pos) (Es te):=by
 intro pi s σ H D I h;exact wpAny_Return_some (Fy (he pi s σ H _ I h) fun v s1 ⟨x,H1,I1,r1,q1⟩=>⟨x,σ,H1,I1,r1,q1⟩)
def Et(c:TT)(t u:TS):TS:=fun D σ H=>c σ H fun b H1=>if b=true then t D σ H1 else u D σ H1
theorem CK{c:Expr}{a b:List Stmt}{tc:TT}(hc:PT X c tc)(ha:PSs X a t)(hb:PSs X b u):PS X (.If c a b pos) (Et tc t u):=by
 intro pi s σ H D I h;refine wpAny_If (Fy (hc pi s σ H _ I h) fun d s1 Fz=>?_);obtain⟨H1,I1,q1⟩:=Fz;cases d with
 |true=>exact ha pi s1 σ H1 D I1 q1
 |false=>exact hb pi s1 σ H1 D I1 q1
def z9:TS:=fun _ _ _=>False
theorem uH:PS X st z9:=fun _ _ _ _ _ _ h=>h.elim
end
abbrev TG:=V->St->Hp->(St->Hp->Prop)->Prop
abbrev Lu:=List V->St->Hp->(St->Hp->Prop)->Prop
def PG(X:Cx)(target:Expr)(t:TG):Prop:=
 ∀(pi:List (Addr×Obj)) (s:Shared) (σ:St) (H:Hp) (v:V) (u:Value) (Q:St->Hp->Prop),Inv X pi σ H s->RelV v u->t v σ H Q->
  wpAny (model X.prog X.w) X.A (assign target X.env u) (fun _ s'=>∃σ' H',Inv X pi σ' H' s'/\Q σ' H') X.xe s
def LG(X:Cx)(ts:List Expr)(t:Lu):Prop:=
 ∀(pi:List (Addr×Obj)) (s:Shared) (σ:St) (H:Hp) (vs:List V) (us:List Value) (Q:St->Hp->Prop),Inv X pi σ H s->Vals vs us->t vs σ H Q->
  wpAny (model X.prog X.w) X.A (assignInOrder ((assignEach ts X.env).map (·.2)) us) (fun _ s'=>∃σ' H',Inv X pi σ' H' s'/\Q σ' H') X.xe s
abbrev Eu:=V->V->V->Hp->(Hp->Prop)->Prop
def Ew(X:Cx)(t:Eu):Prop:=
 ∀(pi:List (Addr×Obj)) (s:Shared) (σ:St) (H:Hp) (o i v:V) (ov iv u:Value) (Q:Hp->Prop),Inv X pi σ H s->RelV o ov->RelV i iv->RelV v u->t o i v H Q->
  wpAny (model X.prog X.w) X.A (setItem ov iv u) (fun _ s'=>∃H',Inv X pi σ H' s'/\Q H') X.xe s
section
variable{X:Cx}{pos:Pos}
def Aa(i:Nat):TG:=fun v σ H Q=>Q (σ.set i (some v)) H
theorem xy{i:Nat}{x:Str}(hN:X.N.Nodup)(hi:X.N[i]?=some x)(hx:Loc X.env.scope x)(hf:X.fn x=true\/X.env.scope.names.lookup x=some .local:=by first|exact .inl rfl|exact .inr rfl|assumption):PG X (.Name x pos) (Aa i):=by
 intro pi s σ H v u Q I r h;exact wpAny_assign_Name (oW I hN hi hx r (fun s' I'=>⟨_,H,I',h⟩) hf)
def Ex:Lu:=fun vs σ H Q=>vs=[]/\Q σ H
def CL(t:TG)(u:Lu):Lu:=fun vs σ H Q=>∃v r,vs=v::r/\t v σ H fun σ' H'=>u r σ' H' Q
theorem xA:LG X [] Ex:=by
 intro pi s σ H vs us Q I r h;obtain⟨e,h⟩:=h;subst e;cases r;exact assignInOrder_nil ⟨σ,H,I,h⟩
theorem uI{e:Expr}{es:List Expr}{t:TG}{u:Lu}(h1:PG X e t)(h2:LG X es u)
  (hs:(assignEach (e::es) X.env).map (·.2)=assign e X.env::(assignEach es X.env).map (·.2):=by rfl):LG X (e::es) (CL t u):=by
 intro pi s σ H vs us Q I r h;obtain⟨v,vr,e1,h⟩:=h;subst e1;cases r with
 |cons r rr=>
  rw[hs];refine assignInOrder_cons (Fy (h1 pi s σ H _ _ _ I r h) fun _ s1 Fz=>?_);obtain⟨σ1,H1,I1,q1⟩:=Fz;exact h2 pi s1 σ1 H1 _ _ Q I1 rr q1
def Ey(K:W.Frag)(n:Nat)(t:Lu):TG:=fun v σ H Q=>∃a xs,v=.ref a/\SqT K H a xs/\xs.length=n/\t xs σ H Q
theorem Ab{es:List Expr}{k:Nat}{t:Lu}{n:Nat}(hc:X.calm=true)(h:LG X es t)
  (hn:(assignEach es X.env).length=n:=by rfl) (JU:(assignEach es X.env).findIdx? (·.1)=none:=by rfl):PG X (.Tuple es k pos) (Ey X.K n t):=by
 intro pi s σ H v u Q I r hw;obtain⟨a,xs,e1,hq,hl,hw⟩:=hw;subst e1;cases r;obtain⟨Fg,rv,ht,hz⟩:=I.tuple hq;refine assign_Tuple_tuple (I.ok.hd hc) ht (by simp[hn,<-hl,rv.length]) JU fun h' hx=>?_
 have I1:Inv X pi σ H {s with heap:=h'}:=I.kept (t':=s.toks) fun b o e=>hx b o (Qq (Qc e)) e
 exact h pi _ σ H xs _ Q I1 (by simpa using rv) hw
def Ea(te:TE)(g:TG):TS:=fun D σ H=>te σ H fun x H1=>g x σ H1 D.nx
theorem Ac{tg e:Expr}{te:TE}{g:TG}(he:PE X e te)(hg:PG X tg g)(hs:swapsWithSole [tg] e pos.line X.env=pure false:=by rfl)(hw:swappedStores [tg] e X.env=pure none:=by rfl)
  (h1:(assignEach [tg] X.env).map (·.2)=[assign tg X.env]:=by rfl):PS X (.Assign [tg] e pos) (Ea te g):=by
 intro pi s σ H D I h;refine wpAny_Assign_stores (Fy (he pi s σ H _ I h) fun v s1 ⟨x,H1,I1,r1,q1⟩=>?_) hs hw;rw[h1];exact Fy (hg pi s1 σ H1 x v _ I1 r1 q1) fun _ s2 q=>q
theorem Ad{i:Nat}{x:Str}{e:Expr}{te:TE}{pos':Pos}(hN:X.N.Nodup)(hi:X.N[i]?=some x)(hx:Loc X.env.scope x)(he:PE X e te)(hs:swapsWith e (some (.Name x pos')) pos.line X.env=pure false:=by rfl)(hf:X.fn x=true\/X.env.scope.names.lookup x=some .local:=by first|exact .inl rfl|exact .inr rfl|assumption):
  PS X (.Assign [.Name x pos'] e pos) (Ea te (Aa i)):=by
 intro pi s σ H D I h;refine wpAny_Assign_Name (Fy (he pi s σ H _ I h) fun v s1 ⟨y,H1,I1,r1,q1⟩=>?_) hs;exact oW I1 hN hi hx r1 (fun s2 I2=>⟨_,H1,I2,q1⟩) hf
end
section
variable{X:Cx}{pos:Pos}
def Ae(c:TT)(tb:TS):TS:=fun D σ H=>∃W:Nat->St->Hp->Prop,(∃m,W m σ H)/\∀m σ H,W m σ H->
 c σ H fun b H1=>if b=true then ∃N:St->Hp->Prop,(∀σ' H',N σ' H'->∃m',m'<m/\W m' σ' H')/\tb {D with nx:=N,ct:=N,bk:=D.nx} σ H1 else D.nx σ H1
theorem uJ{c:Expr}{body:List Stmt}{tc:TT}{tb:TS}(hp:PassesOwn (model X.prog X.w) X.A X.env X.xe)(hc:PT X c tc)(hb:PSs X body tb):PS X (.While c body [] pos) (Ae tc tb):=by
 intro pi s σ H D I h;obtain⟨W,⟨m0,w0⟩,turn⟩:=h;refine wpAny_While (codeAny_whileLoop (fun n s'=>∃σ' H',Inv X pi σ' H' s'/\W n σ' H') ?_ m0 ⟨σ,H,I,w0⟩);rintro n s1 ⟨σ1,H1,I1,w1⟩;refine R7 hp (Fy (hc pi s1 σ1 H1 _ I1 (turn n σ1 H1 w1)) fun b s2 Fz=>?_);obtain⟨H2,I2,q2⟩:=Fz;cases b with
 |true=>
  obtain⟨N,hN,q2⟩:=q2;rw[Qa rfl];refine R7 hp (Fy (hb pi s2 σ1 H2 _ I2 q2) fun f s3 q3=>?_);cases f with
  |next=>
   obtain⟨σ3,H3,I3,n3⟩:=q3;obtain⟨m',hm,w3⟩:=hN σ3 H3 n3;exact⟨m',hm,σ3,H3,I3,w3⟩
  |cont=>
   obtain⟨σ3,H3,I3,n3⟩:=q3;obtain⟨m',hm,w3⟩:=hN σ3 H3 n3;exact⟨m',hm,σ3,H3,I3,w3⟩
  |brk=>exact q3
  |ret v=>exact q3
 |false=>
  rw[Qf Qb];exact S9 ⟨σ1,H2,I2,q2⟩
end
structure It where
 go:Nat->Hp->Prop
 yld:Nat->Hp->V->Hp->Prop
 stop:Nat->Hp->Prop
def p7(X:Cx)(pi:List (Addr×Obj))(H:Hp)(b:Addr):Prop:=
 H b=none/\b≠X.env.locals/\b∉X.fs/\(b∈X.ex\/X.s₀.heap.objs.size<=b)/\(∀x c,X.env.cells.lookup x=some c->c≠b)/\∀p∈X.pn++pi,p.1≠b
theorem Inv.fpOk{X:Cx}{pi:List (Addr×Obj)}{σ:St}{H H':Hp}{s:Shared}{b:Addr}(I:Inv X pi σ H s)(hb:s.heap.objs.size<=b)(hn:H' b=none):p7 X pi H' b:=by
 refine⟨hn,Th (Qk I.lt hb),I.nofs hb,.inr (Rh I.sz hb),fun x c e z=>?_,fun p hp z=>?_⟩
 ·obtain⟨v,q⟩:=I.cell x c e;exact absurd (Qk q.lt (by rw[z];exact hb)) (RF _)
 ·exact absurd (Qk (Qc (I.pin p hp).1) (by rw[z];exact hb)) (RF _)
structure Turn(P:Program)(w:World)(K:W.Frag)(tg:Expr)(J:It)(fp:List Addr)(it:Addr)(tn:Nat->Heap->Prop):Prop where
 mem:it∈fp
 obj:∀i h,tn i h->∀b∈fp,∃o,h.get? b=some o/\∀v,o.data≠.cell v
 keep:∀i h h',tn i h->(∀b∈fp,∀o,h.get? b=some o->h'.get? b=some o)->tn i h'
 item:∀(X:Cx),X.prog=P->X.w=w->X.K=K->X.calm=true->∀(i:Nat) (pi:List (Addr×Obj)) (s:Shared) (σ:St) (H:Hp) (E:Value->Shared->Prop),Inv X pi σ H s->(∀b∈fp,p7 X pi H b)->tn i s.heap->J.go i H->
  wpAny (model P w) X.A (pyNext (.ref it)) (fun r s1=>∃u,r=some u/\
   wpAny (model P w) X.A (letOwnedTupleGo tg (.ref it) u) (fun _ s2=>∃x H',Inv X pi σ H' s2/\RelV x u/\J.yld i H x H'/\tn (i+1) s2.heap/\∀b∈fp,H' b=none) E s1) E s
 done:∀(X:Cx),X.prog=P->X.w=w->X.K=K->X.calm=true->∀(i:Nat) (pi:List (Addr×Obj)) (s:Shared) (σ:St) (H:Hp) (E:Value->Shared->Prop),Inv X pi σ H s->(∀b∈fp,p7 X pi H b)->tn i s.heap->J.stop i H->
  wpAny (model P w) X.A (pyNext (.ref it)) (fun r s1=>r=none/\Inv X pi σ H s1) E s
 self:∀(A:Around) (i:Nat) (s:Shared) (Q:Value->Shared->Prop) (E:Value->Shared->Prop),tn i s.heap->Q (.ref it) s->wpAny (model P w) A (pyIter (.ref it)) Q E s
abbrev TI:=St->Hp->(It->Hp->Prop)->Prop
def Pg(X:Cx)(pi:List (Addr×Obj))(σ:St)(tg:Expr)(R:It->Hp->Prop)(N2:Value)(s2:Shared):Prop:=
 ∃(it:Addr) (fp:List Addr) (tn:Nat->Heap->Prop) (J:It) (H':Hp),N2=.ref it/\Inv X pi σ H' s2/\Turn X.prog X.w X.K tg J fp it tn/\tn 0 s2.heap/\(∀b∈fp,p7 X pi H' b)/\R J H'
def PI(X:Cx)(tg iter:Expr)(wi:TI):Prop:=
 ∀(pi:List (Addr×Obj)) (s:Shared) (σ:St) (H:Hp) (R:It->Hp->Prop),Inv X pi σ H s->wi σ H R->
  wpAny (model X.prog X.w) X.A (eval iter X.env) (fun v s1=>wpAny (model X.prog X.w) X.A (pyIter v) (Pg X pi σ tg R) X.xe s1) X.xe s
theorem uK {M : Model} {A : Around} {E : Value -> Shared -> Prop} {s : Shared} {tg : Expr} {it : Addr} {u : Value} {o : Obj} {n : String} {vs : Array Value} {Q : Unit -> Shared -> Prop} (ho : s.heap.get? it = some o) (hc : o.cls = .type n) (hd : o.data = .fields vs)
    (hn : ["enumerate", "zip", "dict_itemiterator", "dict_reverseitemiterator", "odict_iterator", "itertools.zip_longest", "itertools.pairwise"].contains n = false) (hQ : Q () s) : wpAny M A (letOwnedTupleGo tg (.ref it) u) Q E s := by
  unfold letOwnedTupleGo
  cases tg <;> first
    | exact P4 hQ
    | (cases u <;> first
        | exact P4 hQ
        | (refine P2 (wpAny_load ho ?_)
           rw [hc, hd]
           show wpAny M A (if (["enumerate", "zip", "dict_itemiterator", "dict_reverseitemiterator", "odict_iterator", "itertools.zip_longest", "itertools.pairwise"].contains n && vs[0]? == some (rawInt _)) = true then _ else _) Q E s
           rw [Qf (by intro h; rw [hn, Bool.false_and] at h; cases h)]
           exact P4 hQ))
def MB(K:W.Frag)(a:Addr):It:=
 ⟨fun i H=>∃xs x,SqL K H a xs/\xs[i]?=some x,fun i H x H'=>H'=H/\∀xs,SqL K H a xs->xs[i]?=some x,fun i H=>∃xs,SqL K H a xs/\xs.length<=i⟩
def Ot(K:W.Frag)(a:Addr):It:=
 ⟨fun i H=>∃xs x,SqT K H a xs/\xs[i]?=some x,fun i H x H'=>H'=H/\∀xs,SqT K H a xs->xs[i]?=some x,fun i H=>∃xs,SqT K H a xs/\xs.length<=i⟩
def N3(lo:Int)(n:Nat):It:=⟨fun i _=>i<n,fun i H x H'=>H'=H/\x=.int (lo+i),fun i _=>n<=i⟩
theorem qT{P:Program}{w:World}{K:W.Frag}{tg:Expr}(a it:Addr):Turn P w K tg (MB K a) [it] it (fun i h=>h.IsListIter it a i) where
 mem:=by simp
 obj:=fun i h st b hb=>by
  have e:b=it:=by simpa using hb
  subst e;obtain⟨o,e,c,d⟩:=st;exact⟨o,e,fun v z=>by rw[d]at z;cases z⟩
 keep:=fun i h h' st k=>st.at fun o e=>k it (by simp) o e
 item:=by
  intro X hP hw hK hc i pi s σ H E I hf st hg;subst hP hw hK;obtain⟨xs,x,hq,hx⟩:=hg;obtain⟨Fg,rv,p,hz⟩:=I.list hq;obtain⟨u,hu,ru⟩:=rv.get hx;obtain⟨f0,f1,f2,f3,f4,f5⟩:=hf it (by simp);refine wpAny_pyNext_list_item st p.isList (x:=u) (by simpa using hu) fun h' He sb=>?_
  have I1:Inv X pi σ H {s with heap:=h'}:=I.turned (t':=s.toks) (fun b o hb e=>(sb.2 b hb).trans e) f0 f1 f3 f4 f5;obtain⟨o,e,c,d⟩:=id He;exact⟨u,rfl,uK (s:={s with heap:=h'}) e c d (by decide) ⟨x,H,I1,ru,⟨rfl,fun ys hy=>by rw[I.list_inj hy hq];exact hx⟩,He,fun b hb=>(hf b hb).1⟩⟩
 done:=by
  intro X hP hw hK hc i pi s σ H E I hf st hg;subst hP hw hK;obtain⟨xs,hq,hx⟩:=hg;obtain⟨Fg,rv,p,hz⟩:=I.list hq;obtain⟨f0,f1,f2,f3,f4,f5⟩:=hf it (by simp);have hl:=rv.length;exact wpAny_pyNext_list_end (I.ok.hd hc) st p.isList (by simp;lia) fun h' eb=>⟨rfl,I.turned (t':=s.toks) (fun b o hb e=>eb b o hb e) f0 f1 f3 f4 f5⟩
 self:=fun _ _ _ _ _ st h=>wpAny_pyIter_listiter st h
theorem p8{P:Program}{w:World}{K:W.Frag}{tg:Expr}(a it:Addr):Turn P w K tg (Ot K a) [it] it (fun i h=>h.IsTupleIter it a i) where
 mem:=by simp
 obj:=fun i h st b hb=>by
  have e:b=it:=by simpa using hb
  subst e;obtain⟨o,e,c,d⟩:=st;exact⟨o,e,fun v z=>by rw[d]at z;cases z⟩
 keep:=fun i h h' st k=>st.at fun o e=>k it (by simp) o e
 item:=by
  intro X hP hw hK hc i pi s σ H E I hf st hg;subst hP hw hK;obtain⟨xs,x,hq,hx⟩:=hg;obtain⟨Fg,rv,p,hz⟩:=I.tuple hq;obtain⟨u,hu,ru⟩:=rv.get hx;obtain⟨f0,f1,f2,f3,f4,f5⟩:=hf it (by simp);refine wpAny_pyNext_tuple_item st (show s.heap.IsTuple a Fg.toArray from p) (x:=u) (by simpa using hu) fun h' He sb=>?_
  have I1:Inv X pi σ H {s with heap:=h'}:=I.turned (t':=s.toks) (fun b o hb e=>(sb.2 b hb).trans e) f0 f1 f3 f4 f5;obtain⟨o,e,c,d⟩:=id He;exact⟨u,rfl,uK (s:={s with heap:=h'}) e c d (by decide) ⟨x,H,I1,ru,⟨rfl,fun ys hy=>by rw[I.tuple_inj hy hq];exact hx⟩,He,fun b hb=>(hf b hb).1⟩⟩
 done:=by
  intro X hP hw hK hc i pi s σ H E I hf st hg;subst hP hw hK;obtain⟨xs,hq,hx⟩:=hg;obtain⟨Fg,rv,p,hz⟩:=I.tuple hq;obtain⟨f0,f1,f2,f3,f4,f5⟩:=hf it (by simp);have hl:=rv.length;exact wpAny_pyNext_tuple_end (I.ok.hd hc) st (show s.heap.IsTuple a Fg.toArray from p) (by simp;lia) fun h' eb=>⟨rfl,I.turned (t':=s.toks) (fun b o hb e=>eb b o hb e) f0 f1 f3 f4 f5⟩
 self:=fun _ _ _ _ _ st h=>wpAny_pyIter_tupleiter st h
theorem qa{P:Program}{w:World}{K:W.Frag}{tg:Expr}(it:Addr)(lo:Int)(n:Nat):Turn P w K tg (N3 lo n) [it] it (fun i h=>IsRangeIter h it (lo+(i:Nat)*1) ((n:Int)-(i:Nat)) 1) where
 mem:=by simp
 obj:=fun i h st b hb=>by
  have e:b=it:=by simpa using hb
  subst e;exact⟨_,st,fun v z=>by
   have z':Data.fields _=Data.cell v:=z;cases z'⟩
 keep:=fun i h h' st k=>k it (by simp) _ st
 item:=by
  intro X hP hw hK hc i pi s σ H E I hf st hg;subst hP hw hK;obtain⟨f0,f1,f2,f3,f4,f5⟩:=hf it (by simp);have W:=Walks.range (prog:=X.prog) (w:=X.w) (I.ok.hd hc) it lo 1 n;refine W.item i s _ _ hg st fun v h' tk hv He kk=>?_
  obtain⟨t,rfl⟩:=hv;have I1:Inv X pi σ H {s with heap:=h',toks:=tk}:=I.turned (fun b o hb e=>kk b o (by simpa using hb) e) f0 f1 f3 f4 f5;refine⟨_,rfl,uK (s:={s with heap:=h',toks:=tk}) (n:="range_iterator") He rfl rfl (by decide) ⟨.int (lo+i),H,I1,⟨t,?_⟩,⟨rfl,rfl⟩,He,fun b hb=>(hf b hb).1⟩⟩;rw[Int.mul_one]
 done:=by
  intro X hP hw hK hc i pi s σ H E I hf st hg;subst hP hw hK;obtain⟨f0,f1,f2,f3,f4,f5⟩:=hf it (by simp);exact wpAny_pyNext_range_end (I.ok.hd hc) st (by have:n<=i:=hg;lia) fun h' eb=>⟨rfl,I.turned (t':=s.toks) (fun b o hb e=>eb b o hb e) f0 f1 f3 f4 f5⟩
 self:=fun _ _ _ _ _ st h=>wpAny_pyIter_rangeiter st h
section
variable{X:Cx}{tg:Expr}
def CM(K:W.Frag)(tl:TE):TI:=fun σ H R=>tl σ H fun x H1=>∃a,x=.ref a/\(∃xs,SqL K H1 a xs)/\R (MB K a) H1
def Ez(K:W.Frag)(tl:TE):TI:=fun σ H R=>tl σ H fun x H1=>∃a,x=.ref a/\(∃xs,SqT K H1 a xs)/\R (Ot K a) H1
theorem qU{l:Expr}{tl:TE}(hl:PE X l tl):PI X tg l (CM X.K tl):=by
 intro pi s σ H R I h;refine Fy (hl pi s σ H _ I h) fun v s1 Fz=>?_
 obtain⟨x,H1,I1,r1,q1⟩:=Fz;obtain⟨a,e,⟨xs,hq⟩,q⟩:=q1;subst e;cases r1;obtain⟨Fg,rv,p,hz⟩:=I1.list hq;refine RC p.isList ?_;refine⟨s1.heap.objs.size,[s1.heap.objs.size],_,_,H1,rfl,I1.kept (t':=s1.toks) fun b o e=>Heap.get?_push_of_some _ e,qT a _,⟨_,Heap.get?_push_size _ rfl,rfl,rfl⟩,fun b hb=>?_,q⟩;have e:b=s1.heap.objs.size:=by simpa using hb
 subst e;exact I1.fpOk (P9 _) (I1.hok.fresh (P9 _))
theorem Af{l:Expr}{tl:TE}(hl:PE X l tl):PI X tg l (Ez X.K tl):=by
 intro pi s σ H R I h;refine Fy (hl pi s σ H _ I h) fun v s1 Fz=>?_
 obtain⟨x,H1,I1,r1,q1⟩:=Fz;obtain⟨a,e,⟨xs,hq⟩,q⟩:=q1;subst e;cases r1;obtain⟨Fg,rv,p,hz⟩:=I1.tuple hq;refine Rw (show s1.heap.IsTuple a Fg.toArray from p) ?_;refine⟨s1.heap.objs.size,[s1.heap.objs.size],_,_,H1,rfl,I1.kept (t':=s1.toks) fun b o e=>Heap.get?_push_of_some _ e,p8 a _,⟨_,Heap.get?_push_size _ rfl,rfl,rfl⟩,fun b hb=>?_,q⟩;have e:b=s1.heap.objs.size:=by simpa using hb
 subst e;exact I1.fpOk (P9 _) (I1.hok.fresh (P9 _))
theorem uL{pi:List (Addr×Obj)}{σ:St}{H:Hp}{s:Shared}{R:It->Hp->Prop}{E:Value->Shared->Prop}{lo hi:Int}{t u v:Tok}{tk:Nat}(I:Inv X pi σ H s)(h1:-(2 ^ 62)<=lo)(h2:lo<2 ^ 62)(h3:-(2 ^ 62)<=hi)(h4:hi<2 ^ 62)
  (q:R (N3 lo (hi-lo).toNat) H):wpAny (model X.prog X.w) X.A (pyIter (.ref s.heap.objs.size)) (Pg X pi σ tg R) E {s with heap:=s.heap.push {cls:=.type "range",data:=.fields #[.int lo t,.int hi u,.int 1 v]},toks:=tk}:=by
 refine wpAny_pyIter_range (IsRange.new ..) (small_one h1 h2 h3 h4) ?_;have I1:Inv X pi σ H {s with heap:=s.heap.push {cls:=.type "range",data:=.fields #[.int lo t,.int hi u,.int 1 v]},toks:=tk}:=I.kept fun b o e=>Heap.get?_push_of_some _ e
 refine⟨(s.heap.push {cls:=.type "range",data:=.fields #[.int lo t,.int hi u,.int 1 v]}).objs.size,[(s.heap.push {cls:=.type "range",data:=.fields #[.int lo t,.int hi u,.int 1 v]}).objs.size],_,_,H,rfl,
  I1.kept (t':=tk) fun b o e=>Heap.get?_push_of_some _ e,qa _ lo (hi-lo).toNat,?_,fun b hb=>?_,q⟩
 ·have e1:lo+((0:Nat):Int)*1=lo:=by simp
  have e2:(((hi-lo).toNat:Nat):Int)-((0:Nat):Int)=Builtin.Range.rangeSize lo hi 1:=by rw[rangeSize_one];split <;> lia
  show IsRangeIter _ _ (lo+((0:Nat):Int)*1) ((((hi-lo).toNat:Nat):Int)-((0:Nat):Int)) 1;rw[e1,e2];exact Heap.get?_push_size _ rfl
 ·have e:b=(s.heap.push {cls:=.type "range",data:=.fields #[.int lo t,.int hi u,.int 1 v]}).objs.size:=by simpa using hb
  subst e;exact I1.fpOk (P9 _) (I1.hok.fresh (P9 _))
def CN(ta:TA):TI:=fun σ H R=>ta σ H fun vs H1=>∃j:Int,vs=[.int j]/\-(2 ^ 62)<=j/\j<2 ^ 62/\R (N3 0 j.toNat) H1
theorem qV{a:Expr}{ta:TA}{p pos:Pos}(hg:Gl X "range")(hm:X.mg "range" = none)(ha:PA X [a] ta)(hs:starEach [a] X.env=[(false,eval a X.env)]:=by rfl):PI X tg (.Call (.Name "range" p) [a] [] pos) (CN ta):=by
 intro pi s σ H R I h;refine Call_ (ji I hg hm boot_range (RQ (Fy (ha pos pi s σ H _ I h) fun us s1 ⟨vs,H1,I1,r1,q1⟩=>?_) hs rfl));obtain⟨j,e,q1,q2,q⟩:=q1;subst e;cases r1 with
 |cons r rr=>
  cases rr;obtain⟨t,rfl⟩:=r;exact call_range_1 (uL I1 (by lia) (by lia) q1 q2 (by simpa using q))
noncomputable def EA(wi:TI)(g:TG)(tb:TS):TS:=fun D σ H=>wi σ H fun J H1=>∃W:Nat->Nat->St->Hp->Prop,(∃m,W 0 m σ H1)/\∀i m σ H,W i m σ H->
 (J.stop i H/\D.nx σ H)\/(J.go i H/\∃N:St->Hp->Prop,(∀σ' H',N σ' H'->∃m',m'<m/\W (i+1) m' σ' H')/\∀x H',J.yld i H x H'->g x σ H' fun σ2 H2=>tb {D with nx:=N,ct:=N,bk:=D.nx} σ2 H2)
def lZ(fp:List Addr)(h:Heap):List (Addr×Obj):=fp.filterMap fun b=>(h.get? b).map fun o=>(b,o)
theorem fX{fp:List Addr}{h:Heap}{b:Addr}{o:Obj}(hb:b∈fp)(e:h.get? b=some o):(b,o)∈lZ fp h:=Ti.mpr ⟨b,hb,by rw[e];rfl⟩
theorem qW{fp:List Addr}{h:Heap}{p:Addr×Obj}(hp:p∈lZ fp h):p.1∈fp/\h.get? p.1=some p.2:=by
 obtain⟨b,hb,e⟩:=Ti.mp hp;cases q:h.get? b with
 |none=>rw[q]at e;cases e
 |some o=>
  rw[q]at e;have e':(b,o)=p:=Qu e;subst e';exact⟨hb,q⟩
theorem Inv.pinned{pi:List (Addr×Obj)}{σ:St}{H:Hp}{s:Shared}{fp:List Addr}(I:Inv X pi σ H s)(hf:∀b∈fp,p7 X pi H b)(ho:∀b∈fp,∃o,s.heap.get? b=some o/\∀v,o.data≠.cell v):Inv X (pi++lZ fp s.heap) σ H s:=
 I.pins_of fun p hp=>(QH.mp hp).elim (fun z=>I.pin p (P7 _ z)) fun z=>by
  obtain⟨hb,e⟩:=qW z;obtain⟨f0,f1,f2,_⟩:=hf p.1 hb;obtain⟨o,e',d⟩:=ho p.1 hb;rw[e]at e';cases e';exact⟨e,f0,f1,f2,d⟩
theorem Inv.unpinned{pi pl:List (Addr×Obj)}{σ:St}{H:Hp}{s:Shared}(I:Inv X (pi++pl) σ H s):Inv X pi σ H s:=I.pins_of fun p hp=>I.pin p (P7 _ (Qd _ hp))
theorem Ag{iter:Expr}{body:List Stmt}{wi:TI}{g:TG}{tb:TS}{pos:Pos}(hp:PassesOwn (model X.prog X.w) X.A X.env X.xe)(hc:X.calm=true)(hi:PI X tg iter wi)(hg:PG X tg g)(hb:PSs X body tb)
  (hs:∀x,foldedSetIterable iter X.env x=pure x:=by intro _;rfl):PS X (.For tg iter body [] pos) (EA wi g tb):=by
 intro pi s σ H D I h;refine wpAny_For (Fy (hi pi s σ H _ I h) fun v s1 h1=>Fy h1 fun N2 s2 h2=>?_) hs;obtain⟨it,fp,tn,J,H2,e,I2,T,Fo,f2,W,⟨m0,w0⟩,turn⟩:=h2;subst e;have Jc:∀{H':Hp},(∀b∈fp,H' b=none)->∀b∈fp,p7 X pi H' b:=fun hn b hb=>⟨hn b hb,(f2 b hb).2⟩
 refine codeAny_forLoop_any (fun n s'=>∃i σ' H',Inv X pi σ' H' s'/\tn i s'.heap/\(∀b∈fp,H' b=none)/\W i n σ' H') ?_ m0 ⟨0,σ,H2,I2,Fo,fun b hb=>(f2 b hb).1,w0⟩;rintro n s3 ⟨i,σ3,H3,I3,FQ,MR,w3⟩;rcases turn i n σ3 H3 w3 with⟨stop,qn⟩|⟨go,N,hN,step⟩
 ·refine R7 hp (Fy (T.done X rfl rfl rfl hc i pi s3 σ3 H3 X.xe I3 (Jc MR) FQ stop) fun r s4 Fz=>?_);obtain⟨hr,I4⟩:=Fz;subst hr;exact S9 ⟨σ3,H3,I4,qn⟩
 ·refine R7 hp (Fy (T.item X rfl rfl rfl hc i pi s3 σ3 H3 X.xe I3 (Jc MR) FQ go) fun r s4 Fz=>?_);obtain⟨u,hr,h4⟩:=Fz;subst hr;refine R7 hp (Fy h4 fun _ s5 Fz=>?_);obtain⟨x,H5,I5,r5,y5,GZ,Ou⟩:=Fz;have Ov:=I5.pinned (Jc Ou) (T.obj _ _ GZ);refine R7 hp (Fy (hg _ s5 σ3 H5 x u _ Ov r5 (step x H5 y5)) fun _ s6 Fz=>?_);obtain⟨σ6,H6,I6,q6⟩:=Fz;refine R7 hp (Fy (hb _ s6 σ6 H6 _ I6 q6) fun f s7 q7=>?_);have again:∀{σ7:St}{H7:Hp},Inv X (pi++lZ fp s5.heap) σ7 H7 s7->N σ7 H7->∃m,m<n/\∃i σ' H',Inv X pi σ' H' s7/\tn i s7.heap/\(∀b∈fp,H' b=none)/\W i m σ' H':=fun{σ7 H7} I7 n7=>by
   obtain⟨m',hm,w7⟩:=hN σ7 H7 n7;refine⟨m',hm,i+1,σ7,H7,I7.unpinned,T.keep _ _ _ GZ fun b hb o e=>(I7.pin (b,o) (P7 _ (P7 _ (fX hb e)))).1,fun b hb=>?_,w7⟩;obtain⟨o,e,d⟩:=T.obj _ _ GZ b hb;exact(I7.pin (b,o) (P7 _ (P7 _ (fX hb e)))).2.1
  cases f with
  |next=>obtain⟨σ7,H7,I7,n7⟩:=q7;exact again I7 n7
  |cont=>obtain⟨σ7,H7,I7,n7⟩:=q7;exact again I7 n7
  |brk=>obtain⟨σ7,H7,I7,q7⟩:=q7;exact⟨σ7,H7,I7.unpinned,q7⟩
  |ret v=>obtain⟨x7,σ7,H7,I7,r7,q7⟩:=q7;exact⟨x7,σ7,H7,I7.unpinned,r7,q7⟩
end
theorem for_list{K:W.Frag}{a:Addr}{xs:List V}{g:TG}{tb:TS}{D:Ends}{σ:St}{H:Hp}(Pv:Nat->St->Hp->Prop)(h0:Pv 0 σ H)(hl:∀i σ H,i<=xs.length->Pv i σ H->SqL K H a xs)
  (hs:∀i x σ H,xs[i]?=some x->Pv i σ H->g x σ H fun σ2 H2=>tb {D with nx:=Pv (i+1),ct:=Pv (i+1),bk:=D.nx} σ2 H2) (hd:∀σ H,Pv xs.length σ H->D.nx σ H):
  ∃W:Nat->Nat->St->Hp->Prop,(∃m,W 0 m σ H)/\∀i m σ H,W i m σ H->
   ((MB K a).stop i H/\D.nx σ H)\/((MB K a).go i H/\∃N:St->Hp->Prop,(∀σ' H',N σ' H'->∃m',m'<m/\W (i+1) m' σ' H')/\∀x H',(MB K a).yld i H x H'->g x σ H' fun σ2 H2=>tb {D with nx:=N,ct:=N,bk:=D.nx} σ2 H2):=by
 refine⟨fun i m σ H=>m=xs.length-i/\i<=xs.length/\Pv i σ H,⟨xs.length,by simp,QJ _,h0⟩,?_⟩;rintro i m σ H ⟨rfl,hi,p⟩;have q:=hl i σ H hi p;by_cases FH:i<xs.length
 ·refine .inr ⟨⟨xs,xs[i],q,by simp[FH]⟩,Pv (i+1),fun σ' H' p'=>⟨xs.length-(i+1),by lia,rfl,FH,p'⟩,fun x H' y=>?_⟩;obtain⟨e,y⟩:=y;subst e;exact hs i x σ _ (y xs q) p
 ·have e:i=xs.length:=by lia
  subst e;exact .inl ⟨⟨xs,q,P9 _⟩,hd σ H p⟩
abbrev R2:=V->V->Hp->VK->Prop
def F3(X:Cx)(f:Value->Value->Sem Value)(r:R2):Prop:=
 ∀(pi:List (Addr×Obj)) (s:Shared) (σ:St) (H:Hp) (x y:V) (v u:Value) (Q:VK),Inv X pi σ H s->RelV x v->RelV y u->r x y H Q->
  wpAny (model X.prog X.w) X.A (f v u) (EP X pi σ Q) X.xe s
def cZ(X:Cx)(f:Value)(r:List V->Hp->VK->Prop):Prop:=
 ∀(pi:List (Addr×Obj)) (s:Shared) (σ:St) (H:Hp) (xs:List V) (us:List Value) (Q:VK),Inv X pi σ H s->Vals xs us->r xs H Q->
  wpAny (model X.prog X.w) X.A (call f us) (EP X pi σ Q) X.xe s
def MC(r:R2)(ta tb:TE):TE:=fun σ H Q=>ta σ H fun x H1=>tb σ H1 fun y H2=>r x y H2 Q
def rI(C:Int->Int->Prop)(g:Int->Int->V):R2:=fun x y H Q=>∃i j,x=.int i/\y=.int j/\C i j/\Q (g i j) H
def MD(g:Int->Int->V):R2:=fun x y H Q=>∃i j,x=.int i/\y=.int j/\Q (g i j) H
section
variable{X:Cx}{a b c:Expr}{ta tb tc:TE}{pos:Pos}
theorem CO(ha:PE X a ta)(hb:PE X b tb){pi:List (Addr×Obj)}{s:Shared}{σ:St}{H:Hp}{R:V->V->Hp->Prop}(I:Inv X pi σ H s)
  (h:ta σ H fun x H1=>tb σ H1 fun y H2=>R x y H2) {Q:Value->Shared->Prop}{f:Value->Value->Sem Value}
  (hf:∀v u s2 x y H2,Inv X pi σ H2 s2->RelV x v->RelV y u->R x y H2->wpAny (model X.prog X.w) X.A (f v u) Q X.xe s2):
  wpAny (model X.prog X.w) X.A (eval a X.env) (fun v s₁=>wpAny (model X.prog X.w) X.A (eval b X.env) (fun u s₂=>wpAny (model X.prog X.w) X.A (f v u) Q X.xe s₂) X.xe s₁) X.xe s:=by
 refine Fy (ha pi s σ H _ I h) fun v s1 Fz=>?_
 obtain⟨x,H1,I1,r1,q1⟩:=Fz;refine Fy (hb pi s1 σ H1 _ I1 q1) fun u s2 Fz=>?_
 obtain⟨y,H2,I2,r2,q2⟩:=Fz;exact hf v u s2 x y H2 I2 r1 r2 q2
theorem CP{op:Operator}{r:R2}(ho:F3 X (binaryOp op) r)(ha:PE X a ta)(hb:PE X b tb):PE X (.BinOp a op b pos) (MC r ta tb):=by
 intro pi s σ H Q I h;exact wpAny_BinOp (CO ha hb I h fun v u s2 x y H2 I2 rx ry q=>ho pi s2 σ H2 x y v u Q I2 rx ry q)
theorem MT{f:Value->Value->Sem Value}{C:Int->Int->Prop}{g:Int->Int->Int}
  (rule:∀(i j:Int) (t u:Tok) (s:Shared) (Q:Value->Shared->Prop) (E:Value->Shared->Prop),C i j->Q (.int (g i j) s.toks) {s with toks:=s.toks+1}->wpAny (model X.prog X.w) X.A (f (.int i t) (.int j u)) Q E s):
  F3 X f (rI C fun i j=>.int (g i j)):=by
 intro pi s σ H x y v u Q I rx ry h;obtain⟨i,j,rfl,rfl,hc,q⟩:=h;obtain⟨t,rfl⟩:=rx;obtain⟨t',rfl⟩:=ry;exact rule i j t t' s _ _ hc ⟨.int (g i j),H,I.tok _,⟨_,rfl⟩,q⟩
theorem Eb{f:Value->Value->Sem Value}{g:Int->Int->Int}
  (rule:∀(i j:Int) (t u:Tok) (s:Shared) (Q:Value->Shared->Prop) (E:Value->Shared->Prop),Q (.int (g i j) s.toks) {s with toks:=s.toks+1}->wpAny (model X.prog X.w) X.A (f (.int i t) (.int j u)) Q E s):
  F3 X f (MD fun i j=>.int (g i j)):=by
 intro pi s σ H x y v u Q I rx ry h;obtain⟨i,j,rfl,rfl,q⟩:=h;obtain⟨t,rfl⟩:=rx;obtain⟨t',rfl⟩:=ry;exact rule i j t t' s _ _ ⟨.int (g i j),H,I.tok _,⟨_,rfl⟩,q⟩
theorem Ec{f:Value->Value->Sem Value}{g:Int->Int->Bool}
  (rule:∀(i j:Int) (t u:Tok) (s:Shared) (Q:Value->Shared->Prop) (E:Value->Shared->Prop),Q (.bool (g i j)) s->wpAny (model X.prog X.w) X.A (f (.int i t) (.int j u)) Q E s):
  F3 X f (MD fun i j=>.bl (g i j)):=by
 intro pi s σ H x y v u Q I rx ry h;obtain⟨i,j,rfl,rfl,q⟩:=h;obtain⟨t,rfl⟩:=rx;obtain⟨t',rfl⟩:=ry;exact rule i j t t' s _ _ ⟨.bl (g i j),H,I,rfl,q⟩
def EB(i j:Int):Prop:=0<j/\j<1073741824
def EC(i j:Int):Prop:=0<=j/\j<=1000000/\i.natAbs<2 ^ 64
def CMul(i j:Int):Prop:=(-(2 ^ 64)<i/\i<2 ^ 64)\/(-(2 ^ 64)<j/\j<2 ^ 64)
theorem CMul.ok{i j:Int}(h:CMul i j):IntMulOk i j:=by
 rcases h with⟨h1,h2⟩|⟨h1,h2⟩
 ·exact .of_left (intBits_le_64 h1 h2)
 ·exact .of_right (intBits_le_64 h1 h2)
theorem Ah:F3 X (binaryOp .Add) (MD fun i j=>.int (i+j)):=Eb fun _ _ _ _ _ _ _ q=>add_int q
theorem Ai:F3 X (binaryOp .Sub) (MD fun i j=>.int (i-j)):=Eb fun _ _ _ _ _ _ _ q=>sub_int q
theorem Aj:F3 X (binaryOp .Mult) (rI CMul fun i j=>.int (i*j)):=MT fun _ _ _ _ _ _ _ hc q=>mul_int q hc.ok
theorem xB:F3 X (binaryOp .FloorDiv) (rI EB fun i j=>.int (i / j)):=MT fun i j _ _ _ _ _ hc q=>by
 have h1:(0:Int)<j:=hc.1;have h2:j<1073741824:=hc.2;exact floordiv_int (by lia) (by rw[Int.fdiv_eq_ediv_of_nonneg i (by lia)];exact q) (.inl (PyProof.noPylong_small (by lia)))
theorem Ak:F3 X (binaryOp .Mod) (rI (fun _ j=>0<j) fun i j=>.int (i%j)):=MT fun i j _ _ _ _ _ hc q=>by
 have h1:(0:Int)<j:=hc;exact mod_int' (by lia) (by rw[Int.fmod_eq_emod_of_nonneg i (by lia)];exact q)
theorem Al:F3 X (binaryOp .Pow) (rI EC fun i j=>.int (i ^ j.toNat)):=MT fun _ _ _ _ _ _ _ hc q=>pow_int_small hc.1 hc.2.1 hc.2.2 q
end
section
variable{X:Cx}{a b c:Expr}{ta tb tc:TE}{pos:Pos}
theorem qX{pi:List (Addr×Obj)}{σ:St}{H:Hp}{s:Shared}{Q:VK}{k k':Bool}(I:Inv X pi σ H s)(q:Q (.bl k) H)(e:k=k'):EP X pi σ Q (.bool k') s:=by
 subst e;exact⟨.bl k,H,I,rfl,q⟩
theorem CQ:F3 X (compareOp .Lt) (MD fun i j=>.bl (decide (i<j))):=Ec fun _ _ _ _ _ _ _ q=>lt_int q
theorem CS:F3 X (compareOp .Gt) (MD fun i j=>.bl (decide (j<i))):=Ec fun _ _ _ _ _ _ _ q=>gt_int q
theorem qY:F3 X (compareOp .Lt) (fun x y H Q=>∃i j,x=.str i/\y=.str j/\Q (.bl (decide (i.cps.toList<j.cps.toList))) H):=by
 intro pi s σ H x y v u Q I rx ry h;obtain⟨i,j,rfl,rfl,q⟩:=h;obtain⟨t,rfl⟩:=rx;obtain⟨t',rfl⟩:=ry;exact lt_str (qX I q rfl)
theorem qZ:F3 X (compareOp .In) (fun x y H Q=>∃i j,x=.str i/\y=.str j/\Q (.bl (!(Builtin.Str.occurrences j i 0 j.length 1).isEmpty)) H):=by
 intro pi s σ H x y v u Q I rx ry h;obtain⟨i,j,rfl,rfl,q⟩:=h;obtain⟨t,rfl⟩:=rx;obtain⟨t',rfl⟩:=ry;exact in_str (qX I q rfl)
theorem l5:F3 X (compareOp .NotIn) (fun x y H Q=>∃i j,x=.str i/\y=.str j/\Q (.bl (!(!(Builtin.Str.occurrences j i 0 j.length 1).isEmpty))) H):=by
 intro pi s σ H x y v u Q I rx ry h;obtain⟨i,j,rfl,rfl,q⟩:=h;obtain⟨t,rfl⟩:=rx;obtain⟨t',rfl⟩:=ry;exact notIn_str (qX I q rfl)
theorem cV(b:Expr){op:CmpOp}(h:op≠.In:=by decide)(h2:op≠.NotIn:=by decide):behindInMarks op b=false:=by
 have e1:(op==CmpOp.In)=false:=by cases op <;> first|rfl|exact absurd rfl h
 have e2:(op==CmpOp.NotIn)=false:=by cases op <;> first|rfl|exact absurd rfl h2
 cases b <;> simp[behindInMarks,e1,e2]
theorem xC{op:CmpOp}{r:R2}(ho:F3 X (compareOp op) r)(ha:PE X a ta)(hb:PE X b tb)(hm:behindInMarks op b=false):PE X (.Compare a [op] [b] pos) (MC r ta tb):=by
 intro pi s σ H Q I h;exact wpAny_Compare1 (CO ha hb I h fun v u s2 x y H2 I2 rx ry q=>ho pi s2 σ H2 x y v u Q I2 rx ry q) hm
def CT(t:TE):TT:=fun σ H Q=>t σ H fun x H'=>∃k,x=.bl k/\Q k H'
theorem q0{op:CmpOp}{r:R2}(ho:F3 X (compareOp op) r)(ha:PE X a ta)(hb:PE X b tb)(hm:behindInMarks op b=false):PT X (.Compare a [op] [b] pos) (CT (MC r ta tb)):=by
 intro pi s σ H Q I h;refine wpAny_isTrue_Compare1 (Fy (ha pi s σ H _ I h) fun v s1 ⟨x,H1,I1,r1,q1⟩=>Fy (hb pi s1 σ H1 _ I1 q1) fun u s2 ⟨y,H2,I2,r2,q2⟩=>
  Fy (ho pi s2 σ H2 x y v u _ I2 r1 r2 q2) fun c s3 ⟨z,H3,I3,r3,k,e,q3⟩=>?_) hm
 subst e;cases r3;exact RO ⟨H3,I3,q3⟩
theorem kr:(sizeLine:Nat)<2 ^ 63:=by rw[Ri];decide
theorem qb:F3 X (binaryOp .Add) (fun x y H Q=>∃i j,x=.str i/\y=.str j/\i.length+j.length<=sizeLine/\Q (.str (i++j)) H):=by
 intro pi s σ H x y v u Q I rx ry h;obtain⟨i,j,rfl,rfl,hz,q⟩:=h;obtain⟨t,rfl⟩:=rx;obtain⟨t',rfl⟩:=ry;exact add_str (fun t' tk=>⟨.str (i++j),H,I.tok _,⟨_,rfl⟩,q⟩) hz
theorem dy{x:V}{us:List Value}(r:Vals [x] us):∃u,us=[u]/\RelV x u:=by
 cases r with
 |cons r1 r2=>cases r2;exact⟨_,rfl,r1⟩
theorem xD{x y:V}{us:List Value}(r:Vals [x,y] us):∃u w',us=[u,w']/\RelV x u/\RelV y w':=by
 cases r with
 |cons r1 r2=>
  cases r2 with
  |cons r3 r4=>cases r4;exact⟨_,_,rfl,r1,r3⟩
theorem q5(hc:X.calm=true):cZ X (.builtin "min") (fun xs H Q=>∃i j,xs=[.int i,.int j]/\Q (.int (if j<i then j else i)) H):=by
 intro pi s σ H xs us Q I r h;obtain⟨i,j,rfl,q⟩:=h;obtain⟨u,w',rfl,⟨t,rfl⟩,⟨t',rfl⟩⟩:=xD r;refine min_two_ints (I.ok.hd hc) fun h' tk k=>⟨_,H,I.kept k,?_,q⟩
 by_cases hj:j<i
 ·rw[Qa hj,Qa hj];exact⟨_,rfl⟩
 ·rw[Qf hj,Qf hj];exact⟨_,rfl⟩
end
section
variable{prog:Program}{w:World}{A:Around}{E:Value->Shared->Prop}{s:Shared}{K:W.Frag}{x dx C f:Addr}{mA:Str->Option Value}{name:Str}{v:Value}
end
theorem RelO.some_of{v:V}{o:Option Value}(r:RelO (some v) o):∃u,o=some u/\RelV v u:=by
 cases o with
 |none=>exact(show False from r).elim
 |some u=>exact⟨u,rfl,r⟩
section
variable{P:Program}{w:World}{H H':Hp}{h h':Heap}{a C dx:Addr}{fs fs':List (Str×V)}
end
section
variable{X:Cx}{pi:List (Addr×Obj)}{σ:St}{H:Hp}{s:Shared}{a C dx:Addr}{fs:List (Str×V)}{f:Str}{v:V}{A:Around}{E:Value->Shared->Prop}
end
section
variable{X:Cx}{o e value:Expr}{f:Str}{pos pos' tpos:Pos}{ta tv:TE}
end
section
variable{X:Cx}{pi:List (Addr×Obj)}{σ:St}{H:Hp}{s:Shared}{A:Around}{E:Value->Shared->Prop}{Q:Value->Shared->Prop}{c:Value}{b:Bool}
end
structure Room(k:Nat)(A:Around):Prop where
 hd:A.handled=none
 dp:A.depth+3*k+5<recursionLimit
 un:A.units+16*k+200<cLine
theorem Room.mono{j k:Nat}{A:Around}(r:Room k A)(h:j<=k):Room j A:=⟨r.hd,by have:=r.dp;lia,by have:=r.un;lia⟩
theorem Room.m{j k:Nat}{A:Around}(r:Room k A)(h:j<=k:=by decide):Room j A:=r.mono h
theorem Room.deeper{k:Nat}{A:Around}(r:Room (k+1) A)(env:Env):Room k (A.deeper env):=
 ⟨r.hd,by have:=r.dp;show A.depth+1+3*k+5<_;lia,by have:=r.un;show A.units+3+16*k+200<_;lia⟩
theorem Room.depth{k:Nat}{A:Around}(r:Room k A):A.depth<recursionLimit:=by have:=r.dp;lia
theorem Room.units{k:Nat}{A:Around}(r:Room k A):A.units+64<cLine:=by have:=r.un;lia
theorem Room.units0{k:Nat}{A:Around}(r:Room k A):A.units<cLine:=by have:=r.un;lia
def zI:TA:=fun _ H Q=>Q [] H
def qc(ta:TE)(tr:TA):TA:=fun σ H Q=>ta σ H fun x H1=>tr σ H1 fun xs H2=>Q (x::xs) H2
section
variable{X:Cx}{e:Expr}{es:List Expr}{te:TE}{t:TA}{pos:Pos}
theorem jj:PA X [] zI:=fun _ _ _ _ H Q I h=>Calls.spliced_nil ⟨[],H,I,.nil,h⟩
theorem eh(ha:PE X e te)(hr:PA X es t)(hs:starEach (e::es) X.env=(false,eval e X.env)::starEach es X.env:=by rfl):PA X (e::es) (qc te t):=by
 intro pos pi s σ H Q I h;rw[hs];show wpAny _ _ (spliced ((false,eval e X.env)::backTo pos (starEach es X.env))) _ _ s;refine Calls.spliced_cons (Fy (ha pi s σ H _ I h) fun u s1 Fz=>?_);obtain⟨x,H1,I1,r1,q1⟩:=Fz;exact Fy (hr pos pi s1 σ H1 _ I1 q1) fun us s2 ⟨xs,H2,I2,r2,q2⟩=>⟨x::xs,H2,I2,.cons r1 r2,q2⟩
def ED(t:TA):TE:=fun σ H Q=>t σ H fun xs H1=>xs.length<=sizeLine/\∀p,H1 p=none->Q (.ref p) (upd H1 p (.tup xs))
def EE(t:TA):TE:=fun σ H Q=>t σ H fun xs H1=>xs.length<=sizeLine/\∀p,H1 p=none->Q (.ref p) (upd H1 p (.lst xs))
theorem wz{x1}(h:PA X es t):PE X (.Tuple es x1 pos) (ED t):=by
 intro pi s σ H Q I hq;refine wpAny_Tuple_spliced (Fy (h pos pi s σ H _ I hq) fun us s1 ⟨xs,H1,I1,r,z,q⟩=>⟨by rw[<-r.length];exact z,?_⟩);have hf:H1 s1.heap.objs.size=none:=I1.hok.fresh (P9 _);refine⟨.ref s1.heap.objs.size,upd H1 s1.heap.objs.size (.tup xs),I1.laid (t':=s1.toks) (fun b u e=>Heap.get?_push_of_some _ e) (P9 _) ?_,rfl,q _ hf⟩;exact⟨z,us,r,⟨_,Heap.get?_push_size _ rfl,rfl,⟨_,rfl⟩,rfl⟩⟩
theorem Am(h:PA X es t):PE X (.List es pos) (EE t):=by
 intro pi s σ H Q I hq;refine wpAny_List_spliced (Fy (h pos pi s σ H _ I hq) fun us s1 ⟨xs,H1,I1,r,z,q⟩=>⟨by rw[<-r.length];exact z,?_⟩);have hf:H1 s1.heap.objs.size=none:=I1.hok.fresh (P9 _);refine⟨.ref s1.heap.objs.size,upd H1 s1.heap.objs.size (.lst xs),I1.laid (t':=s1.toks) (fun b u e=>Heap.get?_push_of_some _ e) (P9 _) ?_,rfl,q _ hf⟩;exact⟨z,us,0,r,Heap.get?_push_size _ rfl⟩
end
abbrev Sp:=List V->Hp->VK->XK->Prop
abbrev CXT:=List Env->Hp->Shared->XK->Value->Shared->Prop
structure Env0(P:Program)(w:World)(K:W.Frag)(mg:Str->Option Value)(base:Heap)(A:Around)(outer:List Env)(s:Shared)(H:Hp):Prop where
 frames:A.frames=some outer
 mod:Mod K mg base
 bs:∀b o,base.get? b=some o->s.heap.get? b=some o/\H b=none
 bsz:base.objs.size<=s.heap.objs.size
 funs:s.heap.FunFrames base outer
 frf:∀b∈Jz outer,H b=none
 hok:HOk P w H s.heap
 bare:AllBare s.gens
def CE(outer:List Env)(P:Program)(w:World)(H:Hp)(s:Shared)(Q:VK)(u:Value)(s':Shared):Prop:=
 ∃v H',s'.os=s.os/\AllBare s'.gens/\Un (Jz outer) [] H H' s.heap s'.heap/\HOk P w H' s'.heap/\RelV v u/\Q v H'
def CR(CX:CXT)(outer:List Env)(P:Program)(w:World)(H:Hp)(s:Shared)(Q:VK)(E:XK)(r:Result)(s':Shared):Prop:=
 match r with
 | .ok (.ret u)=>CE outer P w H s Q u s'
 | .ok _=>False
 | .error e=>CX outer H s E e s'
structure FnOk(P:Program)(w:World)(K:W.Frag)(mg:Str->Option Value)(base:Heap)(CX:CXT)(k:Nat)(f:Addr)(fd:FuncData)(ps:List Str)(sp:Sp):Prop where
 len:∀vs H Q E,sp vs H Q E->vs.length=ps.length
 run:∀(A:Around) (outer:List Env) (s:Shared) (H:Hp) (args:Args) (us:List Value) (vs:List V) (Q:VK) (E:XK),Room k A->Env0 P w K mg base A outer s H->BindsTo s fd args (ps.zip us)->Vals vs us->sp vs H Q E->
  codeAny (model P w) A (.call (.ref f) args) (CR CX outer P w H s Q E) s
theorem FnOk.imp{P:Program}{w:World}{K:W.Frag}{mg:Str->Option Value}{base:Heap}{CX:CXT}{k:Nat}{f:Addr}{fd:FuncData}{ps:List Str}{sp Ph:Sp}(F:FnOk P w K mg base CX k f fd ps sp)
  (h:∀vs H Q E,Ph vs H Q E->sp vs H Q E):FnOk P w K mg base CX k f fd ps Ph:=
 ⟨fun vs H Q E q=>F.len vs H Q E (h _ _ _ _ q),fun A outer s H args us vs Q E hr he hb hv hs=>F.run A outer s H args us vs Q E hr he hb hv (h _ _ _ _ hs)⟩
section
variable{X:Cx}{pi:List (Addr×Obj)}{σ:St}{H:Hp}{s s':Shared}
theorem Inv.env0(I:Inv X pi σ H s):Env0 X.prog X.w X.K X.mg X.base X.A X.stack s H:=
 ⟨I.ok.frames,I.ok.mod,I.bs,Rh I.ok.bsz I.sz,I.stack,I.stkFree,I.hok,I.bare⟩
theorem Inv.after{Q:VK}{u:Value}(I:Inv X pi σ H s)(h:CE X.stack X.prog X.w H s Q u s'):EP X pi σ Q u s':=by
 obtain⟨v,H',os,bare,un,hok,r,q⟩:=h;obtain⟨hh,g,d,t,os'⟩:=s';obtain rfl:os'=s.os:=os;exact⟨v,H',I.call (h':=hh) (g':=g) (d':=d) (t':=t) (ch:=[]) un hok bare (fun b z=>absurd z (by simp)),r,q⟩
end
def tCall(sp:Sp)(Lv:List V)(E:XK)(t:TA):TE:=fun σ H Q=>t σ H fun vs H1=>sp (vs++Lv) H1 Q E
def Binds(K:W.Frag)(fd:FuncData)(ps:List Str)(ds:List Value):Prop:=
 ∀(s:Shared) (us:List Value),K.In s.heap->(us++ds).length=ps.length->BindsTo s fd ⟨us,[]⟩ (ps.zip (us++ds))
theorem Binds.all{K:W.Frag}{fd:FuncData}{ps:List Str}(h:∀us:List Value,us.length=ps.length->bindArgs fd ⟨us,[]⟩=pure (ps.zip us)):Binds K fd ps []:=fun s us _ hl=>by
 rw[QR]at hl ⊢;exact .of_eq (h us hl)
def rg(CX:CXT)(X:Cx)(E:XK):Prop:=∀(pi:List (Addr×Obj)) (σ:St) (H:Hp) (s:Shared) (e:Value) (s':Shared),Inv X pi σ H s->CX X.stack H s E e s'->X.xe e s'
section
variable{X:Cx}{CX:CXT}{k:Nat}{f C:Addr}{fd:FuncData}{ps:List Str}{sp:Sp}{Lv:List V}{ds:List Value}{E:XK}{x m:Str}{p pos apos:Pos}{e o:Expr}{es:List Expr}{ta:TE}{t:TA}
theorem An{pi:List (Addr×Obj)}{σ:St}{H:Hp}{s:Shared}{Q:VK}{us:List Value}{vs:List V}(F:FnOk X.prog X.w X.K X.mg X.base CX k f fd ps sp)(hr:Room k X.A)(hb:Binds X.K fd ps ds)(hd:Vals Lv ds)(hx:rg CX X E)
  (I:Inv X pi σ H s) (r:Vals vs us) (h:sp (vs++Lv) H Q E):wpAny (model X.prog X.w) X.A (call (.ref f) us) (EP X pi σ Q) X.xe s:=by
 have r2:Vals (vs++Lv) (us++ds):=r.append hd;have hl:(us++ds).length=ps.length:=by rw[<-r2.length];exact F.len _ _ _ _ h
 refine wpAny_call (codeAny_mono (F.run X.A X.stack s H ⟨us,[]⟩ (us++ds) (vs++Lv) Q E hr I.env0 (hb s us I.kIn hl) r2 h) fun r s' hq=>?_);cases r with
 |error e=>exact hx pi σ H s e s' I hq
 |ok fl=>
  cases fl with
  |ret u=>exact I.after hq
  |next=>exact False.elim hq
  |brk=>exact False.elim hq
  |cont=>exact False.elim hq
theorem xE(F:FnOk X.prog X.w X.K X.mg X.base CX k f fd ps sp)(hr:Room k X.A)(hg:Gl X x)(hm:X.mg x=some (.ref f))(hk:PySem.W.keepIn X.K (.ref f)=true)(hb:Binds X.K fd ps ds)(hd:Vals Lv ds)(hx:rg CX X E)
  (ha:PA X (e::es) t) (HQ:(x==("__debug__" : Str))=false:=by decide) (he:starEach (e::es) X.env=(false,eval e X.env)::starEach es X.env:=by rfl) (Hh:(backTo pos (starEach es X.env)).any (·.1)=false:=by rfl):
  PE X (.Call (.Name x p) (e::es) [] pos) (tCall sp Lv E t):=by
 intro pi s σ H Q I h;refine RI (qS I hg hm ?_ HQ);refine PySem.W.callWith_K (h₀:=X.base) I.ok.mod.kin hk (Fy (ha pos pi s σ H _ I h) fun us s1 ⟨vs,H1,I1,r,q⟩=>⟨I1.kIn,?_⟩) he Hh;exact An F hr hb hd hx I1 r q
end
def PK(X:Cx)(MU:List Keyword)(t:TA):Prop:=
 ∀(pos:Pos) (pi:List (Addr×Obj)) (s:Shared) (σ:St) (H:Hp) (Q:List V->Hp->Prop),Inv X pi σ H s->t σ H Q->wpAny (model X.prog X.w) X.A (evalAll ((backToKw pos (keywordEach MU X.env)).map (·.2))) (AP X pi σ Q) X.xe s
section
variable{X:Cx}{CX:CXT}{k:Nat}{f C:Addr}{fd:FuncData}{ps ks:List Str}{sp:Sp}{E:XK}{x m:Str}{p pos apos Ij:Pos}{e o:Expr}{es:List Expr}{MU:List Keyword}{te ta:TE}{t tk:TA}{nm:Option Str}
theorem wA:PK X [] zI:=fun _ _ _ _ H Q I h=>wpAny_evalAll_nil ⟨[],H,I,.nil,h⟩
theorem rh(ha:PE X e te)(hr:PK X MU t):PK X (⟨nm,e,Ij⟩::MU) (qc te t):=by
 intro pos pi s σ H Q I h;show wpAny _ _ (evalAll ((do let v <-eval e X.env;standAt pos;pure v)::(backToKw pos (keywordEach MU X.env)).map (·.2))) _ _ s;refine wpAny_evalAll_cons (P2 (Fy (ha pi s σ H _ I h) fun u s1 ⟨x,H1,I1,r1,q1⟩=>P2 (UW (P4 ?_))));exact Fy (hr pos pi s1 σ H1 _ I1 q1) fun us s2 ⟨xs,H2,I2,r2,q2⟩=>⟨x::xs,H2,I2,.cons r1 r2,q2⟩
variable{g:List Value->List Value->List Value}{gV:List V->List V->List V}
end
structure FnScope(N P:List Str)(sc:Scope):Prop where
 kind:sc.kind=.function
 co:sc.isCoroutine=false
 gen:sc.isGenerator=false
 nd:N.Nodup
 pre:N.take P.length=P
 par:∀x∈P,sc.names.lookup x=some .local\/sc.names.lookup x=some .cell
 nofree:∀y∈sc.names,y.2≠.free
theorem fs{N P:List Str}{sc:Scope}(a:sc.kind=.function:=by rfl)(b:sc.isCoroutine=false:=by rfl)(c:sc.isGenerator=false:=by rfl)(d:N.Nodup:=by decide +kernel)(e:N.take P.length=P:=by rfl)(f:∀x∈P,sc.names.lookup x=some .local\/sc.names.lookup x=some .cell:=by decide +kernel)(g:∀y∈sc.names,y.2≠.free:=by decide +kernel):FnScope N P sc:=⟨a,b,c,d,e,f,g⟩
theorem l6{kindOf:Str->Option NameKind}{x:Str}:∀{binds:List (Str×Value)}{m:Str->Option Value},(∀v,(x,v)∉binds)->bindL kindOf binds m x=m x
 |[],_,_=>rfl
 |(n,v)::r,m,h=>by
  unfold bindL;rw[l6 fun w hw=>h w (Qg _ hw)];split
  ·have:x≠n:=by rintro rfl;exact h v P8
   simp[this]
  ·rfl
theorem l7{kindOf:Str->Option NameKind}{x:Str}:∀{binds:List (Str×Value)}{m:Str->Option Value},(∀v,(x,v)∉binds)->bindC kindOf binds m x=m x
 |[],_,_=>rfl
 |(n,v)::r,m,h=>by
  unfold bindC;rw[l7 fun w hw=>h w (Qg _ hw)];split
  ·rfl
  ·have:x≠n:=by rintro rfl;exact h v P8
   simp[this]
theorem l8{kindOf:Str->Option NameKind}{x:Str}{v:Value}:∀{P:List Str}{vs:List Value}{i:Nat}{m:Str->Option Value},P.Nodup->P[i]?=some x->vs[i]?=some v->kindOf x=some .local->
  bindL kindOf (P.zip vs) m x=some v
 |[],_,_,_,_,h,_,_=>by simp at h
 |_::_,[],_,_,_,_,h,_=>by simp at h
 |p::P,w::vs,0,m,nd,h1,h2,hk=>by
  simp at h1 h2;subst h1;subst h2;show bindL kindOf ((p,w)::P.zip vs) m p=_;unfold bindL;rw[l6 fun v hv=>(Qw.mp nd).1 (SD hv).1,Qa hk];simp
 |p::P,w::vs,i+1,m,nd,h1,h2,hk=>by
  show bindL kindOf ((p,w)::P.zip vs) m x=_;unfold bindL;exact l8 (i:=i) (Qw.mp nd).2 (by simpa using h1) (by simpa using h2) hk
theorem l9{kindOf:Str->Option NameKind}{x:Str}{v:Value}:∀{P:List Str}{vs:List Value}{i:Nat}{m:Str->Option Value},P.Nodup->P[i]?=some x->vs[i]?=some v->kindOf x≠some .local->
  bindC kindOf (P.zip vs) m x=some v
 |[],_,_,_,_,h,_,_=>by simp at h
 |_::_,[],_,_,_,_,h,_=>by simp at h
 |p::P,w::vs,0,m,nd,h1,h2,hk=>by
  simp at h1 h2;subst h1;subst h2;show bindC kindOf ((p,w)::P.zip vs) m p=_;unfold bindC;rw[l7 fun v hv=>(Qw.mp nd).1 (SD hv).1,Qf hk];simp
 |p::P,w::vs,i+1,m,nd,h1,h2,hk=>by
  show bindC kindOf ((p,w)::P.zip vs) m x=_;unfold bindC;exact l9 (i:=i) (Qw.mp nd).2 (by simpa using h1) (by simpa using h2) hk
def start(N:List Str)(vs:List V):St:=vs.map some++List.replicate (N.length-vs.length) none
noncomputable def wB(CX:CXT)(P:Program)(w:World)(K:W.Frag)(mg:Str->Option Value)(base:Heap)(N:List Str)(qual:Str)(scope:Scope)(f:Addr)(cd:Value)(A:Around)(outer:List Env)(s:Shared)(H:Hp)(E:XK):Cx where
 prog:=P
 w:=w
 K:=K
 mg:=mg
 base:=base
 A:=A.deeper (envOfC qual scope s.heap.objs.size f cd)
 N:=N
 s₀:=s
 H₀:=H
 env:=envOfC qual scope s.heap.objs.size f cd
 outer:=outer
 stack:=envOfC qual scope s.heap.objs.size f cd::outer
 ex:=[]
 calm:=true
 fn:=fun _=>true
 pn:=[]
 xe:=fun e s'=>wpAny (model P w) (A.deeper (envOfC qual scope s.heap.objs.size f cd)) (leaving (envOfC qual scope s.heap.objs.size f cd) e) (fun _ Ow=>CX outer H s E e Ow) (fun e' Ow=>CX outer H s E e' Ow) s'
theorem oX{sc:Scope}{n:Nat}{x:Str}(h:sc.names.lookup x=some .cell):∃c,(cellsFrom n sc.names []).lookup x=some c:=by
 have q:=Ud sc.names n [] (.inl h);exact Rr.mp q
theorem rj{CX:CXT}{P:Program}{w:World}{K:W.Frag}{mg:Str->Option Value}{base:Heap}{N ps:List Str}{qual:Str}{scope:Scope}{f:Addr}{cd:Value}{A:Around}{outer:List Env}{s s1:Shared}{H:Hp}{E:XK}{us:List Value}{vs:List V}
  (S:FnScope N ps scope) (hd:A.handled=none) (e0:Env0 P w K mg base A outer s H) (hl:vs.length=ps.length) (r:Vals vs us)
  (x:InCallC s s.heap.objs.size (bindL (envOfC qual scope s.heap.objs.size f cd).kindOf (ps.zip us) fun _=>none) (cellsFrom (s.heap.objs.size+1) scope.names []) (bindC (envOfC qual scope s.heap.objs.size f cd).kindOf (ps.zip us) fun _=>none) s1):
  Inv (wB CX P w K mg base N qual scope f cd A outer s H E) [] (start N vs) H s1:=by
 have Hh:ps.length<=N.length:=by have:=Rg List.length S.pre;rw[Qy]at this;lia
 obtain⟨h1,tk,rfl,hk⟩:=x.done;have MV:∀b:Addr,b∉(wB CX P w K mg base N qual scope f cd A outer s H E).ex:=fun b z=>absurd (show b∈([]:List Addr) from z) (by simp)
 refine⟨⟨e0.mod,S.kind,rfl,rfl,P9 _,fun y z c h1 h2=>?_,fun y hy=>?_,fun y c _ h=>?_,fun _=>hd,Around.frames_deeper e0.frames,.inr ⟨rfl,rfl⟩,fun b z=>absurd z (MV b),e0.bs,e0.bsz,fun b _ _=>MV b,fun b z=>absurd z (MV b),e0.funs,e0.frf⟩,
  rfl,e0.bare,Un.kept hk,⟨_,x.toInCall.ns,fun i y v h1 h2 h3=>?_⟩,fun y c h=>⟨_,x.cell y c h⟩,e0.hok.fresh (P9 _),fun y c h=>?_,fun p hp=>absurd (show p∈([]:List (Addr×Obj)) from hp) (by simp),e0.hok.kept hk,?_⟩
 ·exact name_of_addr x.apart (RS h1) (RS h2)
 ·have hy:scope.names.lookup y=some .cell\/scope.names.lookup y=some .free:=hy;rcases hy with hy|hy
  ·exact oX hy
  ·exact absurd rfl (S.nofree _ (RS hy))
 ·exact Um (x.above y c (RS h))
 ·have hi:i<vs.length:=by
   unfold start at h2;by_cases hi:i<vs.length
   ·exact hi
   ·rw[List.getElem?_append_right (by simpa using hi)]at h2;rw[List.getElem?_replicate]at h2;split at h2 <;> cases h2
  have ha:vs[i]?=some v:=by
   unfold start at h2;rw[List.getElem?_append_left (by simpa using hi),List.getElem?_map]at h2;cases e:vs[i]? with
   |none=>rw[e]at h2;cases h2
   |some a=>rw[e]at h2;cases h2;rfl
  obtain⟨u,hu,rv⟩:=r.get ha;have hp:ps[i]?=some y:=by
   rw[<-S.pre,List.getElem?_take_of_lt (by lia)];exact h1
  have Pj:ps.Nodup:=by rw[<-S.pre];exact S.nd.sublist (Tt _ _)
  refine⟨u,rv,?_⟩;rcases S.par y (Qj hp) with k|k
  ·exact .inl ⟨k,l8 Pj hp hu k⟩
  ·obtain⟨c,e⟩:=oX (n:=s.heap.objs.size+1) k;refine .inr ⟨.inl k,c,e,?_⟩;have q:=x.cell y c e;rw[l9 Pj hp hu (by show scope.names.lookup y≠_;rw[k];decide)]at q;exact q
 ·exact e0.hok.fresh (Um (x.above y c (RS h)))
 ·unfold start;show _=N.length;rw[QU,P5,List.length_replicate];lia
theorem CU{CX:CXT}{P:Program}{w:World}{K:W.Frag}{mg:Str->Option Value}{base:Heap}{k:Nat}{f:Addr}{name qual:Str}{params:Arguments}{body:List Stmt}{scope:Scope}{dV kV doc pm FK ct oc:Value}{an od:Option Addr}
  {Ks:Array (Option Value)}{N ps:List Str}{sp:Sp}(lk:K.lookup f=some ⟨oc,od,.func (PySem.W.fnOf name qual params body scope dV kV doc pm an FK ct),Ks⟩) (JZ:PySem.W.codeIn K FK qual=true) (S:FnScope N ps scope)
  (len:∀vs H Q E,sp vs H Q E->vs.length=ps.length)
  (J0:∀(A:Around) (outer:List Env) (s:Shared) (H:Hp) (vs:List V) (Q:VK) (E:XK),Room k (A.deeper (envOfC qual scope s.heap.objs.size f FK))->sp vs H Q E->
   ∃t,PSs (wB CX P w K mg base N qual scope f FK A outer s H E) body t/\t {nx:=fun _ H'=>Q .non H',rt:=Q} (start N vs) H):
  FnOk P w K mg base CX (k+1) f (PySem.W.fnOf name qual params body scope dV kV doc pm an FK ct) ps sp:=by
 refine⟨len,fun A outer s H args us vs Q E hr e0 hb r Lw=>?_⟩;have hl:=len _ _ _ _ Lw;have KX:K.In s.heap:=e0.mod.kin.keeps fun b o e=>(e0.bs b o e).1
 have lim:s.heap.NoLimit:=e0.mod.nolimit.keeps fun b o e=>(e0.bs b o e).1
 have HA:∀y∈ps.zip us,scope.names.lookup y.1=some .local\/(scope.names.lookup y.1=some .cell/\((cellsFrom (s.heap.objs.size+1) scope.names []).lookup y.1).isSome=true):=fun Fs hy=>by
  obtain⟨n,v⟩:=Fs;rcases S.par n (SD hy).1 with q|q
  ·exact .inl q
  ·exact .inr ⟨q,Ud _ _ _ (.inl q)⟩
 refine codeAny_call_function hr.depth (KX _ _ lk) rfl S.co S.gen rfl (PySem.W.codeRec_of KX JZ) (hb _ _ _ _ ?_);refine wpAny_newFunctionEnv_cells S.kind HA fun env he s1 x=>?_
 subst he;refine⟨lim.keeps x.toInCall.keep,codeAny_func ?_⟩;obtain⟨t,ht,hq⟩:=J0 A outer s H vs Q E (hr.deeper _) Lw;have I:Inv (wB CX P w K mg base N qual scope f FK A outer s H E) [] (start N vs) H s1:=rj S hr.hd e0 hl r x;refine Sy (ht [] s1 (start N vs) H _ I hq) (fun fl s' hs=>?_) fun e s' hs=>hs
 have fin:∀{σ':St}{H':Hp}{v:V}{u:Value},Inv (wB CX P w K mg base N qual scope f FK A outer s H E) [] σ' H' s'->RelV v u->Q v H'->CE outer P w H s Q u s':=
  fun{σ' H' v u} J rv q=>⟨v,H',J.os,J.bare,J.base,J.hok,rv,q⟩
 cases fl with
 |ret u=>
  obtain⟨v,σ',H',J,rv,q⟩:=hs;exact fin J rv q
 |next=>
  obtain⟨σ',H',J,q⟩:=hs;exact fin (v:=V.non) (u:=Value.none) J rfl q
 |brk=>
  obtain⟨_,_,_,q⟩:=hs;exact False.elim q
 |cont=>
  obtain⟨_,_,_,q⟩:=hs;exact False.elim q
section
variable{X:Cx}{x:Str}{p pos:Pos}{e:Expr}{es:List Expr}{t:TA}{id T:String}{r:List V->Hp->VK->Prop}
def Ox(r:List V->Hp->VK->Prop)(t:TA):TE:=fun σ H Q=>t σ H fun vs H1=>r vs H1 Q
theorem uM(hc:cZ X (.builtin id) r)(hg:Gl X x)(hm:X.mg x=none)(hv:bootBuiltins x=some (.builtin id))(ha:PA X (e::es) t)(hn:x≠"__name__":=by decide)(HQ:(x==("__debug__" : Str))=false:=by decide)
  (he:starEach (e::es) X.env=(false,eval e X.env)::starEach es X.env:=by rfl) (Hh:(backTo pos (starEach es X.env)).any (·.1)=false:=by rfl):PE X (.Call (.Name x p) (e::es) [] pos) (Ox r t):=by
 intro pi s σ H Q I h;refine RI (ji I hg hm hv ?_ hn HQ);exact PyProof.Rows.callWith_builtin1 (Fy (ha pos pi s σ H _ I h) fun us s1 ⟨vs,H1,I1,r1,q1⟩=>hc pi s1 σ H1 vs us Q I1 r1 q1) he Hh
theorem rl(hc:cZ X (.type T) r)(hg:Gl X x)(hm:X.mg x=none)(hv:bootBuiltins x=some (.type T))(ha:PA X (e::es) t)(hn:x≠"__name__":=by decide)(HQ:(x==("__debug__" : Str))=false:=by decide)
  (he:starEach (e::es) X.env=(false,eval e X.env)::starEach es X.env:=by rfl) (Hh:(backTo pos (starEach es X.env)).any (·.1)=false:=by rfl):PE X (.Call (.Name x p) (e::es) [] pos) (Ox r t):=by
 intro pi s σ H Q I h;refine RI (ji I hg hm hv ?_ hn HQ);exact RQ (Fy (ha pos pi s σ H _ I h) fun us s1 ⟨vs,H1,I1,r1,q1⟩=>hc pi s1 σ H1 vs us Q I1 r1 q1) he Hh
end
end L2
namespace HT
open PySem PyProof.Rows
section
open PySem.SeqAt
open PySem.AutoSeq1 (wpAny_loadPart')
open PySem.MeetsSeq PySem.MeetsSeq2 PySem.MeetsSeq3
end
section
variable{prog:Program}{w:World}{A:Around}{E:Value->Shared->Prop}{s:Shared}
theorem xF{t b:Addr}{vs ws:List Value}{Q:Value->Shared->Prop}(ht:IsTup s.heap t vs.toArray)(hb:IsTup s.heap b ws.toArray)(hv:vs≠[])
  (h1:ws=[]->Q (.ref t) s) (h2:ws≠[]->Q (.ref s.heap.objs.size) {s with heap:=s.heap.push {cls:=.type "tuple",data:=.seq (vs++ws).toArray}})
  (hsz:vs.length+ws.length<=sizeLine):wpAny (model prog w) A (binaryOp .Add (.ref t) (.ref b)) Q E s:=by
 obtain⟨⟨cls,dd,data,sl⟩,ho,hc,n,hd⟩:=id ht;obtain⟨⟨LH,Kt,data2,Ku⟩,Hx,Hf,n2,hd2⟩:=id hb;simp only at hc hd Hf hd2;subst hc hd Hf hd2;have e:vs.toArray++ws.toArray=(vs++ws).toArray:=by simp
 by_cases hw:ws=[]
 ·exact Up ⟨_,ho,rfl⟩ ⟨_,Hx,rfl⟩ T7 UX SN SE (Sz _ _)
   (tuple_addW1 t b vs.toArray ws.toArray n n2 dd Kt sl Ku (by simpa using hv) (by simp[hw])) ⟨ho,Hx,h1 hw⟩
 ·refine Up ⟨_,ho,rfl⟩ ⟨_,Hx,rfl⟩ T7 UX SN SE (Sz _ _)
   (tuple_addW2 t b vs.toArray ws.toArray n n2 dd Kt sl Ku (by simpa using hv) (by simpa using hw) (by rw[P6,P6];exact hsz)) ⟨ho,Hx,?_⟩
  rw[e];exact h2 hw
def sIx(n d:Nat):Option Int->Nat
 |none=>d
 |some v=>if v<0 then(v+(n:Int)).toNat else min v.toNat n
theorem oY(n d:Nat):sIx n d none=d:=rfl
theorem kR(n d k:Nat):sIx n d (some (k:Int))=min k n:=by
 show(if(k:Int)<0 then((k:Int)+(n:Int)).toNat else min (k:Int).toNat n)=min k n;rw[Qf (by lia),QL]
theorem rp(n d:Nat)(hd:d<=n)(o:Option Int):sIx n d o<=n:=by
 cases o with
 |none=>exact hd
 |some v=>
  show(if v<0 then(v+(n:Int)).toNat else min v.toNat n)<=n;by_cases hv:v<0
  ·rw[Qa hv];lia
  ·rw[Qf hv];exact Nat.min_le_right _ _
theorem rq(v:Int)(n d:Nat):(if v<0 then max (v+(n:Int)) 0 else min v (n:Int))=((sIx n d (some v):Nat):Int):=by
 show(if v<0 then max (v+(n:Int)) 0 else min v (n:Int))=(((if v<0 then(v+(n:Int)).toNat else min v.toNat n):Nat):Int)
 by_cases hv:v<0
 ·simp only[Qa hv];lia
 ·simp only[Qf hv];lia
theorem qe(lo hi:Option Int)(n:Nat):Builtin.Slice.sliceAdjust lo hi 1 (n:Int)=(((sIx n 0 lo:Nat):Int),((sIx n n hi:Nat):Int)):=by
 have h1:¬ ((1:Int)<0):=by lia
 unfold Builtin.Slice.sliceAdjust;simp only[h1,SS];refine Prod.ext ?_ ?_
 ·cases lo with
  |none=>rfl
  |some v=>exact rq v n 0
 ·cases hi with
  |none=>rfl
  |some v=>exact rq v n n
theorem qf(i j:Nat):Builtin.Slice.slicePlaces (i:Int) (j:Int) 1=j-i:=by
 unfold Builtin.Slice.slicePlaces;have h1:(1:Int)>0:=by lia
 simp only[h1,SF,Int.ediv_one];split <;> lia
theorem ku{v:Value}{o:Option Int}{Q:Option Int->Shared->Prop}(p:IsPart v o)(h:Q o s):wpAny (model prog w) A (Builtin.Slice.slicePartIndex v) Q E s:=by
 cases p with
 |none=>exact slicePart_none h
 |int i t=>exact slicePart_int h
theorem eZ{sl:Addr}{vl vu:Value}{lo hi:Option Int}{n:Nat}{Q:Int×Int×Nat->Shared->Prop}(hs:s.heap.IsSliceOf sl vl vu .none)(pl:IsPart vl lo)(pu:IsPart vu hi)
  (h:Q (((sIx n 0 lo:Nat):Int),1,sIx n n hi-sIx n 0 lo) s):wpAny (model prog w) A (Builtin.Slice.sliceApplied (.ref sl) (pure (n:Int))) Q E s:=by
 obtain⟨os,LI,N4,LJ⟩:=id hs;unfold Builtin.Slice.sliceApplied Builtin.Slice.sliceFields;refine P2 (P2 (Rx LI LJ (x:=vl) rfl (P2 (Rx LI LJ (x:=vu) rfl (P2 (Rx LI LJ (x:=.none) rfl (P4 ?_)))))));refine P2 (slicePart_none ?_);show wpAny _ _ (if((1:Int)==0)=true then _ else _) _ _ s;rw[Qf (by decide)];refine P2 (ku pl (P2 (ku pu (P2 (P4 ?_)))));show wpAny _ _ (match Builtin.Slice.sliceAdjust lo hi 1 (n:Int) with|(lo,hi)=>pure (lo,(1:Int),Builtin.Slice.slicePlaces lo hi 1)) _ _ s;rw[qe lo hi n];show wpAny _ _ (pure (((sIx n 0 lo:Nat):Int),(1:Int),Builtin.Slice.slicePlaces ((sIx n 0 lo:Nat):Int) ((sIx n n hi:Nat):Int) 1)) _ _ s;rw[qf];exact P4 h
theorem uN(xs:Array Value)(i k:Nat):((List.range k).filterMap fun(m:Nat)=>xs[((i:Int)+(m:Int)*1).toNat]?).toArray=((xs.toList.drop i).take k).toArray:=by
 have e:(fun(m:Nat)=>xs[((i:Int)+(m:Int)*1).toNat]?)=fun m=>xs[i+m]?:=by
  funext m
  have:((i:Int)+(m:Int)*1).toNat=i+m:=by lia
  rw[this]
 rw[e];have:=pick_run xs i k;rw[List.filterMap_map]at this;have e2:((fun x=>xs[x]?)∘fun x=>i+x)=fun m=>xs[i+m]?:=rfl
 rw[e2]at this;rw[this]
theorem ib{t sl:Addr}{items:Array Value}{vl vu:Value}{lo hi:Option Int}{Q:Value->Shared->Prop}(ht:IsTup s.heap t items)(hs:s.heap.IsSliceOf sl vl vu .none)(pl:IsPart vl lo)(pu:IsPart vu hi)
  (hw:¬ (sIx items.size 0 lo=0/\sIx items.size items.size hi=items.size))
  (h:Q (.ref s.heap.objs.size) {s with heap:=s.heap.push {cls:=.type "tuple",data:=.seq ((items.toList.drop (sIx items.size 0 lo)).take (sIx items.size items.size hi-sIx items.size 0 lo)).toArray}})
  (hsz:items.size<=sizeLine):wpAny (model prog w) A (getItem (.ref t) (.ref sl)) Q E s:=by
 have JA:sizeOk (.seq ((items.toList.drop (sIx items.size 0 lo)).take (sIx items.size items.size hi-sIx items.size 0 lo)).toArray):=by
  show((items.toList.drop (sIx items.size 0 lo)).take (sIx items.size items.size hi-sIx items.size 0 lo)).toArray.size<=sizeLine;rw[P6,Qy,RX,RB];lia
 have hj:sIx items.size items.size hi<=items.size:=rp _ _ (P9 _) hi;obtain⟨os,LI,N4,LJ⟩:=id hs;have Oy:s.TypeIs (.ref sl) "slice":=⟨os,LI,N4⟩
 unfold getItem;try with_reducible refine RG ?_
 first|refine P2 (P4 ?_)|skip
 refine P2 (wpAny_sequenceKey ht.typeIs (by decide) ?_);refine P2 (wpAny_callSpecial?_slot (name:=Str.ofString "__getitem__") ht.typeIs RD
  (Rk RD ht.typeIs entry_tuple_getitem ?_ (args_tuple_getitem _ _)))
 show wpAny _ _ (Builtin.Tuple.tupleItemsOf (.ref t) >>= _) _ _ s;refine P2 (tupleItemsOf_ ht ?_);refine P2 (SA Oy ?_);rw[Qa (by decide)];refine P2 (eZ hs pl pu ?_);have Pk:¬ ((((sIx items.size 0 lo:Nat):Int)==0&&(1:Int)==1&&(sIx items.size items.size hi-sIx items.size 0 lo)==items.size)=true):=by
  intro q;rw[Qo,Qo]at q;have q1:((sIx items.size 0 lo:Nat):Int)=0:=eq_of_beq q.1.1;have q2:sIx items.size items.size hi-sIx items.size 0 lo=items.size:=eq_of_beq q.2;exact hw ⟨by lia,by lia⟩
 show wpAny _ _ (if(((sIx items.size 0 lo:Nat):Int)==0&&(1:Int)==1&&(sIx items.size items.size hi-sIx items.size 0 lo)==items.size)=true then _ else _) _ _ s;rw[Qf Pk,uN];first
  |exact P2 (m:=Builtin.Tuple.tupleExact _) (Q1 (P4 ⟨_,rfl,P4 h⟩) JA)
  |exact P2 (m:=Builtin.Tuple.tupleExact _) (Q1 (P2 (P4 (P4 ⟨_,rfl,P4 h⟩))) JA)
  |exact P2 (P2 (m:=Builtin.Tuple.tupleExact _) (Q1 (P4 (P4 ⟨_,rfl,P4 h⟩)) JA))
  |exact P2 (P2 (m:=Builtin.Tuple.tupleExact _) (Q1 (P4 ⟨_,rfl,P4 h⟩) JA))
end
end HT
namespace L2
open PySem PySem.Spec PyProof.Rows
abbrev TO:=St->Hp->(Option Int->Hp->Prop)->Prop
def PO(X:Cx)(e:Option Expr)(t:TO):Prop:=
 ∀(pi:List (Addr×Obj)) (s:Shared) (σ:St) (H:Hp) (Q:Option Int->Hp->Prop),Inv X pi σ H s->t σ H Q->
  wpAny (model X.prog X.w) X.A (evalPart e X.env) (fun u s'=>∃o H',Inv X pi σ H' s'/\IsPart u o/\Q o H') X.xe s
def xG:TO:=fun _ H Q=>Q none H
def CV(t:TE):TO:=fun σ H Q=>t σ H fun x H1=>∃i,x=.int i/\Q (some i) H1
section
variable{X:Cx}{e:Expr}{te:TE}{lo hi:Option Expr}{tl th:TO}{pos p2:Pos}
theorem xH:PO X none xG:=by
 intro pi s σ H Q I h;rw[evalPart_none];exact P4 ⟨none,H,I,.none,h⟩
theorem xI(h:PE X e te):PO X (some e) (CV te):=by
 intro pi s σ H Q I hw;rw[evalPart_some];refine Fy (h pi s σ H _ I hw) fun u s1 Fz=>?_
 obtain⟨x,H1,I1,r1,q1⟩:=Fz;obtain⟨i,rfl,q⟩:=q1;obtain⟨t,rfl⟩:=r1;exact⟨some i,H1,I1,.int i t,q⟩
def LK(X:Cx)(r:V->Option Int->Option Int->Hp->VK->Prop):Prop:=
 ∀(pi:List (Addr×Obj)) (s:Shared) (σ:St) (H:Hp) (x:V) (v vl vu:Value) (lo hi:Option Int) (sl:Addr) (Q:VK),Inv X pi σ H s->RelV x v->s.heap.IsSliceOf sl vl vu .none->IsPart vl lo->IsPart vu hi->r x lo hi H Q->
  ∃T id,typeLookup (.type T) "__getitem__" = pure (some (.builtin id))/\s.TypeIs v T/\wpAny (model X.prog X.w) X.A (getItem v (.ref sl)) (EP X pi σ Q) X.xe s
def tSl(r:V->Option Int->Option Int->Hp->VK->Prop)(te:TE)(tl th:TO):TE:=fun σ H Q=>te σ H fun x H1=>tl σ H1 fun l H2=>th σ H2 fun u H3=>r x l u H3 Q
theorem uO{r:V->Option Int->Option Int->Hp->VK->Prop}(hr:LK X r)(he:PE X e te)(hl:PO X lo tl)(hu:PO X hi th):PE X (.Subscript e (.Slice lo hi none p2) pos) (tSl r te tl th):=by
 intro pi s σ H Q I h;refine Subscript_ (Fy (he pi s σ H _ I h) fun v s1 Fz=>?_);obtain⟨x,H1,I1,r1,q1⟩:=Fz;refine wpAny_Slice (Fy (hl pi s1 σ H1 _ I1 q1) fun vl s2 ⟨l,H2,I2,pl,q2⟩=>Fy (hu pi s2 σ H2 _ I2 q2) fun vu s3 Fz=>?_);obtain⟨u,H3,I3,pu,q3⟩:=Fz;rw[evalPart_none];refine P4 ?_;have I4:Inv X pi σ H3 {s3 with heap:=s3.heap.push {cls:=.type "slice",data:=.fields #[vl,vu,.none]}}:=I3.kept (t':=s3.toks) fun b ob q=>Heap.get?_push_of_some _ q
 obtain⟨T,id,hT,ht,hg⟩:=hr pi {s3 with heap:=s3.heap.push {cls:=.type "slice",data:=.fields #[vl,vu,.none]}} σ H3 x v vl vu l u s3.heap.objs.size Q I4 r1 (Heap.IsSliceOf.new ..) pl pu q3;show wpAny (model X.prog X.w) X.A (subscriptTail e (.Slice lo hi none p2) v (.ref s3.heap.objs.size)) (EP X pi σ Q) X.xe {s3 with heap:=s3.heap.push {cls:=.type "slice",data:=.fields #[vl,vu,.none]}};exact tail_any (ops:=[.ref s3.heap.objs.size,v]) ht hT hg (by with_unfolding_all rfl)
def wC(xs:List V)(lo hi:Option Int):List V:=(xs.drop (HT.sIx xs.length 0 lo)).take (HT.sIx xs.length xs.length hi-HT.sIx xs.length 0 lo)
theorem jk(xs:List V)(lo hi:Option Int):(wC xs lo hi).length<=xs.length:=by
 unfold wC;rw[Qy,RX];lia
def EF(K:W.Frag):V->Option Int->Option Int->Hp->VK->Prop:=fun x lo hi H Q=>∃a xs,x=.ref a/\SqT K H a xs/\
 ¬ (HT.sIx xs.length 0 lo=0/\HT.sIx xs.length xs.length hi=xs.length)/\∀p,H p=none->Q (.ref p) (upd H p (.tup (wC xs lo hi)))
theorem Ao:LK X (EF X.K):=by
 intro pi s σ H x v vl vu lo hi sl Q I rx hs pl pu h;obtain⟨a,xs,rfl,hx,hw,q⟩:=h;cases rx;obtain⟨Fg,r,ht,hz⟩:=I.tuple hx;have hlen:Fg.toArray.size=xs.length:=by rw[P6];exact r.length.symm
 refine⟨"tuple",_,PyProof.Rows.slot_tuple_getitem.lookup,ht.typeIs,?_⟩;refine HT.ib ht hs pl pu (by rw[hlen];exact hw) ?_ (by rw[hlen];exact hz);rw[hlen];refine⟨.ref s.heap.objs.size,_,I.laid (t':=s.toks) (o:=.tup (wC xs lo hi)) (fun b ob q=>Heap.get?_push_of_some _ q) (P9 _) ?_,rfl,q _ (I.hok.fresh (P9 _))⟩;exact⟨Rh (jk xs lo hi) hz,_,(r.drop (HT.sIx xs.length 0 lo)).take (HT.sIx xs.length xs.length hi-HT.sIx xs.length 0 lo),IsTupN.new _ _⟩
def CW(K:W.Frag):R2:=fun x y H Q=>∃a b xs ys,x=.ref a/\y=.ref b/\SqT K H a xs/\SqT K H b ys/\xs≠[]/\xs.length+ys.length<=sizeLine/\
 (ys=[]->Q (.ref a) H)/\(ys≠[]->∀p,H p=none->Q (.ref p) (upd H p (.tup (xs++ys))))
theorem Vals.nil_iff{xs:List V}{us:List Value}(r:Vals xs us):us=[]<->xs=[]:=by
 cases r with
 |nil=>simp
 |cons _ _=>simp
theorem xJ:F3 X (binaryOp .Add) (CW X.K):=by
 intro pi s σ H x y v u Q I rx ry h;obtain⟨a,b,xs,ys,rfl,rfl,ha,hb,hx,hz,q1,q2⟩:=h;cases rx;cases ry;obtain⟨Fg,r1,p1,_⟩:=I.tuple ha;obtain⟨JI,r2,p2,_⟩:=I.tuple hb;refine HT.xF p1 p2 (fun z=>hx (r1.nil_iff.mp z)) (fun z=>⟨.ref a,H,I,rfl,q1 (r2.nil_iff.mp z)⟩) (fun z=>?_) (by rw[<-r1.length,<-r2.length];exact hz);refine⟨.ref s.heap.objs.size,_,I.laid (t':=s.toks) (o:=.tup (xs++ys)) (fun b ob q=>Heap.get?_push_of_some _ q) (P9 _) ?_,rfl,q2 (fun w=>z (r2.nil_iff.mpr w)) _ (I.hok.fresh (P9 _))⟩;exact⟨by rw[QU];exact hz,_,r1.append r2,IsTupN.new _ _⟩
end
def ixN(n:Nat)(i:Int):Option Nat:=if 0<=i then(if i<n then some i.toNat else none) else if -(n:Int)<=i then some (i+n).toNat else none
def Gw{α:Type}(xs:List α)(i:Int):Option α:=(ixN xs.length i).bind fun j=>xs[j]?
theorem rA{n:Nat}{i:Int}{j:Nat}(h:ixN n i=some j):seqIndex? i n=some j/\j<n/\-(n:Int)<=i/\i<n:=by
 unfold ixN at h;by_cases h0:0<=i
 ·rw[Qa h0]at h;by_cases h1:i<n
  ·rw[Qa h1]at h;have e:i.toNat=j:=Qu h;exact⟨by rw[seqIndex_of h0 h1,e],by lia,by lia,h1⟩
  ·rw[Qf h1]at h;cases h
 ·rw[Qf h0]at h;by_cases h1:-(n:Int)<=i
  ·rw[Qa h1]at h;have e:(i+n).toNat=j:=Qu h;exact⟨by rw[seqIndex_neg (by lia) h1,e],by lia,h1,by lia⟩
  ·rw[Qf h1]at h;cases h
theorem nU{α:Type}{xs:List α}{i:Int}{v:α}(h:Gw xs i=some v):∃j,seqIndex? i xs.length=some j/\xs[j]?=some v/\j<xs.length/\-(xs.length:Int)<=i/\i<xs.length:=by
 unfold Gw at h;cases e:ixN xs.length i with
 |none=>rw[e]at h;cases h
 |some j=>
  rw[e]at h;obtain⟨h1,h2,h3,h4⟩:=rA e;exact⟨j,h1,h,h2,h3,h4⟩
theorem dA{α:Type}{xs:List α}{j:Nat}{v:α}(h:xs[j]?=some v):Gw xs (j:Int)=some v:=by
 have hj:j<xs.length:=(List.getElem?_eq_some_iff.mp h).1;have e:ixN xs.length (j:Int)=some j:=by
  unfold ixN;rw[Qa (by lia),Qa (by lia)];simp
 unfold Gw;rw[e];exact h
def nV(b:Expr):Prop:=∀o i,subscripted b false o i=operate [o,i] (getItem o i)
def MW(X:Cx)(r:R2):Prop:=
 ∀(value slice:Expr) (pi:List (Addr×Obj)) (s:Shared) (σ:St) (H:Hp) (x y:V) (v u:Value) (Q:VK),Inv X pi σ H s->RelV x v->RelV y u->r x y H Q->
  subscripted slice false v u=operate [v,u] (getItem v u)->wpAny (model X.prog X.w) X.A (subscriptTail value slice v u) (EP X pi σ Q) X.xe s
def KC(X:Cx)(id:String)(r:V->List V->Hp->VK->Prop):Prop:=
 ∀(pi:List (Addr×Obj)) (s:Shared) (σ:St) (H:Hp) (x:V) (xs:List V) (v:Value) (us:List Value) (Q:VK),Inv X pi σ H s->RelV x v->Vals xs us->r x xs H Q->
  wpAny (model X.prog X.w) X.A (call (.builtin id) (v::us)) (EP X pi σ Q) X.xe s
section
variable{X:Cx}{a b:Expr}{ta tb:TE}{pos:Pos}
theorem Ap{r:R2}(hr:MW X r)(ha:PE X a ta)(hb:PE X b tb)(hs:nV b):PE X (.Subscript a b pos) (MC r ta tb):=by
 intro pi s σ H Q I h;exact Subscript_ (CO ha hb I h fun v u s2 x y H2 I2 rx ry q=>hr a b pi s2 σ H2 x y v u Q I2 rx ry q (hs _ _))
def EG(K:W.Frag):R2:=fun x y H Q=>∃p xs i v,x=.ref p/\y=.int i/\SqL K H p xs/\Gw xs i=some v/\Q v H
def EH(K:W.Frag):R2:=fun x y H Q=>∃p xs i v,x=.ref p/\y=.int i/\SqT K H p xs/\Gw xs i=some v/\Q v H
def EI:R2:=fun x y H Q=>∃z i c,x=.str z/\y=.int i/\z.length<=sizeLine/\Gw z.cps.toList i=some c/\Q (.str ⟨#[c]⟩) H
theorem rB:MW X (EG X.K):=by
 intro value slice pi s σ H x y v u Q I rx ry h hs;obtain⟨p,xs,i,z,rfl,rfl,hq,he,q⟩:=h;cases rx;obtain⟨t,rfl⟩:=ry;obtain⟨Fg,r,pl,hz⟩:=I.list hq;obtain⟨j,h1,h2,h3,h4,h5⟩:=nU he;obtain⟨w,ew,JJ⟩:=r.get h2;have hl:=r.length;have hn:=kr;have fin:EP X pi σ Q w s:=⟨z,H,I,JJ,q⟩
 by_cases h0:0<=i
 ·have hj:i.toNat=j:=by
   rw[seqIndex_of h0 h5]at h1;exact Qu h1
  exact item_listR pl.isList h0 (by lia) (by rw[hj];simpa using ew) fin hs
 ·have hj:(i+(Fg.toArray.size:Int)).toNat=j:=by
   rw[seqIndex_neg (by lia) h4]at h1;rw[P6,<-hl];exact Qu h1
  exact subscriptTail_builtinR (x:=w) pl.isList.typeIs slot_list_getitem.lookup
   (wpAny_getItem_list_neg (Q:=fun r s'=>r=w/\EP X pi σ Q r s') pl.isList (by lia) (by rw[P6] <;> lia) (by lia) (by rw[hj];simpa using ew) ⟨rfl,fin⟩) hs
theorem Aq:MW X (EH X.K):=by
 intro value slice pi s σ H x y v u Q I rx ry h hs;obtain⟨p,xs,i,z,rfl,rfl,hq,he,q⟩:=h;cases rx;obtain⟨t,rfl⟩:=ry;obtain⟨Fg,r,pl,hz⟩:=I.tuple hq;obtain⟨j,h1,h2,h3,h4,h5⟩:=nU he;obtain⟨w,ew,JJ⟩:=r.get h2;have hl:=r.length;have hn:=kr;have fin:EP X pi σ Q w s:=⟨z,H,I,JJ,q⟩
 exact subscriptTail_builtinR (x:=w) pl.typeIs slot_tuple_getitem.lookup
  (getItem_tuple (j:=j) (Q:=fun r s'=>r=w/\EP X pi σ Q r s') pl (by lia) (by lia) (by rw[P6,<-hl];exact h1) (by simpa using ew) ⟨rfl,fin⟩) hs
theorem Ar:MW X EI:=by
 intro value slice pi s σ H x y v u Q I rx ry h hs;obtain⟨z,i,c,rfl,rfl,hz,he,q⟩:=h;obtain⟨t,rfl⟩:=rx;obtain⟨t',rfl⟩:=ry;obtain⟨j,h1,h2,h3,h4,h5⟩:=nU he;have hl:z.cps.toList.length=z.length:=by simp[Str.length]
 rw[hl]at h1 h4 h5;have hn:=kr;exact tail_any (UC s z t) slot_str_getitem.lookup (getItem_str (c:=c) (by
  have e1:decide (i < -(2 ^ 63:Int))=false:=QB (by lia);have e2:decide (i>=2 ^ 63)=false:=QB (by lia);rw[e1,e2,Bool.or_false]) (by rw[h1];simpa using h2) ⟨.str ⟨#[c]⟩,H,I.tok _,⟨_,rfl⟩,q⟩) hs
theorem qg(Fg:List Value)(n j:Nat)(u:Value):Obj.mapSeq (·.setIfInBounds j u) {cls:=.type "list",data:=.seq Fg.toArray n}={cls:=.type "list",data:=.seq (Fg.set j u).toArray n}:=by
 simp[Obj.mapSeq]
theorem Inv.lst{pi:List (Addr×Obj)}{σ:St}{H:Hp}{s:Shared}{p:Addr}{xs:List V}(I:Inv X pi σ H s)(h:H p=some (.lst xs)):
  ∃(Fg:List Value) (n:Nat),Vals xs Fg/\s.heap.get? p=some {cls:=.type "list",data:=.seq Fg.toArray n}/\xs.length<=sizeLine:=by
 obtain⟨z,Fg,n,r,e⟩:=I.hok p _ h;exact⟨Fg,n,r,e,z⟩
theorem Inv.lstUpd{pi:List (Addr×Obj)}{σ:St}{H:Hp}{s:Shared}{p:Addr}{xs ys:List V}{Fg its':List Value}{n n':Nat}{f:Obj->Obj}(I:Inv X pi σ H s)(h:H p=some (.lst xs))
  (ho:s.heap.get? p=some {cls:=.type "list",data:=.seq Fg.toArray n}) (hf:f {cls:=.type "list",data:=.seq Fg.toArray n}={cls:=.type "list",data:=.seq its'.toArray n'}) (r:Vals ys its') (hz:ys.length<=sizeLine) (t:Nat):
  Inv X pi σ (upd H p (.lst ys)) {s with heap:=s.heap.update p f,toks:=t}:=by
 have e:(s.heap.update p f).get? p=some {cls:=.type "list",data:=.seq its'.toArray n'}:=by
  rw[Heap.get?_update_self f ho (by rw[hf] <;> rfl),hf]
 refine I.write (x:=p) (e:=p) (by rw[h];trivial) (.inl rfl) (fun b u hb q=>(Heap.get?_update_other _ _ (Rv hb)).trans q) ⟨_,e⟩ ?_;exact⟨hz,its',n',r,e⟩
def As:V->V->V->Hp->(Hp->Prop)->Prop:=fun o i v H Q=>∃p xs k j,o=.ref p/\i=.int k/\H p=some (.lst xs)/\ixN xs.length k=some j/\Q (upd H p (.lst (xs.set j v)))
theorem uP:Ew X As:=by
 intro pi s σ H o i v ov iv u Q I ro ri rv h;obtain⟨p,xs,k,j,rfl,rfl,hp,hj,q⟩:=h;cases ro;obtain⟨t,rfl⟩:=ri;obtain⟨Fg,n,r,ho,hz⟩:=I.lst hp;obtain⟨h1,h2,h3,h4⟩:=rA hj;have hl:=r.length;have hn:=kr;have I':Inv X pi σ (upd H p (.lst (xs.set j v))) {s with heap:=s.heap.update p (Obj.mapSeq (·.setIfInBounds j u))}:=
  I.lstUpd hp ho (qg Fg n j u) (r.set rv j) (by rw[R8];exact hz) s.toks
 by_cases h0:0<=k
 ·have hk:k.toNat=j:=by
   rw[seqIndex_of h0 h4]at h1;exact Qu h1
  exact PySem.W.ki_setAt ho h0 (by lia) (by rw[P6,<-hl];exact h4) (by rw[hk];exact⟨_,I',q⟩)
 ·have hk:(k+(Fg.toArray.size:Int)).toNat=j:=by
   rw[seqIndex_neg (by lia) h3]at h1;rw[P6,<-hl];exact Qu h1
  exact PySem.W.ki_setBack ho (by lia) (by rw[P6,<-hl];exact h3) (by lia) (by rw[hk];exact⟨_,I',q⟩)
theorem ma(lo hi:Option Int)(n:Nat):(sliceBounds lo hi none n).1=((HT.sIx n 0 lo:Nat):Int)/\(sliceBounds lo hi none n).2.1=((HT.sIx n n hi:Nat):Int)/\(sliceBounds lo hi none n).2.2=1:=by
 refine⟨?_,?_,rfl⟩
 ·cases lo with
  |none=>simp[sliceBounds,HT.sIx]
  |some i=>
   simp only[sliceBounds,HT.sIx,T8,show(1:Int)>0 by decide,SF];by_cases h:i<0
   ·simp only[h,SF] <;> lia
   ·simp only[h,SS] <;> lia
 ·cases hi with
  |none=>simp[sliceBounds,HT.sIx]
  |some i=>
   simp only[sliceBounds,HT.sIx,T8,show(1:Int)>0 by decide,SF];by_cases h:i<0
   ·simp only[h,SF] <;> lia
   ·simp only[h,SS] <;> lia
theorem kS(Fg:List Value)(lo hi:Option Int):slicePick Fg.toArray lo hi none=((Fg.drop (HT.sIx Fg.length 0 lo)).take (HT.sIx Fg.length Fg.length hi-HT.sIx Fg.length 0 lo)).toArray:=by
 obtain⟨h1,h2,h3⟩:=ma lo hi Fg.toArray.size;unfold slicePick;rw[h1,h2,h3];simp only[sliceRange_one,pick_run,P6] <;> rfl
def EJ(K:W.Frag):V->Option Int->Option Int->Hp->VK->Prop:=fun x lo hi H Q=>∃a xs,x=.ref a/\SqL K H a xs/\∀p,H p=none->Q (.ref p) (upd H p (.lst (wC xs lo hi)))
theorem xK:LK X (EJ X.K):=by
 intro pi s σ H x v vl vu lo hi sl Q I rx hs pl pu h;obtain⟨a,xs,rfl,hx,q⟩:=h;cases rx;obtain⟨Fg,r,ht,hz⟩:=I.list hx;have hlen:=r.length;refine⟨"list",_,slot_list_getitem.lookup,ht.isList.typeIs,?_⟩;refine Tu ht.isList hs pl pu .none (by simp) ?_ (by rw[P6] <;> lia);rw[kS,<-hlen];refine⟨.ref s.heap.objs.size,_,I.laid (t':=s.toks) (o:=.lst (wC xs lo hi)) (fun b ob q=>Heap.get?_push_of_some _ q) (P9 _) ?_,rfl,q _ (I.hok.fresh (P9 _))⟩;exact⟨Rh (jk xs lo hi) hz,_,0,(r.drop (HT.sIx xs.length 0 lo)).take (HT.sIx xs.length xs.length hi-HT.sIx xs.length 0 lo),Heap.get?_push_size _ rfl⟩
def uQ:V->Bool
 | .non=>true
 | .bl _=>true
 | .int _=>true
 | .str _=>true
 |_=>false
def Oz:V->V->Bool
 | .non,.non=>true
 | .bl a,.bl b=>a==b
 | .bl a,.int b=>(if a then 1 else 0)==b
 | .int a,.bl b=>a==(if b then 1 else 0)
 | .int a,.int b=>a==b
 | .str a,.str b=>a==b
 |_,_=>false
theorem wF{A:Around}{s:Shared}{y x:V}{u v:Value}(ry:RelV y u)(rx:RelV x v)(fy:uQ y=true)(fx:uQ x=true):SeqAt.EqAt A s u v (Oz y x):=by
 cases y with
 |non=>
  cases ry;cases x with
  |non=>cases rx;exact SeqAt.EqAt.same _
  |bl b=>cases rx;exact SeqAt.EqAt.none_bool b
  |int b=>obtain⟨t,rfl⟩:=rx;exact SeqAt.EqAt.none_int b t
  |str b=>obtain⟨t,rfl⟩:=rx;exact SeqAt.EqAt.none_str b t
  |_=>exact absurd (show false=true from fx) Qb
 |bl a=>
  cases ry;cases x with
  |non=>cases rx;exact SeqAt.EqAt.bool_none a
  |bl b=>cases rx;exact SeqAt.EqAt.bool_bool a b
  |int b=>obtain⟨t,rfl⟩:=rx;exact SeqAt.EqAt.bool_int a b t
  |str b=>obtain⟨t,rfl⟩:=rx;exact SeqAt.EqAt.bool_str a b t
  |_=>exact absurd (show false=true from fx) Qb
 |int a=>
  obtain⟨t',rfl⟩:=ry;cases x with
  |non=>cases rx;exact SeqAt.EqAt.int_none a t'
  |bl b=>cases rx;exact SeqAt.EqAt.int_bool a t' b
  |int b=>obtain⟨t,rfl⟩:=rx;exact SeqAt.EqAt.int_int a t' b t
  |str b=>obtain⟨t,rfl⟩:=rx;exact SeqAt.EqAt.int_str a t' b t
  |_=>exact absurd (show false=true from fx) Qb
 |str a=>
  obtain⟨t',rfl⟩:=ry;cases x with
  |non=>cases rx;exact SeqAt.EqAt.str_none a t'
  |bl b=>cases rx;exact SeqAt.EqAt.str_bool a t' b
  |int b=>obtain⟨t,rfl⟩:=rx;exact SeqAt.EqAt.str_int a t' b t
  |str b=>obtain⟨t,rfl⟩:=rx;exact SeqAt.EqAt.str_str a t' b t
  |_=>exact absurd (show false=true from fx) Qb
 |_=>exact absurd (show false=true from fy) Qb
theorem iH:cZ X (.builtin "len") (fun xs H Q=>∃p ys,xs=[.ref p]/\(SqL X.K H p ys\/SqT X.K H p ys)/\Q (.int ys.length) H):=by
 intro pi s σ H xs us Q I r h;obtain⟨p,ys,rfl,hq,q⟩:=h;obtain⟨u,rfl,rx⟩:=dy r;cases rx;have hn:=kr;rcases hq with hq|hq
 ·obtain⟨Fg,r',pl,hz⟩:=I.list hq;have hlen:=r'.length;exact Calls.call_len_list pl.isList (by simp only[P6] <;> lia) ⟨.int ys.length,H,I.tok _,⟨s.toks+1,by rw[P6,hlen]⟩,q⟩
 ·obtain⟨Fg,r',pl,hz⟩:=I.tuple hq;have hlen:=r'.length;exact len_tuple pl (by simp only[P6] <;> lia) ⟨.int ys.length,H,I.tok _,⟨s.toks+1,by rw[P6,hlen]⟩,q⟩
theorem me:cZ X (.builtin "len") (fun xs H Q=>∃z,xs=[.str z]/\z.length<=sizeLine/\Q (.int z.length) H):=by
 intro pi s σ H xs us Q I r h;obtain⟨z,rfl,hz,q⟩:=h;obtain⟨u,rfl,t,rfl⟩:=dy r;have hn:=kr;exact len_str (by lia) ⟨.int z.length,H,I.tok _,⟨_,rfl⟩,q⟩
theorem gT:cZ X (.type "tuple") (fun xs H Q=>∃p ys,xs=[.ref p]/\((SqL X.K H p ys/\∀l,H l=none->Q (.ref l) (upd H l (.tup ys)))\/(SqT X.K H p ys/\Q (.ref p) H))):=by
 intro pi s σ H xs us Q I r h;obtain⟨p,ys,rfl,h⟩:=h;obtain⟨u,rfl,rx⟩:=dy r;cases rx;rcases h with⟨hq,q⟩|⟨hq,q⟩
 ·obtain⟨Fg,r',pl,hz⟩:=I.list hq;have hlen:=r'.length;refine call_tuple_list pl.isList (fun h' kp=>?_) (by simp only[P6] <;> lia);have I1:Inv X pi σ H {s with heap:=h'}:=I.kept (t':=s.toks) kp;have I2:Inv X pi σ (upd H h'.objs.size (.tup ys)) {s with heap:=h'.push {cls:=.type "tuple",data:=.seq Fg.toArray}}:=
   I1.laid (t':=s.toks) (fun b o e=>Heap.get?_push_of_some _ e) (P9 _) (show ObjOk X.prog X.w _ _ _ (.tup ys) from⟨hz,Fg,r',IsTupN.new _ _⟩)
  exact⟨.ref h'.objs.size,_,I2,rfl,q _ (I1.hok.fresh (P9 _))⟩
 ·obtain⟨Fg,r',pl,hz⟩:=I.tuple hq;exact call_tuple_same pl ⟨.ref p,H,I,rfl,q⟩
def OA(K:W.Frag)(T:String)(x:V)(H:Hp):Prop:=match x with
 | .str _=>T = "str"
 | .int _=>T = "int"
 | .ref p=>(T = "list"/\∃xs,SqL K H p xs)\/(T = "tuple"/\∃o,K.lookup p=some o/\o.cls=.type "tuple"/\o.dict=none)\/
   (T = "dict"/\((∃Ff,H p=some (.dK Ff))\/∃Ff,H p=some (.dT Ff)))\/(T = "set"/\∃S n,H p=some (.set S n))
 |_=>False
theorem Au{pi:List (Addr×Obj)}{σ:St}{H:Hp}{s:Shared}{T:String}{x:V}{v:Value}(I:Inv X pi σ H s)(r:RelV x v)(ty:OA X.K T x H):
  s.TypeIs v T/\∀a,v=.ref a->∃ob,s.heap.get? a=some ob/\ob.dict=none:=by
 cases x with
 |str z=>
  obtain⟨t,rfl⟩:=r;cases(show T = "str" from ty);exact⟨UC s z t,fun _ e=>nomatch e⟩
 |int i=>
  obtain⟨t,rfl⟩:=r;cases(show T = "int" from ty);exact⟨UD s i t,fun _ e=>nomatch e⟩
 |ref p=>
  cases r;rcases ty with⟨rfl,xs,hq⟩|⟨rfl,o,hk,hc,hd⟩|⟨rfl,hk⟩|⟨rfl,S,n,hk⟩
  ·obtain⟨Fg,_,pl,_⟩:=I.list hq;refine⟨pl.isList.typeIs,fun a e=>?_⟩;cases e;obtain⟨o,n,e,c,hd,_⟩:=pl;exact⟨o,e,hd⟩
  ·refine⟨⟨o,I.kIn p o hk,hc⟩,fun a e=>?_⟩;cases e;exact⟨o,I.kIn _ o hk,hd⟩
  ·have z:∃o,s.heap.get? p=some o/\o.ExactDict:=by
    rcases hk with⟨Ff,hk⟩|⟨Ff,hk⟩
    ·obtain⟨_,_,_,_,o,_,_,e,ex,_⟩:=I.hok p _ hk;exact⟨o,e,ex⟩
    ·obtain⟨_,_,_,_,o,_,_,e,ex,_⟩:=I.hok p _ hk;exact⟨o,e,ex⟩
   obtain⟨o,e,ex⟩:=z;refine⟨⟨o,e,ex.1⟩,fun a e2=>?_⟩;cases e2;exact⟨o,e,ex.2.1⟩
  ·obtain⟨o,_,_,_,e,ex,_⟩:=I.hok p _ hk;refine⟨⟨o,e,ex.1⟩,fun a e2=>?_⟩;cases e2;exact⟨o,e,ex.2.1⟩
 |_=>exact False.elim ty
def tBM(K:W.Frag)(T:String)(r:V->List V->Hp->VK->Prop)(to:TE)(t:TA):TE:=fun σ H Q=>to σ H fun x H1=>OA K T x H1/\t σ H1 fun xs H2=>r x xs H2 Q
variable{o e:Expr}{es:List Expr}{to:TE}{t:TA}{name:Str}{apos Fw:Pos}{T id:String}{r:V->List V->Hp->VK->Prop}
theorem uR(pa:PlainAttrs T)(slot:Slot T name id)(J2:typeOf (.builtin id)=pure (.type "method_descriptor"))(hm:KC X id r)(ho:PE X o to)(ha:PA X (e::es) t)
  (Ge:attributeBase o name X.env (eval o X.env)=eval o X.env:=by rfl)
  (Hi:((backTo Fw (starEach (e::es) X.env)).all (fun x=>!x.1)&&(backToKw Fw (keywordEach [] X.env)).all (fun x=>x.1.isSome)
   && decide ((e::es).length+([]:List Keyword).length+(if([]:List Keyword).isEmpty then 0 else 1)<30))=true:=by rfl)
  (Gf:(apos.endLine==Fw.line)=true:=by rfl) (hs:starEach (e::es) X.env=(false,eval e X.env)::starEach es X.env:=by rfl) (FR:(backTo Fw (starEach es X.env)).any (·.1)=false:=by rfl):
  PE X (.Call (.Attribute o name apos) (e::es) [] Fw) (tBM X.K T r to t):=by
 intro pi s σ H Q I h;refine wpAny_Call_method_late Ge Hi Gf rfl (Fy (ho pi s σ H _ I h) fun v s1 Fz=>?_);obtain⟨x,H1,I1,r1,ty,q1⟩:=Fz;obtain⟨h1,h2⟩:=Au I1 r1 ty;refine⟨T,id,pa,slot,J2,h1,h2,?_⟩;have hA:=ha Fw pi s1 σ H1 _ I1 q1;rw[hs]at hA ⊢;refine Calls.callWith_builtin (by show(false||(backTo Fw (starEach es X.env)).any (·.1))=false;rw[FR] <;> rfl) (Calls.evalArgs_plain ?_);exact Fy hA fun us s2 ⟨vs,H2,I2,r2,q2⟩=>hm pi s2 σ H2 x vs v us Q I2 r1 r2 q2
end
def MtM(X:Cx)(id:String)(r:V->List V->Hp->VK->Prop):Prop:=
 ∀(pi:List (Addr×Obj)) (s:Shared) (σ:St) (H:Hp) (x:V) (xs:List V) (v:Value) (us:List Value) (Q:VK),Inv X pi σ H s->RelV x v->Vals xs us->r x xs H Q->
  wpAny (model X.prog X.w) X.A (call (.builtin id) (v::us)) (EP X pi σ Q) X.xe s
theorem Vals.one:∀{x:V}{us:List Value},Vals [x] us->∃u,us=[u]/\RelV x u
 |_,_,.cons r .nil=>⟨_,rfl,r⟩
theorem Vals.rep{xs:List V}{us:List Value}(h:Vals xs us):∀k:Nat,Vals (List.replicate k xs).flatten (List.replicate k us).flatten
 | 0=>.nil
 |k+1=>by
  rw[RE,RE,RP,RP];exact Vals.append h (Vals.rep h k)
theorem mf(Fg:List Value):∀(k:Nat) (acc:List Value),
  List.foldl (fun x1 x2=>x1++x2) acc.toArray (List.replicate k Fg.toArray)=(acc++(List.replicate k Fg).flatten).toArray
 | 0,acc=>by simp
 |k+1,acc=>by
  have e:acc.toArray++Fg.toArray=(acc++Fg).toArray:=by simp
  have e2:(acc++Fg)++(List.replicate k Fg).flatten=acc++(List.replicate (k+1) Fg).flatten:=by
   rw[RE,RP,Q5]
  rw[<-e2,<-mf Fg k (acc++Fg),<-e,RE,R9]
section
variable{X:Cx}{pi:List (Addr×Obj)}{σ:St}{H:Hp}{s:Shared}{l b:Addr}{xs ys zs:List V}
theorem Inv.lset{Fg its':List Value}{n:Nat}{f:Array Value->Array Value}{t':Nat}(I:Inv X pi σ H s)(hH:H l=some (.lst xs))
  (e:s.heap.get? l=some {cls:=.type "list",data:=.seq Fg.toArray n}) (hf:f Fg.toArray=its'.toArray) (hv:Vals ys its') (hz:ys.length<=sizeLine):
  Inv X pi σ (upd H l (.lst ys)) {s with heap:=s.heap.update l (Obj.mapSeq f),toks:=t'}:=by
 have q:=PySem.IsL.update e f;rw[hf]at q;refine I.write (x:=l) (e:=l) (by rw[hH];exact trivial) (.inl rfl) (fun b' u hb hu=>(Heap.get?_update_other s.heap (Obj.mapSeq f) (Rv hb)).trans hu) ⟨_,q⟩ ?_;exact⟨hz,its',_,hv,q⟩
theorem Inv.lnew{Fg:List Value}{t':Nat}(I:Inv X pi σ H s)(hv:Vals ys Fg)(hz:ys.length<=sizeLine):
  Inv X pi σ (upd H s.heap.objs.size (.lst ys)) {s with heap:=s.heap.push {cls:=.type "list",data:=.seq Fg.toArray},toks:=t'}:=
 I.laid (fun _ _ q=>Heap.get?_push_of_some _ q) (P9 _) ⟨hz,Fg,0,hv,Heap.get?_push_size _ rfl⟩
theorem Inv.fresh(I:Inv X pi σ H s):H s.heap.objs.size=none:=I.hok.fresh (P9 _)
theorem Inv.lstM(I:Inv X pi σ H s)(hH:H l=some (.lst xs)):xs.length<=sizeLine/\∃(Fg:List Value) (n:Nat),Vals xs Fg/\xs.length=Fg.length/\s.heap.get? l=some {cls:=.type "list",data:=.seq Fg.toArray n}:=by
 obtain⟨z,Fg,n,r,e⟩:=I.hok l _ hH;exact⟨z,Fg,n,r,r.length,e⟩
theorem uS{n:Nat}(h:n<=sizeLine):Builtin.List.listTooLong n=false:=by
 unfold Builtin.List.listTooLong;exact QB (by lia)
end
section
variable{X:Cx}
def xM:V->List V->Hp->VK->Prop:=fun x vs H Q=>∃l xs y,x=.ref l/\vs=[y]/\H l=some (.lst xs)/\xs.length<sizeLine/\Q .non (upd H l (.lst (xs++[y])))
theorem jl:MtM X "list.append" xM:=by
 intro pi s σ H x vs v us Q I rx rv h;obtain⟨l,xs,y,rfl,rfl,hH,hz,q⟩:=h;cases rx;obtain⟨u,rfl,ru⟩:=rv.one;obtain⟨z,Fg,n,r,hl,e⟩:=I.lstM hH;refine call_meets F.slot_list_append ⟨_,e,rfl⟩ F.entry_list_append (F.args_list_append_2 _ _) (PySem.list_append l Fg.toArray n u (by rw[P6];lia)) ⟨e,?_⟩;refine⟨.non,_,I.lset (its':=Fg++[u]) hH e (by simp) (r.append (.cons ru .nil)) ?_,rfl,q⟩;rw[QU,Qs];lia
theorem kU{α:Type}(xs:List α)(k:Nat):(List.replicate k xs).flatten.length=k*xs.length:=by
 induction k with
 |zero=>simp
 |succ k ih=>rw[RE,RP,QU,ih,Nat.succ_mul,Nat.add_comm]
end
section
variable{prog:Program}{w:World}{A:Around}{E:Value->Shared->Prop}{s:Shared}
end
section
variable{X:Cx}
end
end L2
namespace Att
open PySem PySem.W PySem.Calls PyProof.Rows
theorem jm{P:Params}{h:Heap}:∀(ns:List Int) (vs:List Value),WellAll P h vs (ns.map WData.int)->IntsAre vs ns:=by
 intro ns;induction ns with
 |nil=>
  intro vs w;rw[QV]at w;cases w;exact .nil
 |cons n ns ih=>
  intro vs w;rw[Qn]at w;cases w with
  |cons a b=>
   cases a;exact .cons _ _ (ih _ b)
theorem rD{l:OpenLaw}{n:Nat}(hn:l.most=some n){P:Params}{h:Heap}{args:List WData}{vals:List Value}
  (KD:l.row.toRowW.claim.pre args=true) (ME:WellAll P h vals args):
  ∃a vs ns,vals=[Value.ref a]/\args=[WData.list (ns.map WData.int)]/\h.get? a=some {cls:=.type "list",data:=.seq vs.toArray}/\IntsAre vs ns/\ns.length<=n:=by
 have hsh:WShape.hasAll [] args [.list .int]=true:=(pre_splitW KD).1;have hc:l.pre.holds [] {args:=args}=true:=(pre_splitW KD).2;obtain⟨d,r,rfl,h1,h2⟩:=hasAllW_cons hsh;obtain rfl:=hasAllW_nil h2;obtain⟨xs,rfl,h3⟩:=hasW_list h1;obtain⟨ns,rfl⟩:=items_int h3;have hlen:ns.length<=n:=by
  unfold OpenLaw.pre at hc;have h4:(WTm.not (.lt (.lit (.int (n:Int))) (.len (.arg 0)))).holds [] {args:=[.list (ns.map .int)]}=true:=by
   have h4:=(holds_andW hc).1;rw[hn]at h4;exact h4
  have h5:=condW_of h4 (w_not (w_lt w_lit (w_len_list (w_arg rfl))));rw[P5]at h5;refine Nat.le_of_not_lt fun q=>?_
  have q':(n:Int)<((ns.length:Nat):Int):=by lia
  first
   |(rw[Q9 q']at h5;exact absurd h5 (by decide))
   |(simp at h5;lia)
 cases ME with
 |cons w1 w2=>
  cases w2;cases w1 with
  |list ho GQ=>exact⟨_,_,ns,rfl,rfl,ho,jm ns _ GQ,hlen⟩
theorem rE(l:OpenLaw)(args:List WData):l.row.toRowW.claim.post args (.bool true) args=true:=
 postW_of (r:=l.row.toRowW) (X:=(true==true))
  (show WShape.has [] (.bool true) .bool=true by first|rfl|decide|simp[WShape.has,WShape.arms,WShape.armsAll])
  (show(WTm.eq .res (.lit (.bool true))).value [] {args:=args,res:=some (.bool true),after:=args}=some (.bool (true==true)) from w_eq_bool (w_res rfl) w_lit) rfl
theorem attach_call{l:OpenLaw}{n:Nat}{q:Program}{loose:List Str}{XP:(Str->Option Value)->Heap->Prop}{YP:World->Heap->Prop}{d:DefRec}
  (hn:l.most=some n) (MX:d.params.defaults=[])
  (call:∀(w:World) (s₀ s₁:Shared) (mg mb:Str->Option Value) (fa:Addr) (o:Obj) (pm cd doc:Value) (a:Addr) (vs:List Value) (ns:List Int),
   Ground q loose [] XP w s₀ mg mb s₁.heap->YP w s₁.heap->
   s₁.heap.get? fa=some o->o.data=.func (docDef d.name d.params d.body d.scope pm cd doc)->s₁.heap.CodeRec cd d.name->mg d.name=some (.ref fa)->
   s₁.heap.get? a=some {cls:=.type "list",data:=.seq vs.toArray}->IntsAre vs ns->ns.length<=n->s₁.gens = #[]->
   codeAny (model l.prog w) callerA (.call (.ref fa) ⟨[.ref a],[]⟩) (fun r s'=>r=.ok (.ret (.bool true))/\OldK s₁.heap s'.heap/\s'.os=s₁.os/\AllBare s'.gens) s₁):
  WalkO q loose XP YP l.row.toRowW d [] (fun f vs=>PySem.call f vs):=by
 intro w s₀ s₁ mg mb G Y fa o pm cd doc dV kV ho hd JZ hD MY hg args vals as KD hlay hrd ME Pm;obtain rfl:dV=.none:=Dflts.none hD MX;obtain rfl:kV=.none:=Dflts.noKw hD;obtain⟨a,vs,ns,rfl,rfl,LL,hints,hlen⟩:=rD hn KD ME;refine enter_call (codeAny_mono (call w s₀ s₁ mg mb fa o pm cd doc a vs ns G Y ho (fd_plain hd) JZ MY LL hints hlen hg) fun r s' hq=>?_);obtain⟨rfl,h2,h3,h4⟩:=hq;exact⟨.inl ⟨.bool true,.bool true,[],rfl,fun _=>rfl,.bool true,rE l _,fun _=>⟨List.Pairwise.nil,fun _ hm=>(nomatch hm)⟩⟩,h2,h3,h4⟩
section
variable{prog:Program}{w:World}{A:Around}{E:Value->Shared->Prop}{s:Shared}{K:Frag}
end
end Att
namespace L2
open PySem PySem.Spec PyProof.Rows
theorem mh:∀{vs:List Value}{ns:List Int},IntsAre vs ns->Vals (ns.map V.int) vs
 |_,_,.nil=>.nil
 |_,_,.cons n t h=>.cons ⟨t,rfl⟩ (mh h)
def CY(H:Hp):Prop:=∀b,H b=none\/∃o xs,H b=some (.frz o (.lst xs))
theorem uT{P:Program}{w:World}{K:W.Frag}{mg mb:Str->Option Value}{CX:CXT}{k:Nat}{fa a:Addr}{fd:FuncData}{x:Str}{sp:Sp}{s₁:Shared}{vs:List Value}{ns:List Int}
  (KX:K.In s₁.heap) (Lx:s₁.heap.Ns mainGlobals mg) (hb:s₁.heap.Ns builtinsNs mb) (MZ:∀x:Str,x≠"__name__"->mb x=bootBuiltins x) (hlim:s₁.heap.NoLimit) (hg:s₁.gens = #[])
  (ha:s₁.heap.get? a=some {cls:=.type "list",data:=.seq vs.toArray}) (hi:IntsAre vs ns) (hl:ns.length<=sizeLine) (hr:Room k callerA)
  (F:∀base:Heap,K.In base->base.Ns mainGlobals mg->FnOk P w K mg base CX k fa fd [x] sp) (M0:∀(s:Shared) (u:Value),BindsTo s fd ⟨[u],[]⟩ [(x,u)])
  (Lw:∀H:Hp,CY H->SqL K H a (ns.map V.int)->sp [.ref a] H (fun v _=>v=.bl true) fun _ _ _=>False)
  (OB:∀H e s',CX [] H s₁ (fun _ _ _=>False) e s'->False):
  codeAny (model P w) callerA (.call (.ref fa) ⟨[.ref a],[]⟩) (fun r s'=>r=.ok (.ret (.bool true))/\OldK s₁.heap s'.heap/\s'.os=s₁.os/\AllBare s'.gens) s₁:=by
 have rv:=mh hi;have lenV:=hi.length;have core:∀H:Hp,CY H->SqL K H a (ns.map V.int)->HOk P w H s₁.heap->(∀b,H b≠none->b=a)->(H a≠none->K.lookup a=none)->
   codeAny (model P w) callerA (.call (.ref fa) ⟨[.ref a],[]⟩) (fun r s'=>r=.ok (.ret (.bool true))/\OldK s₁.heap s'.heap/\s'.os=s₁.os/\AllBare s'.gens) s₁:=by
  intro H hO hS hok hA hK;have JB:∀{b:Addr}{o:Obj},s₁.heap.get? b=some o->H b=none->(uD s₁.heap H).get? b=some o:=fun e n=>uE e n
  have MV:∀{b:Addr}{o:Obj}{es:Array DictEntry}{ep:Nat},s₁.heap.get? b=some o->o.data=.dict es ep->H b=none:=fun{b o es ep} e d=>by
   cases q:H b with
   |none=>rfl
   |some u=>
    have e':b=a:=hA b (by rw[q];simp);subst e';rw[ha]at e;cases e;have d':Data.seq vs.toArray _=Data.dict es ep:=d;cases d'
  have N5:∀{b:Addr}{m:Str->Option Value},s₁.heap.Ns b m->(uD s₁.heap H).Ns b m:=fun{b m} ⟨o,es,ep,e,d,r⟩=>⟨o,es,ep,JB e (MV e d),d,r⟩
  have Pn:K.In (uD s₁.heap H):=fun b o e=>JB (KX b o e) (by
   cases q:H b with
   |none=>rfl
   |some u=>
    have e':b=a:=hA b (by rw[q];simp);subst e';rw[hK (by rw[q];simp)]at e;cases e)
  have hM:Mod K mg (uD s₁.heap H):=⟨Pn,N5 Lx,⟨mb,N5 hb,MZ⟩,let⟨mc,h1,h2⟩:=hlim;⟨mc,N5 h1,h2⟩⟩
  have e0:Env0 P w K mg (uD s₁.heap H) callerA [] s₁ H:=⟨rfl,hM,fun b o e=>xq e,Uq (qR _ _),trivial,fun b hb=>absurd (show b∈([]:List Addr) from hb) (by simp),hok,.of_eq hg⟩
  refine codeAny_mono ((F _ Pn (N5 Lx)).run callerA [] s₁ H ⟨[.ref a],[]⟩ [.ref a] [.ref a] _ _ hr e0 (M0 s₁ (.ref a)) (.cons rfl .nil) (Lw H hO hS)) fun r s' h=>?_
  cases r with
  |error e=>exact(OB H e s' h).elim
  |ok fl=>
   cases fl with
   |next=>exact False.elim h
   |brk=>exact False.elim h
   |cont=>exact False.elim h
   |ret u=>
    obtain⟨v,H',os,bare,un,hok',r',q⟩:=h;have q':v=.bl true:=q;subst q';obtain rfl:u=Value.bool true:=r';refine⟨rfl,OldK.of_keep fun b o e=>?_,os,bare⟩;cases q:H b with
    |none=>exact un.keep b o e q (by intro z;exact absurd (show b∈([]:List Addr) from z) (by simp)) (by simp)
    |some u=>
     rcases hO b with z|⟨ob,xs,z⟩
     ·rw[q]at z;cases z
     ·have z2:=un.frzs b ob _ z;obtain⟨e1,_⟩:=hok b _ z;obtain⟨e2,_⟩:=hok' b _ z2;rw[e]at e1;cases e1;exact e2
 cases hk:K.lookup a with
 |some o=>
  have e:=KX a o hk;rw[ha]at e;cases e;refine core (fun _=>none) (fun _=>.inl rfl) (.inr ⟨_,vs.toArray,_,hk,rfl,rfl,rfl,by rw[P6,lenV];exact hl,by simpa using rv⟩) (fun b u z=>by have z':(none:Option HO)=some u:=z;cases z') (fun b z=>absurd rfl z) fun z=>absurd rfl z
 |none=>
  refine core (fun b=>if b=a then some (.frz {cls:=.type "list",data:=.seq vs.toArray} (.lst (ns.map V.int))) else none) (fun b=>?_) (.inl (.inr ⟨{cls:=.type "list",data:=.seq vs.toArray},Qa rfl⟩)) (fun b u z=>?_) (fun b z=>?_) fun _=>hk
  ·by_cases hb:b=a
   ·exact .inr ⟨_,_,Qa hb⟩
   ·exact .inl (Qf hb)
  ·by_cases hb:b=a
   ·have z':=(Qa hb).symm.trans z;cases z';subst hb;exact⟨ha,by rw[P5];exact hl,vs,_,rv,ha⟩
   ·have z':=(Qf hb).symm.trans z;cases z'
  ·by_cases hb:b=a
   ·exact hb
   ·exact absurd (Qf hb) z
theorem xN{l:PySem.W.OpenLaw}{n k:Nat}{q:Program}{loose:List Str}{XP:(Str->Option Value)->Heap->Prop}{YP:World->Heap->Prop}{d:DefRec}{K:Params->W.Frag}{CX:World->CXT}{sp:World->Sp}{x:Str}
  (hn:l.most=some n) (J3:n<=sizeLine) (MX:d.params.defaults=[]) (hr:Room k callerA)
  (hY:∀(w:World) (h:Heap),YP w h->(K w.params).In h)
  (F:∀(w:World) (mg:Str->Option Value) (fa:Addr) (h:Heap),(K w.params).In h->h.Ns mainGlobals mg->mg d.name=some (.ref fa)->
   ∃fd:FuncData,(∀(s:Shared) (u:Value),BindsTo s fd ⟨[u],[]⟩ [(x,u)])/\
    ∀base:Heap,(K w.params).In base->base.Ns mainGlobals mg->FnOk l.prog w (K w.params) mg base (CX w) k fa fd [x] (sp w))
  (Lw:∀(w:World) (H:Hp) (a:Addr) (ns:List Int),ns.length<=n->CY H->SqL (K w.params) H a (ns.map V.int)->sp w [.ref a] H (fun v _=>v=.bl true) fun _ _ _=>False)
  (OB:∀(w:World) (H:Hp) (s:Shared) (e:Value) (s':Shared),CX w [] H s (fun _ _ _=>False) e s'->False):
  PySem.W.WalkO q loose XP YP l.row.toRowW d [] (fun f vs=>PySem.call f vs):=by
 refine Att.attach_call hn MX fun w s₀ s₁ mg mb fa o pm cd doc a vs ns G Y ho hd JZ MY LL hints hlen hg=>?_
 have KX:=hY w _ Y;obtain⟨fd,hb,hF⟩:=F w mg fa _ KX G.T.g MY;exact uT KX G.T.g G.T.b G.T.builtins G.T.nolimit hg LL hints (Rh hlen J3) hr hF hb (fun H hO hS=>Lw w H a ns hlen hO hS) fun H e s'=>OB w H s₁ e s'
def fB(s:Stmt):Arguments:=match s with
 | .FunctionDef _ a _ _ _ _ _ _ _ _=>a
 |_=>{posonlyargs:=[],args:=[],vararg:=none,kwonlyargs:=[],kw_defaults:=[],kwarg:=none,defaults:=[]}
def dB(s:Stmt):List Stmt:=match s with
 | .FunctionDef _ _ b _ _ _ _ _ _ _=>b
 |_=>[]
def defScope(s:Stmt):Scope:=match s with
 | .FunctionDef _ _ _ _ _ _ sc _ _ _=>sc
 |_=>{kind:=.function,names:=[],isGenerator:=false,isCoroutine:=false}
abbrev J4:CXT:=fun _ _ _ _ _ _=>False
abbrev E0:XK:=fun _ _ _=>False
theorem CZ{X:Cx}:rg J4 X E0:=fun _ _ _ _ _ _ _ h=>h.elim
structure Fun(K:W.Frag)(x qual:Str)(st:Stmt)(f:Addr)(fd:FuncData):Prop where
 ex:∃(oc:Value) (od:Option Addr) (kV doc pm:Value) (an:Option Addr) (FK ct:Value) (Ks:Array (Option Value)),
  fd=PySem.W.fnOf x qual (fB st) (dB st) (defScope st) .none kV doc pm an FK ct/\K.lookup f=some ⟨oc,od,.func fd,Ks⟩/\PySem.W.codeIn K FK qual=true
 kp:PySem.W.keepIn K (.ref f)=true
section
variable{P:Program}{w:World}{K:W.Frag}{mg:Str->Option Value}{base:Heap}
theorem Fun.ok{x qual:Str}{st:Stmt}{f:Addr}{fd:FuncData}{N ps:List Str}{k:Nat}{sp:Sp}(F:Fun K x qual st f fd)(S:FnScope N ps (defScope st))(len:∀vs H Q E,sp vs H Q E->vs.length=ps.length)
  (J0:∀(FK:Value) (A:Around) (outer:List Env) (s:Shared) (H:Hp) (vs:List V) (Q:VK) (E:XK),Room k (A.deeper (envOfC qual (defScope st) s.heap.objs.size f FK))->sp vs H Q E->
   ∃t,PSs (wB J4 P w K mg base N qual (defScope st) f FK A outer s H E).nox (dB st) t/\t {nx:=fun _ H'=>Q .non H',rt:=Q} (start N vs) H):FnOk P w K mg base J4 (k+1) f fd ps sp:=by
 obtain⟨oc,od,kV,doc,pm,an,FK,ct,Ks,rfl,lk,JZ⟩:=F.ex;refine CU lk JZ S len fun A outer s H vs Q E hr Lw=>?_
 obtain⟨t,h,q⟩:=J0 FK A outer s H vs Q E hr Lw;exact⟨t,h.nox,q⟩
theorem Fun.binds{x qual:Str}{st:Stmt}{f:Addr}{fd:FuncData}{ps:List Str}(F:Fun K x qual st f fd)
  (h:∀(kV doc pm:Value) (an:Option Addr) (FK ct:Value) (us:List Value),us.length=ps.length->bindArgs (PySem.W.fnOf x qual (fB st) (dB st) (defScope st) .none kV doc pm an FK ct) ⟨us,[]⟩=pure (ps.zip us)):Binds K fd ps []:=by
 obtain⟨oc,od,kV,doc,pm,an,FK,ct,Ks,rfl,lk,JZ⟩:=F.ex;exact .all (h kV doc pm an FK ct)
theorem wG{x qual:Str}{st:Stmt}{f:Addr}{oc:Value}{od an:Option Addr}{Ks:Array (Option Value)}{kV doc pm FK ct:Value}(l:K.lookup f=some ⟨oc,od,.func (PySem.W.fnOf x qual (fB st) (dB st) (defScope st) .none kV doc pm an FK ct),Ks⟩)
  (c:PySem.W.codeIn K FK qual=true) (k:PySem.W.keepIn K (.ref f)=true):Fun K x qual st f (PySem.W.fnOf x qual (fB st) (dB st) (defScope st) .none kV doc pm an FK ct):=⟨⟨oc,od,kV,doc,pm,an,FK,ct,Ks,rfl,l,c⟩,k⟩
end
theorem hu_of{A:Around}{k:Nat}(hr:Room k A):A.units+1<cLine:=Nat.lt_of_le_of_lt (Nat.add_le_add_left (by decide:1<=64) _) hr.units
section
variable{X:Cx}
theorem pv(i:Nat){x:Str}{pos:Pos}(hN:X.N[i]?=some x:=by rfl)(hv:Oo X.env.scope x:=by first|exact Or.inl rfl|exact Or.inr (Or.inl rfl)|exact Or.inr (Or.inr rfl))(hd:(x==("__debug__" : Str))=false:=by decide)
  (JZ:(x==("__classdict__" : Str))=false:=by decide):PE X (.Name x pos) (qL i):=zV hN hv hd JZ
end
theorem iteF{A B:Prop}(h:B):if false=true then A else B:=by
 rw[Qf Qb];exact h
theorem Av{A B:Prop}(h:A):if true=true then A else B:=by
 rw[Qa rfl];exact h
def Same(H H':Hp):Prop:=∀b o,H b=some o->H' b=some o
theorem Same.refl(H:Hp):Same H H:=fun _ _ h=>h
theorem Same.trans{H H1 H2:Hp}(a:Same H H1)(b:Same H1 H2):Same H H2:=fun c o h=>b c o (a c o h)
end L2
set_option maxHeartbeats 4000000
namespace NX
open PySem PySem.Spec PyProof.Rows L2
section
variable{X:Cx}
theorem uU(v:Int)(n:Nat):max (0:Int) (min (if v<0 then v+(n:Int) else v) (n:Int))=((HT.sIx n 0 (some v):Nat):Int):=by
 show _=(((if v<0 then(v+(n:Int)).toNat else min v.toNat n):Nat):Int)
 split <;> lia
theorem Aw(a b:Nat):sliceRange (a:Int) (b:Int) 1=(List.range (b-a)).map (fun k=>a+k):=by
 unfold sliceRange;rw[Qa (by decide:(1:Int)>0)];by_cases FH:(a:Int)<b
 ·have e3:(((b:Int)-a+1-1) / 1).toNat=b-a:=by first|lia|(simp;done)|(simp;lia)
  simp only[FH,SF,e3];refine QK fun k _=>?_
  lia
 ·have:b-a=0:=by lia
  simp[FH,this]
theorem EK(lo hi:Option Int)(n:Nat):Builtin.Str.strSliceIndices lo hi 1 n=(List.range (HT.sIx n n hi-HT.sIx n 0 lo)).map (fun k=>HT.sIx n 0 lo+k):=by
 rw[<-Aw];unfold Builtin.Str.strSliceIndices;simp only[show(1:Int)>0 from by decide,SF];cases lo with
 |none=>
  cases hi with
  |none=>rfl
  |some v=>exact Rg (fun z=>sliceRange 0 z 1) (uU v n)
 |some u=>
  cases hi with
  |none=>exact Rg (fun z=>sliceRange z (n:Int) 1) (uU u n)
  |some v=>exact(Rg (fun z=>sliceRange z _ 1) (uU u n)).trans (Rg (fun z=>sliceRange _ z 1) (uU v n))
def Ax(xs:List Nat)(lo hi:Option Int):List Nat:=(xs.drop (HT.sIx xs.length 0 lo)).take (HT.sIx xs.length xs.length hi-HT.sIx xs.length 0 lo)
theorem wH{α:Type}(l:List α):∀(n a:Nat),a+n<=l.length->((List.range n).map (fun k=>a+k)).filterMap (l[·]?)=(l.drop a).take n
 | 0,_,_=>by simp
 |n+1,a,h=>by
  have FH:a+n<l.length:=by lia
  rw[List.range_succ,Qi,List.filterMap_append,wH l n a (by lia),Rt,List.getElem?_drop];simp[List.getElem?_eq_getElem FH]
theorem rF(x:Str)(lo hi:Option Int):(Txt.slice x lo hi).cps.toList=Ax x.cps.toList lo hi:=by
 have hl:x.cps.toList.length=x.length:=RB;have ha:=HT.rp x.length 0 (QJ _) lo;have hb:=HT.rp x.length x.length (P9 _) hi;unfold Txt.slice Ax;rw[EK,hl];split
 ·rename_i h;have h2:HT.sIx x.length x.length hi-HT.sIx x.length 0 lo=x.length:=by simpa using h
  have ez:HT.sIx x.length 0 lo=0\/x.length=0:=by lia
  rcases ez with e|e
  ·rw[h2,e,UK,RV (by lia)]
  ·have:x.cps.toList=[]:=Ro (by lia);rw[this];simp
 ·have hk:∀(f:List Nat),f.filterMap (x.cps[·]?)=f.filterMap (x.cps.toList[·]?):=fun f=>by
   congr 1
   funext i
   simp
  show(List.filterMap _ _).toArray.toList=_;rw[Sv,hk];by_cases hle:HT.sIx x.length 0 lo<=HT.sIx x.length x.length hi
  ·rw[wH _ _ _ (by lia)]
  ·have e0:HT.sIx x.length x.length hi-HT.sIx x.length 0 lo=0:=by lia
   rw[e0];rfl
abbrev S(l:List Nat):Str:=⟨l.toArray⟩
theorem mn(x:Str):S x.cps.toList=x:=by cases x;simp[S]
theorem S_inj{a b:List Nat}(h:S a=S b):a=b:=by
 have:=Rg (fun z:Str=>z.cps.toList) h;simpa[S] using this
theorem kh(l:List Nat):(S l).length=l.length:=by simp[S,Str.length]
theorem dC(l:List Nat):(S l).cps.toList=l:=by simp[S]
theorem C0(a b:List Nat):S a++S b=S (a++b):=by
 rw[<-mn (S a++S b),PySem.W.KT.app_list,dC,dC]
def EL:V->Option Int->Option Int->Hp->VK->Prop:=fun x lo hi H Q=>∃l,x=.str (S l)/\l.length<=sizeLine/\Q (.str (S (Ax l lo hi))) H
theorem Ay:LK X EL:=by
 intro pi s σ H x v vl vu lo hi sl Q I rx hs pl pu h;obtain⟨l,rfl,hz,q⟩:=h;obtain⟨t,rfl⟩:=rx;have hz':(S l).length<=sizeLine:=by rw[kh];exact hz
 have e:∀t' k,EP X pi σ Q (.str (Txt.slice (S l) lo hi) t') {s with toks:=k}:=fun t' k=>by
  refine⟨.str (S (Ax l lo hi)),H,I.tok _,⟨t',?_⟩,q⟩;have e1:=rF (S l) lo hi;rw[dC]at e1;rw[<-e1,mn]
 refine⟨"str",_,PySem.F.slot_str_getitem.lookup,UC _ _ _,?_⟩;have key:∀(LM N6:Option (Int×Tok)),partValue LM=vl->partValue N6=vu->LM.map (·.1)=lo->N6.map (·.1)=hi->
   wpAny (model X.prog X.w) X.A (getItem (.str (S l) t) (.ref sl)) (EP X pi σ Q) X.xe s:=by
  rintro LM N6 rfl rfl rfl rfl;exact wpAny_getItem_str_slice (l:=LM) (u:=N6) (st:=none) hs rfl (post_val_or_str ⟨Rh (Txt.slice_le (S l) _ _) hz',fun t' k=>e t' k⟩)
 cases pl with
 |none=>
  cases pu with
  |none=>exact key none none rfl rfl rfl rfl
  |int j uj=>exact key none (some (j,uj)) rfl rfl rfl rfl
 |int i ui=>
  cases pu with
  |none=>exact key (some (i,ui)) none rfl rfl rfl rfl
  |int j uj=>exact key (some (i,ui)) (some (j,uj)) rfl rfl rfl rfl
theorem getD_of{xs:List V}{j:Nat}{x:V}(h:xs[j]?=some x):xs.getD j .non=x:=by rw[List.getD_eq_getElem?_getD,h];rfl
end
def Def(K:W.Frag)(mg:Str->Option Value)(x:Str)(st:Stmt):Prop:=∃f fd,Fun K x x st f fd/\mg x=some (.ref f)
def Ct(P:Program)(w:World)(K:W.Frag)(mg:Str->Option Value)(base:Heap)(x:Str)(k:Nat)(sp:Sp):Prop:=
 ∃f fd ps,FnOk P w K mg base J4 k f fd ps sp/\mg x=some (.ref f)/\PySem.W.keepIn K (.ref f)=true/\Binds K fd ps []
section
variable{X:Cx}{e:Expr}{es:List Expr}{t:TA}{x:Str}{p pos:Pos}{k:Nat}{sp:Sp}
theorem C1(C:Ct X.prog X.w X.K X.mg X.base x k sp)(hr:Room k X.A)(hg:Gl X x)(ha:PA X (e::es) t)(HQ:(x==("__debug__" : Str))=false:=by decide)
  (he:starEach (e::es) X.env=(false,eval e X.env)::starEach es X.env:=by rfl) (Hh:(backTo pos (starEach es X.env)).any (·.1)=false:=by rfl):
  PE X (.Call (.Name x p) (e::es) [] pos) (tCall sp [] E0 t):=by
 obtain⟨f,fd,ps,G,m,kp,b⟩:=C;exact xE G hr hg m kp b .nil CZ ha HQ he Hh
end
theorem bt_len:bootBuiltins "len" = some (.builtin "len"):=by decide +kernel
theorem Az:bootBuiltins "int" = some (.type "int"):=by decide +kernel
theorem b5:bootBuiltins "tuple" = some (.type "tuple"):=by decide +kernel
theorem line_eq:sizeLine=16777216:=Ri
theorem flat_strs(a:List (List Nat)):(a.map fun l=>V.str (S l)).all uQ=true:=by
 rw[Qp];intro v hv;obtain⟨l,_,rfl⟩:=QD.mp hv;rfl
section
variable{X:Cx}{e:Expr}{st:Stmt}
end
def clOf(scope:Scope)(env:Env):List (Str×Addr):=scope.names.foldl (fun cs y=>if y.2==NameKind.free then(y.1,(env.cells.lookup y.1).getD 0)::cs else cs) []
def gx(scope:Scope)(env:Env):Bool:=scope.names.all fun y=>y.2 != NameKind.free||env.kindOf y.1==some .cell||env.kindOf y.1==some .free
theorem fY(env:Env):∀(l:List (Str×NameKind)) (cs:List (Str×Addr)),(∀y∈l,y.2=.free->∃c,env.cells.lookup y.1=some c)->
  (forIn l cs fun(y:Str×NameKind) (r:List (Str×Addr))=>(do
   if y.2==NameKind.free then
    let a <-cellOf env y.1
    pure (ForInStep.yield ((y.1,a)::r))
   else pure (ForInStep.yield r):Sem (ForInStep (List (Str×Addr)))))=pure (l.foldl (fun cs y=>if y.2==NameKind.free then(y.1,(env.cells.lookup y.1).getD 0)::cs else cs) cs)
 |[],cs,_=>by simp
 |y::l,cs,h=>by
  rw[Ur,R9];by_cases k:y.2=.free
  ·obtain⟨c,e⟩:=h y P8 k;have e2:cellOf env y.1=pure c:=by unfold cellOf;rw[e]
   simp only[k,QZ,SF,e2,e,SW,pure_bind];exact fY env l _ fun z hz=>h z (Qg _ hz)
  ·have kb:(y.2==NameKind.free)=false:=by simpa using k
   simp only[kb,Ry,SS,pure_bind];exact fY env l _ fun z hz=>h z (Qg _ hz)
theorem gy(env:Env)(x:Str)(c:Addr):∀(l:List (Str×NameKind)) (cs:List (Str×Addr)),(∀y∈l,y.2=.free->∃c,env.cells.lookup y.1=some c)->(cs.lookup x=some c->env.cells.lookup x=some c)->
  (l.foldl (fun cs y=>if y.2==NameKind.free then(y.1,(env.cells.lookup y.1).getD 0)::cs else cs) cs).lookup x=some c->env.cells.lookup x=some c
 |[],_,_,h,e=>h e
 |y::l,cs,hf,h,e=>by
  rw[R9]at e;refine gy env x c l _ (fun z hz=>hf z (Qg _ hz)) (fun q=>?_) e;split at q
  ·rename_i k;have k:y.2=.free:=by simpa using k
   obtain⟨d,ed⟩:=hf y P8 k;rw[Rp]at q;cases hx:x==y.1 with
   |true=>
    rw[hx]at q;have exy:x=y.1:=by simpa using hx
    rw[ed,SW]at q;rw[exy,ed];exact q
   |false=>
    rw[hx]at q;exact h q
  ·exact h q
theorem jo(env:Env)(x:Str):∀(l:List (Str×NameKind)) (cs:List (Str×Addr)),((∃d,cs.lookup x=some d)\/(x,NameKind.free)∈l)->
  ∃d,(l.foldl (fun cs y=>if y.2==NameKind.free then(y.1,(env.cells.lookup y.1).getD 0)::cs else cs) cs).lookup x=some d
 |[],_,h=>by
  rcases h with h|h
  ·exact h
  ·cases h
 |y::l,cs,h=>by
  rw[R9];refine jo env x l _ ?_;rcases h with⟨d,h⟩|h
  ·refine .inl ?_;split
   ·rw[Rp];cases hx:x==y.1 with
    |true=>exact⟨_,rfl⟩
    |false=>exact⟨d,h⟩
   ·exact⟨d,h⟩
  ·rcases Qh.mp h with h|h
   ·refine .inl ?_;rw[<-h];refine⟨(env.cells.lookup x).getD 0,?_⟩;show List.lookup x ((x,_)::cs)=_;rw[Rp,QZ]
   ·exact .inr h
noncomputable def bJ(X:Cx)(scope:Scope)(N:List Str)(C:Addr)(s:Shared)(H:Hp)(fp:List Addr)(pn:List (Addr×Obj)):Cx:=
 {X with N:=N,s₀:=s,H₀:=H,env:=compEnvC scope (clOf scope X.env) C X.env,outer:=X.stack,ex:=fp,fn:=fun _=>false,pn:=pn,xe:=fun _ _=>False}
def iI(ix:List (Option Nat))(σ:L2.St):L2.St:=ix.map fun i=>i.bind fun i=>(σ[i]?).bind id
noncomputable def uV(wi:TI)(ix:List (Option Nat))(g:TG)(tc:TT)(te:TE):TE:=fun σ H Q=>wi σ H fun J H1=>∀D,H1 D=none->∃W:Nat->Nat->L2.St->Hp->Prop,(∃m,W 0 m (iI ix σ) (upd H1 D (.lst [])))/\
 ∀i m σ1 H2,W i m σ1 H2->(J.stop i H2/\Q (.ref D) H2)\/(J.go i H2/\∀x H3,J.yld i H2 x H3->g x σ1 H3 fun σ2 H4=>tc σ2 H4 fun b H5=>if b=true then te σ2 H5 fun v H6=>
  ∃ys,H6 D=some (.lst ys)/\ys.length<sizeLine/\∃m',m'<m/\W (i+1) m' σ2 (upd H6 D (.lst (ys++[v]))) else ∃m',m'<m/\W (i+1) m' σ2 H5)
abbrev KG:Value->Shared->Prop:=fun _ _=>False
theorem MF{α:Type}{M:Model}{A:Around}{t:Sem α}{Q Q':α->Shared->Prop}{E:Value->Shared->Prop}{s:Shared}(h:wpAny M A t Q KG s)(k:∀a s,Q a s->Q' a s):wpAny M A t Q' E s:=Sy h k fun _ _ z=>z.elim
theorem rH{prog:Program}{w:World}{A:Around}{R:Result->Shared->Prop}{s:Shared}{elt target iter:Expr}{ifs:List Expr}{scope:Scope}{pos:Pos}{it acc:Value}{env:Env}(I:Nat->Shared->Prop)
  (turn:∀n s,I n s->wpAny (model prog w) A (pyNext it) (fun r s₁=>match r with
   |none=>R (.ok .next) s₁
   |some v=>wpAny (model prog w) A (letOwnedTupleGo target it v) (fun _ s₂=>wpAny (model prog w) A (assign target env v) (fun _ s₃=>
     wpAny (model prog w) A (forIn ifs true fun c r=>if r=true then do let ok <-isTrue c env (eval c env);pure (ForInStep.yield ok) else pure (ForInStep.yield r)) (fun ok s₄=>
      if ok=true then wpAny (model prog w) A (eval elt env) (fun x s₅=>
       wpAny (model prog w) A (call (.builtin "list.append") [acc,x]) (fun _ s₆=>∃m,m<n/\I m s₆) KG s₅) KG s₄
      else ∃m,m<n/\I m s₄) KG s₃) KG s₂) KG s₁) KG s)
  (n:Nat) (h:I n s):codeAny (model prog w) A (.compLoop (.ListComp elt [⟨target,iter,ifs,0⟩] scope pos) 0 it acc env) R s:=by
 refine codeAny_loop rfl I (fun n s hI=>?_) n h;show wpAny _ A ((compTurn (.ListComp elt [⟨target,iter,ifs,0⟩] scope pos) 0 it acc env).onRaise (fun x=>do noteFrame x env;theTreesLotGoes x)) _ _ s;refine wpAny_noted ?_;rw[compTurn_list];refine P2 (UW (P2 (MF (turn n s hI) fun r s₁ h₁=>?_)));cases r with
 |none=>exact P4 h₁
 |some v=>
  refine P2 (MF h₁ fun _ s₂ h₂=>P2 (MF h₂ fun _ s₃ h₃=>P2 (MF h₃ fun ok s₄ h₄=>?_)));cases ok with
  |false=>exact P4 ⟨rfl,h₄⟩
  |true=>exact P2 (P2 (MF h₄ fun x s₅ h₅=>P2 (MF h₅ fun _ s₆ h₆=>P4 (P4 ⟨rfl,h₆⟩))))
def MG(X:Cx)(ifs:List Expr)(t:TT):Prop:=
 ∀(pi:List (Addr×Obj)) (s:Shared) (σ:L2.St) (H:Hp) (Q:Bool->Hp->Prop),Inv X pi σ H s->t σ H Q->
  wpAny (model X.prog X.w) X.A (forIn ifs true fun c r=>if r=true then do let ok <-isTrue c X.env (eval c X.env);pure (ForInStep.yield ok) else pure (ForInStep.yield r)) (TP X pi σ Q) X.xe s
def EM:TT:=fun _ H Q=>Q true H
theorem xO{X:Cx}:MG X [] EM:=fun _ _ _ H _ I h=>wpAny_tests_nil ⟨H,I,h⟩
theorem xP{X:Cx}{c:Expr}{t:TT}(h:PT X c t):MG X [c] t:=fun pi s σ H Q I k=>wpAny_tests_one (h pi s σ H Q I k)
def uW(X:Cx)(scope:Scope)(N:List Str)(ix:List (Option Nat)):Bool:=
 N.length==ix.length&&(N.zip ix).all fun y=>match y.2 with
  |none=>true
  |some j=>X.N[j]?==some y.1&&scope.names.lookup y.1==some .free
theorem mq{scope:Scope}{env:Env}{x:Str}(h:scope.names.lookup x=some .free):(relabel scope env).names.lookup x=some .cell\/(relabel scope env).names.lookup x=some .free:=by
 unfold relabel;dsimp only;generalize scope.names=l at h;induction l with
 |nil=>cases h
 |cons y l ih=>
  obtain⟨n,k⟩:=y;rw[Rp]at h;rw[Qn];cases hx:x==n with
  |true=>
   rw[hx]at h;have hk:k=.free:=Qu h;subst hk;dsimp only;split
   ·exact .inl (by rw[Rp,hx])
   ·exact .inr (by rw[Rp,hx])
  |false=>
   rw[hx]at h;dsimp only;split
   ·rw[Rp,hx];exact ih h
   ·rw[Rp,hx];exact ih h
theorem mr{scope:Scope}{env:Env}{x:Str}(hc:∀y∈scope.names,y.2≠.cell)(h:(relabel scope env).names.lookup x=some .cell\/(relabel scope env).names.lookup x=some .free):(x,NameKind.free)∈scope.names:=by
 unfold relabel at h;dsimp only at h;generalize scope.names=l at h hc;induction l with
 |nil=>rcases h with h|h <;> cases h
 |cons y l ih=>
  obtain⟨n,k⟩:=y;rw[Qn]at h;dsimp only at h;have nk:k≠.cell:=hc (n,k) P8;have Po:=ih (hc:=fun z hz=>hc z (Qg _ hz));by_cases cnd:(k==NameKind.free&&env.scope.kind==.function&&env.kindOf n==some .cell)=true
  ·rw[Qa cnd,Rp]at h;have kf:k=.free:=by
    have:(k==NameKind.free)=true:=by
     simp only[Qo]at cnd;exact cnd.1.1
    simpa using this
   cases hx:x==n with
   |true=>
    have:x=n:=by simpa using hx
    rw[this,kf];exact P8
   |false=>
    rw[hx]at h;exact Qg _ (Po h)
  ·rw[Qf cnd,Rp]at h;cases hx:x==n with
   |true=>
    rw[hx]at h;have:x=n:=by simpa using hx
    rcases h with h|h
    ·exact absurd (Qu h) nk
    ·rw[this,<-Qu h];exact P8
   |false=>
    rw[hx]at h;exact Qg _ (Po h)
section
variable{X:Cx}{pi:List (Addr×Obj)}{σ:L2.St}{H:Hp}{s:Shared}{scope:Scope}{N:List Str}{ix:List (Option Nat)}{fp:List Addr}
theorem kW(ok:X.Ok)(hf:gx scope X.env=true):∀y∈scope.names,y.2=.free->∃c,X.env.cells.lookup y.1=some c:=fun y hy k=>by
 have:=Qp.mp hf y hy;rw[k]at this;simp only[Tv,Bool.false_or,Us,QM]at this;exact ok.has y.1 this
theorem jq(ok:X.Ok)(hf:gx scope X.env=true){x:Str}{c:Addr}(h:(clOf scope X.env).lookup x=some c):X.env.cells.lookup x=some c:=
 gy X.env x c scope.names [] (kW ok hf) (fun z=>nomatch z) h
theorem rJ(ok:X.Ok)(hf:gx scope X.env=true){x:Str}(h:(x,NameKind.free)∈scope.names):∃c,(clOf scope X.env).lookup x=some c/\X.env.cells.lookup x=some c:=by
 obtain⟨c,e⟩:=jo X.env x scope.names [] (.inr h);exact⟨c,e,jq ok hf e⟩
theorem _root_.L2.Inv.block(I:Inv X pi σ H s)(hf:gx scope X.env=true)(hk:scope.kind=.function)(FY:∀y∈scope.names,y.2≠.cell)(Hj:uW X scope N ix=true)(fo:∀b∈fp,p7 X pi H b)(fin:∀b∈fp,∃o,s.heap.get? b=some o)
  {h1:Heap}{t1:Nat}{D C:Addr}(hD:D=s.heap.objs.size) (hC:C=s.heap.objs.size+1) (old:∀b o,s.heap.get? b=some o->h1.get? b=some o) {n:Nat}(acc:h1.get? D=some {cls:=.type "list",data:=.seq #[] n})
  {m:Str->Option Value}(ns:h1.Ns C m):Inv (bJ X scope N C s H fp (X.pn++pi)) [] (iI ix σ) (upd H D (.lst [])) {s with heap:=h1,toks:=t1}:=by
 have Jd:s.heap.objs.size<=C:=by rw[hC];exact Sg _
 have freshD:s.heap.objs.size<=D:=by rw[hD];exact P9 _
 have nD:H D=none:=I.hok.fresh freshD;have DC:D≠C:=by rw[hD,hC];exact Qq (RY _)
 have LN:∀b,H b=none->b≠D->upd H D (.lst []) b=none:=fun b n z=>by rw[aD z];exact n
 have MH:∀b o,s.heap.get? b=some o->b≠D:=fun b o e=>Qq (Qk (Qc e) freshD)
 have KH:∀b o,s.heap.get? b=some o->b≠C:=fun b o e=>Qq (Qk (Qc e) Jd)
 have cellAt:∀x c,(clOf scope X.env).lookup x=some c->∃v o,s.heap.get? c=some o/\o.data=.cell v:=fun x c e=>by
  obtain⟨v,o,ho,hd⟩:=I.cell x c (jq I.ok hf e);exact⟨v,o,ho,hd⟩
 have okY:(bJ X scope N C s H fp (X.pn++pi)).Ok:=by
  refine⟨I.ok.mod,hk,I.ok.glob,I.ok.blt,Jd,fun x y c e1 e2=>?_,fun x hx=>?_,fun x c z _=>?_,I.ok.hd,I.ok.frames,.inl rfl,fun b hb=>?_,I.bs,?_,fun b o e hb=>?_,fun b hb hs=>?_,I.stack,I.stkFree⟩
  ·exact I.ok.inj x y c (jq I.ok hf e1) (jq I.ok hf e2)
  ·obtain⟨c,e,_⟩:=rJ I.ok hf (mr FY hx);exact⟨c,e⟩
  ·exact absurd (show false=true from z) Qb
  ·obtain⟨f0,f1,f2,f3,f4,f5⟩:=fo b hb;refine⟨?_,fun x c e=>f4 x c (jq I.ok hf e)⟩;intro z;have z:b=C:=z;obtain⟨o,ho⟩:=fin b hb;exact KH b o ho z
  ·exact Rh I.ok.bsz I.sz
  ·obtain⟨f0,f1,f2,f3,f4,f5⟩:=fo b hb;rcases f3 with q|q
   ·exact I.ok.noex b o e q
   ·exact absurd (Qk (Qc e) (Rh I.ok.bsz q)) (RF _)
  ·obtain⟨f0,f1,f2,_⟩:=fo b hb;exact(Qh.mp (I.stkSub b hs)).elim f1 f2
 refine⟨okY,rfl,I.bare,Un.laid old freshD nD,⟨m,ns,fun i x v e1 e2 e3=>?_⟩,fun x c e=>?_,?_,fun x c e=>?_,fun p hp=>?_,I.hok.laid old freshD ⟨QJ _,[],n,.nil,acc⟩,?_⟩
 ·
  have e2:(ix.map fun i=>i.bind fun i=>(σ[i]?).bind id)[i]?=some (some v):=e2;have e1:N[i]?=some x:=e1;unfold uW at Hj;rw[Qo]at Hj;rw[List.getElem?_map]at e2;cases q:ix[i]? with
  |none=>rw[q]at e2;cases e2
  |some o=>
   rw[q]at e2;have e2:(o.bind fun i=>(σ[i]?).bind id)=some v:=Qu e2;cases o with
   |none=>cases e2
   |some j=>
    have e2:(σ[j]?).bind id=some v:=e2;have hσ:σ[j]?=some (some v):=by
     cases w':σ[j]? with
     |none=>rw[w']at e2;cases e2
     |some y=>rw[w']at e2;exact Rg some e2
    have hz:(N.zip ix)[i]?=some (x,some j):=by
     rw[List.getElem?_zip_eq_some];exact⟨e1,q⟩
    have hy:=Qp.mp Hj.2 _ (Qj hz);simp only[Qo,QM]at hy;have Pp:(x,NameKind.free)∈scope.names:=RS hy.2;obtain⟨c,c1,c2⟩:=rJ I.ok hf Pp;have M1:X.env.kindOf x=some .cell\/X.env.kindOf x=some .free:=by
     have:=Qp.mp hf _ Pp;simpa using this
    obtain⟨mo,Pk,Pm⟩:=I.loc;obtain⟨u,r,l⟩:=Pm j x v hy.1 hσ (.inr M1);refine⟨u,r,.inr ⟨mq hy.2,c,c1,?_⟩⟩;rcases l with⟨k1,_⟩|⟨_,c',e',Kz⟩
    ·rcases M1 with k2|k2 <;> (rw[k1]at k2;cases k2)
    ·rw[c2]at e';cases e';obtain⟨o,ho,hd⟩:=Kz;exact⟨o,old c o ho,hd⟩
 ·obtain⟨v,o,ho,hd⟩:=cellAt x c e;exact⟨v,o,old c o ho,hd⟩
 ·exact LN C (I.hok.fresh Jd) (Rv DC)
 ·obtain⟨v,o,ho,hd⟩:=cellAt x c e;exact LN c (I.freeC x c (jq I.ok hf e)) (MH c o ho)
 ·have hp:p∈X.pn++pi:=by
   have:p∈(X.pn++pi)++[]:=hp
   rwa [QR]at this
  obtain⟨e,nn,ne,nf,d⟩:=I.pin p hp;refine⟨old _ _ e,LN _ nn (MH _ _ e),KH _ _ e,fun z=>?_,d⟩;exact(Qh.mp (I.stkSub p.1 z)).elim ne nf
 ·unfold uW at Hj;rw[Qo]at Hj;have:N.length=ix.length:=by simpa using Hj.1
  show(ix.map _).length=N.length;rw[P5,this]
theorem _root_.L2.Inv.unblock{C:Addr}{σ1:L2.St}{H1:Hp}{s1:Shared}{h2:Heap}(I:Inv X pi σ H s)(fo:∀b∈fp,p7 X pi H b)(hC:s.heap.objs.size<=C)(J:Inv (bJ X scope N C s H fp (X.pn++pi)) [] σ1 H1 s1)(hs:Heap.SameBut C s1.heap h2):
  Inv X pi σ H1 {s1 with heap:=h2}:=by
 have KH:∀b o,s.heap.get? b=some o->b≠C:=fun b o e=>Qq (Qk (Qc e) hC)
 have bb:Un (Jz X.stack) fp H H1 s.heap s1.heap:=J.base;have jf:H1 C=none:=J.free;refine I.call' (s':={s1 with heap:=h2}) (ch:=fp) J.os ⟨fun b o e n hb hx=>?_,fun b o e n hb hx=>?_,bb.free,fun b o e hx=>?_,bb.tups,bb.frzs,bb.tbls⟩ (fun b ob e=>?_) J.bare fun b hb=>?_
 ·exact(hs.2 b (KH b o e)).trans (bb.keep b o e n hb hx)
 ·obtain⟨sl,q⟩:=bb.slot b o e n hb hx;exact⟨sl,(hs.2 b (KH b o e)).trans q⟩
 ·obtain⟨o',q⟩:=bb.there b o e hx;exact⟨o',(hs.2 b (KH b o e)).trans q⟩
 ·refine(J.hok b ob e).stay (fun c w' hc q=>(hs.2 c ?_).trans q) (fun _ q=>q) fun _ _ q=>q
  rintro rfl;rcases hc with rfl|hc
  ·rw[jf]at e;cases e
  ·rw[jf]at hc;cases hc
 ·obtain⟨f0,f1,f2,f3,f4,f5⟩:=fo b hb;exact⟨f3,f1,f4,f5⟩
end
section
variable{X:Cx}{scope:Scope}{N:List Str}{ix:List (Option Nat)}{tg iter elt:Expr}{ifs:List Expr}{pos:Pos}{wi:TI}{g:TG}{tc:TT}{te:TE}
theorem kx{pi:List (Addr×Obj)}{σ:L2.St}{H2:Hp}{s2:Shared}{J:It}{fp:List Addr}{it:Addr}{tn:Nat->Heap->Prop}{Q:VK}{RR:Value->Addr->Result->Shared->Prop}{E:Value->Shared->Prop}
  (hc:X.calm=true) (I2:Inv X pi σ H2 s2) (T:Turn X.prog X.w X.K tg J fp it tn) (Fo:tn 0 s2.heap) (f2:∀b∈fp,p7 X pi H2 b)
  (hg:∀C s H fp pn,PG (bJ X scope N C s H fp pn) tg g) (ht:∀C s H fp pn,MG (bJ X scope N C s H fp pn) ifs tc) (he:∀C s H fp pn,PE (bJ X scope N C s H fp pn) elt te)
  (hf:gx scope X.env=true) (hk:scope.kind=.function) (FY:∀y∈scope.names,y.2≠.cell) (Hj:uW X scope N ix=true)
  (q:∀D,H2 D=none->∃W:Nat->Nat->L2.St->Hp->Prop,(∃m,W 0 m (iI ix σ) (upd H2 D (.lst [])))/\
   ∀i m σ1 H3,W i m σ1 H3->(J.stop i H3/\Q (.ref D) H3)\/(J.go i H3/\∀x H4,J.yld i H3 x H4->g x σ1 H4 fun σ2 H5=>tc σ2 H5 fun b H6=>if b=true then te σ2 H6 fun v H7=>
    ∃ys,H7 D=some (.lst ys)/\ys.length<sizeLine/\∃m',m'<m/\W (i+1) m' σ2 (upd H7 D (.lst (ys++[v]))) else ∃m',m'<m/\W (i+1) m' σ2 H6))
  (hRR:∀(D C:Addr) (σ1:L2.St) (H1:Hp) (s1:Shared),s2.heap.objs.size<=C->Inv (bJ X scope N C s2 H2 fp (X.pn++pi)) [] σ1 H1 s1->Q (.ref D) H1->RR (.ref D) C (.ok .next) s1):
  wpAny (model X.prog X.w) X.A (newList []) (fun acc s₃=>wpAny (model X.prog X.w) X.A (newFunctionEnv scope X.env.globals (clOf scope X.env) [] X.env.qual none .none (some X.env)) (fun M3 s₄=>
   codeAny (model X.prog X.w) X.A (.compStart (.ListComp elt [⟨tg,iter,ifs,0⟩] scope pos) 0 (.ref it) acc {M3 with scope:=relabel scope X.env}) (RR acc M3.locals) s₄) E s₃) E s2:=by
 refine Q1 (wpAny_newFunctionEnv FY (by intro y hy;simp at hy) (fun h₁ hns₁ hsb₁=>?_) hk);dsimp only at hns₁ hsb₁ ⊢;generalize hH2:s2.heap.push {cls:=.type "list",dict:=none,data:=.seq ([]:List Value).toArray}=HH at hns₁ hsb₁ ⊢;have hC:HH.objs.size=s2.heap.objs.size+1:=by rw[<-hH2,R6]
 have hDC:s2.heap.objs.size≠HH.objs.size:=by rw[hC];exact Qq (RY _)
 have M4:s2.heap.objs.size<=HH.objs.size:=by rw[hC];exact Sg _
 have KH:∀b o,s2.heap.get? b=some o->b≠HH.objs.size:=fun b o e=>Qq (Qk (Qc e) M4)
 have old:∀b o,s2.heap.get? b=some o->h₁.get? b=some o:=fun b o e=>hsb₁.extBut b o (KH b o e) (Heap.get?_push_of_some _ (hH2▸Heap.get?_push_of_some _ e))
 have KI:h₁.get? s2.heap.objs.size=some {cls:=.type "list",data:=.seq #[] 0}:=hsb₁.extBut _ _ hDC (Heap.get?_push_of_some _ (hH2▸Heap.get?_push_size _ rfl));obtain⟨W,⟨m0,w0⟩,turn⟩:=q s2.heap.objs.size (I2.hok.fresh (P9 _));have fin:∀b∈fp,∃o,s2.heap.get? b=some o:=fun b hb=>let⟨o,e,_⟩:=T.obj 0 _ Fo b hb;⟨o,e⟩
 have Jc:∀{H':Hp},(∀b∈fp,H' b=none)->∀b∈fp,p7 (bJ X scope N HH.objs.size s2 H2 fp (X.pn++pi)) [] H' b:=fun{H'} hn b hb=>by
  obtain⟨f0,f1,ff,f3,f4,f5⟩:=f2 b hb;refine⟨hn b hb,?_,fun z=>?_,.inl hb,fun x c e=>f4 x c (jq I2.ok hf e),fun p hp=>?_⟩
  ·intro z;have z:b=HH.objs.size:=z;obtain⟨o,ho⟩:=fin b hb;exact KH b o ho z
  ·exact(Qh.mp (I2.stkSub b z)).elim f1 ff
  ·have hp:p∈X.pn++pi:=by
    have:p∈(X.pn++pi)++[]:=hp
    rwa [QR]at this
   exact f5 p hp
 have loop:∀s₃:Shared,s₃={s2 with heap:=h₁,toks:=s2.toks+([]:List (Str×Value)).length}->
   codeAny (model X.prog X.w) X.A (.compLoop (.ListComp elt [⟨tg,iter,ifs,0⟩] scope pos) 0 (.ref it) (.ref s2.heap.objs.size) (compEnvC scope (clOf scope X.env) HH.objs.size X.env)) (RR (.ref s2.heap.objs.size) HH.objs.size) s₃:=by
  rintro s₃ rfl;refine rH (fun n s'=>∃i σ' H',Inv (bJ X scope N HH.objs.size s2 H2 fp (X.pn++pi)) [] σ' H' s'/\tn i s'.heap/\(∀b∈fp,H' b=none)/\W i n σ' H') ?_ m0
   ⟨0,_,_,I2.block hf hk FY Hj f2 fin rfl hC old KI hns₁,T.keep 0 _ _ Fo fun b _ o e=>old b o e,fun b hb=>?_,w0⟩
  ·rintro n s3 ⟨i,σ3,H3,I3,FQ,MR,w3⟩;rcases turn i n σ3 H3 w3 with⟨stop,qn⟩|⟨go,step⟩
   ·refine Fy (T.done (bJ X scope N HH.objs.size s2 H2 fp (X.pn++pi)) rfl rfl rfl hc i [] s3 σ3 H3 KG I3 (Jc MR) FQ stop) fun r s4 Fz=>?_
    obtain⟨hr,I4⟩:=Fz;subst hr;exact hRR _ _ σ3 H3 s4 M4 I4 qn
   ·refine Fy (T.item (bJ X scope N HH.objs.size s2 H2 fp (X.pn++pi)) rfl rfl rfl hc i [] s3 σ3 H3 KG I3 (Jc MR) FQ go) fun r s4 Fz=>?_
    obtain⟨u,hr,h4⟩:=Fz;subst hr;refine Fy h4 fun _ s5 Fz=>?_
    obtain⟨x,H5,I5,r5,y5,GZ,Ou⟩:=Fz;have Ov:=I5.pinned (Jc Ou) (T.obj _ _ GZ);refine Fy (hg _ _ _ _ _ _ s5 σ3 H5 x u _ Ov r5 (step x H5 y5)) fun _ s6 Fz=>?_
    obtain⟨σ6,H6,I6,q6⟩:=Fz;refine Fy (ht _ _ _ _ _ _ s6 σ6 H6 _ I6 q6) fun ok s7 Fz=>?_
    obtain⟨H7,I7,q7⟩:=Fz;have again:∀{H8:Hp}{s8:Shared},Inv (bJ X scope N HH.objs.size s2 H2 fp (X.pn++pi)) ([]++lZ fp s5.heap) σ6 H8 s8->(∃m',m'<n/\W (i+1) m' σ6 H8)->
      ∃m,m<n/\∃i σ' H',Inv (bJ X scope N HH.objs.size s2 H2 fp (X.pn++pi)) [] σ' H' s8/\tn i s8.heap/\(∀b∈fp,H' b=none)/\W i m σ' H':=fun{H8 s8} I8 ⟨m',hm,w8⟩=>by
     refine⟨m',hm,i+1,σ6,H8,I8.unpinned,T.keep _ _ _ GZ fun b hb o e=>(I8.pin (b,o) (P7 _ (P7 _ (fX hb e)))).1,fun b hb=>?_,w8⟩;obtain⟨o,e,d⟩:=T.obj _ _ GZ b hb;exact(I8.pin (b,o) (P7 _ (P7 _ (fX hb e)))).2.1
    cases ok with
    |false=>exact again I7 q7
    |true=>
     show wpAny _ _ _ _ _ _;refine Fy (he _ _ _ _ _ _ s7 σ6 H7 _ I7 q7) fun x8 s8 Fz=>?_
     obtain⟨v8,H8,I8,r8,ys,OC,FH,q8⟩:=Fz;refine Fy (jl _ s8 σ6 H8 (.ref s2.heap.objs.size) [v8] (.ref s2.heap.objs.size) [x8] (fun _ H9=>∃m',m'<n/\W (i+1) m' σ6 H9) I8 rfl (.cons r8 .nil) ⟨_,ys,v8,rfl,rfl,OC,FH,q8⟩) fun _ s9 Fz=>?_
     obtain⟨_,H9,I9,_,q9⟩:=Fz;exact again I9 q9
  ·rw[aD (fun z=>by
    obtain⟨o,ho⟩:=fin b hb;exact absurd z (Qq (Qc ho)))]
   exact(f2 b hb).1
 exact codeAny_compStart_list (loop _ rfl) (T.self _ 0 _ _ _ (T.keep 0 _ _ Fo fun b _ o e=>old b o e) (loop _ rfl))
theorem xQ(ix:List (Option Nat))(N:List Str)(hc:X.calm=true)(hi:PI X tg iter wi)(hg:∀C s H fp pn,PG (bJ X scope N C s H fp pn) tg g)(ht:∀C s H fp pn,MG (bJ X scope N C s H fp pn) ifs tc)(he:∀C s H fp pn,PE (bJ X scope N C s H fp pn) elt te)
  (hf:gx scope X.env=true:=by rfl) (hk:scope.kind=.function:=by rfl) (FY:∀y∈scope.names,y.2≠.cell:=by decide +kernel) (Gk:∀y∈scope.names,y.2=.local->scope.names.lookup y.1=some .local:=by decide +kernel) (Hj:uW X scope N ix=true:=by rfl)
  (hs:∀x,foldedSetIterable iter X.env x=pure x:=by intro _;rfl):PE X (.ListComp elt [⟨tg,iter,ifs,0⟩] scope pos) (uV wi ix g tc te):=by
 intro pi s σ H Q I h;rw[eval_ListComp];have J5:closureFor scope X.env=pure (clOf scope X.env):=by
  unfold closureFor clOf;have:=fY X.env scope.names [] (kW I.ok hf);simpa using this
 refine Tw (use:=none) rfl hs J5 hk Gk (Fy (hi pi s σ H _ I h) fun v s1 h1=>Fy h1 fun N2 s2 h2=>?_);obtain⟨it,fp,tn,J,H2,e,I2,T,Fo,f2,q⟩:=h2;subst e;refine kx (RR:=fun acc C=>compPost (model X.prog X.w) X.A X.xe none (EP X pi σ Q) acc C) (Q:=Q) (iter:=iter) hc I2 T Fo f2 hg ht he hf hk FY Hj q fun D C σ1 H1 s1 hC J1 q1=>?_
 obtain⟨m,ns,_⟩:=J1.loc;exact⟨m,ns,fun h' LO=>⟨.ref D,H1,I2.unblock f2 hC J1 LO,rfl,q1⟩⟩
end
section
variable{X:Cx}{scope:Scope}{N:List Str}{ix:List (Option Nat)}{tg iter elt:Expr}{ifs:List Expr}{pos:Pos}{wi:TI}{g:TG}{tc:TT}{te:TE}
theorem rK{i:Nat}{y:Str}{py Hk:Pos}(ix:List (Option Nat))(N:List Str)(hN:X.N.Nodup)(M5:X.N[i]?=some y)(hy:Loc X.env.scope y)(hc:X.calm=true)(hi:PI X tg iter wi)(hg:∀C s H fp pn,PG (bJ X scope N C s H fp pn) tg g)(ht:∀C s H fp pn,MG (bJ X scope N C s H fp pn) ifs tc)
  (he:∀C s H fp pn,PE (bJ X scope N C s H fp pn) elt te) (M6:swapsWith (.ListComp elt [⟨tg,iter,ifs,0⟩] scope pos) (some (.Name y py)) Hk.line X.env=pure true:=by rfl)
  (hf:gx scope X.env=true:=by rfl) (hk:scope.kind=.function:=by rfl) (FY:∀y∈scope.names,y.2≠.cell:=by decide +kernel) (Gk:∀y∈scope.names,y.2=.local->scope.names.lookup y.1=some .local:=by decide +kernel) (Hj:uW X scope N ix=true:=by rfl)
  (hs:∀x,foldedSetIterable iter X.env x=pure x:=by intro _;rfl) (JH:X.fn y=true\/X.env.scope.names.lookup y=some .local:=by first|exact .inl rfl|exact .inr rfl):
  PS X (.Assign [.Name y py] (.ListComp elt [⟨tg,iter,ifs,0⟩] scope pos) Hk) (fun D σ H=>uV wi ix g tc te σ H fun v H'=>D.nx (σ.set i (some v)) H'):=by
 intro pi s σ H Dd I h;rw[exec_Assign_Name_used _ _ _ _ M6];have J5:closureFor scope X.env=pure (clOf scope X.env):=by
  unfold closureFor clOf;have:=fY X.env scope.names [] (kW I.ok hf);simpa using this
 refine P2 (UW (P2 ?_));show wpAny _ X.A (do let _ <-comprehension (.ListComp elt [⟨tg,iter,ifs,0⟩] scope pos) scope X.env _ (newList []) false (eval iter X.env) (some (assign (.Name y py) X.env))) _ _ s;refine P2 (Sy (Tw (use:=some (assign (.Name y py) X.env)) (Q:=fun _ s'=>SP X pi Dd .next s') rfl hs J5 hk Gk
  (Fy (hi pi s σ H _ I h) fun v s1 h1=>Fy h1 fun N2 s2 h2=>?_)) (fun _ s' hq=>P4 (P4 hq)) fun _ _ e=>e)
 obtain⟨it,fp,tn,J,H2,e,I2,T,Fo,f2,q⟩:=h2;subst e;refine kx (RR:=fun acc C=>compPost (model X.prog X.w) X.A X.xe (some (assign (.Name y py) X.env)) (fun _ s'=>SP X pi Dd .next s') acc C) (Q:=fun v H'=>Dd.nx (σ.set i (some v)) H') (iter:=iter) hc I2 T Fo f2 hg ht he hf hk FY Hj q fun D C σ1 H1 s1 hC J1 q1=>?_
 obtain⟨m,ns,_⟩:=id J1.loc;have ns:s1.heap.Ns C m:=ns;have I3:Inv X pi σ H1 s1:=I2.unblock f2 hC J1 (.refl ..);show wpAny _ X.A (assign (.Name y py) X.env (.ref D)) _ _ s1;refine wpAny_assign_Name (lY I3 hN M5 hy (v:=.ref D) rfl (fun s4 I4 ⟨a,sb,ha⟩=>?_) JH);have aC:C≠a:=by
  intro z;rcases ha with ha|ha
  ·exact Qq (Qk I2.lt hC) (ha▸z.symm)
  ·obtain⟨v,o,ho,_⟩:=I2.cell y a ha;exact Qq (Qk (Qc ho) hC) z.symm
 refine⟨m,ns.sameBut sb aC,fun h' LO=>?_⟩;have jf:H1 C=none:=J1.free;have kk:∀b o,b≠C->s4.heap.get? b=some o->h'.get? b=some o:=fun b o hb e=>(LO.2 b hb).trans e
 refine⟨σ.set i (some (.ref D)),H1,?_,q1⟩;have z:=I4.turned (t':=s4.toks) kk jf (fun z=>Qq (Qk I2.lt hC) z.symm) (.inr (Rh I2.sz hC)) (fun x c e z=>by
  obtain⟨v,o,ho,_⟩:=I2.cell x c e;exact Qq (Qk (Qc ho) hC) z) (fun p hp z=>Qq (Qk (Qc (I2.pin p hp).1) hC) z)
 exact z
end
def Itv(val:Nat->V)(n:Nat):It:=⟨fun i _=>i<n,fun i H x H'=>H'=H/\x=val i,fun i _=>i=n⟩
theorem oZ{P:Program}{w:World}{K:W.Frag}{tg:Expr}(ty:String)(J2:["enumerate","zip","dict_itemiterator","dict_reverseitemiterator","odict_iterator","itertools.zip_longest","itertools.pairwise"].contains ty=false)(l:List Nat)(t:Tok)(it:Addr)
  (Wk:∀A:Around,A.handled=none->Walks P w A it [it] [it] (S l).cps.size (SignAt (S l)) (fun i h=>h.IsStrIter it ty (S l) t i))
  (self:∀(A:Around) (i:Nat) (s:Shared) (Q:Value->Shared->Prop) (E:Value->Shared->Prop),s.heap.IsStrIter it ty (S l) t i->Q (.ref it) s->wpAny (model P w) A (pyIter (.ref it)) Q E s):
  Turn P w K tg (Itv (fun i=>.str (S [l.getD i 0])) l.length) [it] it (fun i h=>h.IsStrIter it ty (S l) t i) where
 mem:=by simp
 obj:=fun i h st b hb=>by
  have e:b=it:=by simpa using hb
  subst e;obtain⟨o,e,c,d⟩:=st;exact⟨o,e,fun v z=>by rw[d]at z;cases z⟩
 keep:=fun i h h' st k=>by
  obtain⟨o,e,r⟩:=st;exact⟨o,k it (by simp) o e,r⟩
 item:=by
  intro X hP hw hK hc i pi s σ H E I hf st hg;subst hP hw hK;obtain⟨f0,f1,f2,f3,f4,f5⟩:=hf it (by simp);have hg:i<l.length:=hg;refine(Wk X.A (I.ok.hd hc)).item i s _ _ (by simpa[S] using hg) st fun v h' tk hv He kk=>?_
  obtain⟨c,u,HP,rfl⟩:=hv;have I1:Inv X pi σ H {s with heap:=h',toks:=tk}:=I.turned (fun b o hb e=>kk b o (by simpa using hb) e) f0 f1 f3 f4 f5;obtain⟨o,e,cc,d⟩:=id He;have LP:l.getD i 0=c:=by
   have:l[i]?=some c:=by simpa[S] using HP
   rw[List.getD_eq_getElem?_getD,this];rfl
  refine⟨_,rfl,uK (s:={s with heap:=h',toks:=tk}) e cc d J2 ⟨.str (S [l.getD i 0]),H,I1,⟨u,?_⟩,⟨rfl,rfl⟩,He,fun b hb=>(hf b hb).1⟩⟩;rw[LP]
 done:=by
  intro X hP hw hK hc i pi s σ H E I hf st hg;subst hP hw hK;obtain⟨f0,f1,f2,f3,f4,f5⟩:=hf it (by simp);have hg:i=l.length:=hg;have hn:(S l).cps.size=i:=by rw[hg];simp[S]
  refine(Wk X.A (I.ok.hd hc)).done s _ _ (by rw[hn];exact st) fun h' tk kk=>⟨rfl,I.turned (fun b o hb e=>kk b o (by simpa using hb) e) f0 f1 f3 f4 f5⟩
 self:=self
def EN(tl:TE):TI:=fun σ H R=>tl σ H fun x H1=>∃l,x=.str (S l)/\R (Itv (fun i=>.str (S [l.getD i 0])) l.length) H1
section
variable{X:Cx}{tg:Expr}
theorem AA{l:Expr}{tl:TE}(hl:PE X l tl):PI X tg l (EN tl):=by
 intro pi s σ H R I h;refine Fy (hl pi s σ H _ I h) fun v s1 Fz=>?_
 obtain⟨x,H1,I1,r1,l,e,q⟩:=Fz;subst e;obtain⟨t,rfl⟩:=r1;cases ha:(S l).cps.all (·< 128)
 ·refine wpAny_pyIter_wide ha ?_;refine⟨s1.heap.objs.size,[s1.heap.objs.size],_,_,H1,rfl,I1.kept (t':=s1.toks) fun b o e=>Heap.get?_push_of_some _ e,
   oZ "str_iterator" (by decide) l t _ (fun A hA=>Walks.strWide hA _ _ _) (fun _ _ _ _ _ st h=>wpAny_pyIter_striter_wide st h),⟨_,Heap.get?_push_size _ rfl,rfl,rfl⟩,fun b hb=>?_,q⟩
  have e:b=s1.heap.objs.size:=by simpa using hb
  subst e;exact I1.fpOk (P9 _) (I1.hok.fresh (P9 _))
 ·refine wpAny_pyIter_ascii ha ?_;refine⟨s1.heap.objs.size,[s1.heap.objs.size],_,_,H1,rfl,I1.kept (t':=s1.toks) fun b o e=>Heap.get?_push_of_some _ e,
   oZ "str_ascii_iterator" (by decide) l t _ (fun A hA=>Walks.strAscii hA _ _ _) (fun _ _ _ _ _ st h=>wpAny_pyIter_striter_ascii st h),⟨_,Heap.get?_push_size _ rfl,rfl,rfl⟩,fun b hb=>?_,q⟩
  have e:b=s1.heap.objs.size:=by simpa using hb
  subst e;exact I1.fpOk (P9 _) (I1.hok.fresh (P9 _))
theorem eC{pi:List (Addr×Obj)}{s:Shared}{σ:L2.St}{H:Hp}{p:Addr}{xs:List V}{E:Value->Shared->Prop}{R:Value->Shared->Prop}(hc:X.calm=true)(I:Inv X pi σ H s)(h:SqL X.K H p xs\/SqT X.K H p xs)
  (k:∀(it:Addr) (fp:List Addr) (o:Obj) (us:List Value) (Sx:Nat->Heap->Prop),Vals xs us->Walks X.prog X.w X.A.in1 it fp [it] us.length (fun i v=>us[i]?=some v) Sx->Sx 0 (s.heap.push o)->(∀b∈fp,b<(s.heap.push o).objs.size)->it=s.heap.objs.size->R (.ref it) {s with heap:=s.heap.push o}):
  wpAny (model X.prog X.w) X.A.in1 (pyIter (.ref p)) R E s:=by
 have hh:X.A.in1.handled=none:=I.ok.hd hc;rcases h with h|h
 ·obtain⟨us,r,pl,hz⟩:=I.list h;have FH:p<s.heap.objs.size:=by obtain⟨o,ho,_⟩:=pl.isList;exact Qc ho
  refine RC pl.isList (k s.heap.objs.size [s.heap.objs.size,p] _ us (fun i h=>h.IsListIter s.heap.objs.size p i/\h.IsList p us.toArray) r (by
   have W:=Walks.list (prog:=X.prog) (w:=X.w) hh s.heap.objs.size p (Qq FH) us.toArray;simpa using W) ⟨⟨_,Heap.get?_push_size _ rfl,rfl,rfl⟩,pl.isList.at fun o e=>Heap.get?_push_of_some _ e⟩ (fun b hb=>?_) rfl)
  rw[R6];rcases Qh.mp hb with rfl|hb
  ·exact RY _
  ·rw[Qx]at hb;rw[hb];exact Tx FH
 ·obtain⟨us,r,pl,hz⟩:=I.tuple h;have LM:s.heap.IsTuple p us.toArray:=pl;have FH:p<s.heap.objs.size:=by obtain⟨o,ho,_⟩:=pl;exact Qc ho
  refine Rw LM (k s.heap.objs.size [s.heap.objs.size,p] _ us (fun i h=>h.IsTupleIter s.heap.objs.size p i/\h.IsTuple p us.toArray) r (by
   have W:=Walks.tuple (prog:=X.prog) (w:=X.w) hh s.heap.objs.size p (Qq FH) us.toArray;simpa using W) ⟨⟨_,Heap.get?_push_size _ rfl,rfl,rfl⟩,LM.at fun o e=>Heap.get?_push_of_some _ e⟩ (fun b hb=>?_) rfl)
  rw[R6];rcases Qh.mp hb with rfl|hb
  ·exact RY _
  ·rw[Qx]at hb;rw[hb];exact Tx FH
theorem c5{pi:List (Addr×Obj)}{s:Shared}{σ:L2.St}{H:Hp}{o:Obj}{h':Heap}{tk:Nat}(I:Inv X pi σ H s)(kk:∀b ob,b∉[s.heap.objs.size]->(s.heap.push o).get? b=some ob->h'.get? b=some ob):
  Inv X pi σ H {s with heap:=h',toks:=tk}:=I.kept fun b ob e=>kk b ob (fun z=>Qq (Qc e) (by simpa using z)) (Heap.get?_push_of_some _ e)
theorem aY{α:Type}(l:List α)(i:Nat)(d:α)(h:i<l.length):l.getD i d=l[i]:=by
 rw[List.getD_eq_getElem?_getD,List.getElem?_eq_getElem h];rfl
def wI:V->Bool
 | .bl b=>b
 |_=>false
def Cw:V->Bool
 | .bl _=>true
 |_=>false
theorem o4{xs:List V}{us:List Value}(r:Vals xs us)(hb:xs.all Cw=true):TruthOf X.prog X.w X.A.in1 (fun i v=>us[i]?=some v) (fun i=>wI (xs.getD i .non)):=by
 intro i v s Q E hv q;have hl:=r.length;obtain⟨hi,_⟩:=List.getElem?_eq_some_iff.mp hv;have e1:xs[i]?=some (xs[i]'(by lia)):=List.getElem?_eq_getElem _;obtain⟨u,hu,ru⟩:=r.get e1;rw[hv]at hu;cases hu;have q:Q (wI (xs.getD i .non)) s:=q;rw[getD_of e1]at q;have bl:=Qp.mp hb _ (Qj e1);generalize xs[i]'(by lia)=x at ru q bl;cases x <;> first|(exact absurd (show false=true from bl) Qb)|skip
 cases ru;exact RO q
theorem rL{xs:List V}(f:V->Bool):(List.range xs.length).all (fun i=>f (xs.getD i .non))=xs.all f:=by
 rw[Qv,Qp,Qp];constructor
 ·intro h x hx;obtain⟨i,hi,rfl⟩:=Ta hx;have:=h i (QC.mpr hi)
  rwa [aY _ _ _ hi]at this
 ·intro h i hi;have hi:=QC.mp hi;rw[aY _ _ _ hi];exact h _ (RZ hi)
theorem rM{xs:List V}(f:V->Bool):(List.range xs.length).any (fun i=>f (xs.getD i .non))=xs.any f:=by
 rw[Qv,Q8,Q8];constructor
 ·rintro⟨i,hi,h⟩;have hi:=QC.mp hi;rw[aY _ _ _ hi]at h;exact⟨_,RZ hi,h⟩
 ·rintro⟨x,hx,h⟩;obtain⟨i,hi,rfl⟩:=Ta hx;refine⟨i,QC.mpr hi,?_⟩;rw[aY _ _ _ hi];exact h
theorem uX(hc:X.calm=true):cZ X (.builtin "all") (fun vs H Q=>∃p xs,vs=[.ref p]/\(SqL X.K H p xs\/SqT X.K H p xs)/\xs.all Cw=true/\Q (.bl (xs.all wI)) H):=by
 intro pi s σ H vs us Q I r h;obtain⟨p,xs,rfl,hp,hb,q⟩:=h;obtain⟨u,rfl,r1⟩:=dy r;cases r1;refine call_all_walk (eC hc I hp fun it fp o ws Sx rv W st hf hit=>⟨it,fp,[it],_,_,Sx,_,rfl,W,st,o4 rv hb,fun h' tk kk=>?_⟩);subst hit;refine⟨.bl (xs.all wI),H,c5 (s:=s) I kk,?_,q⟩;rw[<-rv.length,rL];rfl
theorem uY(hc:X.calm=true):cZ X (.builtin "any") (fun vs H Q=>∃p xs,vs=[.ref p]/\(SqL X.K H p xs\/SqT X.K H p xs)/\xs.all Cw=true/\Q (.bl (xs.any wI)) H):=by
 intro pi s σ H vs us Q I r h;obtain⟨p,xs,rfl,hp,hb,q⟩:=h;obtain⟨u,rfl,r1⟩:=dy r;cases r1;refine call_any_walk (eC hc I hp fun it fp o ws Sx rv W st hf hit=>⟨it,fp,[it],_,_,Sx,_,rfl,W,st,o4 rv hb,fun h' tk kk=>?_⟩);subst hit;refine⟨.bl (xs.any wI),H,c5 (s:=s) I kk,?_,q⟩;rw[<-rv.length,rM];rfl
theorem dk{ns:List Int}{us:List Value}(r:Vals (ns.map V.int) us){i:Nat}{v:Value}(h:us[i]?=some v):∃t,v=.int (ns.getD i 0) t:=by
 have hl:=r.length;rw[P5]at hl;obtain⟨hi,_⟩:=List.getElem?_eq_some_iff.mp h;have e1:(ns.map V.int)[i]?=some (.int (ns.getD i 0)):=by
  rw[List.getElem?_map,List.getElem?_eq_getElem (by lia),aY _ _ _ (by lia)];rfl
 obtain⟨u,hu,t,rfl⟩:=r.get e1;rw[h]at hu;exact⟨t,Qu hu⟩
theorem o5{ns:List Int}{us:List Value}(r:Vals (ns.map V.int) us)(A:Around):CmpOf X.prog X.w A .Gt (fun i v=>us[i]?=some v) (fun i j=>decide (ns.getD j 0<ns.getD i 0)):=by
 intro i j vi vj s Q E hi hj q;obtain⟨t,rfl⟩:=dk r hi;obtain⟨t',rfl⟩:=dk r hj;exact gt_int q
theorem mw{ns:List Int}{us:List Value}(r:Vals (ns.map V.int) us)(A:Around):CmpOf X.prog X.w A .Lt (fun i v=>us[i]?=some v) (fun i j=>decide (ns.getD i 0<ns.getD j 0)):=by
 intro i j vi vj s Q E hi hj q;obtain⟨t,rfl⟩:=dk r hi;obtain⟨t',rfl⟩:=dk r hj;exact lt_int q
def mx(ns:List Int):Int:=ns.foldl max (ns.headD 0)
def eD(ns:List Int):Int:=ns.foldl min (ns.headD 0)
theorem kX(ns:List Int):∀k,k<ns.length->argBest (fun i j=>decide (ns.getD j 0<ns.getD i 0)) k<ns.length/\ns.getD (argBest (fun i j=>decide (ns.getD j 0<ns.getD i 0)) k) 0=(ns.take (k+1)).foldl max (ns.headD 0)
 | 0,h=>by
  refine⟨h,?_⟩;cases ns with
  |nil=>cases h
  |cons a l=>show a=max a a;lia
 |k+1,h=>by
  obtain⟨OD,OE⟩:=kX ns k (by lia);have et:ns.take (k+1+1)=ns.take (k+1)++[ns.getD (k+1) 0]:=by
   rw[Rt,List.getElem?_eq_getElem h,aY _ _ _ h];rfl
  rw[et,Tz,<-OE];show(if decide (ns.getD (argBest (fun i j=>decide (ns.getD j 0<ns.getD i 0)) k) 0<ns.getD (k+1) 0)=true then k+1 else argBest (fun i j=>decide (ns.getD j 0<ns.getD i 0)) k)<ns.length/\
   ns.getD (if decide (ns.getD (argBest (fun i j=>decide (ns.getD j 0<ns.getD i 0)) k) 0<ns.getD (k+1) 0)=true then k+1 else argBest (fun i j=>decide (ns.getD j 0<ns.getD i 0)) k) 0=max _ _
  split
  ·rename_i hd;have:=Sa hd;exact⟨h,by lia⟩
  ·rename_i hd;rw[Qm]at hd;exact⟨OD,by lia⟩
theorem kY(ns:List Int):∀k,k<ns.length->argBest (fun i j=>decide (ns.getD i 0<ns.getD j 0)) k<ns.length/\ns.getD (argBest (fun i j=>decide (ns.getD i 0<ns.getD j 0)) k) 0=(ns.take (k+1)).foldl min (ns.headD 0)
 | 0,h=>by
  refine⟨h,?_⟩;cases ns with
  |nil=>cases h
  |cons a l=>show a=min a a;lia
 |k+1,h=>by
  obtain⟨OD,OE⟩:=kY ns k (by lia);have et:ns.take (k+1+1)=ns.take (k+1)++[ns.getD (k+1) 0]:=by
   rw[Rt,List.getElem?_eq_getElem h,aY _ _ _ h];rfl
  rw[et,Tz,<-OE];show(if decide (ns.getD (k+1) 0<ns.getD (argBest (fun i j=>decide (ns.getD i 0<ns.getD j 0)) k) 0)=true then k+1 else argBest (fun i j=>decide (ns.getD i 0<ns.getD j 0)) k)<ns.length/\
   ns.getD (if decide (ns.getD (k+1) 0<ns.getD (argBest (fun i j=>decide (ns.getD i 0<ns.getD j 0)) k) 0)=true then k+1 else argBest (fun i j=>decide (ns.getD i 0<ns.getD j 0)) k) 0=min _ _
  split
  ·rename_i hd;have:=Sa hd;exact⟨h,by lia⟩
  ·rename_i hd;rw[Qm]at hd;exact⟨OD,by lia⟩
theorem rN(hc:X.calm=true):cZ X (.builtin "max") (fun vs H Q=>∃(p:Addr) (ns:List Int),vs=[.ref p]/\(SqL X.K H p (ns.map V.int)\/SqT X.K H p (ns.map V.int))/\ns≠[]/\Q (.int (mx ns)) H):=by
 intro pi s σ H vs us Q I r h;obtain⟨p,ns,rfl,hp,IA,q⟩:=h;obtain⟨u,rfl,r1⟩:=dy r;cases r1;have hn:0<ns.length:=by cases ns with|nil=>exact absurd rfl IA|cons _ _=>simp
 refine call_max_walk (eC hc I hp fun it fp o ws Sx rv W st hf hit=>?_);have hl:=rv.length;rw[P5]at hl;refine⟨it,fp,[it],_,_,Sx,_,rfl,W,st,hf,by lia,o5 rv _,fun v h' tk hv kk=>?_⟩;subst hit;obtain⟨b1,b2⟩:=kX ns (ns.length-1) (by lia);rw[<-hl]at hv;obtain⟨t,rfl⟩:=dk rv hv;refine⟨.int (mx ns),H,c5 (s:=s) I kk,⟨t,?_⟩,q⟩;rw[b2,show ns.length-1+1=ns.length by lia,RA];rfl
theorem rO(hc:X.calm=true):cZ X (.builtin "min") (fun vs H Q=>∃(p:Addr) (ns:List Int),vs=[.ref p]/\(SqL X.K H p (ns.map V.int)\/SqT X.K H p (ns.map V.int))/\ns≠[]/\Q (.int (eD ns)) H):=by
 intro pi s σ H vs us Q I r h;obtain⟨p,ns,rfl,hp,IA,q⟩:=h;obtain⟨u,rfl,r1⟩:=dy r;cases r1;have hn:0<ns.length:=by cases ns with|nil=>exact absurd rfl IA|cons _ _=>simp
 refine call_min_walk (eC hc I hp fun it fp o ws Sx rv W st hf hit=>?_);have hl:=rv.length;rw[P5]at hl;refine⟨it,fp,[it],_,_,Sx,_,rfl,W,st,hf,by lia,mw rv _,fun v h' tk hv kk=>?_⟩;subst hit;obtain⟨b1,b2⟩:=kY ns (ns.length-1) (by lia);rw[<-hl]at hv;obtain⟨t,rfl⟩:=dk rv hv;refine⟨.int (eD ns),H,c5 (s:=s) I kk,⟨t,?_⟩,q⟩;rw[b2,show ns.length-1+1=ns.length by lia,RA];rfl
theorem my(ns:List Int):∀k,k<=ns.length->preSum (fun i=>ns.getD i 0) k=(ns.take k).sum
 | 0,_=>by simp[preSum]
 |k+1,h=>by
  have et:ns.take (k+1)=ns.take k++[ns.getD k 0]:=by
   rw[Rt,List.getElem?_eq_getElem (by lia),aY _ _ _ (by lia)];rfl
  rw[et,List.sum_append,<-my ns k (by lia)];simp[preSum]
theorem rP(hc:X.calm=true):cZ X (.builtin "sum") (fun vs H Q=>∃(p:Addr) (ns:List Int),vs=[.ref p]/\(SqL X.K H p (ns.map V.int)\/SqT X.K H p (ns.map V.int))/\Q (.int ns.sum) H):=by
 intro pi s σ H vs us Q I r h;obtain⟨p,ns,rfl,hp,q⟩:=h;obtain⟨u,rfl,r1⟩:=dy r;cases r1;refine call_sum_walkG (eC hc I hp fun it fp o ws Sx rv W st hf hit=>?_);have hl:=rv.length;rw[P5]at hl;refine⟨it,fp,[it],_,_,Sx,fun i=>ns.getD i 0,rfl,W,st,hf,fun i v hv=>dk rv hv,fun h' tk t' kk=>?_⟩;subst hit;refine⟨.int ns.sum,H,c5 (s:=s) I kk,⟨t',?_⟩,q⟩;rw[<-hl,my ns _ (P9 _),RA]
end
section
variable{prog:Program}{w:World}{A:Around}{R:Result->Shared->Prop}{it:Addr}{fp wr:List Addr}{n:Nat}{Pv:Nat->Value->Prop}{Sx:Nat->Heap->Prop}{kw:List (Str×Value)}
theorem kZ:(toString "max"++toString ".loop" : String) = "max.loop":=by decide
theorem C2(Wk:Walks prog w A.in1 it fp wr n Pv Sx)(bt:Nat->Nat->Bool)(cm:CmpOf prog w A.in1 .Gt Pv bt)(T:Addr)(nT:T∉fp):∀(k j:Nat) (s:Shared) (vb:Value) (c:Nat),n-(j+1)=k->j+1<=n->Sx (j+1) s.heap->Pv (argBest bt j) vb->
   s.heap.get? T=some {cls:=.type "list",dict:=none,data:=.seq #[vb,vb] c,slots:=#[]}->
   (∀v h' tk,Pv (argBest bt (n-1)) v->(∀b o,b∉wr->b≠T->s.heap.get? b=some o->h'.get? b=some o)->R (.ok (.ret v)) {s with heap:=h',toks:=tk})->codeAny (model prog w) A (.builtin "max.loop" ⟨[.ref it,.none,.ref T],kw⟩) R s:=by
 have KJ:T∉wr:=fun z=>nT (Wk.sub _ z)
 intro k;induction k with
 |zero=>
  intro j s vb c hk hj st hp hT fin;have ej:j+1=n:=by lia
  refine Sk T9 ?_;rw[RK R0 _];show wpAny _ A.in1 (seqItems? (.ref T) >>= _) _ _ s;refine P2 (Rb hT rfl ?_);show wpAny _ A.in1 (tryCatch (pyNext (.ref it)) _ >>= _) _ _ s;refine P2 (RH (Wk.done s _ _ (ej▸st) fun h' tk kk=>?_));have IE:=kk T _ KJ hT;show wpAny _ A.in1 (updateSeq T (fun _=>#[]) >>= _) _ _ _;refine P2 (Sl IE rfl (P2 (RT (P4 ?_))));exact fin vb _ tk (by rw[<-ej];exact hp) fun b o bw bT e=>(Heap.get?_update_other _ _ (Rv bT)).trans (kk b o bw e)
 |succ k ih=>
  intro j s vb c hk hj st hp hT fin;have jn:j+1<n:=by lia
  refine Sk T9 ?_;rw[RK R0 _];show wpAny _ A.in1 (seqItems? (.ref T) >>= _) _ _ s;refine P2 (Rb hT rfl ?_);show wpAny _ A.in1 (tryCatch (pyNext (.ref it)) _ >>= _) _ _ s;refine P2 (RH (Wk.item (j+1) s _ _ jn st fun v h' tk pv He kk=>?_));have IE:=kk T _ KJ hT;show wpAny _ A.in1 (tryCatch (holding [v,v] (richCompare .Gt v vb >>= _)) _ >>= _) _ _ _;refine P2 (RH (RG (P2 (cm (j+1) (argBest bt j) v vb _ _ _ pv hp (P2 (RG (RO (P2 (RT (P4 ?_))))))))));cases eb:bt (j+1) (argBest bt j) with
  |true=>
   rw[Qa rfl];refine P2 (Sl IE rfl (P2 (RT ?_)));rw[kZ];refine P4 ⟨Sh R0 _,ih (j+1) _ v _ (by lia) jn (Wk.frame _ _ _ He fun b bf o e=>?_) (by simp only[argBest,eb,SF];exact pv) (Heap.get?_update_self _ IE rfl) fun v2 h2 t2 p2 k2=>?_⟩
   ·exact(Heap.get?_update_other _ _ (fun z:T=b=>nT (by rw[z];exact bf))).trans e
   ·exact fin v2 h2 t2 p2 fun b o bw bT e=>k2 b o bw bT ((Heap.get?_update_other _ _ (Rv bT)).trans (kk b o bw e))
  |false=>
   rw[Qf Qb];refine P2 (RT ?_);rw[kZ];refine P4 ⟨Sh R0 _,ih (j+1) _ vb c (by lia) jn He (by simp only[argBest,eb,Ry,SS];exact hp) IE fun v2 h2 t2 p2 k2=>?_⟩;exact fin v2 h2 t2 p2 fun b o bw bT e=>k2 b o bw bT (kk b o bw e)
theorem u0(Wk:Walks prog w A.in1 it fp wr n Pv Sx)(bt:Nat->Nat->Bool)(cm:CmpOf prog w A.in1 .Gt Pv bt)(T:Addr)(nT:T∉fp){s:Shared}{c:Nat}{d:Value}(OF:kw=[(Str.ofString "default",d)])(st:Sx 0 s.heap)
  (hT:s.heap.get? T=some {cls:=.type "list",dict:=none,data:=.seq #[] c,slots:=#[]}) (fin:∀v h' tk,(if n=0 then v=d else Pv (argBest bt (n-1)) v)->(∀b o,b∉wr->b≠T->s.heap.get? b=some o->h'.get? b=some o)->R (.ok (.ret v)) {s with heap:=h',toks:=tk}):
  codeAny (model prog w) A (.builtin "max.loop" ⟨[.ref it,.none,.ref T],kw⟩) R s:=by
 have KJ:T∉wr:=fun z=>nT (Wk.sub _ z)
 refine Sk T9 ?_;rw[RK R0 _];show wpAny _ A.in1 (seqItems? (.ref T) >>= _) _ _ s;refine P2 (Rb hT rfl ?_);show wpAny _ A.in1 (tryCatch (pyNext (.ref it)) _ >>= _) _ _ s;by_cases hn:n=0
 ·refine P2 (RH (Wk.done s _ _ (by rw[hn];exact st) fun h' tk kk=>?_));subst OF;refine P2 (TC (P4 ?_));exact fin d _ tk (by rw[Qa hn]) fun b o bw bT e=>kk b o bw e
 ·refine P2 (RH (Wk.item 0 s _ _ (by lia) st fun v h' tk pv He kk=>?_));have IE:=kk T _ KJ hT;show wpAny _ A.in1 (updateSeq T (fun _=>#[v,v]) >>= _) _ _ _;refine P2 (Sl IE rfl ?_);rw[kZ];refine P4 ⟨Sh R0 _,C2 Wk bt cm T nT _ 0 _ v _ rfl (by lia) (Wk.frame _ _ _ He fun b bf o e=>?_) pv (Heap.get?_update_self _ IE rfl) fun v2 h2 t2 p2 k2=>?_⟩
  ·exact(Heap.get?_update_other _ _ (fun z:T=b=>nT (by rw[z];exact bf))).trans e
  ·exact fin v2 h2 t2 (by rw[Qf hn];exact p2) fun b o bw bT e=>k2 b o bw bT ((Heap.get?_update_other _ _ (Rv bT)).trans (kk b o bw e))
end
theorem tree_kw{prog:Program}{w:World}{A:Around}{E:Value->Shared->Prop}{s:Shared}{id:String}{bf:Builtin}{args:List Value}{kw:List (Str×Value)}{Q:Value->Shared->Prop}(hk:builtinKind id=none)(hp:plainId id=true)
  (hb:entryFor table id=some bf) (ha:argsOk id ⟨args,kw⟩)
  (hc:wpAny (model prog w) A.in1 (bf ⟨args,kw⟩) (fun fin s'=>match fin with
   | .done f=>(match(Except.ok f:Result) with | .ok (.ret v)=>Q v s' | .ok _=>False | .error e=>E e s')
   | .again c'=>c'.quiet=true/\codeAny (model prog w) A c' (fun r s'=>match r with | .ok (.ret v)=>Q v s' | .ok _=>False | .error e=>E e s') s') E s):wpAny (model prog w) A (call (.builtin id) args kw) Q E s:=by
 refine wpAny_call (codeAny_call_builtin hp hb ?_);simp only[checkBuiltinCall,hk];cases hsig:Manifest.signature? id with
 |none=>exact P4 hc
 |some sig=>
  have KL:Bind.checkArgs id sig ⟨args,kw⟩=pure ():=by simpa only[argsOk,hsig] using ha
  simp only[KL];exact P4 hc
theorem rQ(a d:Value):argsOk "max" ⟨[a],[(Str.ofString "default",d)]⟩:=by unfold argsOk;kernel_rfl
section
variable{X:Cx}{e k:Expr}{te tk:TE}{p pos Ij:Pos}
def maxD(ns:List Int)(d:Int):Int:=if ns=[] then d else mx ns
def C3(K:W.Frag)(te tk:TE):TE:=fun σ H Q=>qc te zI σ H fun vs H1=>qc tk zI σ H1 fun ks H2=>∃(a:Addr) (ns:List Int) (d:Int),vs=[.ref a]/\ks=[.int d]/\(SqL K H2 a (ns.map V.int)\/SqT K H2 a (ns.map V.int))/\Q (.int (maxD ns d)) H2
theorem xR(hc:X.calm=true)(hg:Gl X "max")(hm:X.mg "max" = none)(he:PE X e te)(hk:PE X k tk)(hs:starEach [e] X.env=[(false,eval e X.env)]:=by rfl):
  PE X (.Call (.Name "max" p) [e] [⟨some "default",k,Ij⟩] pos) (C3 X.K te tk):=by
 intro pi s σ H Q I h;refine RI (ji I hg hm (by decide +kernel:bootBuiltins "max" = some (.builtin "max")) ?_ (by decide) (by decide));refine callWith_kw (Fy (eh he jj (hs:=hs) pos pi s σ H _ I h) fun us s1 ⟨vs,H1,I1,r1,q1⟩=>?_) (by rw[hs];rfl) (by rw[hs];rfl);refine Fy (rh hk wA pos pi s1 σ H1 _ I1 q1) fun ws s2 Fz=>?_
 obtain⟨ks,H2,I2,r2,a,ns,d,e1,e2,hp,q⟩:=Fz;subst e1 e2;obtain⟨u,rfl,ru⟩:=dy r1;obtain⟨w',rfl,t,rfl⟩:=dy r2;cases ru;show wpAny _ _ (call (.builtin "max") [.ref a] [(Str.ofString "default",.int d t)]) _ _ s2;refine tree_kw F.kind_max F.plain_max F.entry_max (rQ _ _) ?_;show wpAny _ X.A.in1 (Builtin.Builtins.bindParams "max" ["key","default"] 0 ⟨[],[(Str.ofString "default",.int d t)]⟩ >>= _) _ _ s2;refine P2 (UN (show Builtin.Builtins.bindParams "max" ["key","default"] 0 ⟨[],[(Str.ofString "default",.int d t)]⟩=pure [none,some (.int d t)] from rfl) ?_);refine P2 (P4 ?_);refine P2 (eC hc I2 hp fun it fp o ws Sx rv Wk st hf hit=>?_);have hl:=rv.length;rw[P5]at hl;refine P2 (Q1 ?_);have nT:(s2.heap.push o).objs.size∉fp:=fun z=>RF _ (hf _ z)
 rw[kZ];refine P4 ⟨Sh R0 _,u0 Wk _ (o5 rv _) (s2.heap.push o).objs.size nT rfl (Wk.frame _ _ _ st fun b _ ob e=>Heap.get?_push_of_some _ e) (Heap.get?_push_size _ rfl) fun v h' OG hv kk=>?_⟩;subst hit;have I3:Inv X pi σ H2 {s2 with heap:=h',toks:=OG}:=c5 (s:=s2) (o:=o) I2 fun b ob nb e=>kk b ob nb (Qq (Qc e)) (Heap.get?_push_of_some _ e)
 refine⟨.int (maxD ns d),H2,I3,?_,q⟩;unfold maxD;by_cases hn:ns=[]
 ·rw[Qa (by rw[<-hl,hn];rfl)]at hv;rw[Qa hn,hv];exact⟨t,rfl⟩
 ·have h0:0<ns.length:=UO.mpr hn;rw[Qf (by lia)]at hv;rw[Qf hn];obtain⟨b1,b2⟩:=kX ns (ns.length-1) (by lia);rw[<-hl]at hv;obtain⟨t2,rfl⟩:=dk rv hv;refine⟨t2,?_⟩;rw[b2,show ns.length-1+1=ns.length by lia,RA];rfl
end
section
variable{prog:Program}{w:World}{A:Around}{E:Value->Shared->Prop}{s:Shared}
theorem u3{it t:Addr}{i:Nat}{items:Array Value}{x:Value}{Q:Value->Shared->Prop}(hi:s.heap.IsTupleIter it t i)(ht:s.heap.IsTuple t items)(hx:items[i]?=some x)
  (k:∀h',h'.IsTupleIter it t (i+1)->Heap.SameBut it s.heap h'->Q x {s with heap:=h'}):wpAny (model prog w) A (Builtin.SmallTypes.nextOf (.ref it)) Q E s:=by
 obtain⟨o,ho,oc,od⟩:=id hi;obtain⟨q,hq,_,n,qd⟩:=ht;unfold Builtin.SmallTypes.nextOf;refine P2 (wpAny_callSpecial?_slot (name:=Str.ofString "__next__") hi.typeIs RW (Rk RW hi.typeIs Tb ?_ (S5 _)));show wpAny _ _ (field (.ref it) 0 >>= _) _ _ s;refine P2 (Rx ho od (x:=.ref t) rfl ?_);show wpAny _ _ (if(Value.ref t==Value.none)=true then _ else _) _ _ s;rw[Qf (fun z:(Value.ref t==Value.none)=true=>Qb z)];show wpAny _ _ (field (.ref it) 1 >>= _) _ _ s;refine P2 (Rx ho od (x:=.int i 0) rfl (P2 (Rb hq qd ?_)));simp only[QL,hx];refine P2 (Tq ho od (by simp) (P4 ⟨x,rfl,P4 (k _ ⟨_,Heap.get?_update_self _ ho (Obj.isFreed_of_fields (SG od _)),(Obj.cls_mapFields ..).trans oc,?_⟩ (Sw ..))⟩));rw[SG od];simp[rawInt]
theorem xS{it t:Addr}{i:Nat}{items:Array Value}{Q:Value->Shared->Prop}(hh:A.handled=none)(hi:s.heap.IsTupleIter it t i)(ht:s.heap.IsTuple t items)(hx:items[i]?=none)
  (k:∀h' e,Heap.ExtBut it s.heap h'->(∃o,h'.get? e=some o/\o.cls=.type "StopIteration")->E (.ref e) {s with heap:=h'}):wpAny (model prog w) A (Builtin.SmallTypes.nextOf (.ref it)) Q E s:=by
 obtain⟨o,ho,oc,od⟩:=id hi;obtain⟨q,hq,_,n,qd⟩:=ht;unfold Builtin.SmallTypes.nextOf;refine P2 (wpAny_callSpecial?_slot (name:=Str.ofString "__next__") hi.typeIs RW (Rk RW hi.typeIs Tb ?_ (S5 _)));show wpAny _ _ (field (.ref it) 0 >>= _) _ _ s;refine P2 (Rx ho od (x:=.ref t) rfl ?_);show wpAny _ _ (if(Value.ref t==Value.none)=true then _ else _) _ _ s;rw[Qf (fun z:(Value.ref t==Value.none)=true=>Qb z)];show wpAny _ _ (field (.ref it) 1 >>= _) _ _ s;refine P2 (Rx ho od (x:=.int i 0) rfl (P2 (Rb hq qd ?_)));simp only[QL,hx];refine P2 (TC (P2 (Tq ho od (by simp) ?_)));show wpAny _ _ (newExc (.type "StopIteration") [] >>= _) _ _ _;refine P2 ?_;simp only[newExc,newTuple];refine P2 (Q1 (P2 (m:=firstArgMember _ _) (UN (a:=Value.none) (by first|rfl|(simp only[firstArgMember];rfl)) (Q1 ?_ (by size_fits)))) (by size_fits));simp only[raiseNew];refine P2 (wpAny_handled ?_);first
  |rw[show A.in1.handled=none from hh]
  |rw[hh]
 exact P2 (P4 (wpAny_throw (k _ _ (((Sw ..).extBut.push _).push _) ⟨_,Heap.get?_push_size _ rfl,rfl⟩)))
def IsIt(k:Bool)(h:Heap)(it l:Addr)(i:Nat):Prop:=match k with
 |true=>h.IsListIter it l i
 |false=>h.IsTupleIter it l i
def IsSq(k:Bool)(h:Heap)(l:Addr)(xs:Array Value):Prop:=match k with
 |true=>h.IsList l xs
 |false=>h.IsTuple l xs
theorem IsIt.at{k:Bool}{h h':Heap}{it l:Addr}{i:Nat}(x:IsIt k h it l i)(e:∀o,h.get? it=some o->h'.get? it=some o):IsIt k h' it l i:=by
 cases k with
 |true=>obtain⟨o,ho,r⟩:=(show h.IsListIter it l i from x);exact(show h'.IsListIter it l i from⟨o,e o ho,r⟩)
 |false=>obtain⟨o,ho,r⟩:=(show h.IsTupleIter it l i from x);exact(show h'.IsTupleIter it l i from⟨o,e o ho,r⟩)
theorem IsSq.at{k:Bool}{h h':Heap}{l:Addr}{xs:Array Value}(x:IsSq k h l xs)(e:∀o,h.get? l=some o->h'.get? l=some o):IsSq k h' l xs:=by
 cases k with
 |true=>obtain⟨o,ho,r⟩:=(show h.IsList l xs from x);exact(show h'.IsList l xs from⟨o,e o ho,r⟩)
 |false=>obtain⟨o,ho,r⟩:=(show h.IsTuple l xs from x);exact(show h'.IsTuple l xs from⟨o,e o ho,r⟩)
theorem IsIt.obj{k:Bool}{h:Heap}{it l:Addr}{i:Nat}(x:IsIt k h it l i):∃o,h.get? it=some o/\∀v,o.data≠.cell v:=by
 cases k with
 |true=>obtain⟨o,ho,_,d⟩:=(show h.IsListIter it l i from x);exact⟨o,ho,fun v z=>by rw[d]at z;cases z⟩
 |false=>obtain⟨o,ho,_,d⟩:=(show h.IsTupleIter it l i from x);exact⟨o,ho,fun v z=>by rw[d]at z;cases z⟩
theorem k4{k:Bool}{it l:Addr}{i:Nat}{xs:Array Value}{x:Value}{Q:Value->Shared->Prop}(hi:IsIt k s.heap it l i)(hl:IsSq k s.heap l xs)(hx:xs[i]?=some x)
  (q:∀h',IsIt k h' it l (i+1)->Heap.SameBut it s.heap h'->Q x {s with heap:=h'}):wpAny (model prog w) A (Builtin.SmallTypes.nextOf (.ref it)) Q E s:=by
 cases k with
 |true=>exact wpAny_nextOf_list_item hi hl hx q
 |false=>exact u3 hi hl hx q
theorem rR{k:Bool}{it l:Addr}{i:Nat}{xs:Array Value}{Q:Value->Shared->Prop}(hh:A.handled=none)(hi:IsIt k s.heap it l i)(hl:IsSq k s.heap l xs)(hx:xs[i]?=none)
  (q:∀h' e,Heap.ExtBut it s.heap h'->(∃o,h'.get? e=some o/\o.cls=.type "StopIteration")->E (.ref e) {s with heap:=h'}):wpAny (model prog w) A (Builtin.SmallTypes.nextOf (.ref it)) Q E s:=by
 cases k with
 |true=>exact wpAny_nextOf_list_end hh hi hl hx q
 |false=>exact xS hh hi hl hx q
theorem xT{k1 k2:Bool}{z TI TO i1 i2 l1 l2:Addr}{i:Nat}{xs ys:Array Value}{x y a b:Value}{Q:Value->Shared->Prop}(D:ZipApart z TI TO i1 i2 l1 l2)(hz:IsZip s.heap z TI TO .none)(Je:IsPair s.heap TI (.ref i1) (.ref i2))(JK:IsPair s.heap TO a b)
  (h1:IsIt k1 s.heap i1 l1 i) (h2:IsIt k2 s.heap i2 l2 i) (g1:IsSq k1 s.heap l1 xs) (g2:IsSq k2 s.heap l2 ys) (hx:xs[i]?=some x) (hy:ys[i]?=some y)
  (q:∀h',IsZip h' z TI TO (rawInt s.heap.objs.size)->IsPair h' TO x y->IsIt k1 h' i1 l1 (i+1)->IsIt k2 h' i2 l2 (i+1)->IsPair h' s.heap.objs.size x y->
   (∀c o,c≠z->c≠TO->c≠i1->c≠i2->s.heap.get? c=some o->h'.get? c=some o)->Q (.ref s.heap.objs.size) {s with heap:=h'}):
  wpAny (model prog w) A (Builtin.«zip.__next__» ⟨[.ref z],[]⟩) (fun fin s'=>∃v,fin=.done (.ret v)/\Q v s') E s:=by
 show wpAny _ _ (field (.ref z) 2 >>= _) _ _ _;refine P2 (Rx hz rfl (x:=.bool false) rfl ?_);show wpAny _ _ (field (.ref z) 3 >>= _) _ _ _;refine P2 (Rx hz rfl (x:=.ref TI) rfl (P2 (Rb Je rfl ?_)));show wpAny _ _ (Builtin.SmallTypes.ownedTupleIsFree (.ref z) >>= _) _ _ _;refine P2 ?_;unfold Builtin.SmallTypes.ownedTupleIsFree;refine P2 (Rx hz rfl (x:=.none) rfl (P4 ?_));rw[Qa (by rfl)];refine P2 (TC (P2 (Rx hz rfl (x:=.ref TO) rfl (P2 (R4 hz (by simp) fun hA zA sA=>?_)))));have zA:IsZip hA z TI TO .ellipsis:=zA;refine P2 ?_;simp only[List.zipIdx_cons,List.zipIdx_nil,Ur,List.forIn_nil];refine P2 (P2 (TU ?_));show wpAny _ _ (Builtin.SmallTypes.nextOf (.ref i1) >>= _) _ _ _;refine P2 (k4 (h1.at fun o e=>sA.extBut _ _ D.i1z e) (g1.at fun o e=>sA.extBut _ _ D.l1z e) hx fun hB iB sB=>P4 ?_);have tB:IsPair hB TO a b:=sB.extBut _ _ D.TOi1 (sA.extBut _ _ D.TOz JK);refine P2 (Rb tB rfl (P2 (S2 tB fun hC tC sC=>P2 (RT (P4 ?_)))));have tC:IsPair hC TO x b:=tC;refine P2 (P2 (TU ?_));show wpAny _ _ (Builtin.SmallTypes.nextOf (.ref i2) >>= _) _ _ _;refine P2 (k4 (h2.at fun o e=>sC.extBut _ _ D.TOi2.symm (sB.extBut _ _ D.i12.symm (sA.extBut _ _ D.i2z e))) (g2.at fun o e=>sC.extBut _ _ D.l2TO (sB.extBut _ _ D.l2i1 (sA.extBut _ _ D.l2z e))) hy fun hD iD sD=>P4 ?_);have tD:IsPair hD TO x b:=sD.extBut _ _ D.TOi2 tC;refine P2 (Rb tD rfl (P2 (S2 tD fun hE tE sE=>P2 (RT (P4 (P4 ?_))))));have tE:IsPair hE TO x y:=tE;refine P2 (Rb tE rfl (P2 (wpAny_newTuple ?_)));have ez:hE.objs.size=s.heap.objs.size:=by rw[sE.1,sD.1,sC.1,sB.1,sA.1]
 have zE:IsZip hE z TI TO .ellipsis:=sE.extBut _ _ D.TOz.symm (sD.extBut _ _ D.i2z.symm (sC.extBut _ _ D.TOz.symm (sB.extBut _ _ D.i1z.symm zA)));have kE:∀c o,c≠z->c≠TO->c≠i1->c≠i2->s.heap.get? c=some o->hE.get? c=some o:=fun c o c1 c2 c3 c4 e=>sE.extBut _ _ c2 (sD.extBut _ _ c4 (sC.extBut _ _ c2 (sB.extBut _ _ c3 (sA.extBut _ _ c1 e))))
 have i1E:IsIt k1 hE i1 l1 (i+1):=iB.at fun o e=>sE.extBut _ _ D.TOi1.symm (sD.extBut _ _ D.i12 (sC.extBut _ _ D.TOi1.symm e))
 have i2E:IsIt k2 hE i2 l2 (i+1):=iD.at fun o e=>sE.extBut _ _ D.TOi2.symm e
 show wpAny _ _ (Builtin.SmallTypes.ownedTupleHandOut (.ref z) (.ref hE.objs.size) >>= _) _ _ _;refine P2 ?_;unfold Builtin.SmallTypes.ownedTupleHandOut;have zF:IsZip (hE.push {cls:=.type "tuple",data:=.seq #[x,y]}) z TI TO .ellipsis:=Heap.get?_push_of_some _ zE;refine P2 (R4 zF (by simp) fun hG zG sG=>?_);have zG:IsZip hG z TI TO (rawInt hE.objs.size):=zG;refine R4 zG (by simp) fun hK zK sK=>?_
 have zK:IsZip hK z TI TO (rawInt hE.objs.size):=zK;have up:∀c o,c≠z->hE.get? c=some o->hK.get? c=some o:=fun c o c1 e=>sK.extBut _ _ c1 (sG.extBut _ _ c1 (Heap.get?_push_of_some _ e))
 have nz:hE.objs.size≠z:=Th (Qc zE);have tK:IsPair hK hE.objs.size x y:=sK.extBut _ _ nz (sG.extBut _ _ nz (Heap.get?_push_size _ rfl));rw[ez]at zK tK;refine P4 ⟨_,rfl,?_⟩;show Q (.ref hE.objs.size) _;rw[ez];exact q hK zK (up _ _ D.TOz tE) (i1E.at fun o e=>up _ o D.i1z e) (i2E.at fun o e=>up _ o D.i2z e) tK fun c o c1 c2 c3 c4 e=>up c o c1 (kE c o c1 c2 c3 c4 e)
theorem AB{k1 k2:Bool}{z TI TO i1 i2 l1 l2:Addr}{i:Nat}{xs ys:Array Value}{a b:Value}{Q:Fin->Shared->Prop}(hh:A.handled=none)(D:ZipApart z TI TO i1 i2 l1 l2)(hz:IsZip s.heap z TI TO .none)(Je:IsPair s.heap TI (.ref i1) (.ref i2))(JK:IsPair s.heap TO a b)
  (h1:IsIt k1 s.heap i1 l1 i) (h2:IsIt k2 s.heap i2 l2 i) (g1:IsSq k1 s.heap l1 xs) (g2:IsSq k2 s.heap l2 ys) (he:xs[i]?=none\/ys[i]?=none)
  (q:∀h' e,(∀c o,c≠z->c≠TO->c≠i1->c≠i2->s.heap.get? c=some o->h'.get? c=some o)->(∃o,h'.get? e=some o/\o.cls=.type "StopIteration")->E (.ref e) {s with heap:=h'}):
  wpAny (model prog w) A (Builtin.«zip.__next__» ⟨[.ref z],[]⟩) Q E s:=by
 show wpAny _ _ (field (.ref z) 2 >>= _) _ _ _;refine P2 (Rx hz rfl (x:=.bool false) rfl ?_);show wpAny _ _ (field (.ref z) 3 >>= _) _ _ _;refine P2 (Rx hz rfl (x:=.ref TI) rfl (P2 (Rb Je rfl ?_)));show wpAny _ _ (Builtin.SmallTypes.ownedTupleIsFree (.ref z) >>= _) _ _ _;refine P2 ?_;unfold Builtin.SmallTypes.ownedTupleIsFree;refine P2 (Rx hz rfl (x:=.none) rfl (P4 ?_));rw[Qa (by rfl)];refine P2 (TC (P2 (Rx hz rfl (x:=.ref TO) rfl (P2 (R4 hz (by simp) fun hA zA sA=>?_)))));have zA:IsZip hA z TI TO .ellipsis:=zA;refine P2 ?_;simp only[List.zipIdx_cons,List.zipIdx_nil,Ur,List.forIn_nil];refine P2 (P2 (TU ?_));show wpAny _ _ (Builtin.SmallTypes.nextOf (.ref i1) >>= _) _ _ _;cases hx:xs[i]? with
 |none=>
  refine P2 (rR hh (h1.at fun o e=>sA.extBut _ _ D.i1z e) (g1.at fun o e=>sA.extBut _ _ D.l1z e) hx fun hB e sB Fz=>?_);obtain⟨oe,ge,ce⟩:=Fz;have zB:IsZip hB z TI TO .ellipsis:=sB _ _ D.i1z.symm zA;have ne:e≠z:=fun x=>by subst x;rw[zB]at ge;cases ge;simp at ce
  exact R4 zB (by simp) fun hC _ sC=>q hC e (fun c o c1 _ c3 _ x=>sC.extBut _ _ c1 (sB _ _ c3 (sA.extBut _ _ c1 x))) ⟨oe,sC.extBut _ _ ne ge,ce⟩
 |some x=>
  have hy:ys[i]?=none:=by
   rcases he with z|z
   ·rw[hx]at z;cases z
   ·exact z
  refine P2 (k4 (h1.at fun o e=>sA.extBut _ _ D.i1z e) (g1.at fun o e=>sA.extBut _ _ D.l1z e) hx fun hB iB sB=>P4 ?_);have tB:IsPair hB TO a b:=sB.extBut _ _ D.TOi1 (sA.extBut _ _ D.TOz JK);refine P2 (Rb tB rfl (P2 (S2 tB fun hC tC sC=>P2 (RT (P4 ?_)))));refine P2 (P2 (TU ?_));show wpAny _ _ (Builtin.SmallTypes.nextOf (.ref i2) >>= _) _ _ _;refine P2 (rR hh (h2.at fun o e=>sC.extBut _ _ D.TOi2.symm (sB.extBut _ _ D.i12.symm (sA.extBut _ _ D.i2z e))) (g2.at fun o e=>sC.extBut _ _ D.l2TO (sB.extBut _ _ D.l2i1 (sA.extBut _ _ D.l2z e))) hy fun hD e sD Fz=>?_);obtain⟨oe,ge,ce⟩:=Fz;have zD:IsZip hD z TI TO .ellipsis:=sD _ _ D.i2z.symm (sC.extBut _ _ D.TOz.symm (sB.extBut _ _ D.i1z.symm zA));have ne:e≠z:=fun x=>by subst x;rw[zD]at ge;cases ge;simp at ce
  exact R4 zD (by simp) fun hF _ sF=>q hF e (fun c o c1 c2 c3 c4 x=>sF.extBut _ _ c1 (sD _ _ c4 (sC.extBut _ _ c2 (sB.extBut _ _ c3 (sA.extBut _ _ c1 x))))) ⟨oe,sF.extBut _ _ ne ge,ce⟩
end
def itObj(k:Bool)(l:Addr):Obj:=match k with
 |true=>{cls:=.type "list_iterator",data:=.fields #[.ref l,.int 0 0]}
 |false=>{cls:=.type "tuple_iterator",data:=.fields #[.ref l,.int 0 0]}
theorem k7(k:Bool)(h:Heap)(l:Addr):IsIt k (h.push (itObj k l)) h.objs.size l 0:=by
 cases k with
 |true=>exact⟨_,Heap.get?_push_size _ rfl,rfl,rfl⟩
 |false=>exact⟨_,Heap.get?_push_size _ rfl,rfl,rfl⟩
abbrev zA(h:Heap)(k1:Bool)(l1:Addr):Heap:=h.push (itObj k1 l1)
abbrev zB(h:Heap)(k1 k2:Bool)(l1 l2:Addr):Heap:=(zA h k1 l1).push (itObj k2 l2)
abbrev zC(h:Heap)(k1 k2:Bool)(l1 l2:Addr):Heap:=(zB h k1 k2 l1 l2).push {cls:=.type "tuple",data:=.seq #[.ref h.objs.size,.ref (zA h k1 l1).objs.size]}
abbrev zD(h:Heap)(k1 k2:Bool)(l1 l2:Addr):Heap:=(zC h k1 k2 l1 l2).push {cls:=.type "tuple",data:=.seq #[.none,.none]}
abbrev zE(h:Heap)(k1 k2:Bool)(l1 l2:Addr):Heap:=(zD h k1 k2 l1 l2).push {cls:=.type "zip",data:=.fields #[.none,.bool false,.bool false,.ref (zB h k1 k2 l1 l2).objs.size,.ref (zC h k1 k2 l1 l2).objs.size]}
set_option maxHeartbeats 8000000 in
theorem AD(k1 k2:Bool)(l1 l2:Addr)(xs ys:Array Value):
  Meets (Builtin.«zip.__new__» ⟨[.type "zip",.ref l1,.ref l2],[]⟩) (fun _ R s=>IsSq k1 s.heap l1 xs/\IsSq k2 s.heap l2 ys/\R (.ok (.ret (.ref (zD s.heap k1 k2 l1 l2).objs.size))) {s with heap:=zE s.heap k1 k2 l1 l2}):=
 .of_wp fun prog w A R s h=>by
  obtain⟨hp,g,d,tk,os⟩:=s;obtain⟨g1,g2,q⟩:=h;have hsub:=sub_zip;cases k1 with
  |true=>
   have e1:Heap.IsList (Shared.heap ⟨hp,g,d,tk,os⟩) l1 xs:=g1;cases k2 with
   |true=>
    have e2:Heap.IsList (Shared.heap ⟨hp.push {cls:=.type "list_iterator",data:=.fields #[.ref l1,.int 0 0]},g,d,tk,os⟩) l2 ys:=Heap.IsList.push g2 _
    wp_walk using RC e1,RC e2
    exact⟨_,rfl,q⟩
   |false=>
    have e2:Heap.IsTuple (Shared.heap ⟨hp.push {cls:=.type "list_iterator",data:=.fields #[.ref l1,.int 0 0]},g,d,tk,os⟩) l2 ys:=Heap.IsTuple.push g2 _
    wp_walk using RC e1,Rw e2
    exact⟨_,rfl,q⟩
  |false=>
   have e1:Heap.IsTuple (Shared.heap ⟨hp,g,d,tk,os⟩) l1 xs:=g1;cases k2 with
   |true=>
    have e2:Heap.IsList (Shared.heap ⟨hp.push {cls:=.type "tuple_iterator",data:=.fields #[.ref l1,.int 0 0]},g,d,tk,os⟩) l2 ys:=Heap.IsList.push g2 _
    wp_walk using Rw e1,RC e2
    exact⟨_,rfl,q⟩
   |false=>
    have e2:Heap.IsTuple (Shared.heap ⟨hp.push {cls:=.type "tuple_iterator",data:=.fields #[.ref l1,.int 0 0]},g,d,tk,os⟩) l2 ys:=Heap.IsTuple.push g2 _
    wp_walk using Rw e1,Rw e2
    exact⟨_,rfl,q⟩
def ZS(k1 k2:Bool)(z TI TO i1 i2 l1 l2:Addr)(i:Nat)(h:Heap):Prop:=IsZip h z TI TO .none/\IsPair h TI (.ref i1) (.ref i2)/\(∃a b,IsPair h TO a b)/\IsIt k1 h i1 l1 i/\IsIt k2 h i2 l2 i
theorem xU{prog:Program}{w:World}{A:Around}{E:Value->Shared->Prop}{s:Shared}{k1 k2:Bool}{l1 l2:Addr}{xs ys:Array Value}{Q:Value->Shared->Prop}(g1:IsSq k1 s.heap l1 xs)(g2:IsSq k2 s.heap l2 ys)
  (q:∀h',ZS k1 k2 (s.heap.objs.size+4) (s.heap.objs.size+2) (s.heap.objs.size+3) s.heap.objs.size (s.heap.objs.size+1) l1 l2 0 h'->(∀c o,s.heap.get? c=some o->h'.get? c=some o)->Q (.ref (s.heap.objs.size+4)) {s with heap:=h'}):
  wpAny (model prog w) A (call (.type "zip") [.ref l1,.ref l2]) Q E s:=by
 refine callType_new F.called_zip (by decide) (F.typeCall_zip_2 _ _) (F.newCall_zip_2 _ _) (fun obj=>F.args_object_init_3 obj _ _) F.entry_zip_new (AD k1 k2 l1 l2 xs ys) ⟨g1,g2,?_⟩;have nA:(zA s.heap k1 l1).objs.size=s.heap.objs.size+1:=R6 ..;have nB:(zB s.heap k1 k2 l1 l2).objs.size=s.heap.objs.size+2:=by rw[R6,nA]
 have nC:(zC s.heap k1 k2 l1 l2).objs.size=s.heap.objs.size+3:=by rw[R6,nB]
 have nD:(zD s.heap k1 k2 l1 l2).objs.size=s.heap.objs.size+4:=by rw[R6,nC]
 have pu:∀{h:Heap}{o:Obj}{c:Addr}{v:Obj},h.get? c=some v->(h.push o).get? c=some v:=fun e=>Heap.get?_push_of_some _ e
 have gz:(zE s.heap k1 k2 l1 l2).get? (zD s.heap k1 k2 l1 l2).objs.size=some _:=Heap.get?_push_size _ rfl;have go:(zE s.heap k1 k2 l1 l2).get? (zC s.heap k1 k2 l1 l2).objs.size=some _:=pu (Heap.get?_push_size _ rfl);have gi:(zE s.heap k1 k2 l1 l2).get? (zB s.heap k1 k2 l1 l2).objs.size=some _:=pu (pu (Heap.get?_push_size _ rfl));have j2:IsIt k2 (zE s.heap k1 k2 l1 l2) (zA s.heap k1 l1).objs.size l2 0:=(k7 k2 (zA s.heap k1 l1) l2).at fun o e=>pu (pu (pu e))
 have j1:IsIt k1 (zE s.heap k1 k2 l1 l2) s.heap.objs.size l1 0:=(k7 k1 s.heap l1).at fun o e=>pu (pu (pu (pu e)))
 show _/\_;rw[nB,nC,nD]at gz;rw[nA,nB]at gi;rw[nC]at go;rw[nA]at j2;rw[nD];exact⟨⟨_,gz,rfl⟩,q _ ⟨gz,gi,⟨_,_,go⟩,j1,j2⟩ fun c o x=>pu (pu (pu (pu (pu x))))⟩
noncomputable def OH(K:W.Frag)(k1 k2:Bool)(a b:Addr):It:=
 ⟨fun i H=>∃xs ys x y,(if k1 then SqL K H a xs else SqT K H a xs)/\(if k2 then SqL K H b ys else SqT K H b ys)/\xs[i]?=some x/\ys[i]?=some y,
  fun i H v H'=>∃T,H T=none/\v=.ref T/\∀xs ys x y,(if k1 then SqL K H a xs else SqT K H a xs)->(if k2 then SqL K H b ys else SqT K H b ys)->xs[i]?=some x->ys[i]?=some y->H'=upd H T (.tup [x,y]),
  fun i H=>∃xs ys,(if k1 then SqL K H a xs else SqT K H a xs)/\(if k2 then SqL K H b ys else SqT K H b ys)/\i=min xs.length ys.length⟩
section
variable{X:Cx}{pi:List (Addr×Obj)}{σ:L2.St}{H:Hp}{s:Shared}
theorem k8(I:Inv X pi σ H s){k:Bool}{a:Addr}{xs:List V}(h:if k then SqL X.K H a xs else SqT X.K H a xs):∃us:List Value,Vals xs us/\IsSq k s.heap a us.toArray:=by
 cases k with
 |true=>
  obtain⟨us,r,p,_⟩:=I.list (show SqL X.K H a xs from h);exact⟨us,r,p.isList⟩
 |false=>
  obtain⟨us,r,p,_⟩:=I.tuple (show SqT X.K H a xs from h);exact⟨us,r,(show s.heap.IsTuple a us.toArray from p)⟩
theorem rS(I:Inv X pi σ H s){k:Bool}{a:Addr}{xs ys:List V}(h:if k then SqL X.K H a xs else SqT X.K H a xs)(h':if k then SqL X.K H a ys else SqT X.K H a ys):xs=ys:=by
 cases k with
 |true=>exact I.list_inj (show SqL X.K H a xs from h) (show SqL X.K H a ys from h')
 |false=>exact I.tuple_inj (show SqT X.K H a xs from h) (show SqT X.K H a ys from h')
theorem eE(I:Inv X pi σ H s){k:Bool}{a b:Addr}{xs:List V}(h:if k then SqL X.K H a xs else SqT X.K H a xs)(f:p7 X pi H b):a≠b:=by
 rintro rfl;obtain⟨f0,_,_,f3,_⟩:=f;have nb:∀o,X.K.lookup a=some o->False:=fun o hk=>by
  have e:=I.ok.mod.kin a o hk;rcases f3 with z|z
  ·exact I.ok.noex a o e z
  ·exact absurd (Qk (Qc e) (Rh I.ok.bsz z)) (RF _)
 cases k with
 |true=>
  rcases(show SqL X.K H a xs from h) with(h|⟨o,h⟩)|⟨o,Fg,n,hk,_⟩
  ·rw[f0]at h;cases h
  ·rw[f0]at h;cases h
  ·exact nb o hk
 |false=>
  rcases(show SqT X.K H a xs from h) with(h|⟨o,h⟩)|⟨o,Fg,n,hk,_⟩
  ·rw[f0]at h;cases h
  ·rw[f0]at h;cases h
  ·exact nb o hk
end
theorem nx_zip_item{prog:Program}{w:World}{A:Around}{E:Value->Shared->Prop}{s:Shared}{k1 k2:Bool}{z TI TO i1 i2 l1 l2:Addr}{i:Nat}{xs ys:Array Value}{x y:Value}{Q:Option Value->Shared->Prop}(D:ZipApart z TI TO i1 i2 l1 l2)(st:ZS k1 k2 z TI TO i1 i2 l1 l2 i s.heap)
  (g1:IsSq k1 s.heap l1 xs) (g2:IsSq k2 s.heap l2 ys) (hx:xs[i]?=some x) (hy:ys[i]?=some y)
  (q:∀h',IsZip h' z TI TO (rawInt s.heap.objs.size)->IsPair h' TO x y->IsIt k1 h' i1 l1 (i+1)->IsIt k2 h' i2 l2 (i+1)->IsPair h' s.heap.objs.size x y->
   (∀c o,c≠z->c≠TO->c≠i1->c≠i2->s.heap.get? c=some o->h'.get? c=some o)->Q (some (.ref s.heap.objs.size)) {s with heap:=h'}):wpAny (model prog w) A (pyNext (.ref z)) Q E s:=by
 obtain⟨hz,Je,⟨a,b,JK⟩,h1,h2⟩:=st;have ty:s.TypeIs (.ref z) "zip":=⟨_,hz,rfl⟩
 unfold pyNext;exact P2 (TV (wpAny_callSpecial?_slot (name:=Str.ofString "__next__") ty Tc (Rk Tc ty F.entry_zip_next (xT D hz Je JK h1 h2 g1 g2 hx hy fun h' a1 a2 a3 a4 a5 a6=>P4 (q h' a1 a2 a3 a4 a5 a6)) (F.args_zip_next_1 _))))
theorem qh{prog:Program}{w:World}{A:Around}{E:Value->Shared->Prop}{s:Shared}{k1 k2:Bool}{z TI TO i1 i2 l1 l2:Addr}{i:Nat}{xs ys:Array Value}{Q:Option Value->Shared->Prop}(hh:A.handled=none)(D:ZipApart z TI TO i1 i2 l1 l2)(st:ZS k1 k2 z TI TO i1 i2 l1 l2 i s.heap)
  (g1:IsSq k1 s.heap l1 xs) (g2:IsSq k2 s.heap l2 ys) (he:xs[i]?=none\/ys[i]?=none) (q:∀h',(∀c o,c≠z->c≠TO->c≠i1->c≠i2->s.heap.get? c=some o->h'.get? c=some o)->Q none {s with heap:=h'}):wpAny (model prog w) A (pyNext (.ref z)) Q E s:=by
 obtain⟨hz,Je,⟨a,b,JK⟩,h1,h2⟩:=st;have ty:s.TypeIs (.ref z) "zip":=⟨_,hz,rfl⟩
 unfold pyNext;refine P2 (TV (wpAny_callSpecial?_slot (name:=Str.ofString "__next__") ty Tc (Rk Tc ty F.entry_zip_next (AB hh D hz Je JK h1 h2 g1 g2 he fun h' e kk ⟨o,ho,oc⟩=>?_) (F.args_zip_next_1 _))));exact P2 (wpAny_isInstance (T:="StopIteration") (b:=true) ⟨o,ho,oc⟩ isSubtype_stop (P4 (q _ kk)))
theorem ve{P:Program}{w:World}{K:W.Frag}{es:List Expr}{kt:Nat}{pt:Pos}(k1 k2:Bool)(a b z TI TO i1 i2:Addr)(ne:z≠TI/\z≠TO/\z≠i1/\z≠i2/\TI≠TO/\TI≠i1/\TI≠i2/\TO≠i1/\TO≠i2/\i1≠i2):
  Turn P w K (.Tuple es kt pt) (OH K k1 k2 a b) [z,TI,TO,i1,i2] z (ZS k1 k2 z TI TO i1 i2 a b) where
 mem:=by simp
 obj:=fun i h st c hc=>by
  obtain⟨hz,Je,⟨x,y,JK⟩,h1,h2⟩:=st;simp only[Qh,Q0,Tj]at hc;rcases hc with rfl|rfl|rfl|rfl|rfl
  ·exact⟨_,hz,fun v q=>by cases q⟩
  ·exact⟨_,Je,fun v q=>by cases q⟩
  ·exact⟨_,JK,fun v q=>by cases q⟩
  ·exact h1.obj
  ·exact h2.obj
 keep:=fun i h h' st k=>by
  obtain⟨hz,Je,⟨x,y,JK⟩,h1,h2⟩:=st;exact⟨k z (by simp) _ hz,k TI (by simp) _ Je,⟨x,y,k TO (by simp) _ JK⟩,h1.at fun o e=>k i1 (by simp) o e,h2.at fun o e=>k i2 (by simp) o e⟩
 item:=by
  intro X hP hw hK hc i pi s σ H E I hf st hg;subst hP hw hK;obtain⟨xs,ys,x,y,s1,s2,hx,hy⟩:=hg;obtain⟨us,r1,q1⟩:=k8 I s1;obtain⟨ws,r2,q2⟩:=k8 I s2;obtain⟨u,hu,ru⟩:=r1.get hx;obtain⟨v,hv,rv⟩:=r2.get hy;obtain⟨n1,n2,n3,n4,n5,n6,n7,n8,n9,OI⟩:=ne;have f:=fun c hc=>hf c hc
  have D:ZipApart z TI TO i1 i2 a b:=⟨n1.symm,n2.symm,n3.symm,n4.symm,n5,n6,n7,n8,n9,OI,eE I s1 (f z (by simp)),eE I s1 (f TO (by simp)),eE I s1 (f i1 (by simp)),eE I s1 (f i2 (by simp)),
   eE I s2 (f z (by simp)),eE I s2 (f TO (by simp)),eE I s2 (f i1 (by simp)),eE I s2 (f i2 (by simp))⟩
  have Je:=st.2.1;refine nx_zip_item D st q1 q2 (by simpa using hu) (by simpa using hv) fun h' z1 t1 j1 j2 tp kk=>⟨_,rfl,?_⟩
  refine wpAny_letOwnedTupleGo_zip z1 fun h2 z2 sb=>?_
  have nT:H s.heap.objs.size=none:=I.hok.fresh (P9 _);have tT:s.heap.objs.size≠z:=Th (Qc st.1);have all:∀c o,c≠z->c≠TO->c≠i1->c≠i2->s.heap.get? c=some o->h2.get? c=some o:=fun c o c1 c2 c3 c4 e=>(sb.2 c c1).trans (kk c o c1 c2 c3 c4 e)
  have fz:=f z (by simp);have fo:=f TO (by simp);have f1:=f i1 (by simp);have f2:=f i2 (by simp);have Jf:∀c ob,H c=some ob->c≠z/\c≠TO/\c≠i1/\c≠i2:=fun c ob e=>⟨(fun q=>by rw[q,fz.1]at e;cases e),(fun q=>by rw[q,fo.1]at e;cases e),(fun q=>by rw[q,f1.1]at e;cases e),(fun q=>by rw[q,f2.1]at e;cases e)⟩
  refine⟨.ref s.heap.objs.size,upd H s.heap.objs.size (.tup [x,y]),?_,rfl,⟨_,nT,rfl,fun G0 ys' x' y' a1 a2 a3 a4=>?_⟩,⟨z2,?_,⟨u,v,(sb.2 TO n2.symm).trans t1⟩,j1.at fun o e=>(sb.2 i1 n3.symm).trans e,j2.at fun o e=>(sb.2 i2 n4.symm).trans e⟩,fun c hc=>?_⟩
  ·have LQ:h2.get? s.heap.objs.size=some {cls:=.type "tuple",data:=.seq #[u,v]}:=(sb.2 _ tT).trans tp;have S0:Inv X pi σ (upd H s.heap.objs.size (.tup [x,y])) {s with heap:=h2,gens:=s.gens,drawn:=s.drawn,toks:=s.toks}:=by
    refine I.step (ch:=[z,TO,i1,i2]) (fun c hc=>?_) (fun c o _ _ nc e _=>all c o (fun q=>nc (by simp[q])) (fun q=>nc (by simp[q])) (fun q=>nc (by simp[q])) (fun q=>nc (by simp[q])) e)
     (fun c o _ _ nc e _=>⟨o.slots,all c o (fun q=>nc (by simp[q])) (fun q=>nc (by simp[q])) (fun q=>nc (by simp[q])) (fun q=>nc (by simp[q])) e⟩) (fun c o _ e n=>by rw[aD (Qq (Qc e))];exact n)
     (fun c o nc e=>⟨o,all c o (fun q=>nc (by simp[q])) (fun q=>nc (by simp[q])) (fun q=>nc (by simp[q])) (fun q=>nc (by simp[q])) e⟩) (fun c l e=>by rw[aD (aQ e nT)];exact e) (fun c o u' e=>by rw[aD (aQ e nT)];exact e)
     (fun c ps e=>⟨#[],by rw[aD (aQ e nT),e];simp⟩) (fun m hm=>?_) (fun c ob e=>?_) I.bare
    ·simp only[Qh,Q0,Tj]at hc;rcases hc with rfl|rfl|rfl|rfl
     ·exact⟨fz.2.2.2.1,fz.2.1,fz.2.2.2.2.1,fz.2.2.2.2.2⟩
     ·exact⟨fo.2.2.2.1,fo.2.1,fo.2.2.2.2.1,fo.2.2.2.2.2⟩
     ·exact⟨f1.2.2.2.1,f1.2.1,f1.2.2.2.2.1,f1.2.2.2.2.2⟩
     ·exact⟨f2.2.2.2.1,f2.2.1,f2.2.2.2.2.1,f2.2.2.2.2.2⟩
    ·obtain⟨o,es,ep,ho,r⟩:=hm;exact⟨o,es,ep,all _ o (Rv fz.2.1) (Rv fo.2.1) (Rv f1.2.1) (Rv f2.2.1) ho,r⟩
    ·by_cases ec:c=s.heap.objs.size
     ·subst ec;rw[aV]at e;cases e;exact⟨by simp only[Ql,Rj];rw[Ri];decide,[u,v],.cons ru (.cons rv .nil),⟨_,LQ,rfl,⟨0,rfl⟩,rfl⟩⟩
     ·rw[aD ec]at e;refine(I.hok c ob e).stay (fun d w' hd q=>?_) (fun d q=>by rw[aD (aQ q nT)];exact q) fun d l q=>by rw[aD (aQ q nT)];exact q
      have KA:∃oo,H d=some oo:=by
       rcases hd with rfl|hd
       ·exact⟨_,e⟩
       ·exact⟨_,hd⟩
      obtain⟨oo,LR⟩:=KA;obtain⟨m1,m2,m3,m4⟩:=Jf d oo LR;exact all d w' m1 m2 m3 m4 q
   exact S0
  ·have e1:=rS I a1 s1;have e2:=rS I a2 s2;subst e1 e2;rw[hx]at a3;rw[hy]at a4;cases a3;cases a4;rfl
  ·exact(sb.2 TI n1.symm).trans (kk TI _ n1.symm n5 n6 n7 Je)
  ·have hc0:=(f c hc).1;have cs:c≠s.heap.objs.size:=by
    have:=(fun i h st=>by
     exact(by
      obtain⟨hz,Je,⟨x,y,JK⟩,h1,h2⟩:=st;simp only[Qh,Q0,Tj]at hc;rcases hc with rfl|rfl|rfl|rfl|rfl
      ·exact⟨_,hz⟩
      ·exact⟨_,Je⟩
      ·exact⟨_,JK⟩
      ·obtain⟨o,e,_⟩:=h1.obj;exact⟨o,e⟩
      ·obtain⟨o,e,_⟩:=h2.obj;exact⟨o,e⟩:∃o,h.get? c=some o):∀i h,ZS k1 k2 z TI TO i1 i2 a b i h->∃o,h.get? c=some o) i s.heap st
    obtain⟨o,e⟩:=this;exact Qq (Qc e)
   rw[aD cs];exact hc0
 done:=by
  intro X hP hw hK hc i pi s σ H E I hf st hg;subst hP hw hK;obtain⟨xs,ys,s1,s2,hi⟩:=hg;obtain⟨us,r1,q1⟩:=k8 I s1;obtain⟨ws,r2,q2⟩:=k8 I s2;have l1:=r1.length;have l2:=r2.length;obtain⟨n1,n2,n3,n4,n5,n6,n7,n8,n9,OI⟩:=ne;have f:=fun c hc=>hf c hc
  have D:ZipApart z TI TO i1 i2 a b:=⟨n1.symm,n2.symm,n3.symm,n4.symm,n5,n6,n7,n8,n9,OI,eE I s1 (f z (by simp)),eE I s1 (f TO (by simp)),eE I s1 (f i1 (by simp)),eE I s1 (f i2 (by simp)),
   eE I s2 (f z (by simp)),eE I s2 (f TO (by simp)),eE I s2 (f i1 (by simp)),eE I s2 (f i2 (by simp))⟩
  have fz:=f z (by simp);have fo:=f TO (by simp);have f1:=f i1 (by simp);have f2:=f i2 (by simp);refine qh (I.ok.hd hc) D st q1 q2 (by
   rcases Nat.le_total us.length ws.length with q|q
   ·exact .inl (by simp;lia)
   ·exact .inr (by simp;lia)) fun h' kk=>⟨rfl,?_⟩
  have Jf:∀c ob,H c=some ob->c≠z/\c≠TO/\c≠i1/\c≠i2:=fun c ob e=>⟨(fun q=>by rw[q,fz.1]at e;cases e),(fun q=>by rw[q,fo.1]at e;cases e),(fun q=>by rw[q,f1.1]at e;cases e),(fun q=>by rw[q,f2.1]at e;cases e)⟩
  have S0:Inv X pi σ H {s with heap:=h',gens:=s.gens,drawn:=s.drawn,toks:=s.toks}:=by
   refine I.step (ch:=[z,TO,i1,i2]) (fun c hc=>?_) (fun c o _ _ nc e _=>kk c o (fun q=>nc (by simp[q])) (fun q=>nc (by simp[q])) (fun q=>nc (by simp[q])) (fun q=>nc (by simp[q])) e)
    (fun c o _ _ nc e _=>⟨o.slots,kk c o (fun q=>nc (by simp[q])) (fun q=>nc (by simp[q])) (fun q=>nc (by simp[q])) (fun q=>nc (by simp[q])) e⟩) (fun c o _ e n=>n)
    (fun c o nc e=>⟨o,kk c o (fun q=>nc (by simp[q])) (fun q=>nc (by simp[q])) (fun q=>nc (by simp[q])) (fun q=>nc (by simp[q])) e⟩) (fun c l e=>e) (fun c o u' e=>e)
    (fun c ps e=>⟨#[],by rw[e];simp⟩) (fun m hm=>?_) (fun c ob e=>?_) I.bare
   ·simp only[Qh,Q0,Tj]at hc;rcases hc with rfl|rfl|rfl|rfl
    ·exact⟨fz.2.2.2.1,fz.2.1,fz.2.2.2.2.1,fz.2.2.2.2.2⟩
    ·exact⟨fo.2.2.2.1,fo.2.1,fo.2.2.2.2.1,fo.2.2.2.2.2⟩
    ·exact⟨f1.2.2.2.1,f1.2.1,f1.2.2.2.2.1,f1.2.2.2.2.2⟩
    ·exact⟨f2.2.2.2.1,f2.2.1,f2.2.2.2.2.1,f2.2.2.2.2.2⟩
   ·obtain⟨o,es,ep,ho,r⟩:=hm;exact⟨o,es,ep,kk _ o (Rv fz.2.1) (Rv fo.2.1) (Rv f1.2.1) (Rv f2.2.1) ho,r⟩
   ·refine(I.hok c ob e).stay (fun d w' hd q=>?_) (fun d q=>q) fun d l q=>q
    have KA:∃oo,H d=some oo:=by
     rcases hd with rfl|hd
     ·exact⟨_,e⟩
     ·exact⟨_,hd⟩
    obtain⟨oo,LR⟩:=KA;obtain⟨m1,m2,m3,m4⟩:=Jf d oo LR;exact kk d w' m1 m2 m3 m4 q
  exact S0
 self:=fun _ _ _ _ _ st h=>wpAny_pyIter_zip st.1 h
section
variable{X:Cx}{es:List Expr}{kt:Nat}{pt:Pos}
def EO(K:W.Frag)(k1 k2:Bool)(ta:TA):TI:=fun σ H R=>ta σ H fun vs H1=>∃a b xs ys,vs=[.ref a,.ref b]/\(if k1 then SqL K H1 a xs else SqT K H1 a xs)/\(if k2 then SqL K H1 b ys else SqT K H1 b ys)/\R (OH K k1 k2 a b) H1
theorem AE(k1 k2:Bool){e1 e2:Expr}{ta:TA}{p pos:Pos}(hg:Gl X "zip")(hm:X.mg "zip" = none)(ha:PA X [e1,e2] ta)(he:starEach [e1,e2] X.env=(false,eval e1 X.env)::starEach [e2] X.env:=by rfl)(Hh:(backTo pos (starEach [e2] X.env)).any (·.1)=false:=by rfl):
  PI X (.Tuple es kt pt) (.Call (.Name "zip" p) [e1,e2] [] pos) (EO X.K k1 k2 ta):=by
 intro pi s σ H R I h;refine RI (ji I hg hm (by decide +kernel:bootBuiltins "zip" = some (.type "zip")) ?_ (by decide) (by decide));refine RQ (Fy (ha pos pi s σ H _ I h) fun us s1 ⟨vs,H1,I1,r1,a,b,xs,ys,e,OJ,s2',q⟩=>?_) he Hh;subst e;obtain⟨u,w',rfl,ra,rb⟩:=xD r1;cases ra;cases rb;obtain⟨us,v1,q1⟩:=k8 I1 OJ;obtain⟨ws,v2,q2⟩:=k8 I1 s2';refine xU q1 q2 fun h' st kk=>?_
 refine wpAny_pyIter_zip st.1 ?_;have fr:∀j,p7 X pi H1 (s1.heap.objs.size+j):=fun j=>I1.fpOk (SX _ _) (I1.hok.fresh (SX _ _))
 have nn:∀i j:Nat,i≠j->s1.heap.objs.size+i≠s1.heap.objs.size+j:=fun i j h z=>h (UP z)
 refine⟨_,_,_,_,H1,rfl,I1.kept (t':=s1.toks) kk,ve k1 k2 a b (s1.heap.objs.size+4) (s1.heap.objs.size+2) (s1.heap.objs.size+3) (s1.heap.objs.size+0) (s1.heap.objs.size+1)
  ⟨nn 4 2 (by decide),nn 4 3 (by decide),nn 4 0 (by decide),nn 4 1 (by decide),nn 2 3 (by decide),nn 2 0 (by decide),nn 2 1 (by decide),nn 3 0 (by decide),nn 3 1 (by decide),nn 0 1 (by decide)⟩,st,fun c hc=>?_,q⟩
 simp only[Qh,Q0,Tj]at hc;rcases hc with rfl|rfl|rfl|rfl|rfl
 ·exact fr 4
 ·exact fr 2
 ·exact fr 3
 ·exact fr 0
 ·exact fr 1
end
end NX
namespace NX
open PySem PySem.W PyProof.Rows
section
variable{n:Nat}{O:KeyOrd}{κ:Nat->O.α}{cmp:Nat->Nat->(Bool->Shared->Prop)->Shared->Prop}{Good:Shared->Prop}
def kk(κ:Nat->O.α)(p:Array Nat)(i:Nat):O.α:=κ (p.getD i 0)
structure POk(n:Nat)(p:Array Nat):Prop where
 perm:p.toList.Perm (List.range n)
theorem POk.size{p:Array Nat}(h:POk n p):p.size=n:=by
 have:=h.perm.length_eq;simpa using this
theorem POk.lt{p:Array Nat}(h:POk n p){i:Nat}(hi:i<n):p.getD i 0<n:=by
 have hs:=h.size;have Kv:i<p.size:=by lia
 have e:p.getD i 0=p[i]:=by simp[Array.getD,Kv]
 rw[e];exact QC.mp (h.perm.mem_iff.mp (Array.getElem_mem_toList Kv))
theorem POk.of{p q:Array Nat}(h:POk n p)(hq:q.Perm p):POk n q:=⟨(Array.perm_iff_toList_perm.mp hq).trans h.perm⟩
def bg(κ:Nat->O.α)(p:Array Nat)(m:Nat):Prop:=∀i j,i<=j->j<m->O.kle (kk κ p i) (kk κ p j)
def eF(κ:Nat->O.α)(p:Array Nat)(m:Nat):Prop:=∀i j,i<=j->j<m->O.kle (kk κ p j) (kk κ p i)
theorem dY{p q:Array Nat}{i j:Nat}(h:p[i]?=q[j]?):p.getD i 0=q.getD j 0:=by
 rw[Td,Td,h]
theorem o6{p:Array Nat}{i j:Nat}(hj:j<=p.size)(k:Nat):kk κ (kas_rev p i j) k=if i<=k/\k<j then kk κ p (i+j-1-k) else kk κ p k:=by
 have e:=getElem?_mirror_all (i:=i) hj k;unfold kk kas_rev;split
 ·rename_i h;rw[Qa h]at e;rw[dY e]
 ·rename_i h;rw[Qf h]at e;rw[dY e]
theorem wJ{p:Array Nat}{src d:Nat}(hs:src<p.size)(hd:d<=src)(k:Nat):kk κ (bubble p src d) k=if k=src-d then kk κ p src else if src-d<k/\k<=src then kk κ p (k-1) else kk κ p k:=by
 have e:=getElem?_bubble hs d hd k;by_cases h:k=src-d
 ·rw[Qa h]at e ⊢;exact Rg κ (dY e)
 ·rw[Qf h]at e ⊢;by_cases h2:src-d<k/\k<=src
  ·rw[Qa h2]at e ⊢;exact Rg κ (dY e)
  ·rw[Qf h2]at e ⊢;exact Rg κ (dY e)
theorem POk.rev{p:Array Nat}(h:POk n p)(i j:Nat):POk n (kas_rev p i j):=h.of (mirror_perm _ _ _ _)
theorem POk.bub{p:Array Nat}(h:POk n p)(i j:Nat):POk n (bubble p i j):=h.of (bubble_perm _ _ _)
theorem qi(p:Array Nat):bg κ p 1:=fun i j a b=>by
 have e:i=j:=by lia
 rw[e];exact RU _
theorem nW{p:Array Nat}{m:Nat}(h1:1<=m)(h:bg κ p m)(hm:O.kle (kk κ p (m-1)) (kk κ p m)):bg κ p (m+1):=by
 intro i j Kw hj;by_cases e:j=m
 ·subst e;by_cases e2:i=j
  ·subst e2;exact RU _
  ·exact SY (h i (j-1) (by lia) (by lia)) hm
 ·exact h i j Kw (by lia)
theorem dZ{p:Array Nat}{m:Nat}(h1:1<=m)(h:eF κ p m)(hm:O.kle (kk κ p m) (kk κ p (m-1))):eF κ p (m+1):=by
 intro i j Kw hj;by_cases e:j=m
 ·subst e;by_cases e2:i=j
  ·subst e2;exact RU _
  ·exact SY hm (h i (j-1) (by lia) (by lia))
 ·exact h i j Kw (by lia)
variable(hc:∀i j,i<n->j<n->∀(Q:Bool->Shared->Prop) s,Good s->(∀s',Good s'->Q (O.blt (κ i) (κ j)) s')->cmp i j Q s)
include hc
theorem rT{p:Array Nat}(hp:POk n p){FU:Nat}(hn:FU<=n){Q:Nat->Shared->Prop}:∀(f m:Nat) (s:Shared),Good s->1<=m->m+f=FU->bg κ p m->
  (∀r s',Good s'->m<=r->r<=FU->bg κ p r->(r<FU->O.klt (kk κ p r) (kk κ p (r-1)))->Q r s')->(kas_asc p f m).kasWp cmp Q s
 | 0,m,s,g,h1,hf,hs,k=>k m s g (P9 _) (by lia) hs (fun z=>by lia)
 |f+1,m,s,g,h1,hf,hs,k=>by
  show cmp (p.getD m 0) (p.getD (m-1) 0) _ s;refine hc _ _ (hp.lt (by lia)) (hp.lt (by lia)) _ s g fun s' g'=>?_
  cases e:O.blt (κ (p.getD m 0)) (κ (p.getD (m-1) 0)) with
  |true=>
   (try dsimp only)
   rw[Qa rfl];exact k m s' g' (P9 _) (by lia) hs fun _=>e
  |false=>
   (try dsimp only)
   rw[Qf Qb];exact rT hp hn f (m+1) s' g' (by lia) (by lia) (nW h1 hs e) fun r s2 g2 a b c d=>k r s2 g2 (by lia) b c d
def xV(κ:Nat->O.α)(p:Array Nat)(m q:Nat):Prop:=∀k,m-(q+1)<=k->k<m->kk κ p k=kk κ p (m-1)
omit hc in
theorem mz{p:Array Nat}{m q:Nat}(hm:m<=p.size)(h:xV κ p m q)(k:Nat):kk κ (kas_rev p (m-(q+1)) m) k=kk κ p k:=by
 rw[o6 hm];split
 ·rename_i hk;rw[h _ (by lia) (by lia),h k hk.1 hk.2]
 ·rfl
omit hc in
theorem ic{p p':Array Nat}{m:Nat}(e:∀k,kk κ p' k=kk κ p k)(h:eF κ p m):eF κ p' m:=fun i j a b=>by rw[e,e];exact h i j a b
theorem k9{FU:Nat}(hn:FU<=n){Q:Array Nat×Nat×Nat->Shared->Prop}:∀(f:Nat) (p:Array Nat) (m q:Nat) (s:Shared),POk n p->Good s->1<=m->q+1<=m->m+f=FU->eF κ p m->xV κ p m q->
  (∀p' m' q' s',POk n p'->Good s'->m<=m'->m'<=FU->q'+1<=m'->eF κ p' m'->xV κ p' m' q'->Q (p',m',q') s')->(kas_desc f p m q).kasWp cmp Q s
 | 0,p,m,q,s,hp,g,h1,hq,hf,hs,ha,k=>k p m q s hp g (P9 _) (by lia) hq hs ha
 |f+1,p,m,q,s,hp,g,h1,hq,hf,hs,ha,k=>by
  show cmp (p.getD m 0) (p.getD (m-1) 0) _ s;refine hc _ _ (hp.lt (by lia)) (hp.lt (by lia)) _ s g fun s' g'=>?_
  have hsz:=hp.size;cases e:O.blt (κ (p.getD m 0)) (κ (p.getD (m-1) 0)) with
  |true=>
   (try dsimp only)
   rw[Qa rfl];have le:O.kle (kk κ p m) (kk κ p (m-1)):=SO e;by_cases h0:q>0
   ·rw[Qa h0];have same:=mz (κ:=κ) (p:=p) (m:=m) (q:=q) (by lia) ha;refine k9 hn f _ (m+1) 0 s' (hp.rev _ _) g' (by lia) (by lia) (by lia) (dZ h1 (ic same hs) (by rw[same,same];exact le)) ?_ fun p' m' q' s2 a b c d e' f' g2=>k p' m' q' s2 a b (by lia) d e' f' g2
    intro k' a b;have:k'=m:=by lia
    rw[this];rfl
   ·rw[Qf h0];refine k9 hn f p (m+1) 0 s' hp g' (by lia) (by lia) (by lia) (dZ h1 hs le) ?_ fun p' m' q' s2 a b c d e' f' g2=>k p' m' q' s2 a b (by lia) d e' f' g2
    intro k' a b;have:k'=m:=by lia
    rw[this];rfl
  |false=>
   (try dsimp only)
   rw[Qf Qb];show cmp (p.getD (m-1) 0) (p.getD m 0) _ s';refine hc _ _ (hp.lt (by lia)) (hp.lt (by lia)) _ s' g' fun s2 g2=>?_
   cases e2:O.blt (κ (p.getD (m-1) 0)) (κ (p.getD m 0)) with
   |true=>
    (try dsimp only)
    rw[Qa rfl];exact k p m q s2 hp g2 (P9 _) (by lia) hq hs ha
   |false=>
    (try dsimp only)
    rw[Qf Qb];have eq:kk κ p (m-1)=kk κ p m:=KeyOrd.kle_antisymm (O:=O) e e2;refine k9 hn f p (m+1) (q+1) s2 hp g2 (by lia) (by lia) (by lia) (dZ h1 hs (by rw[eq];exact RU _)) ?_ fun p' m' q' s3 a b c d e' f' g3=>k p' m' q' s3 a b (by lia) d e' f' g3
    intro k' a b;show kk κ p k'=kk κ p m;by_cases z:k'=m
    ·rw[z]
    ·rw[ha k' (by lia) (by lia),eq]
omit hc in
theorem qj{p:Array Nat}{m:Nat}(hm:m<=p.size)(h:eF κ p m):bg κ (kas_rev p 0 m) m:=by
 intro i j a b;rw[o6 hm,o6 hm,Qa (by lia),Qa (by lia)];exact h _ _ (by lia) (by lia)
theorem rU{p:Array Nat}(hp:POk n p){m FU:Nat}(hn:FU<=n)(h1:1<=m)(hm:m<=FU)(hs:eF κ p m){Q:Nat×Array Nat->Shared->Prop}{s:Shared}(g:Good s)
  (k:∀r p' s',POk n p'->Good s'->1<=r->r<=FU->bg κ p' r->Q (r,p') s'):(kas_tail3 m FU p).kasWp cmp Q s:=by
 unfold kas_tail3;rw[KasT.kasWp_bind];have hsz:=hp.size;refine rT hc (hp.rev 0 m) hn (FU-m) m s g h1 (by lia) (qj (by lia) hs) fun r s' g' a b c _=>?_
 exact k r _ s' (hp.rev 0 m) g' (by lia) b c
theorem jr{p:Array Nat}(hp:POk n p){m FU:Nat}(hn:FU<=n)(h1:1<=m)(hm:m+1<=FU)(hs:eF κ p (m+1)){Q:Nat×Array Nat->Shared->Prop}{s:Shared}(g:Good s)
  (k:∀r p' s',POk n p'->Good s'->1<=r->r<=FU->bg κ p' r->Q (r,p') s'):(kas_descPart m FU p).kasWp cmp Q s:=by
 unfold kas_descPart;rw[KasT.kasWp_bind];refine k9 hc hn (FU-(m+1)) p (m+1) 0 s hp g (by lia) (by lia) (by lia) hs ?_ fun p' m' q' s' a b c d e f g2=>?_
 ·intro k' a b;have:k'=m:=by lia
  rw[this];rfl
 ·have hsz:=a.size;dsimp only;split
  ·have same:=mz (κ:=κ) (p:=p') (m:=m') (q:=q') (by lia) g2;exact rU hc (a.rev _ _) hn (by lia) d (ic same f) b k
  ·exact rU hc a hn (by lia) d f b k
theorem vf{p:Array Nat}(hp:POk n p){FU:Nat}(hn:FU<=n)(h1:1<=FU){Q:Nat×Array Nat->Shared->Prop}{s:Shared}(g:Good s)
  (k:∀r p' s',POk n p'->Good s'->1<=r->r<=FU->bg κ p' r->Q (r,p') s'):(kas_count FU p).kasWp cmp Q s:=by
 unfold kas_count;rw[KasT.kasWp_bind];have hsz:=hp.size;refine rT hc hp hn (FU-1) 1 s g (P9 _) (by lia) (qi p) fun m s' g' a b c d=>?_
 by_cases e:m=FU
 ·rw[Qa (by simpa using e)];exact k m p s' hp g' (by lia) (by lia) c
 ·rw[Qf (by simpa using e)];have dd:=d (by lia);by_cases h2:m>1
  ·rw[Qa h2];show cmp (p.getD 0 0) (p.getD (m-1) 0) _ s';refine hc _ _ (hp.lt (by lia)) (hp.lt (by lia)) _ s' g' fun s2 g2=>?_
   cases e2:O.blt (κ (p.getD 0 0)) (κ (p.getD (m-1) 0)) with
   |true=>
    (try dsimp only)
    rw[Qa rfl];exact k m p s2 hp g2 (by lia) b c
   |false=>
    (try dsimp only)
    rw[Qf Qb];have eq:∀i,i<m->kk κ p i=kk κ p 0:=fun i hi=>by
     have x1:=c 0 i (by lia) hi;have x2:=c i (m-1) (by lia) (by lia);exact KeyOrd.kle_antisymm (O:=O) (SY x2 e2) x1
    have same:∀i,kk κ (kas_rev p 0 m) i=kk κ p i:=fun i=>by
     rw[o6 (by lia)];split
     ·rw[eq _ (by lia),eq i (by lia)]
     ·rfl
    refine jr hc (hp.rev 0 m) hn (by lia) (by lia) ?_ g2 k;refine ic same (dZ (by lia) (fun i j x y=>?_) (SO dd));rw[eq i (by lia),eq j y];exact RU _
  ·rw[Qf h2];refine jr hc hp hn (by lia) (by lia) (dZ (by lia) (fun i j x y=>?_) (SO dd)) g' k;have:i=j:=by lia
   rw[this];exact RU _
theorem lb{p:Array Nat}(hp:POk n p){t:Nat}(ht:t<n)(hs:bg κ p t){Q:Nat->Shared->Prop}:∀(f l r:Nat) (s:Shared),Good s->l<=r->r<=t->r-l<=f->(∀i,i<l->O.kle (kk κ p i) (kk κ p t))->(∀i,r<=i->i<t->O.klt (kk κ p t) (kk κ p i))->
  (∀x s',Good s'->x<=t->(∀i,i<x->O.kle (kk κ p i) (kk κ p t))->(∀i,x<=i->i<t->O.klt (kk κ p t) (kk κ p i))->Q x s')->(kas_place p t f l r).kasWp cmp Q s
 | 0,l,r,s,g,h1,h2,h3,lo,hi,k=>k l s g (by lia) lo fun i a b=>hi i (by lia) b
 |f+1,l,r,s,g,h1,h2,h3,lo,hi,k=>by
  unfold kas_place;by_cases e:l>=r
  ·rw[Qa e];exact k l s g (by lia) lo fun i a b=>hi i (by lia) b
  ·rw[Qf e];show cmp (p.getD t 0) (p.getD ((l+r) / 2) 0) _ s;refine hc _ _ (hp.lt ht) (hp.lt (by lia)) _ s g fun s' g'=>?_
   cases e2:O.blt (κ (p.getD t 0)) (κ (p.getD ((l+r) / 2) 0)) with
   |true=>
    (try dsimp only)
    rw[Qa rfl];refine lb hp ht hs f l ((l+r) / 2) s' g' (by lia) (by lia) (by lia) lo (fun i a b=>?_) k;exact KeyOrd.klt_of_klt_of_kle (O:=O) e2 (hs _ i a b)
   |false=>
    (try dsimp only)
    rw[Qf Qb];refine lb hp ht hs f ((l+r) / 2+1) r s' g' (by lia) (by lia) (by lia) (fun i a=>?_) hi k;exact SY (O:=O) (hs i ((l+r) / 2) (by lia) (by lia)) e2
theorem wK{Q:Array Nat->Shared->Prop}:∀(f:Nat) (p:Array Nat) (t:Nat) (s:Shared),POk n p->Good s->t+f=n->bg κ p t->(∀p' s',POk n p'->Good s'->bg κ p' n->Q p' s')->(kas_bin f p t).kasWp cmp Q s
 | 0,p,t,s,hp,g,hf,hs,k=>k p s hp g (by rw[show n=t by lia];exact hs)
 |f+1,p,t,s,hp,g,hf,hs,k=>by
  unfold kas_bin;rw[KasT.kasWp_bind];have hsz:=hp.size;refine lb hc hp (by lia) hs t 0 t s g (QJ _) (P9 _) (by lia) (fun i a=>by lia) (fun i a b=>by lia) fun x s' g' hx lo hi=>?_
  refine wK f _ (t+1) s' (hp.bub _ _) g' (by lia) ?_ k;have ex:t-(t-x)=x:=by lia
  intro i j a b;rw[wJ (by lia) (by lia),wJ (by lia) (by lia),ex];have lo':=lo;by_cases i1:i=x
  ·by_cases j1:j=x
   ·rw[Qa i1,Qa j1];exact RU _
   ·rw[Qa i1,Qf j1,Qa (by lia)];exact SO (hi (j-1) (by lia) (by lia))
  ·rw[Qf i1];by_cases i2:x<i/\i<=t
   ·rw[Qa i2,Qf (by lia),Qa (by lia)];exact hs (i-1) (j-1) (by lia) (by lia)
   ·rw[Qf i2];by_cases j1:j=x
    ·rw[Qa j1];exact lo i (by lia)
    ·rw[Qf j1];by_cases j2:x<j/\j<=t
     ·rw[Qa j2];exact hs i (j-1) (by lia) (by lia)
     ·rw[Qf j2];exact hs i j a (by lia)
theorem xW(h1:1<=n){Q:Array Nat->Shared->Prop}{s:Shared}(g:Good s)(k:∀p s',POk n p->Good s'->bg κ p n->Q p s'):(kas_sort n).kasWp cmp Q s:=by
 unfold kas_sort;rw[KasT.kasWp_bind];refine vf hc (p:=List.toArray (List.range n)) ⟨by simp⟩ (P9 _) h1 g fun r p' s' hp g' a b c=>?_
 dsimp only;split
 ·have e:max r 1=r:=by lia
  rw[e];exact wK hc (n-r) p' r s' hp g' (by lia) c k
 ·exact k p' s' hp g' (by rw[show n=r by lia];exact c)
end
end NX
namespace NX
open PySem PySem.W PySem.Spec PyProof.Rows L2
section
variable{prog:Program}{w:World}{A:Around}{E:Value->Shared->Prop}{s:Shared}
theorem o7(n:Nat):POk n (List.toArray (List.range n)):=⟨by simp⟩
theorem gU{O:KeyOrd}{key:Nat->O.α}{kd:SortKind}{a:Addr}{vs:List Value}{n:Nat}{P:PySem.Fin->Shared->Prop}(ho:s.heap.get? a=some (seqObj "list" vs.toArray n))(JL:vs.length<64)
  (HA:2<=vs.length->∀(h':Heap),(∀b o,b≠a->s.heap.get? b=some o->h'.get? b=some o)->∀Q:SortKind->Shared->Prop,Q kd {s with heap:=h'}->wpAny (model prog w) A (keyKind' vs.toArray) Q E {s with heap:=h'})
  (J6:∀i j,i<vs.length->j<vs.length->∀(h':Heap),(∀b o,b≠a->s.heap.get? b=some o->h'.get? b=some o)->∀C:Bool->Shared->Prop,C (O.blt (key i) (key j)) {s with heap:=h'}->kas_ask prog w A kd vs i j C {s with heap:=h'})
  (h:∀p h',POk vs.length p->bg key p vs.length->(∃e,h'.get? a=some (seqObj "list" (List.toArray (p.toList.map fun i=>vs.getD i .none)) e))->(∀b o,b≠a->s.heap.get? b=some o->h'.get? b=some o)->P (.done (.ret .none)) {s with heap:=h'}):
  wpAny (model prog w) A (Builtin.«list.sort» ⟨[.ref a],[]⟩) P E s:=by
 rw[list_sort_plain];have la:a<s.heap.objs.size:=Qc ho;have zs:vs.toArray.size=vs.length:=by simp
 refine P2 (listItems_at ho rfl (P2 (listUpdate_at ho rfl ?_ (by rw[zs,Ri];lia) (QJ _))));obtain⟨e1,h1⟩:∃e1,(s.heap.update a (Obj.mapSeq fun _=>#[])).get? a=some (seqObj "list" #[] e1):=⟨_,get?_update_seq ho (fun _=>#[])⟩
 refine P2 (seqEpoch_at h1 rfl (P2 (wpAny_newTuple (P2 (U1 (RG ?_))) (by simp only[Sv];rw[Ri];lia))));generalize e6:((s.heap.update a (Obj.mapSeq fun _=>#[])).push {cls:=.type "tuple",data:=.seq vs.toArray.toList.toArray}).push {cls:=.type "list",data:=.seq ([]:List Value).toArray}=h6;have k6:∀b o,b≠a->s.heap.get? b=some o->h6.get? b=some o:=fun b o nb e=>by
  rw[<-e6];exact Heap.get?_push_of_some _ (Heap.get?_push_of_some _ ((Heap.get?_update_other _ _ (Rv nb)).trans e))
 have M7:h6.get? a=some (seqObj "list" #[] e1):=by
  rw[<-e6];exact Heap.get?_push_of_some _ (Heap.get?_push_of_some _ h1)
 dsimp only;have fin:∀(p:Array Nat),POk vs.length p->bg key p vs.length->∀out:Array Value,out=List.toArray (p.toList.map fun i=>vs.getD i .none)->
   P (.done (.ret .none)) {s with heap:=h6.update a (Obj.mapSeq fun _=>out)}:=fun p hp hs out eo=>by
  subst eo;exact h p _ hp hs ⟨_,get?_update_seq M7 _⟩ fun b o nb e=>(Heap.get?_update_other _ _ (Rv nb)).trans (k6 b o nb e)
 have fits:∀{out:Array Value}{p:Array Nat},POk vs.length p->out=List.toArray (p.toList.map fun i=>vs.getD i .none)->out.size<=sizeLine+1:=fun{out p} hp e=>by
  rw[e,P6,P5,hp.perm.length_eq,Qr,Ri];lia
 by_cases h2:vs.toArray.size<2
 ·rw[Qa h2,Qa h2];refine P2 (P4 ?_);rw[StateT.run_pure];refine P2 (P4 ?_);dsimp only;have eo:(arrOf (SortSt.mk' general' (vs.toArray.zip vs.toArray) #[] 7 none)).map (·.2)=List.toArray ((List.toArray (List.range vs.length)).toList.map fun i=>vs.getD i .none):=by
   show(vs.toArray.zip vs.toArray).map (·.2)=_;apply Array.toList_inj.mp;simp only[Array.toList_map,Array.toList_zip,Sv];have a1:(vs.zip vs).map (·.2)=vs:=by
    rw[List.map_snd_zip];exact P9 _
   rw[a1];apply Rc;intro i;by_cases hi:i<vs.length
   ·simp[hi]
   ·simp[hi]
  refine P2 (seqEpoch_at M7 rfl (P2 (listUpdate_at M7 rfl ?_ (QJ _) (fits (o7 _) eo))));simp only[Tv,Ry,SS];refine P4 (fin _ (o7 _) ?_ _ eo);intro i j x y;have:i=j:=by lia
  rw[this];exact RU _
 ·rw[Qf h2,Qf h2];have OK:2<=vs.length:=by lia
  refine P2 (HA OK h6 k6 _ ?_);refine P2 (Sy (kat_run (ks:=vs) (vs:=vs) (Q:=fun He s'=>∃p,POk vs.length p/\bg key p vs.length/\arrOf He=p.map (kas_item (vs.toArray.zip vs.toArray))/\failedOf He=none/\s'={s with heap:=h6})
   (G:=fun p s'=>POk vs.length p/\bg key p vs.length/\s'={s with heap:=h6}) rfl OK JL (fun p He s' hz OL hf hg=>⟨p,hg.1,hg.2.1,OL,hf,hg.2.2⟩)
   (xW (n:=vs.length) (O:=O) (κ:=key) (Good:=fun s'=>s'={s with heap:=h6}) (fun i j hi hj Q s' g k=>?_) (by lia) rfl fun p s' hp g hs=>⟨hp,hs,g⟩)) (fun r s' hq=>?_) fun _ _ e=>e)
  ·subst g;exact J6 i j hi hj h6 k6 Q (k _ rfl)
  ·obtain⟨p,hp,hs,OL,hf,rfl⟩:=hq;have eo:=kat_snds (ks:=vs) (vs:=vs) rfl OL;refine P2 (seqEpoch_at M7 rfl (P2 (listUpdate_at M7 rfl ?_ (QJ _) (fits hp eo))));rw[hf];simp only[Tv,Ry,SS];exact P4 (fin p hp hs _ eo)
theorem ie{O:KeyOrd}{key:Nat->O.α}{kd:SortKind}{l:Addr}{vs:List Value}{Q:Value->Shared->Prop}(hl:s.heap.IsList l vs.toArray)(JL:vs.length<64)
  (HA:2<=vs.length->∀(A':Around) (E':Value->Shared->Prop) (h':Heap),(∀b o,s.heap.get? b=some o->h'.get? b=some o)->∀Q:SortKind->Shared->Prop,Q kd {s with heap:=h'}->wpAny (model prog w) A' (keyKind' vs.toArray) Q E' {s with heap:=h'})
  (J6:∀i j,i<vs.length->j<vs.length->∀(h':Heap),(∀b o,s.heap.get? b=some o->h'.get? b=some o)->∀C:Bool->Shared->Prop,C (O.blt (key i) (key j)) {s with heap:=h'}->kas_ask prog w A.in1.in1 kd vs i j C {s with heap:=h'})
  (h:∀p h' e,POk vs.length p->bg key p vs.length->h'.get? (s.heap.objs.size+1)=some (seqObj "list" (List.toArray (p.toList.map fun i=>vs.getD i .none)) e)->(∀b o,s.heap.get? b=some o->h'.get? b=some o)->Q (.ref (s.heap.objs.size+1)) {s with heap:=h'}):
  wpAny (model prog w) A (call (.builtin "sorted") [.ref l]) Q E s:=by
 refine Ss kind_sorted plain_sorted entry_sorted (args_sorted1 _) ?_;unfold Builtin.«sorted»;refine P2 (m:=checkCount "sorted" 1 1 _) (P4 (P2 (collect_list hl (P2 (U1 ?_ (by rw[Ri];lia))) (by rw[Ri];lia))));have zz:((s.heap.push (seqObj "list" #[] 0)).update s.heap.objs.size (Obj.mapSeq (·++vs.toArray))).objs.size=s.heap.objs.size+1:=by rw[Heap.size_update,size_push']
 generalize e5:(s.heap.push (seqObj "list" #[] 0)).update s.heap.objs.size (Obj.mapSeq (·++vs.toArray))=h5 at zz ⊢;have k5:∀b o,s.heap.get? b=some o->(h5.push (seqObj "list" vs.toArray 0)).get? b=some o:=fun b o e=>by
  rw[<-e5];exact Heap.get?_push_of_some _ ((Heap.get?_update_other _ _ (Rv (Qq (Qc e)))).trans (Heap.get?_push_of_some _ e))
 have hL:(h5.push (seqObj "list" vs.toArray 0)).get? (s.heap.objs.size+1)=some (seqObj "list" vs.toArray 0):=by
  rw[<-zz];exact Heap.get?_push_size _ rfl
 have ne:∀b o,s.heap.get? b=some o->b≠s.heap.objs.size+1:=fun b o e=>Qq (Tx (Qc e))
 show wpAny _ _ _ _ _ {s with heap:=h5.push (seqObj "list" vs.toArray 0)};rw[zz];refine P2 (RG (Rk slot_list_sort ⟨_,hL,rfl⟩ entry_list_sort (gU (key:=key) (kd:=kd) hL JL (fun h2 h' kk Q' q=>HA h2 _ _ h' (fun b o e=>kk b o (ne b o e) (k5 b o e)) Q' q)
  (fun i j hi hj h' kk C q=>J6 i j hi hj h' (fun b o e=>kk b o (ne b o e) (k5 b o e)) C q) fun p h' hp hs ⟨e,he⟩ kk=>⟨_,rfl,?_⟩) (args_list_sort _)))
 exact P4 ⟨_,rfl,h p h' e hp hs he fun b o q=>kk b o (ne b o q) (k5 b o q)⟩
end
def intO:KeyOrd where
 α:=Int
 blt a b:=decide (a<b)
 irrefl a:=by simp
 trans a b c h1 h2:=by simp only[Qm] at *;lia
 negTrans a b c h:=by simp only[Qm] at *;lia
 total a b h1 h2:=by simp only[Rl] at *;lia
abbrev Ed:KeyOrd:=strKind.toKeyOrd
noncomputable def o8:KeyOrd where
 α:=Key
 blt a b:=match a,b with
  | .inl i,.inl j=>decide (i<j)
  | .inr x,.inr y=>decide (x.cps.toList<y.cps.toList)
  | .inl _,.inr _=>true
  | .inr _,.inl _=>false
 irrefl a:=by
  cases a with
  |inl i=>simp
  |inr x=>simpa using List.lt_irrefl x.cps.toList
 trans a b c h1 h2:=by
  cases a <;> cases b <;> cases c <;> simp_all
  ·lia
  ·exact List.lt_trans h1 h2
 negTrans a b c h:=by
  cases a <;> cases b <;> cases c <;> simp_all
  ·lia
  ·rename_i x y z;by_cases q:x.cps.toList<y.cps.toList
   ·exact .inl q
   ·exact .inr (List.lt_of_le_of_lt (TY.mp q) h)
 total a b h1 h2:=by
  cases a <;> cases b <;> simp_all
  ·lia
  ·rename_i x y;have e:x.cps.toList=y.cps.toList:=List.le_antisymm (by first|exact h2|exact TY.mp h2) (by first|exact h1|exact TY.mp h1);rw[<-mn x,<-mn y,e]
def dJ:List Key->List Key->Bool
 |[],[]=>false
 |[],_::_=>true
 |_::_,[]=>false
 |a::r,b::t=>if a=b then dJ r t else o8.blt a b
theorem gF:∀a:List Key,dJ a a=false
 |[]=>rfl
 |a::r=>by
  show(if a=a then dJ r r else _)=false;rw[Qa rfl];exact gF r
theorem xX{a b:Key}(h:o8.blt a b=true):a≠b:=by
 rintro rfl;have:=o8.irrefl a;rw[h]at this;cases this
theorem fZ:∀a b c:List Key,dJ a b=true->dJ b c=true->dJ a c=true
 |[],[],_,h,_=>by cases h
 |[],_::_,[],_,h=>by cases h
 |[],_::_,_::_,_,_=>rfl
 |_::_,[],_,h,_=>by cases h
 |_::_,_::_,[],_,h=>by cases h
 |a::r,b::t,c::u,h1,h2=>by
  have h1:(if a=b then dJ r t else o8.blt a b)=true:=h1;have h2:(if b=c then dJ t u else o8.blt b c)=true:=h2;show(if a=c then dJ r u else o8.blt a c)=true;by_cases e1:a=b
  ·by_cases e2:b=c
   ·rw[Qa e1]at h1;rw[Qa e2]at h2;rw[Qa (e1.trans e2)];exact fZ r t u h1 h2
   ·rw[Qf e2]at h2;rw[e1,Qf e2];exact h2
  ·rw[Qf e1]at h1;by_cases e2:b=c
   ·rw[<-e2,Qf e1];exact h1
   ·rw[Qf e2]at h2;have h3:=o8.trans a b c h1 h2;rw[Qf (xX h3)];exact h3
theorem f6:∀a b:List Key,dJ a b=false->dJ b a=false->a=b
 |[],[],_,_=>rfl
 |[],_::_,h,_=>by cases h
 |_::_,[],_,h=>by cases h
 |a::r,b::t,h1,h2=>by
  have h1:(if a=b then dJ r t else o8.blt a b)=false:=h1;have h2:(if b=a then dJ t r else o8.blt b a)=false:=h2;by_cases e:a=b
  ·rw[Qa e]at h1;rw[Qa e.symm]at h2;rw[e,f6 r t h1 h2]
  ·rw[Qf e]at h1;rw[Qf (Rv e)]at h2;exact absurd (o8.total a b h1 h2) e
theorem vg(a b c:List Key)(h:dJ a c=true):dJ a b=true\/dJ b c=true:=by
 cases e:dJ a b with
 |true=>exact .inl rfl
 |false=>
  refine .inr ?_;cases e2:dJ b a with
  |true=>exact fZ b a c e2 h
  |false=>
   rw[<-f6 a b e e2];exact h
def Cy:KeyOrd where
 α:=List Key
 blt:=dJ
 irrefl:=gF
 trans:=fZ
 negTrans:=vg
 total:=f6
section
variable{O:KeyOrd}
def qk(p:Array Nat)(xs:List V):List V:=p.toList.map fun i=>xs.getD i .non
theorem ki{α:Type}(xs:List α)(d:α):((List.range xs.length).map fun i=>xs.getD i d)=xs:=by
 apply Rc;intro i;by_cases hi:i<xs.length
 ·simp[hi]
 ·simp[hi]
theorem i7{α:Type}{p:Array Nat}{xs:List α}(d:α)(hp:POk xs.length p):(p.toList.map fun i=>xs.getD i d).Perm xs:=by
 have:=hp.perm.map (fun i=>xs.getD i d)
 rwa [ki]at this
theorem f7{α:Type}{p:Array Nat}{xs:List α}(d:α)(key:α->O.α)(hp:POk xs.length p)(hs:bg (O:=O) (fun i=>key (xs.getD i d)) p xs.length):(p.toList.map fun i=>xs.getD i d).Pairwise fun a b=>O.kle (key a) (key b):=by
 rw[List.pairwise_iff_getElem];intro i j hi hj Kw;have hsz:=hp.size;have Kv:i<p.size:=by simpa using hi
 have LS:j<p.size:=by simpa using hj
 have h:=hs i j (Um Kw) (by lia);unfold kk at h;simp only[List.getElem_map,Array.getElem_toList];have e1:p.getD i 0=p[i]:=by simp[Array.getD,Kv]
 have e2:p.getD j 0=p[j]:=by simp[Array.getD,LS]
 rw[e1,e2]at h;exact h
theorem vals_pick{xs:List V}{us:List Value}(r:Vals xs us):∀l:List Nat,(∀i∈l,i<xs.length)->Vals (l.map fun i=>xs.getD i .non) (l.map fun i=>us.getD i .none)
 |[],_=>.nil
 |i::l,h=>by
  refine .cons ?_ (vals_pick r l fun j hj=>h j (Qg _ hj));have hi:=h i P8;have e1:xs[i]?=some (xs.getD i .non):=by rw[aY _ _ _ hi];exact List.getElem?_eq_getElem hi
  obtain⟨u,hu,ru⟩:=r.get e1;have e2:us.getD i .none=u:=by rw[List.getD_eq_getElem?_getD,hu];rfl
  show L2.RelV (xs.getD i .non) (us.getD i .none);rw[e2];exact ru
theorem i8{xs:List V}{us:List Value}{p:Array Nat}(r:Vals xs us)(hp:POk xs.length p):Vals (qk p xs) (p.toList.map fun i=>us.getD i .none):=
 vals_pick r _ fun i hi=>QC.mp (hp.perm.mem_iff.mp hi)
end
section
variable{X:Cx}
theorem gW{pi:List (Addr×Obj)}{s:Shared}{σ:L2.St}{H:Hp}{h':Heap}{ys:List V}{us:List Value}{e:Nat}{D:Addr}(I:Inv X pi σ H s)(kk:∀b o,s.heap.get? b=some o->h'.get? b=some o)(hD:s.heap.objs.size<=D)
  (ho:h'.get? D=some (seqObj "list" (List.toArray us) e)) (r:Vals ys us) (hz:ys.length<=sizeLine):Inv X pi σ (upd H D (.lst ys)) {s with heap:=h'}:=
 I.laid (t':=s.toks) kk hD ⟨hz,us,e,r,ho⟩
theorem iY(hc:X.calm=true):cZ X (.builtin "sorted") (fun vs H Q=>∃(p:Addr) (ns:List Int),vs=[.ref p]/\SqL X.K H p (ns.map V.int)/\ns.length<64/\∀(D:Addr) (ms:List Int),H D=none->ms.Perm ns->ms.Pairwise (·<=·)->Q (.ref D) (upd H D (.lst (ms.map V.int)))):=by
 intro pi s σ H vs us Q I r h;obtain⟨p,ns,rfl,hp,JL,q⟩:=h;obtain⟨u,rfl,r1⟩:=dy r;cases r1;obtain⟨ws,rv,pl,hz⟩:=I.list hp;have hl:=rv.length;rw[P5]at hl;have isI:∀v∈ws,∃n t,v=.int n t:=fun v hv=>by
  obtain⟨i,hi⟩:=Qt.mp hv;obtain⟨t,e⟩:=dk rv hi;exact⟨_,t,e⟩
 refine ie (O:=intO) (key:=fun i=>ns.getD i 0) (kd:=oneType') pl.isList (by lia) (fun h2 A' E' h' kk Q' q'=>?_) (fun i j hi hj h' kk C q'=>?_) fun pp h' e Hl hs he kk=>?_
 ·refine kas_kind h2 (T:=.type "int") (fun v hv=>?_) (by decide) (by decide) q';obtain⟨n,t,rfl⟩:=isI v hv;exact fun A Q E s _ q=>SA (UD s n t) q
 ·unfold kas_ask;have e1:ws[i]?=some (ws.getD i .none):=by rw[aY _ _ _ hi];exact List.getElem?_eq_getElem hi
  have e2:ws[j]?=some (ws.getD j .none):=by rw[aY _ _ _ hj];exact List.getElem?_eq_getElem hj
  obtain⟨t,OM⟩:=dk rv e1;obtain⟨t',ON⟩:=dk rv e2;rw[OM,ON];exact kat_lt_int q'
 ·rw[<-hl]at Hl hs;have LU:POk (ns.map V.int).length pp:=by rw[P5];exact Hl
  have eo:qk pp (ns.map V.int)=(pp.toList.map fun i=>ns.getD i 0).map V.int:=by
   unfold qk;rw[Qe];refine QK fun i hi=>?_
   have hi:=QC.mp (Hl.perm.mem_iff.mp hi);show(ns.map V.int).getD i .non=V.int (ns.getD i 0);rw[aY _ _ _ (by rw[P5];exact hi),aY _ _ _ hi];simp
  have hn:H (s.heap.objs.size+1)=none:=I.hok.fresh (Sg _);refine⟨.ref (s.heap.objs.size+1),_,gW I kk (Sg _) he (i8 rv LU) ?_,rfl,?_⟩
  ·show(qk pp (ns.map V.int)).length<=sizeLine;rw[eo,P5,P5,Hl.perm.length_eq,Qr,Ri];lia
  ·rw[eo];refine q _ _ hn (i7 0 Hl) ?_;have:=f7 (O:=intO) 0 (fun i:Int=>i) Hl hs;refine this.imp fun{a b} LV=>?_
   have LV:decide (b<a)=false:=LV;have:=U2 LV;lia
theorem nX{ls:List (List Nat)}{us:List Value}(r:Vals (ls.map fun l=>V.str (S l)) us){i:Nat}{v:Value}(h:us[i]?=some v):∃t,v=.str (S (ls.getD i [])) t:=by
 have hl:=r.length;rw[P5]at hl;obtain⟨hi,_⟩:=List.getElem?_eq_some_iff.mp h;have e1:(ls.map fun l=>V.str (S l))[i]?=some (.str (S (ls.getD i []))):=by
  rw[List.getElem?_map,List.getElem?_eq_getElem (by lia),aY _ _ _ (by lia)];rfl
 obtain⟨u,hu,t,rfl⟩:=r.get e1;rw[h]at hu;exact⟨t,Qu hu⟩
theorem iZ(hc:X.calm=true):cZ X (.builtin "sorted") (fun vs H Q=>∃(p:Addr) (ls:List (List Nat)),vs=[.ref p]/\SqL X.K H p (ls.map fun l=>V.str (S l))/\ls.length<64/\∀(D:Addr) (ms:List (List Nat)),H D=none->ms.Perm ls->ms.Pairwise (fun a b=>¬ b<a)->Q (.ref D) (upd H D (.lst (ms.map fun l=>V.str (S l))))):=by
 intro pi s σ H vs us Q I r h;obtain⟨p,ls,rfl,hp,JL,q⟩:=h;obtain⟨u,rfl,r1⟩:=dy r;cases r1;obtain⟨ws,rv,pl,hz⟩:=I.list hp;have hl:=rv.length;rw[P5]at hl;refine ie (O:=Ed) (key:=fun i=>ls.getD i []) (kd:=oneType') pl.isList (by lia) (fun h2 A' E' h' kk Q' q'=>?_) (fun i j hi hj h' kk C q'=>?_) fun pp h' e Hl hs he kk=>?_
 ·refine kas_kind h2 (T:=.type "str") (fun v hv=>?_) (by decide) (by decide) q';obtain⟨i,hi⟩:=Qt.mp hv;obtain⟨t,rfl⟩:=nX rv hi;exact fun A Q E s _ q=>SA (UC s _ t) q
 ·unfold kas_ask;have e1:ws[i]?=some (ws.getD i .none):=by rw[aY _ _ _ hi];exact List.getElem?_eq_getElem hi
  have e2:ws[j]?=some (ws.getD j .none):=by rw[aY _ _ _ hj];exact List.getElem?_eq_getElem hj
  obtain⟨t,OM⟩:=nX rv e1;obtain⟨t',ON⟩:=nX rv e2;rw[OM,ON];refine kas_lt_str ?_;rw[dC,dC];exact q'
 ·rw[<-hl]at Hl hs;have LU:POk (ls.map fun l=>V.str (S l)).length pp:=by rw[P5];exact Hl
  have eo:qk pp (ls.map fun l=>V.str (S l))=(pp.toList.map fun i=>ls.getD i []).map fun l=>V.str (S l):=by
   unfold qk;rw[Qe];refine QK fun i hi=>?_
   have hi:=QC.mp (Hl.perm.mem_iff.mp hi);show(ls.map fun l=>V.str (S l)).getD i .non=V.str (S (ls.getD i []));rw[aY _ _ _ (by rw[P5];exact hi),aY _ _ _ hi];simp
  have hn:H (s.heap.objs.size+1)=none:=I.hok.fresh (Sg _);refine⟨.ref (s.heap.objs.size+1),_,gW I kk (Sg _) he (i8 rv LU) ?_,rfl,?_⟩
  ·show(qk pp (ls.map fun l=>V.str (S l))).length<=sizeLine;rw[eo,P5,P5,Hl.perm.length_eq,Qr,Ri];lia
  ·rw[eo];refine q _ _ hn (i7 [] Hl) ?_;have:=f7 (O:=Ed) [] (fun l:List Nat=>l) Hl hs;refine this.imp fun{a b} LV=>?_
   have LV:decide (b<a)=false:=LV;exact U2 LV
end
def kinds(k:List Key):List Bool:=k.map fun x=>x.isLeft
section
variable{prog:Program}{w:World}{A:Around}{s:Shared}
theorem rV(a b:Key):Oz (kV a) (kV b)=decide (a=b):=by
 cases a <;> cases b <;> (rw[Qv];simp[kV,Oz])
theorem i9(a:Key):uQ (kV a)=true:=by cases a <;> rfl
theorem AF{a b:Key}{u v:Value}{top:Bool}{Q:Bool->Shared->Prop}(ra:L2.RelV (kV a) u)(rb:L2.RelV (kV b) v)(hk:a.isLeft=b.isLeft)(q:Q (o8.blt a b) s):wpAny (model prog w) A (oneLt' top u v) Q (fun _ _=>False) s:=by
 cases a with
 |inl i=>
  cases b with
  |inr _=>cases hk
  |inl j=>
   obtain⟨t,rfl⟩:=ra;obtain⟨t',rfl⟩:=rb;cases top with
   |true=>exact kat_lt_int (E:=fun _ _=>False) q
   |false=>exact kat_one _ _ (lt_int q)
 |inr x=>
  cases b with
  |inl _=>cases hk
  |inr y=>
   obtain⟨t,rfl⟩:=ra;obtain⟨t',rfl⟩:=rb;cases top with
   |true=>exact oneLt_str q
   |false=>exact kat_one _ _ (lt_str q)
theorem jt{Q:Bool->Shared->Prop}:∀(k1 k2:List Key) (us ws:List Value) (i:Nat),Vals (k1.map kV) us->Vals (k2.map kV) ws->kinds k1=kinds k2->Q (dJ k1 k2) s->KatLex prog w A true false Q (us.zip ws) i s
 |[],[],_,_,_,.nil,.nil,_,q=>q
 |[],_::_,_,_,_,_,_,h,_=>by cases h
 |_::_,[],_,_,_,_,_,h,_=>by cases h
 |a::r,b::t,u::us,v::ws,i,.cons ru rus,.cons rv rvs,h,q=>by
  have h1:a.isLeft=b.isLeft:=(SH h).1;have h2:kinds r=kinds t:=(SH h).2;have q:Q (if a=b then dJ r t else o8.blt a b) s:=q;refine kat_cons (wF (A:=A) (s:=s) ru rv (i9 a) (i9 b) prog w _ _ ?_);rw[rV];by_cases e:a=b
  ·rw[Qa e]at q;rw[Q9 e];exact kat_yes (jt r t us ws (i+1) rus rvs h2 q)
  ·rw[Qf e]at q;rw[QB e];exact kat_no (AF ru rv h1 q)
end
section
variable{X:Cx}{pi:List (Addr×Obj)}{σ:L2.St}{H:Hp}{s:Shared}
theorem mB(I:Inv X pi σ H s){a:Addr}{xs:List V}(h:SqT X.K H a xs):∃(us:List Value) (o:Obj) (n:Nat),Vals xs us/\s.heap.get? a=some o/\o.cls=.type "tuple"/\o.data=.seq us.toArray n:=by
 obtain⟨us,r,pl,_⟩:=I.tuple h;obtain⟨o,ho,oc,n,od⟩:=pl;exact⟨us,o,n,r,ho,oc,od⟩
theorem lg{al:List (Addr×List Key)}{us:List Value}(r:Vals (al.map fun a=>V.ref a.1) us){i:Nat}(h:i<al.length):us.getD i .none=.ref (al.getD i (0,[])).1:=by
 have e1:(al.map fun a=>V.ref a.1)[i]?=some (.ref (al.getD i (0,[])).1):=by
  rw[List.getElem?_map,List.getElem?_eq_getElem h,aY _ _ _ h];rfl
 obtain⟨u,hu,ru⟩:=r.get e1;rw[List.getD_eq_getElem?_getD,hu];exact ru
theorem o9{al:List (Addr×List Key)}{us:List Value}{h':Heap}(I:Inv X pi σ H s)(kk:∀b o,s.heap.get? b=some o->h'.get? b=some o)(top:Bool):
  (r:Vals (al.map fun a=>V.ref a.1) us)->(∀a∈al,SqT X.K H a.1 (a.2.map kV)/\∃t,kinds a.2=top::t)->∃fs:List Value,KatTups h' us fs/\fs.length=al.length/\∀v∈fs,∀M:Model,Looks M h' (typeOf v) (.type (if top then "int" else "str")):=by
 induction al generalizing us with
 |nil=>
  intro r _;cases r;exact⟨[],trivial,rfl,fun v hv=>by cases hv⟩
 |cons a al ih=>
  intro r h;cases r with
  |cons ra rs=>
   cases ra;obtain⟨fs,t1,t2,t3⟩:=ih rs fun b hb=>h b (Qg _ hb)
   obtain⟨ha,kt,hk⟩:=h a P8;obtain⟨ws,o,n,rv,ho,oc,od⟩:=mB I ha;cases e2:a.2 with
   |nil=>rw[e2]at hk;cases hk
   |cons k ks=>
    rw[e2]at rv hk;have Pq:k.isLeft=top:=(SH hk).1;cases rv with
    | @cons _ f _ fr rf rfs=>
     refine⟨f::fs,KatTups.cons (kk _ _ ho) oc od (by simp) t1,by simp[t2],fun v hv M=>?_⟩;rcases Qh.mp hv with rfl|hv
     ·cases k with
      |inl i=>
       obtain⟨t,rfl⟩:=rf;have:top=true:=Pq.symm;subst this;exact fun A Q E s _ q=>SA (UD s _ t) q
      |inr x=>
       obtain⟨t,rfl⟩:=rf;have:top=false:=Pq.symm;subst this;exact fun A Q E s _ q=>SA (UC s _ t) q
     ·exact t3 v hv M
end
section
variable{X:Cx}
theorem i0(hc:X.calm=true):cZ X (.builtin "sorted") (fun vs H Q=>∃(p:Addr) (al:List (Addr×List Key)) (top:Bool) (t:List Bool),vs=[.ref p]/\SqL X.K H p (al.map fun a=>V.ref a.1)/\(∀a∈al,SqT X.K H a.1 (a.2.map kV)/\kinds a.2=top::t)/\al.length<64/\
  ∀(D:Addr) (ms:List (Addr×List Key)),H D=none->ms.Perm al->ms.Pairwise (fun a b=>dJ b.2 a.2=false)->Q (.ref D) (upd H D (.lst (ms.map fun a=>V.ref a.1)))):=by
 intro pi s σ H vs us Q I r h;obtain⟨p,al,top,kt,rfl,hp,HR,JL,q⟩:=h;obtain⟨u,rfl,r1⟩:=dy r;cases r1;obtain⟨ws,rv,pl,hz⟩:=I.list hp;have hl:=rv.length;rw[P5]at hl;refine ie (O:=Cy) (key:=fun i=>(al.getD i (0,[])).2) (kd:=tuples' true) pl.isList (by lia) (fun h2 A' E' h' kk Q' q'=>?_) (fun i j hi hj h' kk C q'=>?_) fun pp h' e Hl hs he kk=>?_
 ·obtain⟨fs,t1,t2,t3⟩:=o9 I kk top rv fun a ha=>⟨(HR a ha).1,kt,(HR a ha).2⟩
  refine kat_kind (T:=.type (if top then "int" else "str")) t1 (by lia) (fun v hv=>t3 v hv _) (by simp) ?_;have:((Value.type (if top then "int" else "str")) != Value.type "tuple")=true:=by cases top <;> decide
  rw[this];exact q'
 ·unfold kas_ask;have Kv:i<al.length:=by lia
  have LS:j<al.length:=by lia
  rw[lg rv Kv,lg rv LS];have mi:al.getD i (0,[])∈al:=by rw[aY _ _ _ Kv];exact RZ _
  have mj:al.getD j (0,[])∈al:=by rw[aY _ _ _ LS];exact RZ _
  obtain⟨u1,o1,n1,r1,g1,_,d1⟩:=mB I (HR _ mi).1;obtain⟨u2,o2,n2,r2,g2,_,d2⟩:=mB I (HR _ mj).1;have ek:kinds (al.getD i (0,[])).2=kinds (al.getD j (0,[])).2:=by rw[(HR _ mi).2,(HR _ mj).2]
  have el:u1.length=u2.length:=by
   have a1:=r1.length;have a2:=r2.length;have a3:=Rg List.length ek;simp only[kinds,P5]at a1 a2 a3;lia
  refine kat_lt (kk _ _ g1) d1 (kk _ _ g2) d2 ?_;have ef:decide (u1.toArray.size<u2.toArray.size)=false:=by simp[el]
  rw[ef];exact jt _ _ _ _ 0 r1 r2 ek q'
 ·rw[<-hl]at Hl hs;have LU:POk (al.map fun a=>V.ref a.1).length pp:=by rw[P5];exact Hl
  have eo:qk pp (al.map fun a=>V.ref a.1)=(pp.toList.map fun i=>al.getD i (0,[])).map fun a=>V.ref a.1:=by
   unfold qk;rw[Qe];refine QK fun i hi=>?_
   have hi:=QC.mp (Hl.perm.mem_iff.mp hi);show(al.map fun a=>V.ref a.1).getD i .non=V.ref (al.getD i (0,[])).1;rw[aY _ _ _ (by rw[P5];exact hi),aY _ _ _ hi];simp
  have hn:H (s.heap.objs.size+1)=none:=I.hok.fresh (Sg _);refine⟨.ref (s.heap.objs.size+1),_,gW I kk (Sg _) he (i8 rv LU) ?_,rfl,?_⟩
  ·show(qk pp (al.map fun a=>V.ref a.1)).length<=sizeLine;rw[eo,P5,P5,Hl.perm.length_eq,Qr,Ri];lia
  ·rw[eo];refine q _ _ hn (i7 (0,[]) Hl) ?_;exact f7 (O:=Cy) (0,[]) (fun a:Addr×List Key=>a.2) Hl hs
end
end NX
namespace L2
open PySem PySem.Spec PyProof.Rows
section
variable{κ:Type}[DecidableEq κ]
def mC(Ff:List (κ×V))(k:κ):Option V:=(Ff.find? fun kv=>decide (kv.1=k)).map (·.2)
def i4(Ff:List (κ×V))(k:κ)(v:V):List (κ×V):=
 if(Ff.any fun kv=>decide (kv.1=k))=true then Ff.map (fun kv=>if kv.1=k then(kv.1,v) else kv) else Ff++[(k,v)]
theorem lh{p:κ×V}{r:List (κ×V)}{k:κ}(e:p.1=k):mC (p::r) k=some p.2:=by simp[mC,List.find?_cons,e]
theorem lj{p:κ×V}{r:List (κ×V)}{k:κ}(e:¬ p.1=k):mC (p::r) k=mC r k:=by simp[mC,List.find?_cons,e]
theorem pb(k:κ):∀Ff:List (κ×V),(Ff.any fun kv=>decide (kv.1=k))=(mC Ff k).isSome
 |[]=>rfl
 |p::r=>by
  rw[U3];by_cases e:p.1=k
  ·simp only[lh e,Q9 e,Bool.true_or,Option.isSome_some]
  ·rw[lj e,QB e,Bool.false_or];exact pb k r
theorem gG(Ff:List (κ×V))(k:κ)(v:V):(i4 Ff k v).length<=Ff.length+1:=by
 unfold i4;split
 ·rw[P5];lia
 ·rw[QU,Ql,Rj];lia
theorem RelO.isSome_eq{o:Option V}{u:Option Value}(r:RelO o u):o.isSome=u.isSome:=by
 cases o with
 |none=>cases u with
  |none=>rfl
  |some _=>exact(show False from r).elim
 |some _=>cases u with
  |none=>exact(show False from r).elim
  |some _=>rfl
theorem KV.val{Ff:List (κ×V)}{vs:List (κ×Value)}(r:KV Ff vs)(k:κ):RelO (mC Ff k) (valueAt vs k):=by
 unfold KV at r;induction r with
 |nil=>exact True.intro
 | @cons p q ps qs h t ih=>
  obtain⟨h1,h2⟩:=h;by_cases e:p.1=k
  ·have e':q.1=k:=h1.symm.trans e;have b:valueAt (q::qs) k=some q.2:=by simp[valueAt,List.find?_cons,e']
   rw[lh e,b];exact h2
  ·have e':¬ q.1=k:=fun z=>e (h1.trans z)
   have b:valueAt (q::qs) k=valueAt qs k:=by simp[valueAt,List.find?_cons,e']
   rw[lj e,b];exact ih
theorem KV.any{Ff:List (κ×V)}{vs:List (κ×Value)}(r:KV Ff vs)(k:κ):(Ff.any fun kv=>decide (kv.1=k))=vs.any fun kv=>decide (kv.1=k):=by
 unfold KV at r;induction r with
 |nil=>rfl
 |cons h t ih=>rw[U3,U3,ih,h.1]
theorem KV.repl{Ff:List (κ×V)}{vs:List (κ×Value)}(r:KV Ff vs)(k:κ){y:V}{u:Value}(ry:RelV y u):
  KV (Ff.map fun kv=>if kv.1=k then(kv.1,y) else kv) (vs.map fun kv=>if kv.1=k then(kv.1,u) else kv):=by
 unfold KV at r ⊢;induction r with
 |nil=>exact .nil
 | @cons p q ps qs h t ih=>
  rw[Qn,Qn];refine .cons ?_ ih;obtain⟨h1,h2⟩:=h;by_cases e:p.1=k
  ·rw[Qa e,Qa (h1.symm.trans e)];exact⟨h1,ry⟩
  ·rw[Qf e,Qf (fun z=>e (h1.trans z))];exact⟨h1,h2⟩
theorem KV.put{Ff:List (κ×V)}{vs:List (κ×Value)}(r:KV Ff vs)(k:κ){y:V}{u:Value}(ry:RelV y u):KV (i4 Ff k y) (stored vs k u):=by
 unfold i4 stored;rw[r.any k];by_cases e:(vs.any fun kv=>decide (kv.1=k))=true
 ·rw[Qa e,Qa e];exact r.repl k ry
 ·rw[Qf e,Qf e];exact Paired.snoc r ⟨rfl,ry⟩
theorem KV.length{Ff:List (κ×V)}{vs:List (κ×Value)}(r:KV Ff vs):Ff.length=vs.length:=S4 r
end
theorem kV_is{P:Program}{w:World}{k:Key}{u:Value}(r:RelV (kV k) u):(mixKind P w).is k u=true:=by
 cases k with
 |inl i=>obtain⟨t,e⟩:=(show ∃t,u=Value.int i t from r);subst e;exact nR P w i t
 |inr x=>obtain⟨t,e⟩:=(show ∃t,u=Value.str x t from r);subst e;exact nS P w x t
theorem mD{P:Program}{w:World}:∀{ks:List Key}{us:List Value},Vals (ks.map kV) us->ItemsAre (mixKind P w) ks us
 |[],_,r=>by rw[QV]at r;cases r;exact .nil
 |k::ks,_,r=>by
  rw[Qn]at r;cases r with
  |cons h t=>exact .cons (kV_is h) (mD t)
abbrev KT(H:Hp):List (List Key×V)->List (List Key×Addr×Value)->Prop:=Paired fun p q=>p.1=q.1/\H q.2.1=some (.tup (p.1.map kV))/\RelV p.2 q.2.2
theorem KT.val{H:Hp}{Ff:List (List Key×V)}{xs:List (List Key×Addr×Value)}(r:KT H Ff xs)(k:List Key):RelO (mC Ff k) ((atKey xs k).map (·.2)):=by
 induction r with
 |nil=>exact True.intro
 | @cons p q ps qs h t ih=>
  obtain⟨h1,_,h2⟩:=h;by_cases e:p.1=k
  ·have e':q.1=k:=h1.symm.trans e;have b:atKey (q::qs) k=some q.2:=by simp[atKey,List.find?_cons,e']
   rw[lh e,b];exact h2
  ·have e':¬ q.1=k:=fun z=>e (h1.trans z)
   have b:atKey (q::qs) k=atKey qs k:=by simp[atKey,List.find?_cons,e']
   rw[lj e,b];exact ih
theorem KT.repl{H:Hp}{Ff:List (List Key×V)}{xs:List (List Key×Addr×Value)}(r:KT H Ff xs)(k:List Key){y:V}{u:Value}(ry:RelV y u):
  KT H (Ff.map fun kv=>if kv.1=k then(kv.1,y) else kv) (xs.map (putAt k u)):=by
 induction r with
 |nil=>exact .nil
 | @cons p q ps qs h t ih=>
  rw[Qn,Qn];refine .cons ?_ ih;obtain⟨h1,h2,h3⟩:=h;unfold putAt;by_cases e:p.1=k
  ·rw[Qa e,Qa (h1.symm.trans e)];exact⟨h1,h2,ry⟩
  ·rw[Qf e,Qf (fun z=>e (h1.trans z))];exact⟨h1,h2,h3⟩
theorem KT.put{H:Hp}{Ff:List (List Key×V)}{xs:List (List Key×Addr×Value)}(r:KT H Ff xs)(k:List Key){b:Addr}{y:V}{u:Value}(hb:H b=some (.tup (k.map kV)))(ry:RelV y u):
  KT H (i4 Ff k y) (storedH xs k b u):=by
 have e:(Ff.any fun kv=>decide (kv.1=k))=(atKey xs k).isSome:=by
  rw[pb,(r.val k).isSome_eq,TF]
 unfold i4 storedH;rw[e];by_cases q:(atKey xs k).isSome=true
 ·rw[Qa q,Qa q];exact r.repl k ry
 ·rw[Qf q,Qf q];exact Paired.snoc r ⟨rfl,hb,ry⟩
theorem KT.keeps{H H':Hp}{Ff:List (List Key×V)}{xs:List (List Key×Addr×Value)}(r:KT H Ff xs)(ht:∀b ys,H b=some (.tup ys)->H' b=some (.tup ys)):KT H' Ff xs:=
 Paired.mapP r fun _ _ z=>⟨z.1,ht _ _ z.2.1,z.2.2⟩
section
variable{P:Program}{w:World}{H:Hp}{h:Heap}{a:Addr}
theorem AG{u:HO}(ok:HOk P w H h)(e:Rd H a u):ObjOk P w H h a u:=e.ok ok
theorem rW{Ff:List (Key×V)}(ok:HOk P w H h)(e:Rd H a (.dK Ff)):Ff.length<=sizeLine/\(a==sysModules)=false/\∃vs,KV Ff vs/\h.DictOf (mixKind P w) a vs:=
 show ObjOk P w H h a (.dK Ff) from AG ok e
theorem AH{Ff:List (Key×V)}(ok:HOk P w H h)(e:H a=some (.dK Ff)):Ff.length<=sizeLine/\(a==sysModules)=false/\∃vs,KV Ff vs/\h.DictOf (mixKind P w) a vs:=rW ok (.inl e)
theorem mE{ks:List Key}(ok:HOk P w H h)(e:H a=some (.tup (ks.map kV))):(tupleKind (mixKind P w)).is h ks a:=by
 obtain⟨_,Fg,r,o,h1,h2,⟨n,h3⟩,_⟩:=(show ObjOk P w H h a (.tup (ks.map kV)) from ok a _ e)
 exact⟨o,Fg.toArray,n,h1,h2,h3,by simpa using mD r⟩
theorem rX{Ff:List (List Key×V)}(ok:HOk P w H h)(e:Rd H a (.dT Ff)):Ff.length<=sizeLine/\(a==sysModules)=false/\
  ∃xs,KT H Ff xs/\h.DictOfH (tupleKind (mixKind P w)) a xs:=by
 obtain⟨z,y,xs,r,o,es,ep,h1,h2,h3,h4,h5⟩:=(show ObjOk P w H h a (.dT Ff) from AG ok e)
 refine⟨z,y,xs,r,o,es,ep,h1,h2,h3,h4,fun x hx=>?_,h5⟩;have all:∀{l:List (List Key×V)}{m:List (List Key×Addr×Value)},KT H l m->∀x∈m,(tupleKind (mixKind P w)).is h x.1 x.2.1:=by
  intro l m q;induction q with
  |nil=>intro x hx;exact nomatch hx
  | @cons p q ps qs hq t ih=>
   intro x hx;rcases Qh.mp hx with e|hx
   ·subst e;exact mE ok (by rw[<-hq.1];exact hq.2.1)
   ·exact ih x hx
 exact all r x hx
theorem C4{Ff:List (List Key×V)}(ok:HOk P w H h)(e:H a=some (.dT Ff)):Ff.length<=sizeLine/\(a==sysModules)=false/\
  ∃xs,KT H Ff xs/\h.DictOfH (tupleKind (mixKind P w)) a xs:=rX ok (.inl e)
end
def DGet(H:Hp)(a:Addr)(y:V)(r:Option V):Prop:=
 (∃Ff k,Rd H a (.dK Ff)/\y=kV k/\r=mC Ff k)\/∃Ff k b,Rd H a (.dT Ff)/\y=.ref b/\H b=some (.tup (k.map kV))/\r=mC Ff k
def DPut(H:Hp)(a:Addr)(y v:V)(H':Hp):Prop:=
 (∃Ff k,H a=some (.dK Ff)/\y=kV k/\Ff.length<sizeLine/\H'=upd H a (.dK (i4 Ff k v)))\/
 ∃Ff k b,H a=some (.dT Ff)/\y=.ref b/\H b=some (.tup (k.map kV))/\Ff.length<sizeLine/\H'=upd H a (.dT (i4 Ff k v))
theorem DGet.k{H:Hp}{a:Addr}{Ff:List (Key×V)}{k:Key}(e:H a=some (.dK Ff)):DGet H a (kV k) (mC Ff k):=.inl ⟨Ff,k,.inl e,rfl,rfl⟩
theorem DGet.t{H:Hp}{a b:Addr}{Ff:List (List Key×V)}{k:List Key}(e:H a=some (.dT Ff))(eb:H b=some (.tup (k.map kV))):DGet H a (.ref b) (mC Ff k):=.inr ⟨Ff,k,b,.inl e,rfl,eb,rfl⟩
theorem DPut.k{H:Hp}{a:Addr}{Ff:List (Key×V)}{k:Key}{v:V}(e:H a=some (.dK Ff))(hl:Ff.length<sizeLine):DPut H a (kV k) v (upd H a (.dK (i4 Ff k v))):=.inl ⟨Ff,k,e,rfl,hl,rfl⟩
theorem DPut.t{H:Hp}{a b:Addr}{Ff:List (List Key×V)}{k:List Key}{v:V}(e:H a=some (.dT Ff))(eb:H b=some (.tup (k.map kV)))(hl:Ff.length<sizeLine):
  DPut H a (.ref b) v (upd H a (.dT (i4 Ff k v))):=.inr ⟨Ff,k,b,e,rfl,eb,hl,rfl⟩
section
variable{X:Cx}{pi:List (Addr×Obj)}{σ:St}{H:Hp}{s:Shared}{a:Addr}{y v:V}{u r:Value}{o:Option V}{A:Around}{E:Value->Shared->Prop}
theorem Inv.big(I:Inv X pi σ H s):sysModules<s.heap.objs.size:=by
 have h:mainGlobals<s.heap.objs.size:=(I.mod.glob.keeps I.bk).lt;exact Nat.lt_trans (by decide) h
theorem rY{Q:Value->Shared->Prop}(hu:A.units+1<cLine)(I:Inv X pi σ H s)(g:DGet H a y (some v))(ry:RelV y u)(h:∀w' s',Inv X pi σ H s'->RelV v w'->Q w' s'):
  wpAny (model X.prog X.w) A (getItem (.ref a) u) Q E s:=by
 rcases g with⟨Ff,k,e,ey,l⟩|⟨Ff,k,b,e,ey,eb,l⟩
 ·subst ey;obtain⟨z,hd,vs,rel,dd⟩:=rW I.hok e;obtain⟨w',hw,JJ⟩:=RelO.some_of (v:=v) (o:=valueAt vs k) (by rw[l];exact rel.val k);exact wpAny_getItem_of (kV_is ry) dd.mapOf hw (h w' _ (I.tok _) JJ)
 ·subst ey;cases(show u=Value.ref b from ry);obtain⟨z,hd,xs,rel,dd⟩:=rX I.hok e;obtain⟨w',hw,JJ⟩:=RelO.some_of (v:=v) (o:=(atKey xs k).map (·.2)) (by rw[l];exact rel.val k);obtain⟨p,hp,M8⟩:=QA.mp hw;refine wpAny_getItem_heap (SI hu) (mE I.hok eb) dd hp ?_;rw[M8];exact h w' _ (I.tok _) JJ
theorem ER{Q:Value->Shared->Prop}(hu:A.units+1<cLine)(I:Inv X pi σ H s)(g:DGet H a y o)(ry:RelV y u)(h:∀s',Inv X pi σ H s'->Q (.bool o.isSome) s'):
  wpAny (model X.prog X.w) A (compareOp .In u (.ref a)) Q E s:=by
 rcases g with⟨Ff,k,e,ey,l⟩|⟨Ff,k,b,e,ey,eb,l⟩
 ·subst ey;obtain⟨z,hd,vs,rel,dd⟩:=rW I.hok e;refine wpAny_in_of (kV_is ry) hd dd.mapOf ?_;rw[<-(rel.val k).isSome_eq,<-l];exact h _ (I.tok _)
 ·subst ey;cases(show u=Value.ref b from ry);obtain⟨z,hd,xs,rel,dd⟩:=rX I.hok e;refine wpAny_in_heap (SI hu) (mE I.hok eb) hd dd ?_;have q:=(rel.val k).isSome_eq;rw[TF]at q;rw[<-q,<-l];exact h _ (I.tok _)
theorem xY{Q:Value->Shared->Prop}(hu:A.units+1<cLine)(I:Inv X pi σ H s)(g:DGet H a y o)(ry:RelV y u)(h:∀s',Inv X pi σ H s'->Q (.bool (!o.isSome)) s'):
  wpAny (model X.prog X.w) A (compareOp .NotIn u (.ref a)) Q E s:=by
 rcases g with⟨Ff,k,e,ey,l⟩|⟨Ff,k,b,e,ey,eb,l⟩
 ·subst ey;obtain⟨z,hd,vs,rel,dd⟩:=rW I.hok e;refine wpAny_notIn_of (kV_is ry) hd dd.mapOf ?_;rw[<-(rel.val k).isSome_eq,<-l];exact h _ (I.tok _)
 ·subst ey;cases(show u=Value.ref b from ry);obtain⟨z,hd,xs,rel,dd⟩:=rX I.hok e;refine wpAny_notIn_heap (SI hu) (mE I.hok eb) hd dd ?_;have q:=(rel.val k).isSome_eq;rw[TF]at q;rw[<-q,<-l];exact h _ (I.tok _)
theorem nY{h':Heap}{t':Nat}{ob:HO}(I:Inv X pi σ H s)(mu:MP (H a))(hs:Heap.SameBut a s.heap h')(he:∃q,h'.get? a=some q)(new:ObjOk X.prog X.w (upd H a ob) h' a ob):
  Inv X pi σ (upd H a ob) {s with heap:=h',toks:=t'}:=
 I.write (x:=a) (e:=a) mu (.inl rfl) (fun b q hb z=>(hs.2 b hb).trans z) he new
theorem wL{P:Program}{w:World}{H':Hp}{h':Heap}{Ff:List (Key×V)}{vs:List (Key×Value)}(z:Ff.length<=sizeLine)(hd:(a==sysModules)=false)(rel:KV Ff vs)(dd:h'.DictOf (mixKind P w) a vs):
  ObjOk P w H' h' a (.dK Ff):=⟨z,hd,vs,rel,dd⟩
theorem rZ{H':Hp}{Q:Unit->Shared->Prop}(hu:A.units+1<cLine)(I:Inv X pi σ H s)(g:DPut H a y v H')(ry:RelV y u)(rv:RelV v r)(h:∀s',Inv X pi σ H' s'->Q () s'):
  wpAny (model X.prog X.w) A (setItem (.ref a) u r) Q E s:=by
 rcases g with⟨Ff,k,e,ey,l,eH⟩|⟨Ff,k,b,e,ey,eb,l,eH⟩
 ·subst ey eH;obtain⟨z,hd,vs,rel,dd⟩:=AH I.hok e;have hz:vs.length<=sizeLine:=by rw[<-rel.length];exact z
  have hl:(i4 Ff k v).length<=sizeLine:=by have:=gG Ff k v;lia
  refine wpAny_setItem_pairs (hsz:=hz) (kV_is ry) dd fun h' KN hs=>h _ ?_
  have he:∃q,h'.get? a=some q:=let⟨q,_,_,hq,_⟩:=KN;⟨q,hq⟩
  exact nY I (by rw[e];exact True.intro) hs he (wL hl hd (rel.put k rv) KN)
 ·subst ey eH;cases(show u=Value.ref b from ry);obtain⟨z,hd,xs,rel,dd⟩:=C4 I.hok e;have hz:xs.length<=sizeLine:=by rw[<-S4 rel];exact z
  have hl:(i4 Ff k v).length<=sizeLine:=by have:=gG Ff k v;lia
  refine wpAny_setItem_heap (hsz:=hz) (SI hu) (mE I.hok eb) dd fun h' KN hs=>h _ ?_
  obtain⟨q,es,ep,hq,h2,h3,h4,_,h5⟩:=KN;refine nY I (by rw[e];exact True.intro) hs ⟨q,hq⟩ ⟨hl,hd,_,(rel.put k eb rv).keeps fun c ys ec=>?_,q,es,ep,hq,h2,h3,h4,h5⟩;rw[aD (CD ec e (fun z=>nomatch z))];exact ec
end
section
variable{X:Cx}{pi:List (Addr×Obj)}{σ:St}{H:Hp}{s:Shared}{a:Addr}{Ff:List (Key×V)}{k:Key}{u:Value}{A:Around}{E:Value->Shared->Prop}
end
def NoSl(i:Expr):Prop:=∀ov iv,subscripted i false ov iv=operate [ov,iv] (getItem ov iv)
theorem xZ{prog:Program}{w:World}{A:Around}{E:Value->Shared->Prop}{s:Shared}{env:Env}{value slice:Expr}{pos:Pos}{T id:String}{Q:Value->Shared->Prop}
  (hl:typeLookup (.type T) "__getitem__" = pure (some (.builtin id))) (hs:NoSl slice)
  (h:wpAny (model prog w) A (eval value env) (fun o s₁=>wpAny (model prog w) A (eval slice env) (fun i s₂=>s₂.TypeIs o T/\wpAny (model prog w) A (getItem o i) Q E s₂) E s₁) E s):
  wpAny (model prog w) A (eval (.Subscript value slice pos) env) Q E s:=by
 refine Subscript_ (Sy h (fun o s₁ h₁=>Sy h₁ (fun i s₂ h₂=>?_) fun _ _ x=>x) fun _ _ x=>x);obtain⟨hT,h₂⟩:=h₂;unfold subscriptTail;refine P2 ?_;rw[getitemInPython_of_ne hT.not_modules];refine P2 (wpAny_specialOf hT hl ?_);have fin:wpAny (model prog w) A (subscripted slice false o i) (fun r s₃=>wpAny (model prog w) A (letTemporaryGo value o r >>= fun _=>pure r) Q E s₃) E s₂:=by
  rw[hs o i];exact wpAny_operating (Sy h₂ (fun r s₃ h₃=>P2 (wpAny_letTemporaryGo (P4 h₃))) fun _ _ x=>x)
 first
  |exact P4 (P2 fin)
  |exact P2 (P4 (P2 fin))
  |exact P2 fin
theorem og{X:Cx}{pi:List (Addr×Obj)}{σ:St}{H:Hp}{s:Shared}{a:Addr}{y:V}{o:Option V}(I:Inv X pi σ H s)(g:DGet H a y o):s.TypeIs (.ref a) "dict":=by
 rcases g with⟨Ff,k,e,_,_⟩|⟨Ff,k,b,e,_,_,_⟩
 ·obtain⟨_,_,vs,_,dd⟩:=rW I.hok e;exact dd.typeIs
 ·obtain⟨_,_,xs,_,dd⟩:=rX I.hok e;exact dd.typeIs
def C5(td ty:TE):TE:=fun σ H Q=>td σ H fun x H1=>ty σ H1 fun y H2=>∃a v,x=.ref a/\DGet H2 a y (some v)/\Q v H2
def C6(td ty tv:TE):TS:=fun D σ H=>tv σ H fun v H1=>td σ H1 fun x H2=>ty σ H2 fun y H3=>∃a H4,x=.ref a/\DPut H3 a y v H4/\D.nx σ H4
section
variable{X:Cx}{o i e value:Expr}{pos pos' tpos:Pos}{td ty tv:TE}
theorem x3(hu:X.A.units+1<cLine)(ho:PE X o td)(hi:PE X i ty)(hs:NoSl i):PE X (.Subscript o i pos) (C5 td ty):=by
 intro pi s σ H Q I h;refine xZ PySem.F.slot_dict_getitem.lookup hs (Fy (ho pi s σ H _ I h) fun u s1 ⟨x,H1,I1,rx,q1⟩=>Fy (hi pi s1 σ H1 _ I1 q1) fun iv s2 Fz=>?_);obtain⟨y,H2,I2,ry,a,v,ex,g,q2⟩:=Fz;subst ex;obtain rfl:u=Value.ref a:=rx;exact⟨og I2 g,rY hu I2 g ry fun w' s3 I3 JJ=>⟨v,H2,I3,JJ,q2⟩⟩
theorem x4(hu:X.A.units+1<cLine)(ho:PE X o td)(hi:PE X i ty)(hv:PE X value tv)(hs:swapsWith value (some (.Subscript o i pos')) pos.line X.env=pure false):
  PS X (.Assign [.Subscript o i pos'] value pos) (C6 td ty tv):=by
 intro pi s σ H D I h;refine wpAny_Assign_Subscript (Fy (hv pi s σ H _ I h) fun r s1 ⟨v,H1,I1,rv,q1⟩=>Fy (ho pi s1 σ H1 _ I1 q1) fun u s2 ⟨x,H2,I2,rx,q2⟩=>Fy (hi pi s2 σ H2 _ I2 q2) fun iv s3 ⟨y,H3,I3,ry,a,H4,ex,g,q3⟩=>?_) hs;subst ex;obtain rfl:u=Value.ref a:=rx;exact rZ hu I3 g ry rv fun s4 I4=>⟨σ,H4,I4,q3⟩
end
theorem dk_empty{P:Program}{w:World}{H:Hp}(h:Heap)(hb:sysModules<h.objs.size):ObjOk P w H (h.push {cls:=.type "dict",data:=.dict #[]}) h.objs.size (.dK []):=
 ⟨QJ _,Rq.mpr (Rv (Qq hb)),[],.nil,Heap.DictOf.new h⟩
section
variable{X:Cx}{pos:Pos}
end
def tPairs:List (TE×TE)->St->Hp->(List (V×V)->Hp->Prop)->Prop
 |[],_,H,Q=>Q [] H
 |(tk,tv)::r,σ,H,Q=>tk σ H fun x H1=>tv σ H1 fun y H2=>tPairs r σ H2 fun ps H3=>Q ((x,y)::ps) H3
abbrev VV:List (V×V)->List (Value×Value)->Prop:=Paired fun p q=>RelV p.1 q.1/\RelV p.2 q.2
def N7(X:Cx)(pos:Pos)(keys:List (Option Expr))(values:List Expr)(KO:List (TE×TE)):Prop:=
 ∀(pi:List (Addr×Obj)) (s:Shared) (σ:St) (H:Hp) (Q:List (V×V)->Hp->Prop),Inv X pi σ H s->tPairs KO σ H Q->
  wpAny (model X.prog X.w) X.A (evalPairs (pairTrees keys values X.env pos)) (fun vs s'=>∃ps H',Inv X pi σ H' s'/\VV ps vs/\Q ps H') X.xe s
theorem x5{X:Cx}{pos:Pos}:N7 X pos [] [] []:=fun pi s σ H Q I h=>pairTrees_nil_walk ⟨[],H,I,.nil,h⟩
theorem vh{X:Cx}{pos:Pos}{k v:Expr}{ks:List (Option Expr)}{vs:List Expr}{tk tv:TE}{KO:List (TE×TE)}(hk:PE X k tk)(hv:PE X v tv)(hr:N7 X pos ks vs KO):
  N7 X pos (some k::ks) (v::vs) ((tk,tv)::KO):=fun pi s σ H Q I h=>
 pairTrees_cons_walk (Fy (hk pi s σ H _ I h) fun u s1 ⟨x,H1,I1,rx,q1⟩=>Fy (hv pi s1 σ H1 _ I1 q1) fun w2 s2 ⟨y,H2,I2,ry,q2⟩=>
  Fy (hr pi s2 σ H2 _ I2 q2) fun ws s3 ⟨ps,H3,I3,rel,q3⟩=>⟨(x,y)::ps,H3,I3,.cons ⟨rx,ry⟩ rel,q3⟩)
def mF(Ff more:List (Key×V)):List (Key×V):=more.foldl (fun acc kv=>i4 acc kv.1 kv.2) Ff
theorem KV.merge:∀{more:List (Key×V)}{rs:List (Key×Value)}{Ff:List (Key×V)}{vs:List (Key×Value)},KV more rs->KV Ff vs->KV (mF Ff more) (merged vs rs):=by
 intro more rs Ff vs r;unfold KV at r;induction r generalizing Ff vs with
 |nil=>intro q;exact q
 | @cons p q ps qs h t ih=>
  intro r0;have e:KV (i4 Ff p.1 p.2) (stored vs q.1 q.2):=by
   have:=r0.put p.1 h.2;rw[<-h.1];exact this
  exact ih e
theorem gX:∀(more Ff:List (Key×V)),(mF Ff more).length<=Ff.length+more.length
 |[],Ff=>by show Ff.length<=Ff.length+0;lia
 |p::r,Ff=>by
  have h1:=gX r (i4 Ff p.1 p.2);have h2:=gG Ff p.1 p.2;show(mF (i4 Ff p.1 p.2) r).length<=_;rw[Ql];lia
theorem ky{P:Program}{w:World}:∀{Ff:List (Key×V)}{ws:List (Value×Value)},VV (Ff.map fun kv=>(kV kv.1,kv.2)) ws->∃rs,Carries (mixKind P w) ws rs/\KV Ff rs
 |[],_,r=>by rw[QV]at r;cases r;exact⟨[],True.intro,.nil⟩
 |p::Ff,_,r=>by
  rw[Qn]at r;cases r with
  | @cons a b as bs h t=>
   obtain⟨rs,c,q⟩:=ky (P:=P) (w:=w) t;obtain⟨b1,b2⟩:=b;exact⟨(p.1,b2)::rs,⟨kV_is h.1,rfl,c⟩,.cons ⟨rfl,h.2⟩ q⟩
def C7(KO:List (TE×TE)):TE:=fun σ H Q=>∀p,H p=none->tPairs KO σ (upd H p (.dK [])) fun ps H2=>H2 p=some (.dK [])/\∃Ff:List (Key×V),ps=Ff.map (fun kv=>(kV kv.1,kv.2))/\Ff.length<=15/\Q (.ref p) (upd H2 p (.dK (mF [] Ff)))
theorem x6{X:Cx}{pos:Pos}{keys:List (Option Expr)}{values:List Expr}{KO:List (TE×TE)}(h:N7 X pos keys values KO)(GQ:keys.all (·.isSome)=true)(hl:keys.length=values.length)(h0:keys≠[])
  (h15:keys.length<=15):PE X (.Dict keys values pos) (C7 KO):=by
 intro pi s σ H Q I q;have hn:=I.hok.fresh (P9 s.heap.objs.size);have I1:=I.laid (a:=s.heap.objs.size) (o:=.dK []) (h':=s.heap.push {cls:=.type "dict",data:=.dict #[]}) (t':=s.toks) (fun _ _ q=>Heap.get?_push_of_some _ q) (P9 _) (dk_empty s.heap I.big);refine wpAny_Dict_walk (knd:=mixKind X.prog X.w) GQ hl h0 h15 (Fy (h pi _ σ _ _ I1 (q _ hn)) fun ws s2 Fz=>?_);obtain⟨ps,H2,I2,rel,e,Ff,ep,lk,q2⟩:=Fz;subst ep;obtain⟨rs,c,rk⟩:=ky (P:=X.prog) (w:=X.w) rel;obtain⟨z,hd,vs0,r0,dd⟩:=AH I2.hok e;cases r0;refine⟨rs,c,dd,fun h' KN hs=>⟨.ref s.heap.objs.size,_,?_,rfl,q2⟩⟩;have hz:(mF [] Ff).length<=sizeLine:=by
  have h1:=gX Ff [];rw[Rj]at h1;rw[Ri];lia
 have he:∃q,h'.get? s.heap.objs.size=some q:=let⟨q,_,_,hq,_⟩:=KN;⟨q,hq⟩
 exact nY I2 (by rw[e];exact True.intro) hs he (wL hz hd (rk.merge .nil) KN)
section
variable{X:Cx}{pi:List (Addr×Obj)}{σ:St}{H:Hp}{s:Shared}{a:Addr}{y d:V}{u r:Value}{o:Option V}{A:Around}{E:Value->Shared->Prop}
end
section
variable{X:Cx}{o e f:Expr}{apos Fw:Pos}{td ty tx:TE}
end
section
variable{X:Cx}{pi:List (Addr×Obj)}{σ:St}{H:Hp}{s:Shared}{a:Addr}{Ff:List (Key×V)}{A:Around}{E:Value->Shared->Prop}
end
section
variable{X:Cx}{pi:List (Addr×Obj)}{σ:St}{H:Hp}{s:Shared}{a:Addr}{y:V}{u:Value}{A:Around}{E:Value->Shared->Prop}
end
section
variable{κ:Type}[DecidableEq κ]
end
end L2
namespace NX
open PySem PySem.Spec PyProof.Rows L2
def RawD(h:Heap)(d:Addr)(es:Array DictEntry)(ep:Nat):Prop:=∃o,h.get? d=some o/\o.ExactDict/\o.data=.dict es ep
theorem RawD.at{h h':Heap}{d:Addr}{es:Array DictEntry}{ep:Nat}(x:RawD h d es ep)(e:∀o,h.get? d=some o->h'.get? d=some o):RawD h' d es ep:=by
 obtain⟨o,g,r⟩:=x;exact⟨o,e o g,r⟩
section
variable{prog:Program}{w:World}{A:Around}{E:Value->Shared->Prop}{s:Shared}{d it:Addr}{es:Array DictEntry}{ep i:Nat}
theorem ja(x:RawD s.heap d es ep):s.TypeIs (.ref d) "dict":=by
 obtain⟨o,g,ex,_⟩:=x;exact⟨o,g,ex.1⟩
theorem vm{Q:Value->Shared->Prop}(nm:(d==sysModules)=false)(x:RawD s.heap d es ep)
  (q:Q (.ref s.heap.objs.size) {s with heap:=s.heap.push {cls:=.type "dict_keyiterator",data:=.fields #[.ref d,.int 0 0,.int es.size 0,.int ep 0]}}):wpAny (model prog w) A (pyIter (.ref d)) Q E s:=by
 have ty:=ja x;obtain⟨o,g,ex,dat⟩:=x;refine wpAny_pyIter_slot ty F.slot_dict_iter (Rk F.slot_dict_iter ty F.entry_dict_iter (P2 ?_) (F.args_dict_iter_1 _));refine P2 (wpAny_notOrdered_dict ty (P4 ?_));show wpAny _ _ (Builtin.Dict.showsAll d >>= fun _=>_) _ _ s;have ns:Builtin.Dict.showsAll d=pure ():=by
  unfold Builtin.Dict.showsAll;rw[nm];rfl
 rw[ns];refine P2 (P4 (P2 (SQ g dat (P2 (Uu g dat (P2 (Q1 (P4 ⟨_,rfl,"dict_keyiterator",_,⟨_,Heap.get?_push_size _ rfl,rfl⟩,F.slot_dict_keyiterator_next.lookup,?_⟩))))))));exact q
theorem vn{Q:Option Value->Shared->Prop}{e:DictEntry}(hit:s.heap.IsKeyIter it d i es.size ep)(x:RawD s.heap d es ep)(hx:es[i]?=some e)
  (q:∀h',h'.IsKeyIter it d (i+1) es.size ep->Heap.SameBut it s.heap h'->Q (some e.key) {s with heap:=h'}):wpAny (model prog w) A (pyNext (.ref it)) Q E s:=by
 have ti:=hit.typeIs;obtain⟨o,g,oc,od⟩:=hit;obtain⟨ob,gd,_,dat⟩:=x;have FH:i<es.size:=(Array.getElem?_eq_some_iff.mp hx).1;unfold pyNext;refine P2 (TV (wpAny_callSpecial?_slot (name:=Str.ofString "__next__") ti RL (Rk RL ti S1
  (P2 (P4 (P2 (P2 ?_)))) (SU _))))
 refine P2 (RJ ti (P4 (P2 (wpAny_fieldsOf g od ?_))));have JF:Builtin.Dict_items.ownsTuple "dict_keyiterator" = false:=by decide
 simp only[JF,Ry,SS];show wpAny _ _ (if(Value.ref d==Value.none)=true then _ else _) _ _ s;have nz:¬ ((Value.ref d==Value.none)=true):=Qb;rw[Qf nz];refine P2 (P4 (P2 (SQ gd dat ?_)));rw[Qf (by simp)];refine P2 (P4 (P2 (Uu gd dat ?_)));rw[Qf (by simp)];refine P4 ?_;simp only[Qf (show ¬ ((i:Int)<0) by lia),QL,hx];refine P2 (P2 (RJ ti (P4 (P2 (wpAny_isOneOf_keyiter ti ?_)))));show wpAny _ _ (setField (.ref it) 1 (rawInt ((i:Int)+1)) >>= fun _=>_) _ _ s;refine P2 (Tq g od (by simp) ?_);have nx:(s.heap.update it (Obj.mapFields fun y=>y.setIfInBounds 1 (rawInt ((i:Int)+1)))).IsKeyIter it d (i+1) es.size ep:=
  ⟨_,Heap.get?_update_self _ g (Obj.isFreed_of_fields (SG od _)),(Obj.cls_mapFields ..).trans oc,(SG od _).trans (by simp[rawInt])⟩
 refine P2 (RG (P2 (wpAny_isOneOf_keyiter (s:={s with heap:=s.heap.update it (Obj.mapFields fun y=>y.setIfInBounds 1 (rawInt ((i:Int)+1)))}) nx.typeIs ?_)));show wpAny _ _ (pure e.key) _ _ _;exact P4 (P4 ⟨_,rfl,P4 (q _ nx (Sw ..))⟩)
theorem x9{Q:Option Value->Shared->Prop}(hh:A.handled=none)(hit:s.heap.IsKeyIter it d i es.size ep)(x:RawD s.heap d es ep)(hx:es[i]?=none)
  (q:∀h',Heap.ExtBut it s.heap h'->Q none {s with heap:=h'}):wpAny (model prog w) A (pyNext (.ref it)) Q E s:=by
 have ti:=hit.typeIs;obtain⟨o,g,oc,od⟩:=hit;obtain⟨ob,gd,_,dat⟩:=x;unfold pyNext;refine P2 (TV (wpAny_callSpecial?_slot (name:=Str.ofString "__next__") ti RL (Rk RL ti S1
  (P2 (P4 (P2 (P2 ?_)))) (SU _))))
 refine P2 (RJ ti (P4 (P2 (wpAny_fieldsOf g od ?_))));have JF:Builtin.Dict_items.ownsTuple "dict_keyiterator" = false:=by decide
 simp only[JF,Ry,SS];show wpAny _ _ (if(Value.ref d==Value.none)=true then _ else _) _ _ s;have nz:¬ ((Value.ref d==Value.none)=true):=Qb;rw[Qf nz];refine P2 (P4 (P2 (SQ gd dat ?_)));rw[Qf (by simp)];refine P2 (P4 (P2 (Uu gd dat ?_)));rw[Qf (by simp)];refine P4 ?_;simp only[Qf (show ¬ ((i:Int)<0) by lia),QL,hx];refine P2 (P2 (RJ ti (P4 ?_)));show wpAny _ _ (setField (.ref it) 0 .none >>= fun _=>_) _ _ s;refine P2 (Tq g od (by simp) ?_);show wpAny _ _ (newExc (.type "StopIteration") [] >>= fun _=>_) _ _ _;refine P2 ?_;simp only[newExc,newTuple];refine P2 (Q1 (P2 (m:=firstArgMember _ _) (UN (a:=Value.none) (by first|rfl|(simp only[firstArgMember];rfl)) (Q1 ?_ (by size_fits)))) (by size_fits));simp only[raiseNew];refine P2 (wpAny_handled ?_);rw[show A.in1.handled=none from hh];refine P2 (P4 (wpAny_throw ?_));refine P2 (wpAny_isInstance (b:=true) (T:="StopIteration") ⟨_,Heap.get?_push_size _ rfl,rfl⟩ isSubtype_stop ?_);exact P4 (q _ (((Sw ..).extBut.push _).push _))
theorem r6(hh:A.handled=none)(I:Addr)(ne:d≠I):Walks prog w A I [I,d] [I] es.size (fun i v=>∃e,es[i]?=some e/\v=e.key) (fun i h=>h.IsKeyIter I d i es.size ep/\RawD h d es ep) where
 sub:=fun b hb=>by
  rw[Qx]at hb;rw[hb];exact P8
 frame:=fun _ _ _ st hk=>⟨st.1.at fun o e=>hk I P8 o e,st.2.at fun o e=>hk d (Qg _ P8) o e⟩
 item:=fun i s Q E hi st hQ=>by
  refine vn st.1 st.2 (Array.getElem?_eq_getElem hi) fun h' it' sb=>?_
  exact hQ _ h' s.toks ⟨_,Array.getElem?_eq_getElem hi,rfl⟩ ⟨it',st.2.at fun o e=>sb.extBut d o ne e⟩ fun b o hb e=>sb.extBut b o (fun z=>hb (by rw[z];exact P8)) e
 done:=fun s Q E st hQ=>x9 hh st.1 st.2 (Array.getElem?_eq_none (P9 _)) fun h' ext=>hQ h' s.toks fun b o hb e=>ext b o (fun z=>hb (by rw[z];exact P8)) e
 self:=fun _ _ _ _ st hQ=>wpAny_pyIter_keyiter st.1 hQ
theorem ya(nm:(d==sysModules)=false):PySem.W.KdlSrc prog w "dict" d d es.size (fun i v=>∃e,es[i]?=some e/\v=e.key) (fun h=>RawD h d es ep) where
 type:=fun _ x=>ja x
 there:=fun _ x=>by
  obtain⟨o,g,_⟩:=x;exact⟨Qc g,Qc g⟩
 keep:=fun _ _ x hk=>x.at fun o e=>hk d (.inl rfl) o e
 notList:=by decide
 notTuple:=by decide
 hint:=fun _ _ _ _ x q=>PySem.W.kdl_hint_dict (ja x) q
 iter:=fun _ s hh x=>⟨_,_,(fun _ _ q=>vm nm x q),r6 hh _ (by obtain⟨o,g,_⟩:=x;exact Qq (Qc g)),⟨⟨_,Heap.get?_push_size _ rfl,rfl,rfl⟩,x.at fun o e=>Heap.get?_push_of_some _ e⟩⟩
end
end NX
namespace NX
open PySem PySem.W PySem.Spec PyProof.Rows L2
section
variable{prog:Program}{w:World}{A:Around}{E:Value->Shared->Prop}{s:Shared}
theorem ql{O:KeyOrd}{key:Nat->O.α}{kd:SortKind}{l:Addr}{vs:List Value}{Q:Value->Shared->Prop}
  (hcol:∀Q':List Value->Shared->Prop,(∀h' tk,(∀b o,s.heap.get? b=some o->h'.get? b=some o)->Q' vs {s with heap:=h',toks:=tk})->wpAny (model prog w) A.in1 (collect (.ref l)) Q' E s) (JL:vs.length<64)
  (HA:2<=vs.length->∀(A':Around) (E':Value->Shared->Prop) (s':Shared),(∀b o,s.heap.get? b=some o->s'.heap.get? b=some o)->∀Q:SortKind->Shared->Prop,Q kd s'->wpAny (model prog w) A' (keyKind' vs.toArray) Q E' s')
  (J6:∀i j,i<vs.length->j<vs.length->∀s':Shared,(∀b o,s.heap.get? b=some o->s'.heap.get? b=some o)->∀C:Bool->Shared->Prop,C (O.blt (key i) (key j)) s'->kas_ask prog w A.in1.in1 kd vs i j C s')
  (h:∀(p:Array Nat) (h5 h':Heap) (tk e:Nat),POk vs.length p->bg key p vs.length->(∀b o,s.heap.get? b=some o->h5.get? b=some o)->(∀b o,h5.get? b=some o->h'.get? b=some o)->h'.get? h5.objs.size=some (seqObj "list" (List.toArray (p.toList.map fun i=>vs.getD i .none)) e)->Q (.ref h5.objs.size) {s with heap:=h',toks:=tk}):
  wpAny (model prog w) A (call (.builtin "sorted") [.ref l]) Q E s:=by
 refine Ss kind_sorted plain_sorted entry_sorted (args_sorted1 _) ?_;unfold Builtin.«sorted»;refine P2 (m:=checkCount "sorted" 1 1 _) (P4 (P2 (hcol _ fun h5 tk k5=>?_)));refine P2 (U1 ?_ (by rw[Ri];lia));have k6:∀b o,s.heap.get? b=some o->(h5.push (seqObj "list" vs.toArray 0)).get? b=some o:=fun b o e=>Heap.get?_push_of_some _ (k5 b o e)
 have hL:(h5.push (seqObj "list" vs.toArray 0)).get? h5.objs.size=some (seqObj "list" vs.toArray 0):=Heap.get?_push_size _ rfl;have Pr:∀b o,s.heap.get? b=some o->b<h5.objs.size:=fun b o e=>Qc (k5 b o e)
 show wpAny _ _ _ _ _ {s with heap:=h5.push (seqObj "list" vs.toArray 0),toks:=tk};refine P2 (RG (Rk slot_list_sort ⟨_,hL,rfl⟩ entry_list_sort (gU (key:=key) (kd:=kd) hL JL (fun h2 h' kk Q' q=>HA h2 _ _ _ (fun b o e=>kk b o (Qq (Pr b o e)) (k6 b o e)) Q' q)
  (fun i j hi hj h' kk C q=>J6 i j hi hj _ (fun b o e=>kk b o (Qq (Pr b o e)) (k6 b o e)) C q) fun p h' hp hs ⟨e,he⟩ kk=>⟨_,rfl,?_⟩) (args_list_sort _)))
 exact P4 ⟨_,rfl,h p h5 h' tk e hp hs k5 (fun b o q=>kk b o (Qq (Qc q)) (Heap.get?_push_of_some _ q)) he⟩
end
section
variable{X:Cx}{pi:List (Addr×Obj)}{σ:L2.St}{H:Hp}{s:Shared}
theorem yb{H:Hp}{Ff:List (List Key×V)}{xs:List (List Key×Addr×Value)}(r:KT H Ff xs):xs.map (·.1)=Ff.map (·.1):=by
 induction r with
 |nil=>rfl
 |cons hq _ ih=>rw[Qn,Qn,ih,hq.1]
theorem C8{H:Hp}{Ff:List (List Key×V)}{xs:List (List Key×Addr×Value)}(r:KT H Ff xs):∀y∈xs,H y.2.1=some (.tup (y.1.map kV)):=by
 induction r with
 |nil=>exact fun y hy=>nomatch hy
 |cons hq _ ih=>
  intro y hy;rcases Qh.mp hy with rfl|hy
  ·rw[<-hq.1];exact hq.2.1
  ·exact ih y hy
theorem yc(I:Inv X pi σ H s){a:Addr}{Ff:List (List Key×V)}(h:Rd H a (.dT Ff)):(a==sysModules)=false/\∃(al:List (Addr×List Key)) (es:Array DictEntry) (ep:Nat),
  RawD s.heap a es ep/\es.toList.map (·.key)=al.map (fun x=>Value.ref x.1)/\al.map (·.2)=Ff.map (·.1)/\∀x∈al,H x.1=some (.tup (x.2.map kV)):=by
 obtain⟨_,nm,xs,r,o,es,ep,h1,h2,h3,h4,_⟩:=h.ok I.hok;refine⟨nm,xs.map fun x=>(x.2.1,x.1),es,ep,⟨o,h1,h2,h3⟩,?_,?_,?_⟩
 ·rw[h4,Qe,Qe];rfl
 ·rw[Qe];exact yb r
 ·intro x hx;obtain⟨y,hy,rfl⟩:=QD.mp hx;exact C8 r y hy
theorem kj(hc:X.calm=true):cZ X (.builtin "sorted") (fun vs H Q=>∃(p:Addr) (Ff:List (List Key×V)) (top:Bool) (t:List Bool),vs=[.ref p]/\Rd H p (.dT Ff)/\(∀kv∈Ff,kinds kv.1=top::t)/\Ff.length<64/\
  ∀(D:Addr) (ms:List (Addr×List Key)),H D=none->(∀a∈ms,H a.1=some (.tup (a.2.map kV)))->(ms.map (·.2)).Perm (Ff.map (·.1))->ms.Pairwise (fun a b=>dJ b.2 a.2=false)->Q (.ref D) (upd H D (.lst (ms.map fun a=>V.ref a.1)))):=by
 intro pi s σ H vs us Q I r h;obtain⟨p,Ff,top,kt,rfl,hp,hk,JL,q⟩:=h;obtain⟨u,rfl,r1⟩:=dy r;cases r1;obtain⟨nm,al,es,ep,raw,J7,N8,LX⟩:=yc I hp;have GQ:al.length=Ff.length:=by
  have:=Rg List.length N8;simpa using this
 have HR:∀a∈al,SqT X.K H a.1 (a.2.map kV)/\kinds a.2=top::kt:=fun a ha=>by
  refine⟨SqT.of (LX a ha),?_⟩;have:a.2∈Ff.map (·.1):=by rw[<-N8];exact QD.mpr ⟨a,ha,rfl⟩
  obtain⟨kv,IF,e⟩:=QD.mp this;rw[<-e];exact hk kv IF
 have rv:Vals (al.map fun a=>V.ref a.1) (al.map fun a=>Value.ref a.1):=by
  clear J7 N8 LX GQ HR;induction al with
  |nil=>exact .nil
  |cons a al ih=>exact .cons rfl ih
 have hl:(al.map fun a=>Value.ref a.1).length=al.length:=P5 ..;refine ql (O:=Cy) (key:=fun i=>(al.getD i (0,[])).2) (kd:=tuples' true) (vs:=al.map fun a=>Value.ref a.1) (fun Q' hq=>?_) (by lia) (fun h2 A' E' s' kk Q' q'=>?_) (fun i j hi hj s' kk C q'=>?_) fun pp h5 h' tk e Hl hs k5 k' he=>?_
 ·refine kdu_collect (ya nm) (I.ok.hd hc) raw (by have:=Rg List.length J7;simp only[P5,RB]at this;rw[Ri];lia) fun h' tk acc kk KI=>?_
  have ea:acc.toList=al.map fun a=>Value.ref a.1:=by
   rw[<-J7];apply Rc;intro j;rw[List.getElem?_map,Array.getElem?_toList,Array.getElem?_toList];cases hj:acc[j]? with
   |none=>
    have:es[j]?=none:=by
     rw[Array.getElem?_eq_none_iff]at hj ⊢;rw[<-KI.1];exact hj
    rw[this];rfl
   |some v=>
    obtain⟨en,h1,h2⟩:=KI.2 j v hj;rw[h1,h2];rfl
  have:=hq h' tk kk;rw[<-ea]at this;exact this
 ·obtain⟨fs,t1,t2,t3⟩:=o9 (h':=s'.heap) I kk top rv fun a ha=>⟨(HR a ha).1,kt,(HR a ha).2⟩
  refine kat_kind (T:=.type (if top then "int" else "str")) t1 (by lia) (fun v hv=>t3 v hv _) (by simp) ?_;have:((Value.type (if top then "int" else "str")) != Value.type "tuple")=true:=by cases top <;> decide
  rw[this];exact q'
 ·unfold kas_ask;have Kv:i<al.length:=by lia
  have LS:j<al.length:=by lia
  rw[lg rv Kv,lg rv LS];have mi:al.getD i (0,[])∈al:=by rw[aY _ _ _ Kv];exact RZ _
  have mj:al.getD j (0,[])∈al:=by rw[aY _ _ _ LS];exact RZ _
  obtain⟨u1,o1,n1,r1,g1,_,d1⟩:=mB I (HR _ mi).1;obtain⟨u2,o2,n2,r2,g2,_,d2⟩:=mB I (HR _ mj).1;have ek:kinds (al.getD i (0,[])).2=kinds (al.getD j (0,[])).2:=by rw[(HR _ mi).2,(HR _ mj).2]
  have el:u1.length=u2.length:=by
   have a1:=r1.length;have a2:=r2.length;have a3:=Rg List.length ek;simp only[kinds,P5]at a1 a2 a3;lia
  refine kat_lt (kk _ _ g1) d1 (kk _ _ g2) d2 ?_;have ef:decide (u1.toArray.size<u2.toArray.size)=false:=by simp[el]
  rw[ef];exact jt _ _ _ _ 0 r1 r2 ek q'
 ·rw[hl]at Hl hs;have LU:POk (al.map fun a=>V.ref a.1).length pp:=by rw[P5];exact Hl
  have eo:qk pp (al.map fun a=>V.ref a.1)=(pp.toList.map fun i=>al.getD i (0,[])).map fun a=>V.ref a.1:=by
   unfold qk;rw[Qe];refine QK fun i hi=>?_
   have hi:=QC.mp (Hl.perm.mem_iff.mp hi);show(al.map fun a=>V.ref a.1).getD i .non=V.ref (al.getD i (0,[])).1;rw[aY _ _ _ (by rw[P5];exact hi),aY _ _ _ hi];simp
  have I5:Inv X pi σ H {s with heap:=h5,toks:=tk}:=I.kept k5;have hn:H h5.objs.size=none:=I5.hok.fresh (P9 _);refine⟨.ref h5.objs.size,_,gW (s:={s with heap:=h5,toks:=tk}) I5 k' (P9 _) he (i8 rv LU) ?_,rfl,?_⟩
  ·show(qk pp (al.map fun a=>V.ref a.1)).length<=sizeLine;rw[eo,P5,P5,Hl.perm.length_eq,Qr,Ri];lia
  ·rw[eo];have pm:=i7 (0,[]) Hl;refine q _ _ hn (fun a ha=>LX a (pm.mem_iff.mp ha)) ?_ ?_
   ·rw[<-N8];exact pm.map _
   ·exact f7 (O:=Cy) (0,[]) (fun a:Addr×List Key=>a.2) Hl hs
end
end NX
namespace NX
open PySem PySem.Spec PyProof.Rows L2
section
open PySem.SeqAt
open PySem.AutoSeq1 (wpAny_loadPart')
open PySem.MeetsSeq PySem.MeetsSeq2 PySem.MeetsSeq3
theorem vo{A:Around}{s:Shared}{a c:Key}{u v:Value}(ra:RelV (kV a) u)(rc:RelV (kV c) v):EqAt A s u v (decide (a=c)):=by
 have h:=wF (A:=A) (s:=s) ra rc (i9 a) (i9 c);rw[rV]at h;exact h
theorem vp{prog:Program}{w:World}{A:Around}{E:Value->Shared->Prop}{s:Shared}{Q:Value->Shared->Prop}{a c:Key}{u v:Value}(ra:RelV (kV a) u)(rc:RelV (kV c) v)(hk:a.isLeft=c.isLeft)(h:Q (.bool (o8.blt a c)) s):
  wpAny (model prog w) A (richCompare .Lt u v) Q E s:=by
 cases a with
 |inl i=>
  cases c with
  |inr _=>cases hk
  |inl j=>
   obtain⟨t,rfl⟩:=ra;obtain⟨t',rfl⟩:=rc;exact(PyProof.Rows.lt_int h:wpAny (model prog w) A (compareOp .Lt (.int i t) (.int j t')) Q E s)
 |inr x=>
  cases c with
  |inl _=>cases hk
  |inr y=>
   obtain⟨t,rfl⟩:=ra;obtain⟨t',rfl⟩:=rc;exact(PyProof.Rows.lt_str h:wpAny (model prog w) A (compareOp .Lt (.str x t) (.str y t')) Q E s)
theorem r9(a c:Key)(r t:List Key):dJ (a::r) (c::t)=if a=c then dJ r t else o8.blt a c:=rfl
theorem ll(l b:Addr)(items HB:Array Value)(n n2:Nat)(dd Kt:Option Addr)(sl Ku:Array (Option Value))(ks js:List Key)(hi:Vals (ks.map kV) items.toList)(hj:Vals (js.map kV) HB.toList)(hk:kinds ks=kinds js):
  Meets (Builtin.«tuple.__lt__» ⟨[.ref l,.ref b],[]⟩)
   (fun _ R s=>s.heap.get? l=some {cls:=.type "tuple",dict:=dd,data:=.seq items n,slots:=sl}/\s.heap.get? b=some {cls:=.type "tuple",dict:=Kt,data:=.seq HB n2,slots:=Ku}/\R (.ok (.ret (.bool (dJ ks js)))) s):=
 .of_wp fun prog w A R s h=>by
  obtain⟨hp,g,d,tk,os⟩:=s;obtain⟨hl,hb,h⟩:=h;have f2:=AutoSeq1.sub_tuple_tuple;have z1:items.size=ks.length:=by have:=hi.length;simp at this;lia
  have z2:HB.size=js.length:=by have:=hj.length;simp at this;lia
  have z3:ks.length=js.length:=by have:=Rg List.length hk;simpa[kinds] using this
  wp_walk using wpAny_loadPart' hl,wpAny_loadPart' hb,wpAny_forIn_list _ (fun dI b s'=>b.1=none/\s'=⟨hp,g,d,tk,os⟩/\∃(vs ws:List Value) (Jb JM:List Key),dI=vs.zip ws/\
   Vals (Jb.map kV) vs/\Vals (JM.map kV) ws/\kinds Jb=kinds JM/\R (.ok (.ret (.bool (dJ Jb JM)))) ⟨hp,g,d,tk,os⟩) _
  case turn=>
   rintro⟨y,x⟩ dI b s' ⟨OO,rfl,vs,ws,Jb,JM,hz,N9,OP,Ly,hR⟩;cases Jb with
   |nil=>
    cases N9;rw[List.zip_nil_left]at hz;cases hz
   |cons a Jb=>
    cases JM with
    |nil=>cases Ly
    |cons c JM=>
     cases N9 with
     | @cons _ va _ M9 ra hvi'=>
      cases OP with
      | @cons _ vc _ Na rc hwi'=>
       rw[Rz]at hz;injection hz with hyx hrest;injection hyx with hy hx;subst hy hx;have hk1:a.isLeft=c.isLeft:=(SH Ly).1;have Oa:kinds Jb=kinds JM:=(SH Ly).2;rw[r9]at hR;have he:=vo (A:=A.in1) (s:=⟨hp,g,d,tk,os⟩) ra rc;refine P2 (he prog w _ _ ?_);by_cases hac:a=c
       ·rw[Qa hac]at hR;rw[Q9 hac]
        wp_walk
        exact⟨rfl,rfl,_,_,_,_,hrest,hvi',hwi',Oa,hR⟩
       ·rw[Qf hac]at hR;rw[QB hac];have hri:=fun E Q=>vp (prog:=prog) (w:=w) (A:=A.in1) (E:=E) (s:=⟨hp,g,d,tk,os⟩) (Q:=Q) ra rc hk1
        wp_walk using hri
        exact⟨_,rfl,by simpa using hR⟩
  case fin=>
   rintro⟨b1,b2⟩ s' ⟨OO,rfl,vs,ws,Jb,JM,hz,N9,OP,Ly,hR⟩;simp only at OO;subst OO;have hv:dJ Jb JM=decide (items.size<HB.size):=by
    cases Jb with
    |nil=>
     cases JM with
     |nil=>exact(QB (by lia)).symm
     |cons c JM=>cases Ly
    |cons a Jb=>
     cases JM with
     |nil=>cases Ly
     |cons c JM=>
      cases N9;cases OP;rw[Rz]at hz;cases hz
   rw[hv]at hR
   wp_walk
   exact⟨_,rfl,by simpa[Builtin.Tuple.tupleCompareSizes] using hR⟩
  case h=>
   exact⟨rfl,rfl,items.toList,HB.toList,ks,js,rfl,hi,hj,hk,h⟩
end
section
variable{X:Cx}
def ET(K:W.Frag)(neg:Bool):R2:=fun x y H Q=>∃a b ks js,x=.ref a/\y=.ref b/\SqT K H a (ks.map kV)/\SqT K H b (js.map kV)/\kinds ks=kinds js/\Q (.bl (if neg then !dJ ks js else dJ ks js)) H
theorem AI(hu:X.A.units<cLine):F3 X (compareOp .Lt) (ET X.K false):=by
 intro pi s σ H x y v u Q I rx ry h;obtain⟨a,b,ks,js,rfl,rfl,ha,hb,hk,q⟩:=h;cases rx;cases ry;obtain⟨Fg,r1,p1,_⟩:=I.tuple ha;obtain⟨JI,r2,p2,_⟩:=I.tuple hb;obtain⟨⟨cls,dd,data,sl⟩,ho,hc,n,hd⟩:=id p1;obtain⟨⟨LH,Kt,data2,Ku⟩,Hx,Hf,n2,hd2⟩:=id p2;simp only at hc hd Hf hd2;subst hc hd Hf hd2;exact richCompare_meets_room (op:=.Lt) ⟨_,ho,rfl⟩ ⟨_,Hx,rfl⟩ PySem.F.slot_tuple_lt PySem.F.entry_tuple_lt (PySem.F.args_tuple_lt_2 _ _) (ll a b _ _ n n2 dd Kt sl Ku ks js (by simpa using r1) (by simpa using r2) hk)
  ⟨ho,Hx,show Value.bool (dJ ks js)≠Value.notImplemented/\EP X pi σ Q (.bool (dJ ks js)) s from⟨(fun x=>nomatch x),⟨.bl (dJ ks js),H,I,rfl,q⟩⟩⟩ hu
end
section
variable{prog:Program}{w:World}{A:Around}{E:Value->Shared->Prop}{s:Shared}
end
section
variable{X:Cx}{pi:List (Addr×Obj)}{σ:L2.St}{H:Hp}{s:Shared}{scope:Scope}{N:List Str}{ix:List (Option Nat)}{fp:List Addr}
end
section
variable{X:Cx}{scope:Scope}{N:List Str}{ix:List (Option Nat)}{tg iter elt:Expr}{ifs:List Expr}{pos:Pos}{wi:TI}{g:TG}{tc:TT}{te:TE}
end
noncomputable def CXC(P:Program)(w:World)(base:Heap)(C:Addr):CXT:=fun outer H s E e s'=>
 ∃(a t:Addr) (B:Heap) (H':Hp),e=.ref a/\s'.os=s.os/\AllBare s'.gens/\Un (Jz outer) [] H H' s.heap s'.heap/\HOk P w H' s'.heap/\Heap.FlyingW B outer a (.ref C) (.ref t) s'.heap/\
  (∀b u,s'.heap.get? b=some u->(H' b≠none\/∃o,s.heap.get? b=some o)->b∉Jz outer->B.get? b=some u)/\E (.ref C) none H'
section
variable{X:Cx}{st:Stmt}{dI:List Stmt}{t:TS}{u u':L2.St->Hp->Prop}{e:Expr}{es:List Expr}{x:Str}{C:Addr}{Ww:Hp->Prop}{np Fw pos:Pos}
end
def XP(X:Cx)(pi:List (Addr×Obj))(σ:L2.St)(C:Addr)(Ww:Hp->Prop)(e:Value)(s':Shared):Prop:=∃(s1:Shared) (H1:Hp),Inv X pi σ H1 s1/\CXC X.prog X.w X.base C X.stack H1 s1 (fun _ _ H'=>Ww H') e s'
abbrev TX:=L2.St->Hp->(Hp->Prop)->Prop
section
variable{X:Cx}{st:Stmt}{dI:List Stmt}{tx:TX}{e a b:Expr}{es:List Expr}{x:Str}{C:Addr}{k:Nat}{sp:Sp}{p pos:Pos}
end
open PySem.Builtin.ObjectAttr PySem.Builtin.Getset_descriptor
section
variable{prog:Program}{w:World}{A:Around}{E:Value->Shared->Prop}{s:Shared}{K:W.Frag}{x D:Addr}
end
section
variable{X:Cx}{pi:List (Addr×Obj)}{σ:L2.St}{H:Hp}{s:Shared}{a:Addr}{o:Obj}
end
end NX
namespace NX
open PySem PySem.W PySem.Spec PyProof.Rows L2
section
variable{prog:Program}{w:World}{A:Around}{E:Value->Shared->Prop}{s:Shared}
end
section
variable{X:Cx}
end
end NX
namespace NX
open PySem PySem.Spec PyProof.Rows L2
abbrev eB(h:Heap)(k:Bool)(l:Addr):Heap:=(zA h k l).push {cls:=.type "enumerate",data:=.fields #[.none,.bool false,.ref h.objs.size,rawInt 0,.none,.none]}
set_option maxHeartbeats 8000000 in
theorem AJ(k:Bool)(l:Addr)(xs:Array Value):
  Meets (Builtin.«enumerate.__new__» ⟨[.type "enumerate",.ref l],[]⟩) (fun _ R s=>IsSq k s.heap l xs/\R (.ok (.ret (.ref (zA s.heap k l).objs.size))) {s with heap:=eB s.heap k l}):=
 .of_wp fun prog w A R s h=>by
  obtain⟨hp,g,d,tk,os⟩:=s;obtain⟨g1,q⟩:=h;have hsub:=sub_enumerate;cases k with
  |true=>
   obtain⟨o,ho,_⟩:=id (show Heap.IsList hp l xs from g1);have e1:Heap.IsList (Shared.heap ⟨hp,g,d,tk,os⟩) l xs:=g1;have hl:(Shared.heap ⟨hp,g,d,tk,os⟩).get? l=some o:=ho
   wp_walk using Ru hl
   refine wpAny_stack_any fun sk=>P4 ?_
   split
   ·rename_i c _ _ _ _ _;cases(c==Value.type "enumerate") <;> (wp_walk using Ru hl,RC e1;exact⟨_,rfl,q⟩)
   ·wp_walk using Ru hl,RC e1
    exact⟨_,rfl,q⟩
  |false=>
   obtain⟨o,ho,_⟩:=id (show Heap.IsTuple hp l xs from g1);have e1:Heap.IsTuple (Shared.heap ⟨hp,g,d,tk,os⟩) l xs:=g1;have hl:(Shared.heap ⟨hp,g,d,tk,os⟩).get? l=some o:=ho
   wp_walk using Ru hl
   refine wpAny_stack_any fun sk=>P4 ?_
   split
   ·rename_i c _ _ _ _ _;cases(c==Value.type "enumerate") <;> (wp_walk using Ru hl,Rw e1;exact⟨_,rfl,q⟩)
   ·wp_walk using Ru hl,Rw e1
    exact⟨_,rfl,q⟩
def ES(k:Bool)(e it l:Addr)(i:Nat)(h:Heap):Prop:=(∃old,IsEnum h e it i old)/\IsIt k h it l i
theorem yd{prog:Program}{w:World}{A:Around}{E:Value->Shared->Prop}{s:Shared}{k:Bool}{l:Addr}{xs:Array Value}{Q:Value->Shared->Prop}(g1:IsSq k s.heap l xs)
  (q:∀h',ES k (s.heap.objs.size+1) (s.heap.objs.size+0) l 0 h'->(∀c o,s.heap.get? c=some o->h'.get? c=some o)->Q (.ref (s.heap.objs.size+1)) {s with heap:=h'}):
  wpAny (model prog w) A (call (.type "enumerate") [.ref l]) Q E s:=by
 refine callType_new F.called_enumerate (by decide) (F.typeCall_enumerate_1 _) (F.newCall_enumerate_1 _) (fun obj=>F.args_object_init_2 obj _) F.entry_enumerate_new (AJ k l xs) ⟨g1,?_⟩;have nA:(zA s.heap k l).objs.size=s.heap.objs.size+1:=R6 ..;have gz:(eB s.heap k l).get? (zA s.heap k l).objs.size=some _:=Heap.get?_push_size _ rfl;have j1:IsIt k (eB s.heap k l) s.heap.objs.size l 0:=(k7 k s.heap l).at fun o e=>Heap.get?_push_of_some _ e
 show _/\_;rw[nA]at gz ⊢;exact⟨⟨_,gz,rfl⟩,q _ ⟨⟨_,gz⟩,j1⟩ fun c o x=>Heap.get?_push_of_some _ (Heap.get?_push_of_some _ x)⟩
theorem pd{prog:Program}{w:World}{A:Around}(k:Bool)(hh:A.handled=none)(it l:Addr)(ne:l≠it)(xs:Array Value):
  Draws prog w A it [it,l] xs.size (fun i v=>xs[i]?=some v) (fun i h=>IsIt k h it l i/\IsSq k h l xs) where
 live:=fun i h st=>by obtain⟨o,e,_⟩:=st.1.obj;exact⟨o,e⟩
 frame:=fun i h h' st kk=>⟨st.1.at fun o e=>kk it (by simp) o e,st.2.at fun o e=>kk l (by simp) o e⟩
 item:=fun i s Q E hi st q=>k4 st.1 st.2 (x:=xs[i]) (by simp[hi]) fun h' j sb=>q _ h' s.toks (by simp[hi]) ⟨j,st.2.at fun o e=>sb.extBut _ _ ne e⟩ sb
 done:=fun s Q E st q=>rR hh st.1 st.2 (by simp) q
noncomputable def OQ(K:W.Frag)(k:Bool)(a:Addr):It:=
 ⟨fun i H=>∃xs x,(if k then SqL K H a xs else SqT K H a xs)/\xs[i]?=some x,
  fun i H v H'=>∃T,H T=none/\v=.ref T/\∀xs x,(if k then SqL K H a xs else SqT K H a xs)->xs[i]?=some x->H'=upd H T (.tup [.int (i:Int),x]),
  fun i H=>∃xs,(if k then SqL K H a xs else SqT K H a xs)/\i=xs.length⟩
theorem sa{P:Program}{w:World}{K:W.Frag}{es:List Expr}{kt:Nat}{pt:Pos}(k:Bool)(a e it:Addr)(ne:e≠it):
  Turn P w K (.Tuple es kt pt) (OQ K k a) [e,it] e (ES k e it a) where
 mem:=by simp
 obj:=fun i h st c hc=>by
  obtain⟨⟨old,he⟩,h1⟩:=st;simp only[Qh,Q0,Tj]at hc;rcases hc with rfl|rfl
  ·exact⟨_,he,fun v q=>by cases q⟩
  ·exact h1.obj
 keep:=fun i h h' st k=>by
  obtain⟨⟨old,he⟩,h1⟩:=st;exact⟨⟨old,k e (by simp) _ he⟩,h1.at fun o x=>k it (by simp) o x⟩
 item:=by
  intro X hP hw hK hc i pi s σ H E I hf st hg;subst hP hw hK;obtain⟨xs,x,s1,hx⟩:=hg;obtain⟨us,r1,q1⟩:=k8 I s1;obtain⟨u,hu,ru⟩:=r1.get hx;have fe:=hf e (by simp);have fi:=hf it (by simp);have na:a≠it:=eE I s1 fi;have nb:a≠e:=eE I s1 fe;obtain⟨⟨old,he⟩,h1⟩:=st;have lt:i<us.toArray.size:=by
   rw[P6];exact(List.getElem?_eq_some_iff.mp hu).1
  have dr:Draws X.prog X.w X.A.in1 it [it,a] us.toArray.size (fun i v=>us.toArray[i]?=some v) (fun i h=>IsIt k h it a i/\IsSq k h a us.toArray):=pd k (show X.A.in1.handled=none from I.ok.hd hc) it a na us.toArray;refine wpAny_pyNext_enum_itemD dr he ⟨h1,q1⟩ lt ne (by simp[ne,nb.symm]) fun v h' tk hv z1 j1 tp sz kk=>⟨_,rfl,?_⟩
  have hv:v=u:=by
   have Pt:us[i]?=some v:=by simpa using hv
   rw[hu]at Pt;cases Pt;rfl
  subst hv;refine wpAny_letOwnedTupleGo_enum z1 fun h2 z2 sb=>?_
  have nT:H s.heap.objs.size=none:=I.hok.fresh (P9 _);have tT:s.heap.objs.size≠e:=Th (Qc he);have tI:s.heap.objs.size≠it:=by
   obtain⟨o,x,_⟩:=h1.obj;exact Th (Qc x)
  have all:∀c o,c≠e->c≠it->s.heap.get? c=some o->h2.get? c=some o:=fun c o c1 c2 x=>(sb.2 c c1).trans (kk c o c1 c2 x)
  have Jf:∀c ob,H c=some ob->c≠e/\c≠it:=fun c ob x=>⟨(fun q=>by rw[q,fe.1]at x;cases x),fun q=>by rw[q,fi.1]at x;cases x⟩
  refine⟨.ref s.heap.objs.size,upd H s.heap.objs.size (.tup [.int (i:Int),x]),?_,rfl,⟨_,nT,rfl,fun G0 x' a1 a2=>?_⟩,⟨⟨v,z2⟩,j1.1.at fun o y=>(sb.2 it ne.symm).trans y⟩,fun c hc=>?_⟩
  ·have LQ:h2.get? s.heap.objs.size=some {cls:=.type "tuple",data:=.seq #[.int i tk,v]}:=(sb.2 _ tT).trans tp;have S0:Inv X pi σ (upd H s.heap.objs.size (.tup [.int (i:Int),x])) {s with heap:=h2,gens:=s.gens,drawn:=s.drawn,toks:=tk+1}:=by
    refine I.step (ch:=[e,it]) (fun c hc=>?_) (fun c o _ _ nc y _=>all c o (fun q=>nc (by simp[q])) (fun q=>nc (by simp[q])) y)
     (fun c o _ _ nc y _=>⟨o.slots,all c o (fun q=>nc (by simp[q])) (fun q=>nc (by simp[q])) y⟩) (fun c o _ y n=>by rw[aD (Qq (Qc y))];exact n)
     (fun c o nc y=>⟨o,all c o (fun q=>nc (by simp[q])) (fun q=>nc (by simp[q])) y⟩) (fun c l y=>by rw[aD (aQ y nT)];exact y) (fun c o u' y=>by rw[aD (aQ y nT)];exact y)
     (fun c ps y=>⟨#[],by rw[aD (aQ y nT),y];simp⟩) (fun m hm=>?_) (fun c ob y=>?_) I.bare
    ·simp only[Qh,Q0,Tj]at hc;rcases hc with rfl|rfl
     ·exact⟨fe.2.2.2.1,fe.2.1,fe.2.2.2.2.1,fe.2.2.2.2.2⟩
     ·exact⟨fi.2.2.2.1,fi.2.1,fi.2.2.2.2.1,fi.2.2.2.2.2⟩
    ·obtain⟨o,es,ep,ho,r⟩:=hm;exact⟨o,es,ep,all _ o (Rv fe.2.1) (Rv fi.2.1) ho,r⟩
    ·by_cases ec:c=s.heap.objs.size
     ·subst ec;rw[aV]at y;cases y;exact⟨by simp only[Ql,Rj];rw[Ri];decide,[.int i tk,v],.cons ⟨tk,rfl⟩ (.cons ru .nil),⟨_,LQ,rfl,⟨0,rfl⟩,rfl⟩⟩
     ·rw[aD ec]at y;refine(I.hok c ob y).stay (fun d w' hd q=>?_) (fun d q=>by rw[aD (aQ q nT)];exact q) fun d l q=>by rw[aD (aQ q nT)];exact q
      have KA:∃oo,H d=some oo:=by
       rcases hd with rfl|hd
       ·exact⟨_,y⟩
       ·exact⟨_,hd⟩
      obtain⟨oo,LR⟩:=KA;obtain⟨m1,m2⟩:=Jf d oo LR;exact all d w' m1 m2 q
   exact S0
  ·have e1:=rS I a1 s1;subst e1;rw[hx]at a2;cases a2;rfl
  ·have cs:c≠s.heap.objs.size:=by
    simp only[Qh,Q0,Tj]at hc;rcases hc with rfl|rfl
    ·exact tT.symm
    ·exact tI.symm
   rw[aD cs];exact(hf c hc).1
 done:=by
  intro X hP hw hK hc i pi s σ H E I hf st hg;subst hP hw hK;obtain⟨xs,s1,hi⟩:=hg;obtain⟨us,r1,q1⟩:=k8 I s1;have l1:=r1.length;have fe:=hf e (by simp);have fi:=hf it (by simp);have na:a≠it:=eE I s1 fi;obtain⟨⟨old,he⟩,h1⟩:=st;have hn:i=us.toArray.size:=by rw[P6,hi,l1]
  subst hn;have dr:Draws X.prog X.w X.A.in1 it [it,a] us.toArray.size (fun i v=>us.toArray[i]?=some v) (fun i h=>IsIt k h it a i/\IsSq k h a us.toArray):=pd k (show X.A.in1.handled=none from I.ok.hd hc) it a na us.toArray;refine wpAny_pyNext_enum_endD dr he ⟨h1,q1⟩ fun h' kk=>⟨rfl,?_⟩
  have Jf:∀c ob,H c=some ob->c≠it:=fun c ob x q=>by rw[q,fi.1]at x;cases x
  have S0:Inv X pi σ H {s with heap:=h',gens:=s.gens,drawn:=s.drawn,toks:=s.toks}:=by
   refine I.step (ch:=[it]) (fun c hc=>?_) (fun c o _ _ nc y _=>kk c o (fun q=>nc (by simp[q])) y)
    (fun c o _ _ nc y _=>⟨o.slots,kk c o (fun q=>nc (by simp[q])) y⟩) (fun c o _ y n=>n)
    (fun c o nc y=>⟨o,kk c o (fun q=>nc (by simp[q])) y⟩) (fun c l y=>y) (fun c o u' y=>y)
    (fun c ps y=>⟨#[],by rw[y];simp⟩) (fun m hm=>?_) (fun c ob y=>?_) I.bare
   ·rw[Qx.mp hc];exact⟨fi.2.2.2.1,fi.2.1,fi.2.2.2.2.1,fi.2.2.2.2.2⟩
   ·obtain⟨o,es,ep,ho,r⟩:=hm;exact⟨o,es,ep,kk _ o (Rv fi.2.1) ho,r⟩
   ·refine(I.hok c ob y).stay (fun d w' hd q=>?_) (fun d q=>q) fun d l q=>q
    have KA:∃oo,H d=some oo:=by
     rcases hd with rfl|hd
     ·exact⟨_,y⟩
     ·exact⟨_,hd⟩
    obtain⟨oo,LR⟩:=KA;exact kk d w' (Jf d oo LR) q
  exact S0
 self:=fun _ _ _ _ _ st h=>by
  obtain⟨⟨old,he⟩,_⟩:=st;exact wpAny_pyIter_enum he h
section
variable{X:Cx}{es:List Expr}{kt:Nat}{pt:Pos}
def C9(K:W.Frag)(k:Bool)(ta:TA):TI:=fun σ H R=>ta σ H fun vs H1=>∃a xs,vs=[.ref a]/\(if k then SqL K H1 a xs else SqT K H1 a xs)/\R (OQ K k a) H1
theorem ye(k:Bool){e1:Expr}{ta:TA}{p pos:Pos}(hg:Gl X "enumerate")(hm:X.mg "enumerate" = none)(ha:PA X [e1] ta)(he:starEach [e1] X.env=[(false,eval e1 X.env)]:=by rfl):
  PI X (.Tuple es kt pt) (.Call (.Name "enumerate" p) [e1] [] pos) (C9 X.K k ta):=by
 intro pi s σ H R I h;refine RI (ji I hg hm (by decide +kernel:bootBuiltins "enumerate" = some (.type "enumerate")) ?_ (by decide) (by decide));refine RQ (Fy (ha pos pi s σ H _ I h) fun us s1 ⟨vs,H1,I1,r1,a,xs,e,OJ,q⟩=>?_) he rfl;subst e;cases r1 with
 |cons r rr=>
  cases rr;cases r;obtain⟨us,v1,q1⟩:=k8 I1 OJ;refine yd q1 fun h' st kk=>?_
  obtain⟨⟨old,ho⟩,hi⟩:=id st;refine wpAny_pyIter_enum ho ?_;have fr:∀j,p7 X pi H1 (s1.heap.objs.size+j):=fun j=>I1.fpOk (SX _ _) (I1.hok.fresh (SX _ _))
  refine⟨_,_,_,_,H1,rfl,I1.kept (t':=s1.toks) kk,sa k a (s1.heap.objs.size+1) (s1.heap.objs.size+0) (fun z=>by have:=UP z;cases this),st,fun c hc=>?_,q⟩;simp only[Qh,Q0,Tj]at hc;rcases hc with rfl|rfl
  ·exact fr 1
  ·exact fr 0
end
end NX
namespace PV
open PySem L2 NX
inductive D where
 |non|bl (b:Bool)|int (i:Int)|str (l:List Nat)|tup (ds:List D)|lst (ds:List D)|dct (tk:Bool) (ks vs:List D)
inductive O where
 |f|l (c:O)|t (cs:List O)|d|pin (p:Addr) (c:O)
abbrev R:=O×D
abbrev Env:=List (Option R)
inductive Res(α:Type) where
 |ok (a:α)|exc (c:List Nat)|bad
def kD:Key->D
 | .inl i=>.int i
 | .inr x=>.str x.cps.toList
def isM:HO->Bool
 | .lst _=>true
 | .dK _=>true
 | .dT _=>true
 |_=>false
def isT:HO->Bool
 | .tup _=>true
 | .frz _ (.tup _)=>true
 |_=>false
def wM:Key->Prop
 | .inl _=>True
 | .inr x=>x.cps.toList.length<=sizeLine
def DictO(o:HO)(tk:Bool)(ks:List D)(xs:List V):Prop:=match tk with
 |true=>∃Ff:List (List Key×V),o=.dT Ff/\ks=Ff.map (fun kv=>D.tup (kv.1.map kD))/\xs=Ff.map (·.2)/\∀kv∈Ff,∀k∈kv.1,wM k
 |false=>∃Ff:List (Key×V),o=.dK Ff/\ks=Ff.map (fun kv=>kD kv.1)/\xs=Ff.map (·.2)/\∀kv∈Ff,wM kv.1
mutual
noncomputable def Rep(K:W.Frag)(G:Hp):D->V->Prop
 | .non,v=>v=.non
 | .bl b,v=>v=.bl b
 | .int i,v=>v=.int i
 | .str l,v=>v=.str (S l)/\l.length<=sizeLine
 | .tup ds,v=>∃p xs,v=.ref p/\G p=some (.tup xs)/\Reps K G ds xs
 | .lst ds,v=>∃p xs,v=.ref p/\SqL K G p xs/\Reps K G ds xs
 | .dct tk ks vs,v=>∃p xs o,v=.ref p/\Rd G p o/\DictO o tk ks xs/\Reps K G vs xs
noncomputable def Reps(K:W.Frag)(G:Hp):List D->List V->Prop
 |[],xs=>xs=[]
 |d::ds,xs=>∃y ys,xs=y::ys/\Rep K G d y/\Reps K G ds ys
end
def AllO(P:D->V->List Addr->Prop):List D->List V->List Addr->Prop
 |[],xs,fp=>xs=[]/\fp=[]
 |d::ds,xs,fp=>∃y ys a b,xs=y::ys/\fp=a++b/\P d y a/\AllO P ds ys b
mutual
noncomputable def RepO(K:W.Frag)(G H:Hp):O->D->V->List Addr->Prop
 | .f,d,v,fp=>Rep K G d v/\fp=[]
 | .l c,.lst ds,v,fp=>∃p xs Fm,v=.ref p/\H p=some (.lst xs)/\fp=p::Fm/\AllO (RepO K G H c) ds xs Fm
 | .t cs,.tup ds,v,fp=>∃p xs,v=.ref p/\G p=some (.tup xs)/\RepT K G H cs ds xs fp
 | .d,.dct tk ks vs,v,fp=>∃p xs o,v=.ref p/\H p=some o/\DictO o tk ks xs/\fp=[p]/\Reps K G vs xs
 | .pin p c,d,v,fp=>v=.ref p/\RepO K G H c d v fp
 |_,_,_,_=>False
noncomputable def RepT(K:W.Frag)(G H:Hp):List O->List D->List V->List Addr->Prop
 |[],[],xs,fp=>xs=[]/\fp=[]
 |c::cs,d::ds,xs,fp=>∃y ys a b,xs=y::ys/\fp=a++b/\RepO K G H c d y a/\RepT K G H cs ds ys b
 |_,_,_,_=>False
end
section
variable{K:W.Frag}{G G' H H':Hp}
theorem Rd.mono{p:Addr}{u:HO}(h:Same G G')(r:Rd G p u):Rd G' p u:=by
 rcases r with r|⟨o,r⟩
 ·exact .inl (h _ _ r)
 ·exact .inr ⟨o,h _ _ r⟩
theorem f9{p:Addr}{xs:List V}(h:Same G G')(r:SqL K G p xs):SqL K G' p xs:=r.elim (fun r=>.inl (Rd.mono h r)) .inr
theorem bO{p:Addr}{xs:List V}(h:Same G G')(r:SqT K G p xs):SqT K G' p xs:=r.elim (fun r=>.inl (Rd.mono h r)) .inr
mutual
theorem Rep.mono(h:Same G G'):∀{d:D}{v:V},Rep K G d v->Rep K G' d v
 | .non,_,r=>by simpa only[Rep] using r
 | .bl _,_,r=>by simpa only[Rep] using r
 | .int _,_,r=>by simpa only[Rep] using r
 | .str _,_,r=>by simpa only[Rep] using r
 | .tup ds,_,r=>by
  simp only[Rep]at r ⊢;obtain⟨p,xs,e,q,rs⟩:=r;exact⟨p,xs,e,h _ _ q,Reps.mono h rs⟩
 | .lst ds,_,r=>by
  simp only[Rep]at r ⊢;obtain⟨p,xs,e,q,rs⟩:=r;exact⟨p,xs,e,f9 h q,Reps.mono h rs⟩
 | .dct tk ks vs,_,r=>by
  simp only[Rep]at r ⊢;obtain⟨p,xs,o,e,q,dd,rs⟩:=r;exact⟨p,xs,o,e,Rd.mono h q,dd,Reps.mono h rs⟩
theorem Reps.mono(h:Same G G'):∀{ds:List D}{xs:List V},Reps K G ds xs->Reps K G' ds xs
 |[],_,r=>by simpa only[Reps] using r
 |d::ds,_,r=>by
  simp only[Reps]at r ⊢;obtain⟨y,ys,e,r1,r2⟩:=r;exact⟨y,ys,e,Rep.mono h r1,Reps.mono h r2⟩
end
theorem AllO.imp{P P':D->V->List Addr->Prop}:∀{ds:List D}{xs:List V}{fp:List Addr},(∀d v a,(∀p∈a,p∈fp)->P d v a->P' d v a)->AllO P ds xs fp->AllO P' ds xs fp
 |[],_,_,_,r=>r
 |d::ds,xs,fp,h,r=>by
  obtain⟨y,ys,a,b,e1,e2,p,q⟩:=r;subst e2;exact⟨y,ys,a,b,e1,rfl,h _ _ _ (fun p hp=>Qd _ hp) p,AllO.imp (fun d v c hc=>h d v c fun p hp=>P7 _ (hc p hp)) q⟩
mutual
theorem RepO.step(h:Same G G'):∀{o:O}{d:D}{v:V}{fp:List Addr},(∀p∈fp,H' p=H p)->RepO K G H o d v fp->RepO K G' H' o d v fp
 | .f,d,v,fp,hk,r=>by
  simp only[RepO]at r ⊢;exact⟨Rep.mono h r.1,r.2⟩
 | .pin p c,d,v,fp,hk,r=>by
  simp only[RepO]at r ⊢;exact⟨r.1,RepO.step h hk r.2⟩
 | .l c,.lst ds,v,fp,hk,r=>by
  simp only[RepO]at r ⊢;obtain⟨p,xs,Fm,e,q,e2,a⟩:=r;subst e2;exact⟨p,xs,Fm,e,(hk p P8).trans q,rfl,AllO.imp (fun d v c hc=>RepO.step h fun z hz=>hk z (Qg _ (hc z hz))) a⟩
 | .t cs,.tup ds,v,fp,hk,r=>by
  simp only[RepO]at r ⊢;obtain⟨p,xs,e,q,a⟩:=r;exact⟨p,xs,e,h _ _ q,RepT.step h hk a⟩
 | .d,.dct tk ks vs,v,fp,hk,r=>by
  simp only[RepO]at r ⊢;obtain⟨p,xs,o,e,q,dd,e2,rs⟩:=r;subst e2;exact⟨p,xs,o,e,(hk p P8).trans q,dd,rfl,Reps.mono h rs⟩
 | .l _,.non,_,_,_,r | .l _,.bl _,_,_,_,r | .l _,.int _,_,_,_,r | .l _,.str _,_,_,_,r | .l _,.tup _,_,_,_,r | .l _,.dct _ _ _,_,_,_,r=>by simp only[RepO]at r
 | .t _,.non,_,_,_,r | .t _,.bl _,_,_,_,r | .t _,.int _,_,_,_,r | .t _,.str _,_,_,_,r | .t _,.lst _,_,_,_,r | .t _,.dct _ _ _,_,_,_,r=>by simp only[RepO]at r
 | .d,.non,_,_,_,r | .d,.bl _,_,_,_,r | .d,.int _,_,_,_,r | .d,.str _,_,_,_,r | .d,.tup _,_,_,_,r | .d,.lst _,_,_,_,r=>by simp only[RepO]at r
theorem RepT.step(h:Same G G'):∀{cs:List O}{ds:List D}{xs:List V}{fp:List Addr},(∀p∈fp,H' p=H p)->RepT K G H cs ds xs fp->RepT K G' H' cs ds xs fp
 |[],[],_,_,_,r=>by simpa only[RepT] using r
 |c::cs,d::ds,xs,fp,hk,r=>by
  simp only[RepT]at r ⊢;obtain⟨y,ys,a,b,e1,e2,r1,r2⟩:=r;subst e2;exact⟨y,ys,a,b,e1,rfl,RepO.step h (fun p hp=>hk p (Qd _ hp)) r1,RepT.step h (fun p hp=>hk p (P7 _ hp)) r2⟩
 |[],_::_,_,_,_,r=>by simp only[RepT]at r
 |_::_,[],_,_,_,r=>by simp only[RepT]at r
end
theorem AllO.frozen{P:D->V->List Addr->Prop}:∀{ds:List D}{xs:List V}{fp:List Addr},(∀d v a,(∀p∈a,p∈fp)->P d v a->Rep K G' d v)->AllO P ds xs fp->Reps K G' ds xs
 |[],_,_,_,r=>by simp only[Reps];exact r.1
 |d::ds,xs,fp,h,r=>by
  obtain⟨y,ys,a,b,e1,e2,p,q⟩:=r;subst e2;simp only[Reps];exact⟨y,ys,e1,h _ _ _ (fun p hp=>Qd _ hp) p,AllO.frozen (fun d v c hc=>h d v c fun p hp=>P7 _ (hc p hp)) q⟩
mutual
theorem RepO.frozen(h:Same G G'):∀{o:O}{d:D}{v:V}{fp:List Addr},(∀p∈fp,∀u,H p=some u->G' p=some u)->RepO K G H o d v fp->Rep K G' d v
 | .f,d,v,fp,hk,r=>by
  simp only[RepO]at r;exact Rep.mono h r.1
 | .pin p c,d,v,fp,hk,r=>by
  simp only[RepO]at r;exact RepO.frozen h hk r.2
 | .l c,.lst ds,v,fp,hk,r=>by
  simp only[RepO]at r;simp only[Rep];obtain⟨p,xs,Fm,e,q,e2,a⟩:=r;subst e2;exact⟨p,xs,e,SqL.of (hk p P8 _ q),AllO.frozen (fun d v c hc=>RepO.frozen h fun z hz=>hk z (Qg _ (hc z hz))) a⟩
 | .t cs,.tup ds,v,fp,hk,r=>by
  simp only[RepO]at r;simp only[Rep];obtain⟨p,xs,e,q,a⟩:=r;exact⟨p,xs,e,h _ _ q,RepT.frozen h hk a⟩
 | .d,.dct tk ks vs,v,fp,hk,r=>by
  simp only[RepO]at r;simp only[Rep];obtain⟨p,xs,o,e,q,dd,e2,rs⟩:=r;subst e2;exact⟨p,xs,o,e,.inl (hk p P8 _ q),dd,Reps.mono h rs⟩
 | .l _,.non,_,_,_,r | .l _,.bl _,_,_,_,r | .l _,.int _,_,_,_,r | .l _,.str _,_,_,_,r | .l _,.tup _,_,_,_,r | .l _,.dct _ _ _,_,_,_,r=>by simp only[RepO]at r
 | .t _,.non,_,_,_,r | .t _,.bl _,_,_,_,r | .t _,.int _,_,_,_,r | .t _,.str _,_,_,_,r | .t _,.lst _,_,_,_,r | .t _,.dct _ _ _,_,_,_,r=>by simp only[RepO]at r
 | .d,.non,_,_,_,r | .d,.bl _,_,_,_,r | .d,.int _,_,_,_,r | .d,.str _,_,_,_,r | .d,.tup _,_,_,_,r | .d,.lst _,_,_,_,r=>by simp only[RepO]at r
theorem RepT.frozen(h:Same G G'):∀{cs:List O}{ds:List D}{xs:List V}{fp:List Addr},(∀p∈fp,∀u,H p=some u->G' p=some u)->RepT K G H cs ds xs fp->Reps K G' ds xs
 |[],[],_,_,_,r=>by simp only[RepT]at r;simp only[Reps];exact r.1
 |c::cs,d::ds,xs,fp,hk,r=>by
  simp only[RepT]at r;simp only[Reps];obtain⟨y,ys,a,b,e1,e2,r1,r2⟩:=r;subst e2;exact⟨y,ys,e1,RepO.frozen h (fun p hp=>hk p (Qd _ hp)) r1,RepT.frozen h (fun p hp=>hk p (P7 _ hp)) r2⟩
 |[],_::_,_,_,_,r=>by simp only[RepT]at r
 |_::_,[],_,_,_,r=>by simp only[RepT]at r
end
theorem AllO.live{P:D->V->List Addr->Prop}:∀{ds:List D}{xs:List V}{fp:List Addr},(∀d v a,P d v a->∀p∈a,∃u,H p=some u)->AllO P ds xs fp->∀p∈fp,∃u,H p=some u
 |[],_,_,_,r=>by rw[r.2];intro p hp;cases hp
 |d::ds,xs,fp,h,r=>by
  obtain⟨y,ys,a,b,e1,e2,p,q⟩:=r;subst e2;intro z hz;rcases QH.mp hz with hz|hz
  ·exact h _ _ _ p z hz
  ·exact AllO.live h q z hz
mutual
theorem RepO.live:∀{o:O}{d:D}{v:V}{fp:List Addr},RepO K G H o d v fp->∀p∈fp,∃u,H p=some u
 | .f,d,v,fp,r=>by
  simp only[RepO]at r;rw[r.2];intro p hp;cases hp
 | .pin p c,d,v,fp,r=>by
  simp only[RepO]at r;exact RepO.live r.2
 | .l c,.lst ds,v,fp,r=>by
  simp only[RepO]at r;obtain⟨p,xs,Fm,e,q,e2,a⟩:=r;subst e2;intro z hz;rcases Qh.mp hz with rfl|hz
  ·exact⟨_,q⟩
  ·exact AllO.live (fun d v a=>RepO.live) a z hz
 | .t cs,.tup ds,v,fp,r=>by
  simp only[RepO]at r;obtain⟨p,xs,e,q,a⟩:=r;exact RepT.live a
 | .d,.dct tk ks vs,v,fp,r=>by
  simp only[RepO]at r;obtain⟨p,xs,o,e,q,dd,e2,rs⟩:=r;subst e2;intro z hz;rw[Qx]at hz;exact⟨_,hz▸q⟩
 | .l _,.non,_,_,r | .l _,.bl _,_,_,r | .l _,.int _,_,_,r | .l _,.str _,_,_,r | .l _,.tup _,_,_,r | .l _,.dct _ _ _,_,_,r=>by simp only[RepO]at r
 | .t _,.non,_,_,r | .t _,.bl _,_,_,r | .t _,.int _,_,_,r | .t _,.str _,_,_,r | .t _,.lst _,_,_,r | .t _,.dct _ _ _,_,_,r=>by simp only[RepO]at r
 | .d,.non,_,_,r | .d,.bl _,_,_,r | .d,.int _,_,_,r | .d,.str _,_,_,r | .d,.tup _,_,_,r | .d,.lst _,_,_,r=>by simp only[RepO]at r
theorem RepT.live:∀{cs:List O}{ds:List D}{xs:List V}{fp:List Addr},RepT K G H cs ds xs fp->∀p∈fp,∃u,H p=some u
 |[],[],_,_,r=>by
  simp only[RepT]at r;rw[r.2];intro p hp;cases hp
 |c::cs,d::ds,xs,fp,r=>by
  simp only[RepT]at r;obtain⟨y,ys,a,b,e1,e2,r1,r2⟩:=r;subst e2;intro z hz;rcases QH.mp hz with hz|hz
  ·exact RepO.live r1 z hz
  ·exact RepT.live r2 z hz
 |[],_::_,_,_,r=>by simp only[RepT]at r
 |_::_,[],_,_,r=>by simp only[RepT]at r
end
theorem DictO.isM{o:HO}{tk:Bool}{ks:List D}{xs:List V}(h:DictO o tk ks xs):PV.isM o=true:=by
 cases tk with
 |true=>
  obtain⟨Ff,e,_⟩:=h;rw[e];rfl
 |false=>
  obtain⟨Ff,e,_⟩:=h;rw[e];rfl
theorem AllO.mut{P:D->V->List Addr->Prop}:∀{ds:List D}{xs:List V}{fp:List Addr},(∀d v a,P d v a->∀p∈a,∃u,H p=some u/\isM u=true)->AllO P ds xs fp->∀p∈fp,∃u,H p=some u/\isM u=true
 |[],_,_,_,r=>by rw[r.2];intro p hp;cases hp
 |d::ds,xs,fp,h,r=>by
  obtain⟨y,ys,a,b,e1,e2,p,q⟩:=r;subst e2;intro z hz;rcases QH.mp hz with hz|hz
  ·exact h _ _ _ p z hz
  ·exact AllO.mut h q z hz
mutual
theorem RepO.mut:∀{o:O}{d:D}{v:V}{fp:List Addr},RepO K G H o d v fp->∀p∈fp,∃u,H p=some u/\isM u=true
 | .f,d,v,fp,r=>by
  simp only[RepO]at r;rw[r.2];intro p hp;cases hp
 | .pin p c,d,v,fp,r=>by
  simp only[RepO]at r;exact RepO.mut r.2
 | .l c,.lst ds,v,fp,r=>by
  simp only[RepO]at r;obtain⟨p,xs,Fm,e,q,e2,a⟩:=r;subst e2;intro z hz;rcases Qh.mp hz with rfl|hz
  ·exact⟨_,q,rfl⟩
  ·exact AllO.mut (fun d v a=>RepO.mut) a z hz
 | .t cs,.tup ds,v,fp,r=>by
  simp only[RepO]at r;obtain⟨p,xs,e,q,a⟩:=r;exact RepT.mut a
 | .d,.dct tk ks vs,v,fp,r=>by
  simp only[RepO]at r;obtain⟨p,xs,o,e,q,dd,e2,rs⟩:=r;subst e2;intro z hz;rw[Qx]at hz;exact⟨_,hz▸q,dd.isM⟩
 | .l _,.non,_,_,r | .l _,.bl _,_,_,r | .l _,.int _,_,_,r | .l _,.str _,_,_,r | .l _,.tup _,_,_,r | .l _,.dct _ _ _,_,_,r=>by simp only[RepO]at r
 | .t _,.non,_,_,r | .t _,.bl _,_,_,r | .t _,.int _,_,_,r | .t _,.str _,_,_,r | .t _,.lst _,_,_,r | .t _,.dct _ _ _,_,_,r=>by simp only[RepO]at r
 | .d,.non,_,_,r | .d,.bl _,_,_,r | .d,.int _,_,_,r | .d,.str _,_,_,r | .d,.tup _,_,_,r | .d,.lst _,_,_,r=>by simp only[RepO]at r
theorem RepT.mut:∀{cs:List O}{ds:List D}{xs:List V}{fp:List Addr},RepT K G H cs ds xs fp->∀p∈fp,∃u,H p=some u/\isM u=true
 |[],[],_,_,r=>by
  simp only[RepT]at r;rw[r.2];intro p hp;cases hp
 |c::cs,d::ds,xs,fp,r=>by
  simp only[RepT]at r;obtain⟨y,ys,a,b,e1,e2,r1,r2⟩:=r;subst e2;intro z hz;rcases QH.mp hz with hz|hz
  ·exact RepO.mut r1 z hz
  ·exact RepT.mut r2 z hz
 |[],_::_,_,_,r=>by simp only[RepT]at r
 |_::_,[],_,_,r=>by simp only[RepT]at r
end
noncomputable def RepE(K:W.Frag)(G H:Hp):Env->List (Option V)->List Addr->Prop
 |[],vs,fp=>vs=[]/\fp=[]
 |e::es,vs,fp=>∃y ys,vs=y::ys/\match e with
  |none=>RepE K G H es ys fp
  |some r=>∃v a b,y=some v/\fp=a++b/\RepO K G H r.1 r.2 v a/\RepE K G H es ys b
theorem RepE.step(h:Same G G'):∀{es:Env}{vs:List (Option V)}{fp:List Addr},(∀p∈fp,H' p=H p)->RepE K G H es vs fp->RepE K G' H' es vs fp
 |[],_,_,_,r=>r
 |none::es,vs,fp,hk,r=>by
  obtain⟨y,ys,e,r⟩:=r;exact⟨y,ys,e,RepE.step h hk r⟩
 |some r::es,vs,fp,hk,q=>by
  obtain⟨y,ys,e,v,a,b,e1,e2,r1,r2⟩:=q;subst e2;exact⟨y,ys,e,v,a,b,e1,rfl,RepO.step h (fun p hp=>hk p (Qd _ hp)) r1,RepE.step h (fun p hp=>hk p (P7 _ hp)) r2⟩
theorem RepE.live:∀{es:Env}{vs:List (Option V)}{fp:List Addr},RepE K G H es vs fp->∀p∈fp,∃u,H p=some u
 |[],_,_,r=>by
  rw[r.2];intro p hp;cases hp
 |none::es,vs,fp,r=>by
  obtain⟨y,ys,e,r⟩:=r;exact RepE.live r
 |some r::es,vs,fp,q=>by
  obtain⟨y,ys,e,v,a,b,e1,e2,r1,r2⟩:=q;subst e2;intro z hz;rcases QH.mp hz with hz|hz
  ·exact r1.live z hz
  ·exact RepE.live r2 z hz
theorem RepE.mut:∀{es:Env}{vs:List (Option V)}{fp:List Addr},RepE K G H es vs fp->∀p∈fp,∃u,H p=some u/\isM u=true
 |[],_,_,r=>by
  rw[r.2];intro p hp;cases hp
 |none::es,vs,fp,r=>by
  obtain⟨y,ys,e,r⟩:=r;exact RepE.mut r
 |some r::es,vs,fp,q=>by
  obtain⟨y,ys,e,v,a,b,e1,e2,r1,r2⟩:=q;subst e2;intro z hz;rcases QH.mp hz with hz|hz
  ·exact r1.mut z hz
  ·exact RepE.mut r2 z hz
theorem RepE.length:∀{es:Env}{vs:List (Option V)}{fp:List Addr},RepE K G H es vs fp->vs.length=es.length
 |[],_,_,r=>by rw[r.1];rfl
 |none::es,vs,fp,r=>by
  obtain⟨y,ys,e,r⟩:=r;rw[e,Ql,Ql,RepE.length r]
 |some r::es,vs,fp,q=>by
  obtain⟨y,ys,e,v,a,b,e1,e2,r1,r2⟩:=q;rw[e,Ql,Ql,RepE.length r2]
theorem RepE.take:∀{es:Env}{vs:List (Option V)}{fp:List Addr}{i:Nat}{r:R},RepE K G H es vs fp->es[i]?=some (some r)->
  ∃v a b,vs[i]?=some (some v)/\RepO K G H r.1 r.2 v a/\RepE K G H (es.set i none) vs b/\fp.Perm (a++b)
 |[],_,_,_,_,_,e=>by simp at e
 |none::es,vs,fp,0,r,q,e=>by simp at e
 |some r'::es,vs,fp,0,r,q,e=>by
  obtain⟨y,ys,e0,v,a,b,e1,e2,r1,r2⟩:=q;simp at e;subst e;subst e0;subst e1;exact⟨v,a,b,rfl,r1,⟨some v,ys,rfl,r2⟩,by rw[e2]⟩
 |none::es,vs,fp,i+1,r,q,e=>by
  obtain⟨y,ys,e0,q⟩:=q;obtain⟨v,a,b,g1,g2,g3,g4⟩:=RepE.take q (i:=i) (r:=r) (by simpa using e);subst e0;exact⟨v,a,b,by simpa using g1,g2,⟨y,ys,rfl,g3⟩,g4⟩
 |some r'::es,vs,fp,i+1,r,q,e=>by
  obtain⟨y,ys,e0,v',a',b',e1,e2,r1,r2⟩:=q;obtain⟨v,a,b,g1,g2,g3,g4⟩:=RepE.take r2 (i:=i) (r:=r) (by simpa using e);subst e0;refine⟨v,a,a'++b,by simpa using g1,g2,⟨y,ys,rfl,v',a',b,e1,rfl,r1,g3⟩,?_⟩;rw[e2];refine(Uw a' g4).trans ?_;rw[<-Q5,<-Q5];exact Uj b Ux
theorem RepE.put:∀{es:Env}{vs:List (Option V)}{b:List Addr}{i:Nat}{r:R}{v:V}{a:List Addr},RepE K G H es vs b->es[i]?=some none->RepO K G H r.1 r.2 v a->
  ∃fp,RepE K G H (es.set i (some r)) (vs.set i (some v)) fp/\fp.Perm (a++b)
 |[],_,_,_,_,_,_,_,e,_=>by simp at e
 |none::es,vs,b,0,r,v,a,q,e,ro=>by
  obtain⟨y,ys,e0,q⟩:=q;subst e0;exact⟨a++b,⟨some v,ys,rfl,v,a,b,rfl,rfl,ro,q⟩,.refl _⟩
 |some r'::es,vs,b,0,r,v,a,q,e,ro=>by simp at e
 |none::es,vs,b,i+1,r,v,a,q,e,ro=>by
  obtain⟨y,ys,e0,q⟩:=q;obtain⟨fp,g1,g2⟩:=RepE.put q (i:=i) (r:=r) (by simpa using e) ro;subst e0;exact⟨fp,⟨y,_,rfl,g1⟩,g2⟩
 |some r'::es,vs,b,i+1,r,v,a,q,e,ro=>by
  obtain⟨y,ys,e0,v',a',b',e1,e2,r1,r2⟩:=q;obtain⟨fp,g1,g2⟩:=RepE.put r2 (i:=i) (r:=r) (by simpa using e) ro;subst e0;refine⟨a'++fp,⟨y,_,rfl,v',a',fp,e1,rfl,r1,g1⟩,?_⟩;rw[e2];refine(Uw a' g2).trans ?_;rw[<-Q5,<-Q5];exact Uj b' Ux
structure Rel(K:W.Frag)(G H:Hp)(es:Env)(vs:List (Option V))(fp:List Addr):Prop where
 rep:RepE K G H es vs fp
 nd:fp.Nodup
 gn:∀p∈fp,G p=none
 gh:Same G H
structure Step(G H:Hp)(fp:List Addr)(G' H':Hp)(Fm:List Addr):Prop where
 gg:Same G G'
 keep:∀q u,H q=some u->q∉fp->H' q=some u
 fpn:∀q∈Fm,q∈fp\/H q=none
 gnew:∀q u,G' q=some u->G q=some u\/q∈fp\/H q=none\/isT u=true/\H q=some u
 there:∀q u,H q=some u->∃u',H' q=some u'
theorem Step.refl{fp:List Addr}:Step G H fp G H fp:=⟨.refl _,fun _ _ h _=>h,fun _ h=>.inl h,fun _ _ h=>.inl h,fun _ u h=>⟨u,h⟩⟩
theorem Step.trans{G1 H1 G2 H2:Hp}{fp FE F0:List Addr}(a:Step G H fp G1 H1 FE)(b:Step G1 H1 FE G2 H2 F0):Step G H fp G2 H2 F0:=by
 refine⟨a.gg.trans b.gg,fun q u h n=>?_,fun q hq=>?_,fun q u hq=>?_,fun q u h=>?_⟩
 ·refine b.keep q u (a.keep q u h n) fun hq=>?_
  rcases a.fpn q hq with z|z
  ·exact n z
  ·rw[z]at h;cases h
 ·rcases b.fpn q hq with z|z
  ·exact a.fpn q z
  ·cases e:H q with
   |none=>exact .inr rfl
   |some u=>
    obtain⟨u',e'⟩:=a.there q u e;rw[z]at e';cases e'
 ·rcases b.gnew q u hq with z|z|z|⟨t,z⟩
  ·exact a.gnew q u z
  ·exact .inr ((a.fpn q z).imp_right .inl)
  ·cases e:H q with
   |none=>exact .inr (.inr (.inl rfl))
   |some u=>
    obtain⟨u',e'⟩:=a.there q u e;rw[z]at e';cases e'
  ·cases e:H q with
   |none=>exact .inr (.inr (.inl rfl))
   |some u2=>
    by_cases hf:q∈fp
    ·exact .inr (.inl hf)
    ·rw[a.keep q u2 e hf]at z;cases z;exact .inr (.inr (.inr ⟨t,rfl⟩))
 ·obtain⟨u',h'⟩:=a.there q u h;exact b.there q u' h'
theorem Step.wide{fp fq Fm Pu:List Addr}(a:Step G H fp G' H' Fm)(h:∀q∈fp,q∈fq)(h':∀q∈Pu,q∈Fm\/q∈fq):Step G H fq G' H' Pu:=
 ⟨a.gg,fun q u e n=>a.keep q u e fun z=>n (h q z),fun q hq=>(h' q hq).elim (fun z=>(a.fpn q z).imp_left (h q)) .inl,fun q u e=>(a.gnew q u e).imp_right (Or.imp_left (h q)),a.there⟩
theorem Rel.perm{es:Env}{vs:List (Option V)}{fp fq:List Addr}(r:RepE K G H es vs fq)(nd:fp.Nodup)(gn:∀p∈fp,G p=none)(gh:Same G H)(h:fp.Perm fq):Rel K G H es vs fq:=
 ⟨r,h.nodup_iff.mp nd,fun p hp=>gn p (h.mem_iff.mpr hp),gh⟩
theorem Rel.frame{r:R}{v:V}{es:Env}{vs:List (Option V)}{fp:List Addr}(q:Rel K G H (some r::es) (some v::vs) fp):
  ∃a b,fp=a++b/\RepO K G H r.1 r.2 v a/\Rel K G H es vs b/\∀(G' H':Hp) (Ia:Env) (M9:List (Option V)) (b':List Addr),Step G H b G' H' b'->Rel K G' H' Ia M9 b'->
   Rel K G' H' (some r::Ia) (some v::M9) (a++b')/\Step G H (a++b) G' H' (a++b'):=by
 obtain⟨y,ys,e,v',a,b,e1,e2,r1,r2⟩:=q.rep;cases e;cases e1;subst e2;have nd:=QF.mp q.nd;refine⟨a,b,rfl,r1,⟨r2,nd.2.1,fun p hp=>q.gn p (P7 _ hp),q.gh⟩,fun G' H' Ia M9 b' st k=>?_⟩;have nb:∀p∈a,p∉b:=fun p hp hb=>nd.2.2 p hp p hb rfl
 have same:∀p∈a,H' p=H p:=fun p hp=>by
  obtain⟨u,hu⟩:=r1.live p hp;rw[hu];exact st.keep p u hu (nb p hp)
 refine⟨⟨⟨some v,M9,rfl,v,a,b',rfl,rfl,r1.step st.gg same,k.rep⟩,?_,fun p hp=>?_,k.gh⟩,st.wide (fun p hp=>P7 _ hp) fun p hp=>?_⟩
 ·rw[QF];refine⟨nd.1,k.nd,fun p hp z hz e=>?_⟩;subst e;obtain⟨u,hu⟩:=r1.live p hp;rcases st.fpn p hz with z|z
  ·exact nb p hp z
  ·rw[z]at hu;cases hu
 ·rcases QH.mp hp with hp|hp
  ·cases e:G' p with
   |none=>rfl
   |some u=>
    exfalso;obtain⟨u',hu⟩:=r1.live p hp;rcases st.gnew p u e with z|z|z|⟨t,z⟩
    ·rw[q.gn p (Qd _ hp)]at z;cases z
    ·exact nb p hp z
    ·rw[z]at hu;cases hu
    ·obtain⟨u2,h2,hm⟩:=r1.mut p hp;rw[z]at h2;cases h2;cases u with
     |tup _=>cases hm
     |frz _ _=>cases hm
     |_=>cases t
  ·exact k.gn p hp
 ·rcases QH.mp hp with hp|hp
  ·exact .inr (Qd _ hp)
  ·exact .inl hp
theorem Rel.freeze{r:R}{v:V}{es:Env}{vs:List (Option V)}{fp:List Addr}(q:Rel K G H (some r::es) (some v::vs) fp):
  ∃G' b,Rep K G' r.2 v/\Rel K G' H es vs b/\Step G H fp G' H b:=by
 obtain⟨y,ys,e,v',a,b,e1,e2,r1,r2⟩:=q.rep;cases e;cases e1;subst e2;have nd:=QF.mp q.nd;have nb:∀p∈a,p∉b:=fun p hp hb=>nd.2.2 p hp p hb rfl
 have hg:Same G (fun p=>if p∈a then H p else G p):=fun p u e=>by
  show(if p∈a then H p else G p)=some u;by_cases hp:p∈a
  ·rw[Qa hp];exact q.gh p u e
  ·rw[Qf hp];exact e
 refine⟨fun p=>if p∈a then H p else G p,b,r1.frozen hg fun p hp u e=>?_,⟨r2.step hg fun _ _=>rfl,nd.2.1,fun p hp=>?_,fun p u e=>?_⟩,⟨hg,fun _ _ e _=>e,fun p hp=>.inl (P7 _ hp),fun p u e=>?_,fun _ u e=>⟨u,e⟩⟩⟩
 ·show(if p∈a then H p else G p)=some u;rw[Qa hp];exact e
 ·show(if p∈a then H p else G p)=none;rw[Qf (fun z=>nb p z hp)];exact q.gn p (P7 _ hp)
 ·have e:(if p∈a then H p else G p)=some u:=e;by_cases hp:p∈a
  ·rw[Qa hp]at e;exact e
  ·rw[Qf hp]at e;exact q.gh p u e
 ·have e:(if p∈a then H p else G p)=some u:=e;by_cases hp:p∈a
  ·exact .inr (.inl (Qd _ hp))
  ·rw[Qf hp]at e;exact .inl e
end
section
variable{K:W.Frag}{G G' H H':Hp}{es:Env}{vs:List (Option V)}{fp:List Addr}
theorem pe:∀{ds:List D}{xs:List V}{fp:List Addr},AllO (RepO K G H .f) ds xs fp<->Reps K G ds xs/\fp=[]
 |[],xs,fp=>by simp only[AllO,Reps]
 |d::ds,xs,fp=>by
  simp only[AllO,Reps,RepO];constructor
  ·rintro⟨y,ys,a,b,e1,e2,⟨r,e3⟩,q⟩;obtain⟨q1,q2⟩:=pe.mp q;subst e3;subst q2;exact⟨⟨y,ys,e1,r,q1⟩,e2⟩
  ·rintro⟨⟨y,ys,e1,r,q1⟩,e⟩;exact⟨y,ys,[],[],e1,e,⟨r,rfl⟩,pe.mpr ⟨q1,rfl⟩⟩
theorem gY{d:D}{v:V}{a:List Addr}:RepO K G H .f d v a<->Rep K G d v/\a=[]:=by simp only[RepO]
theorem gH{ds:List D}{v:V}{a:List Addr}:RepO K G H (.l .f) (.lst ds) v a<->∃p xs,v=.ref p/\H p=some (.lst xs)/\a=[p]/\Reps K G ds xs:=by
 rw[RepO];constructor
 ·rintro⟨p,xs,b,e,q,e2,r⟩;obtain⟨r',eb⟩:=pe.mp r;subst eb;exact⟨p,xs,e,q,e2,r'⟩
 ·rintro⟨p,xs,e,q,e2,r⟩;exact⟨p,xs,[],e,q,e2,pe.mpr ⟨r,rfl⟩⟩
theorem Reps.length:∀{ds:List D}{xs:List V},Reps K G ds xs->xs.length=ds.length
 |[],xs,r=>by simp only[Reps]at r;rw[r];rfl
 |d::ds,xs,r=>by
  simp only[Reps]at r;obtain⟨y,ys,e,_,q⟩:=r;rw[e,Ql,Ql,Reps.length q]
theorem Reps.get:∀{ds:List D}{xs:List V}{i:Nat}{d:D},Reps K G ds xs->ds[i]?=some d->∃v,xs[i]?=some v/\Rep K G d v
 |[],_,_,_,_,e=>by simp at e
 |d'::ds,xs,0,d,r,e=>by
  simp only[Reps]at r;obtain⟨y,ys,e1,q,_⟩:=r;simp at e;subst e;exact⟨y,by rw[e1];rfl,q⟩
 |d'::ds,xs,i+1,d,r,e=>by
  simp only[Reps]at r;obtain⟨y,ys,e1,_,q⟩:=r;obtain⟨v,a,b⟩:=Reps.get q (i:=i) (d:=d) (by simpa using e);exact⟨v,by rw[e1];simpa using a,b⟩
theorem Reps.app:∀{ds es:List D}{xs ys:List V},Reps K G ds xs->Reps K G es ys->Reps K G (ds++es) (xs++ys)
 |[],_,_,_,r,q=>by simp only[Reps]at r;rw[r];exact q
 |d::ds,es,xs,ys,r,q=>by
  simp only[Reps]at r;obtain⟨z,zs,e,r1,r2⟩:=r;rw[e];simp only[List.cons_append,Reps];exact⟨z,_,rfl,r1,r2.app q⟩
theorem Reps.one{d:D}{v:V}(r:Rep K G d v):Reps K G [d] [v]:=by
 simp only[Reps];exact⟨v,[],rfl,r,rfl⟩
theorem Reps.nil:Reps K G [] []:=by simp only[Reps]
theorem Reps.cons{d:D}{v:V}{ds:List D}{xs:List V}(r:Rep K G d v)(q:Reps K G ds xs):Reps K G (d::ds) (v::xs):=by
 simp only[Reps];exact⟨v,xs,rfl,r,q⟩
theorem Reps.cons_iff{d:D}{v:V}{ds:List D}{xs:List V}:Reps K G (d::ds) (v::xs)<->Rep K G d v/\Reps K G ds xs:=by
 simp only[Reps];constructor
 ·rintro⟨y,ys,e,r,q⟩;cases e;exact⟨r,q⟩
 ·rintro⟨r,q⟩;exact⟨v,xs,rfl,r,q⟩
theorem Reps.take:∀{ds:List D}{xs:List V}(n:Nat),Reps K G ds xs->Reps K G (ds.take n) (xs.take n)
 |_,_,0,_=>by rw[Tr,Tr];exact Reps.nil
 |[],xs,n+1,r=>by simp only[Reps]at r;rw[r];exact Reps.nil
 |d::ds,xs,n+1,r=>by
  simp only[Reps]at r;obtain⟨y,ys,e,r1,r2⟩:=r;rw[e,UR,UR];exact .cons r1 (r2.take n)
theorem Reps.drop:∀{ds:List D}{xs:List V}(n:Nat),Reps K G ds xs->Reps K G (ds.drop n) (xs.drop n)
 |_,_,0,r=>r
 |[],xs,n+1,r=>by simp only[Reps]at r;rw[r];exact Reps.nil
 |d::ds,xs,n+1,r=>by
  simp only[Reps]at r;obtain⟨y,ys,e,r1,r2⟩:=r;rw[e,US,US];exact r2.drop n
theorem Reps.set:∀{ds:List D}{xs:List V}(n:Nat) {d:D}{v:V},Reps K G ds xs->Rep K G d v->Reps K G (ds.set n d) (xs.set n v)
 |[],xs,n,d,v,r,q=>by simp only[Reps]at r;rw[r];exact Reps.nil
 |d'::ds,xs,0,d,v,r,q=>by
  simp only[Reps]at r;obtain⟨y,ys,e,r1,r2⟩:=r;rw[e];exact .cons q r2
 |d'::ds,xs,n+1,d,v,r,q=>by
  simp only[Reps]at r;obtain⟨y,ys,e,r1,r2⟩:=r;rw[e];exact .cons r1 (r2.set n q)
theorem Step.cut{fq:List Addr}(h:∀q∈fq,q∈fp):Step G H fp G H fq:=⟨.refl _,fun _ _ e _=>e,fun q hq=>.inl (h q hq),fun _ _ e=>.inl e,fun _ u e=>⟨u,e⟩⟩
theorem Rel.drop{r:R}{y:Option V}(q:Rel K G H (some r::es) (y::vs) fp):∃b,Rel K G H es vs b/\Step G H fp G H b:=by
 obtain⟨y,ys,e,v',a,b,e1,e2,r1,r2⟩:=q.rep;cases e;cases e1;subst e2;have nd:=QF.mp q.nd;exact⟨b,⟨r2,nd.2.1,fun p hp=>q.gn p (P7 _ hp),q.gh⟩,Step.cut fun p hp=>P7 _ hp⟩
theorem Rel.top{r:R}{v:V}(q:Rel K G H (some r::es) (some v::vs) fp):Rep K H r.2 v:=by
 obtain⟨y,ys,e,v',a,b,e1,e2,r1,r2⟩:=q.rep;cases e;cases e1;exact r1.frozen q.gh fun p hp u e=>e
theorem Rel.out{i:Nat}{r:R}(q:Rel K G H es vs fp)(e:es[i]?=some (some r)):∃v fq,vs[i]?=some (some v)/\Rel K G H (some r::es.set i none) (some v::vs) fq/\Step G H fp G H fq/\Step G H fq G H fp:=by
 obtain⟨v,a,b,e1,r1,r2,pm⟩:=q.rep.take e;exact⟨v,a++b,e1,Rel.perm ⟨some v,vs,rfl,v,a,b,rfl,rfl,r1,r2⟩ q.nd q.gn q.gh pm,Step.cut fun p hp=>pm.mem_iff.mpr hp,Step.cut fun p hp=>pm.mem_iff.mp hp⟩
theorem Rel.view{i:Nat}{r:R}(q:Rel K G H es vs fp)(e:es[i]?=some (some r)):∃v,vs[i]?=some (some v)/\Rep K H r.2 v:=by
 obtain⟨v,fq,e1,r1,_⟩:=q.out e;exact⟨v,e1,r1.top⟩
theorem lp{α:Type}{l:List α}{i:Nat}{x:α}(h:l[i]?=some x):l.set i x=l:=by
 apply Rc;intro j;by_cases e:i=j
 ·subst e;rw[List.getElem?_set_self (List.getElem?_eq_some_iff.mp h).1,h]
 ·rw[List.getElem?_set_ne e]
theorem Rel.store{i:Nat}{r:R}{v:V}(q:Rel K G H (some r::es) (some v::vs) fp)(hi:i<es.length):∃fq,Rel K G H (es.set i (some r)) (vs.set i (some v)) fq/\Step G H fp G H fq:=by
 obtain⟨y,ys,e,v',a,b,e1,e2,r1,r2⟩:=q.rep;cases e;cases e1;subst e2;obtain⟨c,hc⟩:∃c,es[i]?=some c:=⟨_,List.getElem?_eq_getElem hi⟩
 have nd:=QF.mp q.nd;have key:∃b',RepE K G H (es.set i none) vs b'/\(∀p∈b',p∈b)/\b'.Nodup:=by
  cases c with
  |none=>exact⟨b,by rw[lp hc];exact r2,fun _ h=>h,nd.2.1⟩
  |some r'=>
   obtain⟨v2,a2,b2,_,_,g,pm⟩:=r2.take hc;refine⟨b2,g,fun p hp=>pm.mem_iff.mpr (P7 _ hp),?_⟩;exact(QF.mp (pm.nodup_iff.mp nd.2.1)).2.1
 obtain⟨b',g,sub,ndb⟩:=key;obtain⟨fq,g2,pm⟩:=g.put (i:=i) (r:=r) (v:=v) (by rw[List.getElem?_set_self hi]) r1;rw[Tn]at g2;have LY:(a++b').Nodup:=by
  rw[QF];exact⟨nd.1,ndb,fun p hp z hz=>nd.2.2 p hp z (sub z hz)⟩
 refine⟨fq,Rel.perm g2 LY (fun p hp=>?_) q.gh pm.symm,Step.cut fun p hp=>?_⟩
 ·refine q.gn p ?_;rcases QH.mp hp with hp|hp
  ·exact Qd _ hp
  ·exact P7 _ (sub p hp)
 ·rcases QH.mp (pm.mem_iff.mp hp) with hp|hp
  ·exact Qd _ hp
  ·exact P7 _ (sub p hp)
theorem Rel.back{i:Nat}{r:R}{v:V}(q:Rel K G H (some r::es) (some v::vs) fp)(hi:i<es.length)(hv:vs[i]?=some (some v)):∃fq,Rel K G H (es.set i (some r)) vs fq/\Step G H fp G H fq:=by
 obtain⟨fq,g,st⟩:=q.store hi;rw[lp hv]at g;exact⟨fq,g,st⟩
theorem Rel.freezeAt{i:Nat}{r:R}(q:Rel K G H es vs fp)(e:es[i]?=some (some r)):∃v G' fq,vs[i]?=some (some v)/\Rep K G' r.2 v/\Rel K G' H (es.set i (some (.f,r.2))) vs fq/\Step G H fp G' H fq:=by
 obtain⟨v,fq,ev,g,st,_⟩:=q.out e;obtain⟨G',b,rv,g2,Fo⟩:=g.freeze;have g3:Rel K G' H (some (.f,r.2)::es.set i none) (some v::vs) b:=by
  refine⟨⟨some v,vs,rfl,v,[],b,rfl,rfl,?_,g2.rep⟩,g2.nd,g2.gn,g2.gh⟩;exact gY.mpr ⟨rv,rfl⟩
 obtain⟨fz,g4,Gv⟩:=g3.back (i:=i) (by rw[R8];exact(List.getElem?_eq_some_iff.mp e).1) ev;rw[Tn]at g4;exact⟨v,G',fz,ev,rv,g4,st.trans (Fo.trans Gv)⟩
theorem Rel.push{d:D}{v:V}(q:Rel K G H es vs fp)(r:Rep K G d v):Rel K G H (some (.f,d)::es) (some v::vs) fp:=by
 refine⟨⟨some v,vs,rfl,v,[],fp,rfl,rfl,?_,q.rep⟩,q.nd,q.gn,q.gh⟩;exact gY.mpr ⟨r,rfl⟩
theorem Rel.newF{p:Addr}{u:HO}(q:Rel K G H es vs fp)(hp:H p=none):Rel K (upd G p u) (upd H p u) es vs fp/\Step G H fp (upd G p u) (upd H p u) fp:=by
 have gp:G p=none:=by
  cases e:G p with
  |none=>rfl
  |some o=>rw[q.gh p o e]at hp;cases hp
 have np:p∉fp:=fun z=>by
  obtain⟨u,e⟩:=q.rep.live p z;rw[hp]at e;cases e
 have sg:Same G (upd G p u):=fun b o e=>by rw[aD (aQ e gp)];exact e
 have sh:Same H (upd H p u):=fun b o e=>by rw[aD (aQ e hp)];exact e
 refine⟨⟨q.rep.step sg fun z hz=>aD fun e=>np (e▸hz),q.nd,fun z hz=>?_,fun b o e=>?_⟩,⟨sg,fun b o e _=>sh b o e,fun _ h=>.inl h,fun b o e=>?_,fun b o e=>⟨o,sh b o e⟩⟩⟩
 ·have:z≠p:=fun e=>np (e▸hz)
  rw[aD this];exact q.gn z hz
 ·by_cases hb:b=p
  ·subst hb;rw[aV]at e ⊢;exact e
  ·rw[aD hb]at e ⊢;exact q.gh b o e
 ·by_cases hb:b=p
  ·subst hb;exact .inr (.inr (.inl hp))
  ·rw[aD hb]at e;exact .inl e
theorem Rel.newL{p:Addr}{ds:List D}{xs:List V}(q:Rel K G H es vs fp)(hp:H p=none)(r:Reps K G ds xs):
  Rel K G (upd H p (.lst xs)) (some (.l .f,.lst ds)::es) (some (.ref p)::vs) (p::fp)/\Step G H fp G (upd H p (.lst xs)) (p::fp):=by
 have gp:G p=none:=by
  cases e:G p with
  |none=>rfl
  |some o=>rw[q.gh p o e]at hp;cases hp
 have np:p∉fp:=fun z=>by
  obtain⟨u,e⟩:=q.rep.live p z;rw[hp]at e;cases e
 have sh:Same H (upd H p (.lst xs)):=fun b o e=>by rw[aD (aQ e hp)];exact e
 refine⟨⟨⟨some (.ref p),vs,rfl,.ref p,[p],fp,rfl,rfl,gH.mpr ⟨p,xs,rfl,aV,rfl,r⟩,q.rep.step (.refl _) fun z hz=>aD fun e=>np (e▸hz)⟩,Qw.mpr ⟨np,q.nd⟩,fun z hz=>?_,fun b o e=>?_⟩,
  ⟨.refl _,fun b o e _=>sh b o e,fun b hb=>?_,fun b o e=>.inl e,fun b o e=>⟨o,sh b o e⟩⟩⟩
 ·rcases Qh.mp hz with rfl|hz
  ·exact gp
  ·exact q.gn z hz
 ·exact sh b o (q.gh b o e)
 ·rcases Qh.mp hb with rfl|hb
  ·exact .inr hp
  ·exact .inl hb
theorem Rel.chg{i:Nat}{ds ds':List D}(q:Rel K G H es vs fp)(e:es[i]?=some (some (.l .f,.lst ds))):∃p xs,vs[i]?=some (some (.ref p))/\H p=some (.lst xs)/\Reps K G ds xs/\
  ∀G0,Reps K G ds' G0->∃fq,Rel K G (upd H p (.lst G0)) (es.set i (some (.l .f,.lst ds'))) vs fq/\Step G H fp G (upd H p (.lst G0)) fq:=by
 obtain⟨v,fq,ev,g,st,He⟩:=q.out e;obtain⟨y,ys,e0,v',a,b,e1,e2,r1,r2⟩:=g.rep;cases e0;cases e1;obtain⟨p,xs,e3,hp,e4,rs⟩:=gH.mp r1;subst e3;subst e4;subst e2;have nd:=Qw.mp (show(p::b).Nodup from g.nd);refine⟨p,xs,ev,hp,rs,fun G0 Hy=>?_⟩;have g2:Rel K G (upd H p (.lst G0)) (some (.l .f,.lst ds')::es.set i none) (some (.ref p)::vs) (p::b):=by
  refine⟨⟨some (.ref p),vs,rfl,.ref p,[p],b,rfl,rfl,gH.mpr ⟨p,G0,rfl,aV,rfl,Hy⟩,r2.step (.refl _) fun z hz=>aD fun e=>nd.1 (e▸hz)⟩,g.nd,g.gn,fun z o ez=>?_⟩;have:z≠p:=fun w=>by
   subst w;rw[g.gn z P8]at ez;cases ez
  rw[aD this];exact g.gh z o ez
 have Nb:Step G H (p::b) G (upd H p (.lst G0)) (p::b):=by
  refine⟨.refl _,fun z o ez nz=>?_,fun z hz=>.inl hz,fun z o ez=>.inl ez,fun z o ez=>?_⟩
  ·have:z≠p:=fun w=>nz (by rw[w];exact P8)
   rw[aD this];exact ez
  ·by_cases w:z=p
   ·subst w;exact⟨_,aV⟩
   ·exact⟨o,by rw[aD w];exact ez⟩
 obtain⟨fz,g3,FQ⟩:=g2.back (i:=i) (by rw[R8];exact(List.getElem?_eq_some_iff.mp e).1) ev;rw[Tn]at g3;exact⟨fz,g3,st.trans (Nb.trans FQ)⟩
end
mutual
noncomputable def flatD:D->Bool
 | .tup ds=>flatDs ds
 | .lst _=>false
 | .dct _ _ _=>false
 |_=>true
noncomputable def flatDs:List D->Bool
 |[]=>true
 |d::ds=>flatD d&&flatDs ds
end
mutual
noncomputable def bu:O->D->Bool
 | .f,d=>flatD d
 | .l c,.lst ds=>ds.all (bu c)
 | .t cs,.tup ds=>mG cs ds
 | .d,.dct _ _ vs=>flatDs vs
 | .pin _ c,d=>bu c d
 |_,_=>false
noncomputable def mG:List O->List D->Bool
 |[],[]=>true
 |c::cs,d::ds=>bu c d&&mG cs ds
 |_,_=>false
end
def frz:Option R->Option R:=Option.map fun r=>(.f,r.2)
theorem bh:∀ds,flatDs ds=ds.all flatD
 |[]=>rfl
 |d::ds=>by rw[flatDs,S6,bh ds]
section
variable{K:W.Frag}{G G' G2 G3 H H' H2:Hp}{es:Env}{vs:List (Option V)}{fp:List Addr}
mutual
theorem Rep.flat(h:∀p u,isT u=true->G2 p=some u->G3 p=some u):∀{d:D}{v:V},flatD d=true->Rep K G2 d v->Rep K G3 d v
 | .non,_,_,r=>by simpa only[Rep] using r
 | .bl _,_,_,r=>by simpa only[Rep] using r
 | .int _,_,_,r=>by simpa only[Rep] using r
 | .str _,_,_,r=>by simpa only[Rep] using r
 | .tup ds,_,e,r=>by
  simp only[Rep]at r ⊢;simp only[flatD]at e;obtain⟨p,xs,ev,q,rs⟩:=r;exact⟨p,xs,ev,h _ _ rfl q,Reps.flat h e rs⟩
 | .lst ds,_,e,r=>by simp only[flatD]at e;cases e
 | .dct _ _ _,_,e,r=>by simp only[flatD]at e;cases e
theorem Reps.flat(h:∀p u,isT u=true->G2 p=some u->G3 p=some u):∀{ds:List D}{xs:List V},flatDs ds=true->Reps K G2 ds xs->Reps K G3 ds xs
 |[],_,_,r=>by simpa only[Reps] using r
 |d::ds,_,e,r=>by
  simp only[Reps]at r ⊢;simp only[flatDs,Qo]at e;obtain⟨y,ys,ev,r1,r2⟩:=r;exact⟨y,ys,ev,Rep.flat h e.1 r1,Reps.flat h e.2 r2⟩
end
theorem AllO.clean{P P':D->V->List Addr->Prop}{c:D->Bool}:∀{ds:List D}{xs:List V}{fp:List Addr},(∀d v a,c d=true->P d v a->P' d v a)->ds.all c=true->AllO P ds xs fp->AllO P' ds xs fp
 |[],_,_,_,_,r=>r
 |d::ds,xs,fp,h,e,r=>by
  obtain⟨y,ys,a,b,e1,e2,p,q⟩:=r;rw[S6,Qo]at e;exact⟨y,ys,a,b,e1,e2,h _ _ _ e.1 p,AllO.clean h e.2 q⟩
mutual
theorem RepO.clean(h:∀p u,isT u=true->G2 p=some u->G3 p=some u):∀{o:O}{d:D}{v:V}{fp:List Addr},bu o d=true->RepO K G2 H o d v fp->RepO K G3 H o d v fp
 | .f,d,v,fp,e,r=>by
  simp only[RepO]at r ⊢;simp only[bu]at e;exact⟨r.1.flat h e,r.2⟩
 | .pin p c,d,v,fp,e,r=>by
  simp only[RepO]at r ⊢;simp only[bu]at e;exact⟨r.1,RepO.clean h e r.2⟩
 | .l c,.lst ds,v,fp,e,r=>by
  rw[RepO]at r ⊢;rw[bu]at e;obtain⟨p,xs,Fm,ev,q,e2,a⟩:=r;exact⟨p,xs,Fm,ev,q,e2,AllO.clean (fun d v a=>RepO.clean h) e a⟩
 | .t cs,.tup ds,v,fp,e,r=>by
  rw[RepO]at r ⊢;rw[bu]at e;obtain⟨p,xs,ev,q,a⟩:=r;exact⟨p,xs,ev,h _ _ rfl q,RepT.clean h e a⟩
 | .d,.dct tk ks vs,v,fp,e,r=>by
  rw[RepO]at r ⊢;rw[bu]at e;obtain⟨p,xs,o,ev,q,dd,e2,rs⟩:=r;exact⟨p,xs,o,ev,q,dd,e2,rs.flat h e⟩
 | .l _,.non,_,_,_,r | .l _,.bl _,_,_,_,r | .l _,.int _,_,_,_,r | .l _,.str _,_,_,_,r | .l _,.tup _,_,_,_,r | .l _,.dct _ _ _,_,_,_,r=>by simp only[RepO]at r
 | .t _,.non,_,_,_,r | .t _,.bl _,_,_,_,r | .t _,.int _,_,_,_,r | .t _,.str _,_,_,_,r | .t _,.lst _,_,_,_,r | .t _,.dct _ _ _,_,_,_,r=>by simp only[RepO]at r
 | .d,.non,_,_,_,r | .d,.bl _,_,_,_,r | .d,.int _,_,_,_,r | .d,.str _,_,_,_,r | .d,.tup _,_,_,_,r | .d,.lst _,_,_,_,r=>by simp only[RepO]at r
theorem RepT.clean(h:∀p u,isT u=true->G2 p=some u->G3 p=some u):∀{cs:List O}{ds:List D}{xs:List V}{fp:List Addr},mG cs ds=true->RepT K G2 H cs ds xs fp->RepT K G3 H cs ds xs fp
 |[],[],_,_,_,r=>by simpa only[RepT] using r
 |c::cs,d::ds,xs,fp,e,r=>by
  rw[RepT]at r ⊢;rw[mG,Qo]at e;obtain⟨y,ys,a,b,e1,e2,r1,r2⟩:=r;exact⟨y,ys,a,b,e1,e2,RepO.clean h e.1 r1,RepT.clean h e.2 r2⟩
 |[],_::_,_,_,_,r=>by simp only[RepT]at r
 |_::_,[],_,_,_,r=>by simp only[RepT]at r
end
theorem RepE.frz(h:Same G G'):∀{es:Env}{vs:List (Option V)}{fp:List Addr},(∀p∈fp,∀u,H p=some u->G' p=some u)->RepE K G H es vs fp->RepE K G' H' (es.map PV.frz) vs []
 |[],_,_,_,r=>⟨r.1,rfl⟩
 |none::es,vs,fp,hk,r=>by
  obtain⟨y,ys,e,r⟩:=r;exact⟨y,ys,e,RepE.frz h hk r⟩
 |some r::es,vs,fp,hk,q=>by
  obtain⟨y,ys,e,v,a,b,e1,e2,r1,r2⟩:=q;subst e2;exact⟨y,ys,e,v,[],[],e1,rfl,gY.mpr ⟨r1.frozen h (fun p hp=>hk p (Qd _ hp)),rfl⟩,RepE.frz h (fun p hp=>hk p (P7 _ hp)) r2⟩
theorem RepE.rep(h:Same G G'):∀{es:Env}{vs:List (Option V)}{fp:List Addr}{i:Nat}{r:R}{v:V},(∀p∈fp,∀u,H p=some u->G' p=some u)->RepE K G H es vs fp->es[i]?=some (some r)->vs[i]?=some (some v)->Rep K G' r.2 v:=fun{es vs fp i r v} hk q e ev=>by
 obtain⟨v',a,b,e1,r1,_,pm⟩:=q.take e;rw[ev]at e1;cases e1;exact r1.frozen h fun p hp=>hk p (pm.mem_iff.mpr (Qd _ hp))
theorem Rel.lend(q:Rel K G H es vs fp):∃G1,Same G G1/\Same G1 H/\(∀(i:Nat) (r:R) (v:V),es[i]?=some (some r)->vs[i]?=some (some v)->Rep K G1 r.2 v)/\
  RepE K G1 H (es.map PV.frz) vs []/\
  ∀(H2 G2:Hp) (F0:List Addr) (r:R) (v:V),Step G1 H [] G2 H2 F0->Rel K G2 H2 [some r] [some v] F0->
   (bu r.1 r.2=true->∃G3 HC,Step G H fp G3 H2 HC/\Rel K G3 H2 (some r::es) (some v::vs) HC)/\
   ∃G3 HC,Step G H fp G3 H2 HC/\Rel K G3 H2 (some r::es.map PV.frz) (some v::vs) HC:=by
 have hg:Same G (fun p=>if p∈fp then H p else G p):=fun p u e=>by
  show(if p∈fp then H p else G p)=some u;by_cases hp:p∈fp
  ·rw[Qa hp];exact q.gh p u e
  ·rw[Qf hp];exact e
 have hh:Same (fun p=>if p∈fp then H p else G p) H:=fun p u e=>by
  have e:(if p∈fp then H p else G p)=some u:=e;by_cases hp:p∈fp
  ·rw[Qa hp]at e;exact e
  ·rw[Qf hp]at e;exact q.gh p u e
 have hk:∀p∈fp,∀u,H p=some u->(fun p=>if p∈fp then H p else G p) p=some u:=fun p hp u e=>by
  show(if p∈fp then H p else G p)=some u;rw[Qa hp];exact e
 refine⟨fun p=>if p∈fp then H p else G p,hg,hh,fun i r v e ev=>q.rep.rep hg hk e ev,q.rep.frz hg hk,fun H2 G2 F0 r v st k=>?_⟩;obtain⟨y,ys,e0,v',a,b,e1,e2,r1,r2⟩:=k.rep;cases e0;cases e1;obtain⟨_,e3⟩:=r2;subst e3;rw[QR]at e2;subst e2;have fresh:∀p∈F0,H p=none:=fun p hp=>by
  rcases st.fpn p hp with z|z
  ·cases z
  ·exact z
 have kept:∀p∈fp,H2 p=H p:=fun p hp=>by
  obtain⟨u,hu⟩:=q.rep.live p hp;rw[hu];exact st.keep p u hu (by simp)
 refine⟨fun cl=>?_,⟨G2,F0,⟨hg.trans st.gg,fun p u e n=>st.keep p u e (by simp),fun p hp=>.inr (fresh p hp),fun p u e=>?_,st.there⟩,?_⟩⟩
 ·have apart:∀p∈F0,p∉fp:=fun p hp hf=>by
   obtain⟨u,hu⟩:=q.rep.live p hf;rw[fresh p hp]at hu;cases hu
  have g3:Same G (fun p=>if p∈fp then none else G2 p):=fun p u e=>by
   show(if p∈fp then none else G2 p)=some u;rw[Qf (fun z=>by rw[q.gn p z]at e;cases e)];exact st.gg p u (hg p u e)
  refine⟨fun p=>if p∈fp then none else G2 p,F0++fp,⟨g3,fun p u e n=>st.keep p u e (by simp),fun p hp=>?_,fun p u e=>?_,st.there⟩,⟨⟨some v,vs,rfl,v,F0,fp,rfl,rfl,r1.clean (fun p u t e=>?_) cl,q.rep.step g3 kept⟩,?_,fun p hp=>?_,fun p u e=>?_⟩⟩
  ·rcases QH.mp hp with hp|hp
   ·exact .inr (fresh p hp)
   ·exact .inl hp
  ·have e:(if p∈fp then none else G2 p)=some u:=e;by_cases hp:p∈fp
   ·rw[Qa hp]at e;cases e
   ·rw[Qf hp]at e;rcases st.gnew p u e with z|z|z
    ·have z:(if p∈fp then H p else G p)=some u:=z;rw[Qf hp]at z;exact .inl z
    ·cases z
    ·exact .inr (.inr z)
  ·show(if p∈fp then none else G2 p)=some u;by_cases hp:p∈fp
   ·exfalso;obtain⟨u',hu,hm⟩:=q.rep.mut p hp;have:=st.gg p u' (hk p hp u' hu);rw[e]at this;cases this;cases u with
    |lst _=>cases t
    |dK _=>cases t
    |dT _=>cases t
    |_=>cases hm
   ·rw[Qf hp];exact e
  ·rw[QF];exact⟨k.nd,q.nd,fun p hp z hz e=>apart p hp (e▸hz)⟩
  ·show(if p∈fp then none else G2 p)=none;by_cases hf:p∈fp
   ·rw[Qa hf]
   ·rw[Qf hf];rcases QH.mp hp with hp|hp
    ·exact k.gn p hp
    ·exact absurd hp hf
  ·have e:(if p∈fp then none else G2 p)=some u:=e;by_cases hp:p∈fp
   ·rw[Qa hp]at e;cases e
   ·rw[Qf hp]at e;exact k.gh p u e
 ·rcases st.gnew p u e with z|z|z
  ·have z:(if p∈fp then H p else G p)=some u:=z;by_cases hp:p∈fp
   ·exact .inr (.inl hp)
   ·rw[Qf hp]at z;exact .inl z
  ·cases z
  ·exact .inr (.inr z)
 ·refine⟨⟨some v,vs,rfl,v,F0,[],rfl,(QR _).symm,r1,q.rep.frz (hg.trans st.gg) fun p hp u e=>st.gg p u (hk p hp u e)⟩,k.nd,k.gn,k.gh⟩
end
end PV
namespace PV
open PySem PySem.Spec PyProof.Rows L2 NX
def Res.bind{α β:Type}:Res α->(α->Res β)->Res β
 | .ok a,f=>f a
 | .exc c,_=>.exc c
 | .bad,_=>.bad
inductive BindOk{α β:Type}(x:Res α)(f:α->Res β)(b:β):Prop
 |mk (a:α) (h:x=.ok a) (k:f a=.ok b):BindOk x f b
theorem ai{α β:Type}{x:Res α}{f:α->Res β}{b:β}(h:x.bind f=.ok b):BindOk x f b:=by
 cases x with
 |ok a=>exact⟨a,rfl,h⟩
 |exc c=>cases h
 |bad=>cases h
inductive Opd where
 |val (d:D)|var (i:Nat)
def OpdOk(K:W.Frag)(G:Hp)(σ:L2.St):Opd->V->Prop
 | .val d,v=>Rep K G d v
 | .var i,v=>σ[i]?=some (some v)
theorem OpdOk.mono{K:W.Frag}{G G':Hp}{σ:L2.St}{o:Opd}{v:V}(h:Same G G')(r:OpdOk K G σ o v):OpdOk K G' σ o v:=by
 cases o with
 |val d=>exact Rep.mono h r
 |var i=>exact r
def pf(K:W.Frag)(G:Hp)(σ:L2.St):List Opd->List V->Prop
 |[],vs=>vs=[]
 |o::os,vs=>∃y ys,vs=y::ys/\OpdOk K G σ o y/\pf K G σ os ys
def wN:O->Bool
 | .f=>true
 | .l .f=>true
 | .d=>true
 | .pin _ .f=>true
 | .pin _ (.l .f)=>true
 | .pin _ .d=>true
 |_=>false
def Gx(env:PV.Env):Opd->Res D
 | .val d=>.ok d
 | .var i=>match env[i]? with
  |some (some r)=>if wN r.1 then .ok r.2 else .bad
  |_=>.bad
def qM(env:PV.Env):Opd->Res D
 | .val d=>.ok d
 | .var i=>match env[i]? with
  |some (some r)=>.ok r.2
  |_=>.bad
def nL(env:PV.Env):List Opd->Res (List D)
 |[]=>.ok []
 |o::os=>(Gx env o).bind fun d=>(nL env os).bind fun ds=>.ok (d::ds)
def kl(env:PV.Env):List Opd->Res (List D)
 |[]=>.ok []
 |o::os=>(qM env o).bind fun d=>(kl env os).bind fun ds=>.ok (d::ds)
def Vw(K:W.Frag)(G H:Hp):D->V->Prop
 | .lst ds,v=>∃p xs,v=.ref p/\SqL K H p xs/\Reps K G ds xs
 | .dct tk ks vs,v=>∃p xs o,v=.ref p/\Rd H p o/\DictO o tk ks xs/\Reps K G vs xs
 |d,v=>Rep K G d v
def Lz(K:W.Frag)(G H:Hp):List D->List V->Prop
 |[],vs=>vs=[]
 |d::ds,vs=>∃y ys,vs=y::ys/\Vw K G H d y/\Lz K G H ds ys
section
variable{K:W.Frag}{G G' H H':Hp}{es:PV.Env}{σ:L2.St}{fp:List Addr}
theorem Vw.of{d:D}{v:V}(gh:Same G H)(r:Rep K G d v):Vw K G H d v:=by
 cases d with
 |lst ds=>
  rw[Rep]at r;obtain⟨p,xs,e,q,rs⟩:=r;exact⟨p,xs,e,f9 gh q,rs⟩
 |dct tk ks vs=>
  rw[Rep]at r;obtain⟨p,xs,o,e,q,dd,rs⟩:=r;exact⟨p,xs,o,e,PV.Rd.mono gh q,dd,rs⟩
 |_=>exact r
theorem Vw.rep{d:D}{v:V}(gh:Same G H)(r:Vw K G H d v):Rep K H d v:=by
 cases d with
 |lst ds=>
  obtain⟨p,xs,e,q,rs⟩:=r;rw[Rep];exact⟨p,xs,e,q,rs.mono gh⟩
 |dct tk ks vs=>
  obtain⟨p,xs,o,e,q,dd,rs⟩:=r;rw[Rep];exact⟨p,xs,o,e,q,dd,rs.mono gh⟩
 |non=>exact Rep.mono gh r
 |bl b=>exact Rep.mono gh r
 |int i=>exact Rep.mono gh r
 |str l=>exact Rep.mono gh r
 |tup ds=>exact Rep.mono gh r
theorem RepO.vw0{o:O}{d:D}{v:V}{a:List Addr}(gh:Same G H)(hs:o=.f\/o=.l .f\/o=.d)(r:RepO K G H o d v a):Vw K G H d v:=by
 rcases hs with rfl|rfl|rfl
 ·exact Vw.of gh (gY.mp r).1
 ·cases d with
  |lst ds=>
   obtain⟨p,xs,e,q,_,rs⟩:=gH.mp r;exact⟨p,xs,e,SqL.of q,rs⟩
  |_=>simp only[RepO]at r
 ·cases d with
  |dct tk ks vs=>
   rw[RepO]at r;obtain⟨p,xs,o,e,q,dd,_,rs⟩:=r;exact⟨p,xs,o,e,.inl q,dd,rs⟩
  |_=>simp only[RepO]at r
theorem RepO.vw{o:O}{d:D}{v:V}{a:List Addr}(gh:Same G H)(hs:wN o=true)(r:RepO K G H o d v a):Vw K G H d v:=by
 unfold wN at hs;split at hs
 ·exact r.vw0 gh (.inl rfl)
 ·exact r.vw0 gh (.inr (.inl rfl))
 ·exact r.vw0 gh (.inr (.inr rfl))
 ·rw[RepO]at r;exact r.2.vw0 gh (.inl rfl)
 ·rw[RepO]at r;exact r.2.vw0 gh (.inr (.inl rfl))
 ·rw[RepO]at r;exact r.2.vw0 gh (.inr (.inr rfl))
 ·cases hs
theorem Rel.vw{o:Opd}{v:V}{d:D}(q:Rel K G H es σ fp)(k:OpdOk K G σ o v)(e:Gx es o=.ok d):Vw K G H d v:=by
 cases o with
 |val d'=>
  cases e;exact Vw.of q.gh k
 |var i=>
  unfold Gx at e;dsimp only at e;split at e
  ·rename_i r hr;split at e
   ·rename_i hs;cases e;obtain⟨v',a,b,ev,r1,_⟩:=q.rep.take hr;have k:σ[i]?=some (some v):=k;rw[k]at ev;cases ev;exact r1.vw q.gh hs
   ·cases e
  ·cases e
theorem Rel.vwA{o:Opd}{v:V}{d:D}(q:Rel K G H es σ fp)(k:OpdOk K G σ o v)(e:qM es o=.ok d):Rep K H d v:=by
 cases o with
 |val d'=>
  cases e;exact Rep.mono q.gh k
 |var i=>
  unfold qM at e;dsimp only at e;split at e
  ·rename_i r hr;cases e;obtain⟨v',ev,r1⟩:=q.view hr;have k:σ[i]?=some (some v):=k;rw[k]at ev;cases ev;exact r1
  ·cases e
theorem Rel.vws(q:Rel K G H es σ fp):∀{os:List Opd}{vs:List V}{ds:List D},pf K G σ os vs->nL es os=.ok ds->Lz K G H ds vs
 |[],_,_,k,e=>by
  cases e;exact k
 |o::os,_,_,⟨y,ys,e0,k1,k2⟩,e=>by
  unfold nL at e;obtain⟨d,e1,e⟩:=ai e;obtain⟨ds,e2,e⟩:=ai e;cases e;exact⟨y,ys,e0,q.vw k1 e1,Rel.vws q k2 e2⟩
theorem mH{G1:Hp}(gg:Same G G1)(ht:∀(i:Nat) (r:R) (v:V),es[i]?=some (some r)->σ[i]?=some (some v)->Rep K G1 r.2 v):∀{os:List Opd}{vs:List V}{ds:List D},pf K G σ os vs->kl es os=.ok ds->Reps K G1 ds vs
 |[],_,_,k,e=>by
  cases e;have k:_=_:=k;rw[k];exact Reps.nil
 |o::os,_,_,⟨y,ys,e0,k1,k2⟩,e=>by
  unfold kl at e;obtain⟨d,e1,e⟩:=ai e;obtain⟨ds,e2,e⟩:=ai e;cases e;rw[e0];refine .cons ?_ (mH gg ht k2 e2);cases o with
  |val d'=>
   cases e1;exact Rep.mono gg k1
  |var i=>
   unfold qM at e1;dsimp only at e1;split at e1
   ·rename_i r hr;cases e1;exact ht i r y hr k1
   ·cases e1
end
abbrev FX:=PV.Env->Res (R×PV.Env)
abbrev FO:=PV.Env->Res (Opd×PV.Env)
abbrev FOs:=PV.Env->Res (List Opd×PV.Env)
abbrev FT:=PV.Env->Res (Bool×PV.Env)
inductive Out where
 |nx (env:PV.Env)|rt (r:R)|bk (env:PV.Env)|ct (env:PV.Env)
abbrev FS:=PV.Env->Res Out
inductive tQ(K:W.Frag)(f:FX)(σ:L2.St)(H:Hp)(Q:VK):Prop
 |mk:∀G env fp r env',Rel K G H env σ fp->f env=.ok (r,env')->(∀v H' G' Fm,Step G H fp G' H' Fm->Rel K G' H' (some r::env') (some v::σ) Fm->Q v H')->tQ K f σ H Q
inductive tO(K:W.Frag)(f:FO)(σ:L2.St)(H:Hp)(Q:VK):Prop
 |mk:∀G env fp o env',Rel K G H env σ fp->f env=.ok (o,env')->(∀v H' G' Fm,Step G H fp G' H' Fm->Rel K G' H' env' σ Fm->OpdOk K G' σ o v->Q v H')->tO K f σ H Q
inductive tOs(K:W.Frag)(f:FOs)(σ:L2.St)(H:Hp)(Q:List V->Hp->Prop):Prop
 |mk:∀G env fp o env',Rel K G H env σ fp->f env=.ok (o,env')->(∀v H' G' Fm,Step G H fp G' H' Fm->Rel K G' H' env' σ Fm->pf K G' σ o v->Q v H')->tOs K f σ H Q
inductive tQT(K:W.Frag)(f:FT)(σ:L2.St)(H:Hp)(Q:Bool->Hp->Prop):Prop
 |mk:∀G env fp b env',Rel K G H env σ fp->f env=.ok (b,env')->(∀H' G' Fm,Step G H fp G' H' Fm->Rel K G' H' env' σ Fm->Q b H')->tQT K f σ H Q
inductive Mode where
 |plain|mut
def EU(md:Mode)(K:W.Frag)(G H:Hp)(r:R)(v:V)(fp:List Addr):Prop:=match md with
 | .plain=>Rel K G H [some r] [some v] fp
 | .mut=>∃o d p c d0,r=(.t [o,.pin p c],.tup [d,d0])/\Rel K G H [some (o,d),some (.pin p c,d0)] [some v,some (.ref p)] fp
noncomputable def OutOk{md:Mode}(K:W.Frag)(G H:Hp)(fp:List Addr)(Dd:Ends):Res Out->Prop
 | .ok (.nx env')=>∀σ' H' G' Fm,Step G H fp G' H' Fm->Rel K G' H' env' σ' Fm->Dd.nx σ' H'
 | .ok (.bk env')=>∀σ' H' G' Fm,Step G H fp G' H' Fm->Rel K G' H' env' σ' Fm->Dd.bk σ' H'
 | .ok (.ct env')=>∀σ' H' G' Fm,Step G H fp G' H' Fm->Rel K G' H' env' σ' Fm->Dd.ct σ' H'
 | .ok (.rt r)=>∀v H' G' Fm,Step G H fp G' H' Fm->EU md K G' H' r v Fm->Dd.rt v H'
 |_=>False
inductive tQS{md:Mode}(K:W.Frag)(g:FS)(Dd:Ends)(σ:L2.St)(H:Hp):Prop
 |mk:∀G env fp,Rel K G H env σ fp->OutOk (md:=md) K G H fp Dd (g env)->tQS (md:=md) K g Dd σ H
def QE(X:Cx)(e:Expr)(f:FX):Prop:=PE X e (tQ X.K f)
def QO(X:Cx)(e:Expr)(f:FO):Prop:=PE X e (tO X.K f)
def JN(X:Cx)(es:List Expr)(f:FOs):Prop:=PA X es (tOs X.K f)
def QT(X:Cx)(e:Expr)(f:FT):Prop:=PT X e (tQT X.K f)
def QW(X:Cx)(e:Expr)(f:FT):Prop:=PW X e (tQT X.K f)
def QS{md:Mode}(X:Cx)(st:Stmt)(g:FS):Prop:=PS X st (tQS (md:=md) X.K g)
def Kx{md:Mode}(X:Cx)(st:List Stmt)(g:FS):Prop:=PSs X st (tQS (md:=md) X.K g)
theorem bK{X:Cx}{e:Expr}{t t':TE}(h:PE X e t)(k:∀σ H Q,t' σ H Q->t σ H Q):PE X e t':=fun pi s σ H Q I w=>h pi s σ H Q I (k σ H Q w)
theorem pg{X:Cx}{e:Expr}{t t':TT}(h:PT X e t)(k:∀σ H Q,t' σ H Q->t σ H Q):PT X e t':=fun pi s σ H Q I w=>h pi s σ H Q I (k σ H Q w)
theorem wO{X:Cx}{e:Expr}{t t':TT}(h:PW X e t)(k:∀σ H Q,t' σ H Q->t σ H Q):PW X e t':=fun wh pi s σ H Q I w=>h wh pi s σ H Q I (k σ H Q w)
theorem kz{X:Cx}{e:List Expr}{t t':TA}(h:PA X e t)(k:∀σ H Q,t' σ H Q->t σ H Q):PA X e t':=fun pos pi s σ H Q I w=>h pos pi s σ H Q I (k σ H Q w)
theorem e7{X:Cx}{e:Stmt}{t t':TS}(h:PS X e t)(k:∀D σ H,t' D σ H->t D σ H):PS X e t':=fun pi s σ H D I w=>h pi s σ H D I (k D σ H w)
theorem sd{X:Cx}{e:List Stmt}{t t':TS}(h:PSs X e t)(k:∀D σ H,t' D σ H->t D σ H):PSs X e t':=fun pi s σ H D I w=>h pi s σ H D I (k D σ H w)
theorem OutOk.imp{md:Mode}{K:W.Frag}{G H G1 H1:Hp}{fp FE:List Addr}{Dd Nc:Ends}{r:Res Out}(st:Step G H fp G1 H1 FE)(h:OutOk (md:=md) K G H fp Dd r)(n:∀σ H,Dd.nx σ H->Nc.nx σ H)(b:∀σ H,Dd.bk σ H->Nc.bk σ H)(c:∀σ H,Dd.ct σ H->Nc.ct σ H)(t:∀v H,Dd.rt v H->Nc.rt v H):OutOk (md:=md) K G1 H1 FE Nc r:=by
 match r,h with
 | .ok (.nx env'),h=>exact fun σ' H' G' Fm s q=>n _ _ (h σ' H' G' Fm (st.trans s) q)
 | .ok (.bk env'),h=>exact fun σ' H' G' Fm s q=>b _ _ (h σ' H' G' Fm (st.trans s) q)
 | .ok (.ct env'),h=>exact fun σ' H' G' Fm s q=>c _ _ (h σ' H' G' Fm (st.trans s) q)
 | .ok (.rt r),h=>exact fun v H' G' Fm s q=>t _ _ (h v H' G' Fm (st.trans s) q)
theorem OutOk.after{md:Mode}{K:W.Frag}{G H G1 H1:Hp}{fp FE:List Addr}{Dd:Ends}{r:Res Out}(st:Step G H fp G1 H1 FE)(h:OutOk (md:=md) K G H fp Dd r):OutOk (md:=md) K G1 H1 FE Dd r:=h.imp st (fun _ _ z=>z) (fun _ _ z=>z) (fun _ _ z=>z) fun _ _ z=>z
def aP(d:D):FX:=fun env=>.ok ((.f,d),env)
def fz:O->O
 | .pin p .f=>.pin p .f
 |_=>.f
def aK(i:Nat):FX:=fun env=>match env[i]? with
 |some (some r)=>.ok ((.f,r.2),env.set i (some (fz r.1,r.2)))
 |_=>.bad
def lq(i:Nat):FX:=fun env=>match env[i]? with
 |some (some r)=>.ok (r,env.set i none)
 |_=>.bad
def ar(f:FX):FO:=fun env=>(f env).bind fun p=>.ok (.val p.1.2,p.2)
def aq(i:Nat):FO:=fun env=>match env[i]? with
 |some (some _)=>.ok (.var i,env)
 |_=>.bad
def az:FOs:=fun env=>.ok ([],env)
def ag(f:FO)(g:FOs):FOs:=fun env=>(f env).bind fun p=>(g p.2).bind fun q=>.ok (p.1::q.1,q.2)
section
variable{X:Cx}
theorem ph{e:Expr}{v:V}{d:D}(h:PE X e (tC v))(r:∀G,Rep X.K G d v):QE X e (aP d):=bK h fun σ H Q Fs=>by
 obtain⟨G,env,fp,rr,env',rel,e,k⟩:=Fs;cases e;exact k v H G fp .refl (rel.push (r G))
theorem aj{i j pos}:QE X (.Constant (.int i) j pos) (aP (.int i)):=ph zW fun G=>by rw[Rep]
theorem vq{i j pos}:QE X (.Constant (.bool i) j pos) (aP (.bl i)):=ph CF fun G=>by rw[Rep]
theorem kA{j pos}:QE X (.Constant .none j pos) (aP .non):=ph zX fun G=>by rw[Rep]
theorem pj{x j pos}{l:List Nat}(h:x=S l)(hl:l.length<=1000):QE X (.Constant (.str x) j pos) (aP (.str l)):=ph zY fun G=>by
 rw[Rep,h];exact⟨rfl,by rw[line_eq];lia⟩
theorem av{i:Nat}{e:Expr}(h:PE X e (qL i)):QE X e (aK i):=bK h fun σ H Q Fs=>by
 obtain⟨G,env,fp,rr,env',rel,e,k⟩:=Fs;unfold aK at e;split at e
 ·rename_i r hr;cases e;by_cases hf:fz r.1=.f
  ·obtain⟨v,G',fq,ev,rv,FJ,st⟩:=rel.freezeAt hr;rw[hf]at k;exact⟨v,ev,k v H G' fq st (FJ.push rv)⟩
  ·have hp:∃p,r.1=.pin p .f:=by
    unfold fz at hf;split at hf
    ·rename_i p hp;exact⟨p,hp⟩
    ·exact absurd rfl hf
   obtain⟨p,hp⟩:=hp;obtain⟨v,a,b,ev,r1,_,_⟩:=rel.rep.take hr;rw[hp,RepO]at r1;have es:env.set i (some (fz r.1,r.2))=env:=by
    refine lp ?_;rw[hr,hp];show some (some r)=some (some (.pin p .f,r.2));rw[<-hp]
   rw[es]at k;exact⟨v,ev,k v H G fp .refl (rel.push (gY.mp r1.2).1)⟩
 ·cases e
theorem ig{i:Nat}{e:Expr}(h:PE X e (qL i)):QE X e (lq i):=bK h fun σ H Q Fs=>by
 obtain⟨G,env,fp,rr,env',rel,e,k⟩:=Fs;unfold lq at e;split at e
 ·rename_i r hr;cases e;obtain⟨v,fq,ev,FJ,st,_⟩:=rel.out hr;exact⟨v,ev,k v H G fq st FJ⟩
 ·cases e
theorem aa{e:Expr}{f:FX}(h:QE X e f):QO X e (ar f):=bK h fun σ H Q Fs=>by
 obtain⟨G,env,fp,o,env',rel,e,k⟩:=Fs;obtain⟨⟨r,Fd⟩,e1,e⟩:=ai e;cases e;refine⟨G,env,fp,r,Fd,rel,e1,fun v H' G' Fm st FJ=>?_⟩;obtain⟨G2,b,rv,Fe,Fo⟩:=FJ.freeze;exact k v H' G2 b (st.trans Fo) Fe rv
theorem ae{i:Nat}{e:Expr}(h:PE X e (qL i)):QO X e (aq i):=bK h fun σ H Q Fs=>by
 obtain⟨G,env,fp,o,env',rel,e,k⟩:=Fs;unfold aq at e;split at e
 ·rename_i r hr;cases e;obtain⟨v,ev,_⟩:=rel.view hr;exact⟨v,ev,k v H G fp .refl rel ev⟩
 ·cases e
theorem ao:JN X [] az:=kz jj fun σ H Q Fs=>by
 obtain⟨G,env,fp,o,env',rel,e,k⟩:=Fs;cases e;exact k [] H G fp .refl rel rfl
theorem af{e:Expr}{es:List Expr}{f:FO}{g:FOs}(h:QO X e f)(hs:JN X es g)(JU:starEach (e::es) X.env=(false,eval e X.env)::starEach es X.env:=by rfl):JN X (e::es) (ag f g):=
 kz (eh h hs JU) fun σ H Q Fs=>by
  obtain⟨G,env,fp,o,env',rel,e,k⟩:=Fs;obtain⟨⟨o1,Fd⟩,e1,e⟩:=ai e;obtain⟨⟨os,Fl⟩,e2,e⟩:=ai e;cases e;exact⟨G,env,fp,o1,Fd,rel,e1,fun v H1 G1 FE Fx Fh Hc=>⟨G1,Fd,FE,os,Fl,Fh,e2,fun vs H2 G2 F0 Fo Fe JO=>k _ H2 G2 F0 (Fx.trans Fo) Fe ⟨v,vs,rfl,Hc.mono Fo.gg,JO⟩⟩⟩
def aE(g:D->D->Res R)(fa fb:FO):FX:=fun env=>(fa env).bind fun p=>(fb p.2).bind fun q=>(Gx q.2 p.1).bind fun a=>(Gx q.2 q.1).bind fun b=>(g a b).bind fun r=>.ok (r,q.2)
def cn(g:D->D->Res R)(fa fb:FO):FX:=fun env=>(fa env).bind fun p=>(fb p.2).bind fun q=>(qM q.2 p.1).bind fun a=>(qM q.2 q.1).bind fun b=>(g a b).bind fun r=>.ok (r,q.2)
structure Goes(K:W.Frag)(H:Hp)(G:Hp)(fp:List Addr)(es:PV.Env)(vs:L2.St)(r:R)(Q:VK):Prop where
 rel:Rel K G H es vs fp
 goes:∀v H' G' Fm,Step G H fp G' H' Fm->Rel K G' H' (some r::es) (some v::vs) Fm->Q v H'
inductive rG(K:W.Frag)(g:D->D->Res R)(x:V)(y:V)(H:Hp)(Q:VK):Prop
 |mk:∀G fp es vs a b r,Goes K H G fp es vs r Q->Vw K G H a x->Vw K G H b y->g a b=.ok r->rG K g x y H Q
inductive rGA(K:W.Frag)(g:D->D->Res R)(x:V)(y:V)(H:Hp)(Q:VK):Prop
 |mk:∀G fp es vs a b r,Goes K H G fp es vs r Q->Rep K H a x->Rep K H b y->g a b=.ok r->rGA K g x y H Q
variable{a b c:Expr}{fa fb fc:FO}{pos:Pos}{g g':D->D->Res R}
theorem sf{σ:L2.St}{H:Hp}{Q:VK}(h:tQ X.K (aE g fa fb) σ H Q):MC (rG X.K g) (tO X.K fa) (tO X.K fb) σ H Q:=by
 obtain⟨G,env,fp,r,env',rel,e,k⟩:=h;obtain⟨⟨oa,e1⟩,ha,e⟩:=ai e;obtain⟨⟨ob,e2⟩,hb,e⟩:=ai e;obtain⟨da,KP,e⟩:=ai e;obtain⟨db,HQ,e⟩:=ai e;obtain⟨r',hr,e⟩:=ai e;cases e;exact⟨G,env,fp,oa,e1,rel,ha,fun x H1 G1 FE Fx Fh Hc=>⟨G1,e1,FE,ob,e2,Fh,hb,fun y H2 G2 F0 Fo Fe JO=>
  ⟨G2,F0,e2,σ,da,db,r,⟨Fe,fun v H' G' Fm st FJ=>k v H' G' Fm (Fx.trans (Fo.trans st)) FJ⟩,Fe.vw (Hc.mono Fo.gg) KP,Fe.vw JO HQ,hr⟩⟩⟩
theorem si{σ:L2.St}{H:Hp}{Q:VK}(h:tQ X.K (cn g fa fb) σ H Q):MC (rGA X.K g) (tO X.K fa) (tO X.K fb) σ H Q:=by
 obtain⟨G,env,fp,r,env',rel,e,k⟩:=h;obtain⟨⟨oa,e1⟩,ha,e⟩:=ai e;obtain⟨⟨ob,e2⟩,hb,e⟩:=ai e;obtain⟨da,KP,e⟩:=ai e;obtain⟨db,HQ,e⟩:=ai e;obtain⟨r',hr,e⟩:=ai e;cases e;exact⟨G,env,fp,oa,e1,rel,ha,fun x H1 G1 FE Fx Fh Hc=>⟨G1,e1,FE,ob,e2,Fh,hb,fun y H2 G2 F0 Fo Fe JO=>
  ⟨G2,F0,e2,σ,da,db,r,⟨Fe,fun v H' G' Fm st FJ=>k v H' G' Fm (Fx.trans (Fo.trans st)) FJ⟩,Fe.vwA (Hc.mono Fo.gg) KP,Fe.vwA JO HQ,hr⟩⟩⟩
theorem aH{op:Operator}(ho:F3 X (binaryOp op) (rG X.K g))(ha:QO X a fa)(hb:QO X b fb):QE X (.BinOp a op b pos) (aE g fa fb):=bK (CP ho ha hb) fun _ _ _=>sf
theorem lr{op:CmpOp}(ho:F3 X (compareOp op) (rGA X.K g))(ha:QO X a fa)(hb:QO X b fb)(hm:behindInMarks op b=false):QE X (.Compare a [op] [b] pos) (cn g fa fb):=bK (xC ho ha hb hm) fun _ _ _=>si
def GL(f:FX):FT:=fun env=>(f env).bind fun p=>match p.1.2 with
 | .bl k=>.ok (k,p.2)
 |_=>.bad
theorem yf{f:FX}{σ:L2.St}{H:Hp}{Q:Bool->Hp->Prop}(h:tQT X.K (GL f) σ H Q):tQ X.K f σ H fun x H'=>∃k,x=.bl k/\Q k H':=by
 obtain⟨G,env,fp,k,env',rel,e,q⟩:=h;obtain⟨⟨⟨o,d⟩,Fd⟩,e1,e⟩:=ai e;dsimp only at e;split at e
 ·cases e;refine⟨G,env,fp,_,_,rel,e1,fun v H' G' Fm st FJ=>?_⟩;have hv:=FJ.top;rw[show((o,D.bl k):R).2=D.bl k from rfl,Rep]at hv;obtain⟨b,Fe,Fo⟩:=FJ.drop;exact⟨k,hv,q H' G' b (st.trans Fo) Fe⟩
 ·cases e
theorem wQ{e:Expr}{f:FX}(h:QE X e f)(he:∀whole,isTrue e X.env whole=(do let v <-whole;standAt e.pos;holding [v] (truthy v)):=by intro _;rfl):QT X e (GL f):=pg (zZ h he) fun _ _ _=>yf
theorem mI{op:CmpOp}(ho:F3 X (compareOp op) (rG X.K g))(ha:QO X a fa)(hb:QO X b fb)(hm:behindInMarks op b=false):QT X (.Compare a [op] [b] pos) (GL (aE g fa fb)):=
 pg (q0 ho ha hb hm) fun _ _ _ h=>sf (yf h)
theorem cO{op:CmpOp}(ho:F3 X (compareOp op) (rGA X.K g))(ha:QO X a fa)(hb:QO X b fb)(hm:behindInMarks op b=false):QT X (.Compare a [op] [b] pos) (GL (cn g fa fb)):=
 pg (q0 ho ha hb hm) fun _ _ _ h=>si (yf h)
def Dc(f g:FT):FT:=fun env=>(f env).bind fun p=>if p.1 then g p.2 else .ok (false,p.2)
def OR(f g:FT):FT:=fun env=>(f env).bind fun p=>if p.1 then .ok (true,p.2) else g p.2
def De(f:FT):FT:=fun env=>(f env).bind fun p=>.ok (!p.1,p.2)
variable{ga gb:FT}{dI:List Expr}
theorem yg(h:QT X a ga):QW X (.BoolOp .And [a] pos) ga:=xu h
theorem AK(h:QT X a ga):QW X (.BoolOp .Or [a] pos) ga:=z4 h
theorem AL(h:QT X a ga)(h2:QW X (.BoolOp .And (b::dI) pos) gb):QW X (.BoolOp .And (a::b::dI) pos) (Dc ga gb):=wO (z5 h h2) fun σ H Q Fs=>by
 obtain⟨G,env,fp,k,env',rel,e,q⟩:=Fs;obtain⟨⟨k1,Fd⟩,e1,e⟩:=ai e;refine⟨G,env,fp,k1,Fd,rel,e1,fun H1 G1 FE Fx Fh=>?_⟩;dsimp only at e;cases k1 with
 |true=>exact⟨G1,Fd,FE,k,env',Fh,e,fun H2 G2 F0 Fo Fe=>q H2 G2 F0 (Fx.trans Fo) Fe⟩
 |false=>
  cases e;exact q H1 G1 FE Fx Fh
theorem Dg(h:QT X a ga)(h2:QW X (.BoolOp .Or (b::dI) pos) gb):QW X (.BoolOp .Or (a::b::dI) pos) (OR ga gb):=wO (CG h h2) fun σ H Q Fs=>by
 obtain⟨G,env,fp,k,env',rel,e,q⟩:=Fs;obtain⟨⟨k1,Fd⟩,e1,e⟩:=ai e;refine⟨G,env,fp,k1,Fd,rel,e1,fun H1 G1 FE Fx Fh=>?_⟩;dsimp only at e;cases k1 with
 |false=>exact⟨G1,Fd,FE,k,env',Fh,e,fun H2 G2 F0 Fo Fe=>q H2 G2 F0 (Fx.trans Fo) Fe⟩
 |true=>
  cases e;exact q H1 G1 FE Fx Fh
theorem QW.qt{e:Expr}{f:FT}(h:QW X e f):QT X e f:=h.pt
theorem AM(h:QT X a ga):QT X (.UnaryOp .Not a pos) (De ga):=pg (z6 h) fun σ H Q Fs=>by
 obtain⟨G,env,fp,k,env',rel,e,q⟩:=Fs;obtain⟨⟨k1,Fd⟩,e1,e⟩:=ai e;cases e;exact⟨G,env,fp,k1,Fd,rel,e1,fun H1 G1 FE Fx Fh=>q H1 G1 FE Fx Fh⟩
def E8(f g:FX):FX:=fun env=>(f env).bind fun p=>match p.1.2 with
 | .bl true=>g p.2
 | .bl false=>.ok ((.f,.bl false),p.2)
 |_=>.bad
def Nf(f g:FX):FX:=fun env=>(f env).bind fun p=>match p.1.2 with
 | .bl true=>.ok ((.f,.bl true),p.2)
 | .bl false=>g p.2
 |_=>.bad
def E9(f:FX):FX:=fun env=>(f env).bind fun p=>match p.1.2 with
 | .bl k=>.ok ((.f,.bl (!k)),p.2)
 |_=>.bad
def eIf(c:FT)(f g:FX):FX:=fun env=>(c env).bind fun p=>if p.1 then f p.2 else g p.2
variable{ea eb:FX}
theorem AN{op}(h:QE X a ea):QE X (.BoolOp op [a] pos) ea:=z7 h
theorem cP{K:W.Frag}{G:Hp}(k:Bool):Rep K G (.bl k) (.bl k):=by rw[Rep]
theorem aU{K:W.Frag}{G:Hp}(k:Int):Rep K G (.int k) (.int k):=by rw[Rep]
theorem lu{K:W.Frag}{G:Hp}:Rep K G .non .non:=by rw[Rep]
theorem gI{K:W.Frag}{G:Hp}{l:List Nat}(h:l.length<=sizeLine):Rep K G (.str l) (.str (S l)):=by
 rw[Rep];exact⟨rfl,h⟩
theorem cQ{K:W.Frag}{G:Hp}{k:Bool}{v:V}(h:Rep K G (.bl k) v):v=.bl k:=by rw[Rep]at h;exact h
theorem bz{K:W.Frag}{G:Hp}{k:Int}{v:V}(h:Rep K G (.int k) v):v=.int k:=by rw[Rep]at h;exact h
theorem bZ{K:W.Frag}{G:Hp}{v:V}(h:Rep K G .non v):v=.non:=by rw[Rep]at h;exact h
theorem bx{K:W.Frag}{G:Hp}{l:List Nat}{v:V}(h:Rep K G (.str l) v):v=.str (S l)/\l.length<=sizeLine:=by rw[Rep]at h;exact h
inductive OfT(K:W.Frag)(G:Hp)(l:List D)(v:V):Prop
 |mk (p:Addr) (xs:List V) (e:v=.ref p) (q:SqT K G p xs) (r:Reps K G l xs):OfT K G l v
inductive OfL(K:W.Frag)(G:Hp)(l:List D)(v:V):Prop
 |mk (p:Addr) (xs:List V) (e:v=.ref p) (q:SqL K G p xs) (r:Reps K G l xs):OfL K G l v
theorem bp{K:W.Frag}{G:Hp}{l:List D}{v:V}(h:Rep K G (.tup l) v):OfT K G l v:=by
 rw[Rep]at h;obtain⟨p,xs,e,q,r⟩:=h;exact⟨p,xs,e,SqT.of q,r⟩
theorem sj{K:W.Frag}{G:Hp}{l:List D}{v:V}(h:Rep K G (.tup l) v):∃p xs,v=.ref p/\G p=some (.tup xs)/\Reps K G l xs:=by rw[Rep]at h;exact h
theorem bC{K:W.Frag}{G:Hp}{l:List D}{v:V}(h:Rep K G (.lst l) v):OfL K G l v:=by
 rw[Rep]at h;obtain⟨p,xs,e,q,r⟩:=h;exact⟨p,xs,e,q,r⟩
theorem Dh{K:W.Frag}{G H:Hp}{k:Bool}{v:V}(h:Vw K G H (.bl k) v):v=.bl k:=cQ (K:=K) (G:=G) h
theorem bE{K:W.Frag}{G H:Hp}{k:Int}{v:V}(h:Vw K G H (.int k) v):v=.int k:=bz (K:=K) (G:=G) h
theorem fC{K:W.Frag}{G H:Hp}{l:List Nat}{v:V}(h:Vw K G H (.str l) v):v=.str (S l)/\l.length<=sizeLine:=bx (K:=K) (G:=G) h
theorem gZ{K:W.Frag}{G H:Hp}{l:List D}{v:V}(h:Vw K G H (.tup l) v):OfT K G l v:=bp (K:=K) (G:=G) h
theorem Di(h:QE X a ea)(h2:QE X (.BoolOp .Or (b::dI) pos) eb):QE X (.BoolOp .Or (a::b::dI) pos) (Nf ea eb):=bK (CH h h2) fun σ H Q Fs=>by
 obtain⟨G,env,fp,r,env',rel,e,q⟩:=Fs;obtain⟨⟨⟨o,d⟩,Fd⟩,e1,e⟩:=ai e;refine⟨G,env,fp,_,Fd,rel,e1,fun v H1 G1 FE Fx Fh=>?_⟩;have hv:=Fh.top;obtain⟨b',Fe,Fo⟩:=Fh.drop;dsimp only at e hv;split at e
 ·cases e;exact⟨true,cQ hv,Av (q _ H1 G1 b' (Fx.trans Fo) (Fe.push (cP _)))⟩
 ·exact⟨false,cQ hv,iteF ⟨G1,Fd,b',r,env',Fe,e,fun v H2 G2 F0 FQ FC=>q v H2 G2 F0 (Fx.trans (Fo.trans FQ)) FC⟩⟩
 ·cases e
noncomputable def Ee(g g':D->D->Res R)(fa fb fc:FO):FX:=fun env=>(fa env).bind fun p=>(fb p.2).bind fun q=>(Gx q.2 p.1).bind fun a=>(Gx q.2 q.1).bind fun b=>(g a b).bind fun r=>match r with
 |(.f,.bl true)=>(fc q.2).bind fun t=>(Gx t.2 q.1).bind fun b=>(Gx t.2 t.1).bind fun c=>(g' b c).bind fun r=>.ok (r,t.2)
 |(.f,.bl false)=>.ok ((.f,.bl false),q.2)
 |_=>.bad
inductive rC(K:W.Frag)(g:List D->Res R)(xs:List V)(H:Hp)(Q:VK):Prop
 |mk:∀G fp es vs ds r,Goes K H G fp es vs r Q->Lz K G H ds xs->g ds=.ok r->rC K g xs H Q
def bq(g:List D->Res R)(fs:FOs):FX:=fun env=>(fs env).bind fun p=>(nL p.2 p.1).bind fun ds=>(g ds).bind fun r=>.ok (r,p.2)
theorem so{gg:List D->Res R}{fs:FOs}{σ:L2.St}{H:Hp}{Q:VK}(h:tQ X.K (bq gg fs) σ H Q):Ox (rC X.K gg) (tOs X.K fs) σ H Q:=by
 obtain⟨G,env,fp,r,env',rel,e,k⟩:=h;obtain⟨⟨os,e1⟩,ha,e⟩:=ai e;obtain⟨ds,hd,e⟩:=ai e;obtain⟨r',hr,e⟩:=ai e;cases e;exact⟨G,env,fp,os,e1,rel,ha,fun vs H1 G1 FE Fx Fh Hc=>⟨G1,FE,e1,σ,ds,r,⟨Fh,fun v H' G' Fm st FJ=>k v H' G' Fm (Fx.trans st) FJ⟩,Fh.vws Hc hd,hr⟩⟩
variable{x:Str}{p:Pos}{e:Expr}{es:List Expr}{gg:List D->Res R}{fs:FOs}{id T:String}
theorem bA(hc:cZ X (.builtin id) (rC X.K gg))(hg:Gl X x)(hm:X.mg x=none)(hv:bootBuiltins x=some (.builtin id))(ha:JN X (e::es) fs)(hn:x≠"__name__":=by decide)(HQ:(x==("__debug__" : Str))=false:=by decide)
  (he:starEach (e::es) X.env=(false,eval e X.env)::starEach es X.env:=by rfl) (Hh:(backTo pos (starEach es X.env)).any (·.1)=false:=by rfl):QE X (.Call (.Name x p) (e::es) [] pos) (bq gg fs):=
 bK (uM hc hg hm hv ha hn HQ he Hh) fun _ _ _=>so
theorem bF(hc:cZ X (.type T) (rC X.K gg))(hg:Gl X x)(hm:X.mg x=none)(hv:bootBuiltins x=some (.type T))(ha:JN X (e::es) fs)(hn:x≠"__name__":=by decide)(HQ:(x==("__debug__" : Str))=false:=by decide)
  (he:starEach (e::es) X.env=(false,eval e X.env)::starEach es X.env:=by rfl) (Hh:(backTo pos (starEach es X.env)).any (·.1)=false:=by rfl):QE X (.Call (.Name x p) (e::es) [] pos) (bq gg fs):=
 bK (rl hc hg hm hv ha hn HQ he Hh) fun _ _ _=>so
inductive spF(K:W.Frag)(F:List D->Res R)(vs:List V)(H:Hp)(Q:VK)(zz:XK):Prop
 |mk:∀G ds r,Same G H->Reps K G ds vs->F ds=.ok r->(∀v H' G' Fm,Step G H [] G' H' Fm->Rel K G' H' [some r] [some v] Fm->Q v H')->spF K F vs H Q zz
def c6(F:List D->Res R)(fs:FOs):FX:=fun env=>(fs env).bind fun p=>(kl p.2 p.1).bind fun ds=>(F ds).bind fun r=>.ok (r,if bu r.1 r.2 then p.2 else p.2.map frz)
theorem aR{F:List D->Res R}{k:Nat}(C:Ct X.prog X.w X.K X.mg X.base x k (spF X.K F))(hr:Room k X.A)(hg:Gl X x)(ha:JN X (e::es) fs)(HQ:(x==("__debug__" : Str))=false:=by decide)
  (he:starEach (e::es) X.env=(false,eval e X.env)::starEach es X.env:=by rfl) (Hh:(backTo pos (starEach es X.env)).any (·.1)=false:=by rfl):QE X (.Call (.Name x p) (e::es) [] pos) (c6 F fs):=
 bK (C1 C hr hg ha HQ he Hh) fun σ H Q Fs=>by
  obtain⟨G,env,fp,r,env',rel,e,k⟩:=Fs;obtain⟨⟨os,e1⟩,ha,e⟩:=ai e;obtain⟨ds,hd,e⟩:=ai e;obtain⟨r',hr,e⟩:=ai e;refine⟨G,env,fp,os,e1,rel,ha,fun vs H1 G1 FE Fx Fh Hc=>?_⟩;show spF X.K F (vs++[]) H1 Q _;rw[QR];obtain⟨G2,Ng,Nh,HS,_,IG⟩:=Fh.lend;refine⟨G2,ds,r',Nh,mH Ng HS Hc hd,hr,fun v H' G' Fm st FJ=>?_⟩;obtain⟨k1,k2⟩:=IG H' G' Fm r' v st FJ;by_cases hc:bu r'.1 r'.2=true
  ·rw[Qa hc]at e;cases e;obtain⟨G3,HC,FQ,FC⟩:=k1 hc;exact k v H' G3 HC (Fx.trans FQ) FC
  ·rw[Qf hc]at e;cases e;obtain⟨G3,HC,FQ,FC⟩:=k2;exact k v H' G3 HC (Fx.trans FQ) FC
end
def sSeq(g1 g2:FS):FS:=fun env=>(g1 env).bind fun o=>match o with
 | .nx e=>g2 e
 |o=>.ok o
def fg:FS:=fun env=>.ok (.nx env)
def wR:FS:=fun _=>.bad
def cp(i:Nat)(f:FX):FS:=fun env=>(f env).bind fun p=>if i<p.2.length then .ok (.nx (p.2.set i (some p.1))) else .bad
def gj(f:FX):FS:=fun env=>(f env).bind fun p=>.ok (.nx p.2)
def e8(f:FX):FS:=fun env=>(f env).bind fun p=>.ok (.rt p.1)
def Ik(c:FT)(g h:FS):FS:=fun env=>(c env).bind fun p=>if p.1 then g p.2 else h p.2
section
variable{md:Mode}{X:Cx}{st:Stmt}{OS:List Stmt}{g h:FS}{f:FX}{c:FT}{pos:Pos}{e:Expr}
theorem cb:Kx (md:=md) X [] fg:=sd xv fun D σ H ⟨G,env,fp,rel,k⟩=>k σ H G fp .refl rel
theorem aA(a:QS (md:=md) X st g):Kx (md:=md) X [st] g:=xw a
theorem ah(a:QS (md:=md) X st g)(b:Kx (md:=md) X OS h):Kx (md:=md) X (st::OS) (sSeq g h):=sd (uG a b) fun D σ H Fs=>by
 obtain⟨G,env,fp,rel,k⟩:=Fs;refine⟨G,env,fp,rel,?_⟩;have k:OutOk X.K G H fp D ((g env).bind fun o=>match o with | .nx e=>h e|o=>.ok o):=k;match q:g env,k with
 | .ok (.nx Fd),k=>exact fun σ1 H1 G1 FE Fx Fh=>⟨G1,Fd,FE,Fh,OutOk.after Fx k⟩
 | .ok (.bk Fd),k=>exact k
 | .ok (.ct Fd),k=>exact k
 | .ok (.rt r),k=>exact k
theorem vy:QS (md:=md) X st wR:=e7 uH fun D σ H ⟨G,env,fp,rel,k⟩=>k
theorem oh{K:W.Frag}{G H:Hp}{fp:List Addr}{D:Ends}{i:Nat}{env:PV.Env}{σ:L2.St}(rel:Rel K G H env σ fp)(k:OutOk (md:=md) K G H fp D (cp i f env)):tQ K f σ H fun v H'=>D.nx (σ.set i (some v)) H':=by
 unfold cp at k;match q:f env,k with
 | .ok (r,Fd),k=>
  have k:OutOk K G H fp D (if i<Fd.length then .ok (.nx (Fd.set i (some r))) else .bad):=k;by_cases hi:i<Fd.length
  ·rw[Qa hi]at k;refine⟨G,env,fp,r,Fd,rel,q,fun v H1 G1 FE Fx Fh=>?_⟩;obtain⟨fq,Fe,Fo⟩:=Fh.store hi;exact k _ H1 G1 fq (Fx.trans Fo) Fe
  ·rw[Qf hi]at k;exact k.elim
theorem aI{i:Nat}{x:Str}{pos':Pos}(hN:X.N.Nodup)(hi:X.N[i]?=some x)(hx:Loc X.env.scope x)(he:QE X e f)(hs:swapsWith e (some (.Name x pos')) pos.line X.env=pure false:=by rfl)(hf:X.fn x=true\/X.env.scope.names.lookup x=some .local:=by first|exact .inl rfl|exact .inr rfl|assumption):
  QS (md:=md) X (.Assign [.Name x pos'] e pos) (cp i f):=e7 (Ad (i:=i) hN hi hx he hs hf) fun D σ H ⟨G,env,fp,rel,k⟩=>oh rel k
theorem c7(he:QE X e f)(hs:swapsWith e none pos.line X.env=pure false:=by rfl):QS (md:=md) X (.Expr e pos) (gj f):=e7 (xx he hs) fun D σ H Fs=>by
 obtain⟨G,env,fp,rel,k⟩:=Fs;unfold gj at k;match q:f env,k with
 | .ok (r,Fd),k=>
  refine⟨G,env,fp,r,Fd,rel,q,fun v H1 G1 FE Fx Fh=>?_⟩;obtain⟨b,Fe,Fo⟩:=Fh.drop;exact k _ H1 G1 b (Fx.trans Fo) Fe
theorem Rel.only{K:W.Frag}{G H:Hp}{r:R}{v:V}{es:PV.Env}{vs:L2.St}{fp:List Addr}(q:Rel K G H (some r::es) (some v::vs) fp):∃a,Rel K G H [some r] [some v] a/\Step G H fp G H a:=by
 obtain⟨y,ys,e,v',a,b,e1,e2,r1,r2⟩:=q.rep;cases e;cases e1;subst e2;have nd:=QF.mp q.nd;exact⟨a,⟨⟨some v,[],rfl,v,a,[],rfl,(QR _).symm,r1,rfl,rfl⟩,nd.1,fun p hp=>q.gn p (Qd _ hp),q.gh⟩,Step.cut fun p hp=>Qd _ hp⟩
theorem br(he:QE X e f):QS (md:=.plain) X (.Return (some e) pos) (e8 f):=e7 (z8 he) fun D σ H Fs=>by
 obtain⟨G,env,fp,rel,k⟩:=Fs;unfold e8 at k;match q:f env,k with
 | .ok (r,Fd),k=>
  refine⟨G,env,fp,r,Fd,rel,q,fun v H1 G1 FE Fx Fh=>?_⟩;obtain⟨b,Fe,Fo⟩:=Fh.only;exact k _ H1 G1 b (Fx.trans Fo) Fe
theorem Rel.nilF{K:W.Frag}{G H:Hp}{es:PV.Env}{vs:L2.St}{fp:List Addr}(q:Rel K G H es vs fp):Rel K G H [] [] []:=⟨⟨rfl,rfl⟩,RM,(fun _ h=>nomatch h),q.gh⟩
theorem gk{a b:List Stmt}{ct:Expr}(hc:QT X ct c)(ha:Kx (md:=md) X a g)(hb:Kx (md:=md) X b h):QS (md:=md) X (.If ct a b pos) (Ik c g h):=e7 (CK hc ha hb) fun D σ H Fs=>by
 obtain⟨G,env,fp,rel,k⟩:=Fs;unfold Ik at k;match q:c env,k with
 | .ok (true,Fd),k=>exact⟨G,env,fp,true,Fd,rel,q,fun H1 G1 FE Fx Fh=>Av ⟨G1,Fd,FE,Fh,OutOk.after Fx k⟩⟩
 | .ok (false,Fd),k=>exact⟨G,env,fp,false,Fd,rel,q,fun H1 G1 FE Fx Fh=>iteF ⟨G1,Fd,FE,Fh,OutOk.after Fx k⟩⟩
def dm(c:FT)(g:FS):Nat->FS
 | 0,_=>.bad
 |n+1,env=>(c env).bind fun p=>if p.1 then(g p.2).bind fun o=>match o with
  | .nx e=>dm c g n e
  | .ct e=>dm c g n e
  | .bk e=>.ok (.nx e)
  | .rt r=>.ok (.rt r)
  else .ok (.nx p.2)
theorem pk{ct:Expr}{body:List Stmt}(n:Nat)(hp:PassesOwn (model X.prog X.w) X.A X.env X.xe)(hc:QT X ct c)(hb:Kx (md:=md) X body g):QS (md:=md) X (.While ct body [] pos) (dm c g n):=
 e7 (uJ hp hc hb) fun D σ H Fs=>by
  obtain⟨G,env,fp,rel,k⟩:=Fs;refine⟨fun m σ' H'=>∃G' env' Fm,Rel X.K G' H' env' σ' Fm/\OutOk X.K G' H' Fm D (dm c g m env'),⟨n,G,env,fp,rel,k⟩,?_⟩;rintro m σ1 H1 ⟨G1,Fd,FE,Fh,k1⟩;cases m with
  |zero=>exact k1.elim
  |succ m=>
   unfold dm at k1;match q:c Fd,k1 with
   | .ok (false,Fl),k1=>exact⟨G1,Fd,FE,false,Fl,Fh,q,fun H2 G2 F0 Fo Fe=>iteF (k1 _ H2 G2 F0 Fo Fe)⟩
   | .ok (true,Fl),k1=>
    refine⟨G1,Fd,FE,true,Fl,Fh,q,fun H2 G2 F0 Fo Fe=>Av ?_⟩;refine⟨fun σ' H'=>∃G' env' Fm,Rel X.K G' H' env' σ' Fm/\OutOk X.K G' H' Fm D (dm c g m env'),fun σ' H' z=>⟨m,RY _,z⟩,G2,Fl,F0,Fe,?_⟩;have k2:OutOk X.K G1 H1 FE D ((g Fl).bind fun o=>match o with | .nx e=>dm c g m e | .ct e=>dm c g m e | .bk e=>.ok (.nx e) | .rt r=>.ok (.rt r)):=k1;match q2:g Fl,k2 with
    | .ok (.nx e),k2=>exact fun σ' H' G' Fm st rel=>⟨G',e,Fm,rel,OutOk.after (Fo.trans st) k2⟩
    | .ok (.ct e),k2=>exact fun σ' H' G' Fm st rel=>⟨G',e,Fm,rel,OutOk.after (Fo.trans st) k2⟩
    | .ok (.bk e),k2=>exact fun σ' H' G' Fm st rel=>k2 σ' H' G' Fm (Fo.trans st) rel
    | .ok (.rt r),k2=>exact fun v H' G' Fm st rel=>k2 v H' G' Fm (Fo.trans st) rel
def Walk(K:W.Frag)(G:Hp)(J:It)(ds:List D):Prop:=∀G' H' es vs fp,Same G G'->Rel K G' H' es vs fp->∀i:Nat,
 (∀d,ds[i]?=some d->J.go i H'/\∀x H2,J.yld i H' x H2->∃G2,Rep K G2 d x/\Rel K G2 H2 es vs fp/\Step G' H' fp G2 H2 fp)/\(i=ds.length->J.stop i H')
abbrev FI:=PV.Env->Res (List D×PV.Env)
inductive tQI(K:W.Frag)(f:FI)(σ:L2.St)(H:Hp)(R:It->Hp->Prop):Prop
 |mk:∀G env fp ds env',Rel K G H env σ fp->f env=.ok (ds,env')->(∀J H' G' Fm,Step G H fp G' H' Fm->Rel K G' H' env' σ Fm->Walk K G' J ds->R J H')->tQI K f σ H R
def QI(X:Cx)(tg e:Expr)(f:FI):Prop:=PI X tg e (tQI X.K f)
theorem iJ{X:Cx}{tg e:Expr}{t t':TI}(h:PI X tg e t)(k:∀σ H R,t' σ H R->t σ H R):PI X tg e t':=fun pi s σ H R I w=>h pi s σ H R I (k σ H R w)
abbrev FG:=D->PV.Env->Res PV.Env
inductive tQG(K:W.Frag)(a:FG)(v:V)(σ:L2.St)(H:Hp)(Q:L2.St->Hp->Prop):Prop
 |mk:∀G env fp d env',Rel K G H env σ fp->Rep K G d v->a d env=.ok env'->(∀σ' G' Fm,Step G H fp G' H Fm->Rel K G' H env' σ' Fm->Q σ' H)->tQG K a v σ H Q
def QG(X:Cx)(tg:Expr)(a:FG):Prop:=PG X tg (tQG X.K a)
def au(i:Nat):FG:=fun d env=>if i<env.length then .ok (env.set i (some (.f,d))) else .bad
theorem wU{X:Cx}{tg:Expr}{t t':TG}(h:PG X tg t)(k:∀v σ H Q,t' v σ H Q->t v σ H Q):PG X tg t':=fun pi s σ H v u Q I r w=>h pi s σ H v u Q I r (k v σ H Q w)
theorem sr{X:Cx}{tg:List Expr}{t t':Lu}(h:LG X tg t)(k:∀v σ H Q,t' v σ H Q->t v σ H Q):LG X tg t':=fun pi s σ H v u Q I r w=>h pi s σ H v u Q I r (k v σ H Q w)
theorem ax{i:Nat}{x:Str}(hN:X.N.Nodup)(hi:X.N[i]?=some x)(hx:Loc X.env.scope x)(hf:X.fn x=true\/X.env.scope.names.lookup x=some .local:=by first|exact .inl rfl|exact .inr rfl|assumption):QG X (.Name x pos) (au i):=
 wU (xy (i:=i) hN hi hx hf) fun v σ H Q Fs=>by
  obtain⟨G,env,fp,d,env',rel,r,e,k⟩:=Fs;unfold au at e;split at e
  ·rename_i hl;cases e;obtain⟨fq,Fe,Fo⟩:=(rel.push r).store hl;exact k _ G fq Fo Fe
  ·cases e
abbrev KQ:=List D->PV.Env->Res PV.Env
inductive tQGs(K:W.Frag)(a:KQ)(vs:List V)(σ:L2.St)(H:Hp)(Q:L2.St->Hp->Prop):Prop
 |mk:∀G env fp ds env',Rel K G H env σ fp->Reps K G ds vs->a ds env=.ok env'->(∀σ' G' Fm,Step G H fp G' H Fm->Rel K G' H env' σ' Fm->Q σ' H)->tQGs K a vs σ H Q
def Ob(X:Cx)(tg:List Expr)(a:KQ):Prop:=LG X tg (tQGs X.K a)
def cq:KQ:=fun ds env=>match ds with
 |[]=>.ok env
 |_=>.bad
def aB(a:FG)(b:KQ):KQ:=fun ds env=>match ds with
 |d::ds=>(a d env).bind fun e=>b ds e
 |_=>.bad
theorem cR:Ob X [] cq:=sr xA fun vs σ H Q Fs=>by
 obtain⟨G,env,fp,ds,env',rel,r,e,k⟩:=Fs;cases ds with
 |nil=>
  cases e;rw[Reps]at r;exact⟨r,k σ G fp .refl rel⟩
 |cons d ds=>cases e
theorem aG{tg:Expr}{IH:List Expr}{a:FG}{b:KQ}(h1:QG X tg a)(h2:Ob X IH b)(hs:(assignEach (tg::IH) X.env).map (·.2)=assign tg X.env::(assignEach IH X.env).map (·.2):=by rfl):Ob X (tg::IH) (aB a b):=
 sr (uI h1 h2 hs) fun vs σ H Q Fs=>by
  obtain⟨G,env,fp,ds,env',rel,r,e,k⟩:=Fs;cases ds with
  |nil=>cases e
  |cons d ds=>
   rw[Reps]at r;obtain⟨y,ys,ev,r1,r2⟩:=r;obtain⟨Fd,e1,e2⟩:=ai e;exact⟨y,ys,ev,G,env,fp,d,Fd,rel,r1,e1,fun σ1 G1 FE Fx Fh=>⟨G1,Fd,FE,ds,env',Fh,r2.mono Fx.gg,e2,fun σ2 G2 F0 Fo Fe=>k σ2 G2 F0 (Fx.trans Fo) Fe⟩⟩
def gm(n:Nat)(a:KQ):FG:=fun d env=>match d with
 | .tup ds=>if ds.length=n then a ds env else .bad
 |_=>.bad
theorem dM{IH:List Expr}{k n:Nat}{a:KQ}(hc:X.calm=true)(h:Ob X IH a)(hn:(assignEach IH X.env).length=n:=by rfl)(JU:(assignEach IH X.env).findIdx? (·.1)=none:=by rfl):QG X (.Tuple IH k pos) (gm n a):=
 wU (Ab hc h hn JU) fun v σ H Q Fs=>by
  obtain⟨G,env,fp,d,env',rel,r,e,k⟩:=Fs;unfold gm at e;split at e
  ·rename_i ds;split at e
   ·rename_i hl;obtain⟨p,xs,ev,sq,rs⟩:=bp r;exact⟨p,xs,ev,bO rel.gh sq,rs.length.trans hl,G,env,fp,ds,env',rel,rs,e,k⟩
   ·cases e
  ·cases e
def gR(a:FG)(g:FS):List D->FS
 |[],env=>.ok (.nx env)
 |d::ds,env=>(a d env).bind fun e=>(g e).bind fun o=>match o with
  | .nx e=>gR a g ds e
  | .ct e=>gR a g ds e
  | .bk e=>.ok (.nx e)
  | .rt r=>.ok (.rt r)
def nM(f:FI)(a:FG)(g:FS):FS:=fun env=>(f env).bind fun p=>gR a g p.1 p.2
theorem d4{tg iter:Expr}{body:List Stmt}{fi:FI}{a:FG}(hp:PassesOwn (model X.prog X.w) X.A X.env X.xe)(hc:X.calm=true)(hi:QI X tg iter fi)(hg:QG X tg a)(hb:Kx (md:=md) X body g)(hs:∀x,foldedSetIterable iter X.env x=pure x:=by intro _;rfl):QS (md:=md) X (.For tg iter body [] pos) (nM fi a g):=
 e7 (Ag hp hc hi hg hb hs) fun D σ H Fs=>by
  obtain⟨G,env,fp,rel,k⟩:=Fs;unfold nM at k;match q:fi env,k with
  | .ok (ds,Fd),k=>
   refine⟨G,env,fp,ds,Fd,rel,q,fun J H1 G1 FE Fx Fh wk=>?_⟩;have k:OutOk X.K G H fp D (gR a g ds Fd):=k;refine⟨fun i m σ' H'=>m=ds.length-i/\i<=ds.length/\∃G' env' Fm,Same G1 G'/\Rel X.K G' H' env' σ' Fm/\OutOk X.K G' H' Fm D (gR a g (ds.drop i) env'),⟨_,rfl,QJ _,G1,Fd,FE,.refl _,Fh,OutOk.after Fx k⟩,?_⟩;rintro i m σ2 H2 ⟨rfl,hi,G2,Fl,F0,gg,Fe,k2⟩;obtain⟨w1,w2⟩:=wk G2 H2 _ _ _ gg Fe i;by_cases FH:i<ds.length
   ·have hd:ds[i]?=some ds[i]:=List.getElem?_eq_getElem FH;obtain⟨go,yl⟩:=w1 _ hd;rw[Su FH]at k2;refine .inr ⟨go,fun σ' H'=>∃G' env' Fm,Same G1 G'/\Rel X.K G' H' env' σ' Fm/\OutOk X.K G' H' Fm D (gR a g (ds.drop (i+1)) env'),fun σ' H' z=>⟨ds.length-(i+1),by lia,rfl,FH,z⟩,fun x H3 y=>?_⟩;obtain⟨G3,rx,FC,FQ⟩:=yl x H3 y;unfold gR at k2;match q3:a ds[i] Fl,k2 with
    | .ok F7,k2=>
     refine⟨G3,Fl,F0,ds[i],F7,FC,rx,q3,fun σ4 G4 Ni Gv FV=>⟨G4,F7,Ni,FV,?_⟩⟩;have k3:OutOk X.K G2 H2 F0 D ((g F7).bind fun o=>match o with | .nx e=>gR a g (ds.drop (i+1)) e | .ct e=>gR a g (ds.drop (i+1)) e | .bk e=>.ok (.nx e) | .rt r=>.ok (.rt r)):=k2;match q4:g F7,k3 with
     | .ok (.nx e),k3=>exact fun σ' H' G' Fm st rel=>⟨G',e,Fm,gg.trans (FQ.gg.trans (Gv.gg.trans st.gg)),rel,OutOk.after (FQ.trans (Gv.trans st)) k3⟩
     | .ok (.ct e),k3=>exact fun σ' H' G' Fm st rel=>⟨G',e,Fm,gg.trans (FQ.gg.trans (Gv.gg.trans st.gg)),rel,OutOk.after (FQ.trans (Gv.trans st)) k3⟩
     | .ok (.bk e),k3=>exact fun σ' H' G' Fm st rel=>k3 σ' H' G' Fm (FQ.trans (Gv.trans st)) rel
     | .ok (.rt r),k3=>exact fun v H' G' Fm st rel=>k3 v H' G' Fm (FQ.trans (Gv.trans st)) rel
   ·have e:i=ds.length:=by lia
    subst e;rw[Ua]at k2;exact .inl ⟨w2 rfl,k2 σ2 H2 G2 F0 .refl Fe⟩
def AO(f:FX):FI:=fun env=>(f env).bind fun p=>match p.1.2 with
 | .lst ds=>.ok (ds,p.2)
 |_=>.bad
def fm(f:FX):FI:=fun env=>(f env).bind fun p=>match p.1.2 with
 | .tup ds=>.ok (ds,p.2)
 |_=>.bad
variable{tg l:Expr}
theorem mJ{K:W.Frag}{G:Hp}{a:Addr}{xs:List V}{ds:List D}(sq:SqL K G a xs)(rs:Reps K G ds xs):Walk K G (MB K a) ds:=by
 intro G' H' es vs fp gg rel i;have GN:SqL K H' a xs:=f9 rel.gh (f9 gg sq);refine⟨fun d hd=>?_,fun e=>⟨xs,GN,by rw[rs.length];lia⟩⟩;obtain⟨x,hx,rx⟩:=rs.get hd;refine⟨⟨xs,x,GN,hx⟩,fun y H2 ⟨e,hy⟩=>?_⟩;subst e;have:=hy xs GN;rw[hx]at this;cases this;exact⟨G',Rep.mono gg rx,rel,.refl⟩
theorem vz{K:W.Frag}{G:Hp}{a:Addr}{xs:List V}{ds:List D}(sq:SqT K G a xs)(rs:Reps K G ds xs):Walk K G (Ot K a) ds:=by
 intro G' H' es vs fp gg rel i;have GN:SqT K H' a xs:=bO rel.gh (bO gg sq);refine⟨fun d hd=>?_,fun e=>⟨xs,GN,by rw[rs.length];lia⟩⟩;obtain⟨x,hx,rx⟩:=rs.get hd;refine⟨⟨xs,x,GN,hx⟩,fun y H2 ⟨e,hy⟩=>?_⟩;subst e;have:=hy xs GN;rw[hx]at this;cases this;exact⟨G',Rep.mono gg rx,rel,.refl⟩
theorem yh(h:QE X l f):QI X tg l (AO f):=iJ (qU h) fun σ H R Fs=>by
 obtain⟨G,env,fp,ds,env',rel,e,k⟩:=Fs;obtain⟨⟨⟨o,d⟩,Fd⟩,e1,e⟩:=ai e;dsimp only at e;split at e
 ·cases e;refine⟨G,env,fp,_,_,rel,e1,fun v H1 G1 FE Fx Fh=>?_⟩;obtain⟨G2,b,rv,Fe,Fo⟩:=Fh.freeze;obtain⟨p,xs,ev,sq,rs⟩:=bC rv;exact⟨p,ev,⟨xs,f9 Fe.gh sq⟩,k _ H1 G2 b (Fx.trans Fo) Fe (mJ sq rs)⟩
 ·cases e
theorem fD(h:QE X l f):QI X tg l (fm f):=iJ (Af h) fun σ H R Fs=>by
 obtain⟨G,env,fp,ds,env',rel,e,k⟩:=Fs;obtain⟨⟨⟨o,d⟩,Fd⟩,e1,e⟩:=ai e;dsimp only at e;split at e
 ·cases e;refine⟨G,env,fp,_,_,rel,e1,fun v H1 G1 FE Fx Fh=>?_⟩;obtain⟨G2,b,rv,Fe,Fo⟩:=Fh.freeze;obtain⟨p,xs,ev,sq,rs⟩:=bp rv;exact⟨p,ev,⟨xs,bO Fe.gh sq⟩,k _ H1 G2 b (Fx.trans Fo) Fe (vz sq rs)⟩
 ·cases e
def fw(f:FX):FI:=fun env=>(f env).bind fun p=>match p.1.2 with
 | .str l=>.ok (l.map fun c=>.str [c],p.2)
 |_=>.bad
theorem fE(h:QE X l f):QI X tg l (fw f):=iJ (AA h) fun σ H R Fs=>by
 obtain⟨G,env,fp,ds,env',rel,e,k⟩:=Fs;obtain⟨⟨⟨o,d⟩,Fd⟩,e1,e⟩:=ai e;dsimp only at e;split at e
 ·rename_i cs;cases e;refine⟨G,env,fp,_,_,rel,e1,fun v H1 G1 FE Fx Fh=>?_⟩;obtain⟨G2,b,rv,Fe,Fo⟩:=Fh.freeze;obtain⟨ev,hl⟩:=bx rv;refine⟨cs,ev,k _ H1 G2 b (Fx.trans Fo) Fe fun G' H' es vs Fm gg FJ i=>⟨fun d hd=>?_,fun e=>?_⟩⟩
  ·rw[List.getElem?_map]at hd;cases hc:cs[i]? with
   |none=>rw[hc]at hd;cases hd
   |some c=>
    rw[hc]at hd;cases hd;refine⟨(List.getElem?_eq_some_iff.mp hc).1,fun x H2 ⟨e1,e2⟩=>?_⟩;subst e1;refine⟨G',?_,FJ,.refl⟩;rw[e2];show Rep X.K G' (.str [c]) (.str (S [cs.getD i 0]));rw[List.getD_eq_getElem?_getD,hc];exact gI (by rw[line_eq];simp)
  ·rw[P5]at e;exact e
 ·cases e
def eG(f:FO):FI:=fun env=>(f env).bind fun p=>(Gx p.2 p.1).bind fun d=>match d with
 | .int j=>if -4611686018427387904<=j/\j<4611686018427387904 then .ok ((List.range j.toNat).map fun(k:Nat)=>D.int (k:Int),p.2) else .bad
 |_=>.bad
theorem qm{K:W.Frag}{G:Hp}(lo:Int)(n:Nat):Walk K G (N3 lo n) ((List.range n).map fun(k:Nat)=>D.int (lo+(k:Int))):=by
 intro G' H' es vs fp gg rel i;refine⟨fun d hd=>?_,fun e=>?_⟩
 ·rw[List.getElem?_map]at hd;cases hc:(List.range n)[i]? with
  |none=>rw[hc]at hd;cases hd
  |some c=>
   rw[hc]at hd;cases hd;obtain⟨h1,h2⟩:=List.getElem?_eq_some_iff.mp hc;rw[Qr]at h1;rw[U4]at h2;subst h2;refine⟨h1,fun x H2 ⟨e1,e2⟩=>?_⟩;subst e1;exact⟨G',by rw[e2];exact aU _,rel,.refl⟩
 ·rw[P5,Qr]at e;exact Uq e.symm
theorem dD{a:Expr}{fa:FO}{p pos:Pos}(hg:Gl X "range")(hm:X.mg "range" = none)(ha:QO X a fa)(hs:starEach [a] X.env=[(false,eval a X.env)]:=by rfl):QI X tg (.Call (.Name "range" p) [a] [] pos) (eG fa):=
 iJ (qV hg hm (af ha ao hs) hs) fun σ H R Fs=>by
  obtain⟨G,env,fp,ds,env',rel,e,k⟩:=Fs;obtain⟨⟨o,Fd⟩,e1,e⟩:=ai e;obtain⟨d,e2,e⟩:=ai e;dsimp only at e;split at e
  ·rename_i j;split at e
   ·rename_i hj;cases e;refine⟨G,env,fp,[o],_,rel,by show(fa env).bind _=_;rw[e1];rfl,fun vs H1 G1 FE Fx Fh Hc=>?_⟩;obtain⟨y,ys,ev,k1,k2⟩:=Hc;have k2:ys=[]:=k2;subst k2;have hv:=bE (Fh.vw k1 e2);subst hv;refine⟨j,ev,by lia,by lia,k _ H1 G1 FE Fx Fh ?_⟩;have w:=qm (K:=X.K) (G:=G1) 0 j.toNat
    simpa using w
   ·cases e
  ·cases e
noncomputable def Dj(fs:FOs):FI:=fun env=>(fs env).bind fun p=>(nL p.2 p.1).bind fun d=>match d with
 |[.int i,.int j]=>if(-4611686018427387904<=i/\i<4611686018427387904)/\-4611686018427387904<=j/\j<4611686018427387904 then .ok ((List.range (j-i).toNat).map fun(k:Nat)=>D.int (i+(k:Int)),p.2) else .bad
 |_=>.bad
def g0(k:Bool):D->Res (List D)
 | .lst ds=>if k then .ok ds else .bad
 | .tup ds=>if k then .bad else .ok ds
 |_=>.bad
def qo(k1 k2:Bool)(fs:FOs):FI:=fun env=>(fs env).bind fun p=>match p.1 with
 |[.val d1,.val d2]=>(g0 k1 d1).bind fun a=>(g0 k2 d2).bind fun b=>.ok ((a.zip b).map fun z=>D.tup [z.1,z.2],p.2)
 |_=>.bad
theorem ly{K:W.Frag}{G:Hp}{k:Bool}{d:D}{ds:List D}{v:V}(e:g0 k d=.ok ds)(r:Rep K G d v):∃p xs,v=.ref p/\(if k then SqL K G p xs else SqT K G p xs)/\Reps K G ds xs:=by
 cases d with
 |lst es=>
  cases k with
  |true=>
   cases e;obtain⟨p,xs,e1,q,rs⟩:=bC r;exact⟨p,xs,e1,q,rs⟩
  |false=>cases e
 |tup es=>
  cases k with
  |true=>cases e
  |false=>
   cases e;obtain⟨p,xs,e1,q,rs⟩:=bp r;exact⟨p,xs,e1,q,rs⟩
 |_=>cases e
theorem ij{K:W.Frag}{G G':Hp}{k:Bool}{p:Addr}{xs:List V}(h:Same G G')(r:if k then SqL K G p xs else SqT K G p xs):if k then SqL K G' p xs else SqT K G' p xs:=by
 cases k with
 |true=>exact f9 h r
 |false=>exact bO h r
theorem vA{K:W.Frag}{G:Hp}{k1 k2:Bool}{p1 p2:Addr}{xs ys:List V}{as bs:List D}(s1:if k1 then SqL K G p1 xs else SqT K G p1 xs)(s2:if k2 then SqL K G p2 ys else SqT K G p2 ys)(r1:Reps K G as xs)(r2:Reps K G bs ys):
  Walk K G (OH K k1 k2 p1 p2) ((as.zip bs).map fun z=>D.tup [z.1,z.2]):=by
 intro G' H' es vs fp gg rel i;have g1:=ij (gg.trans rel.gh) s1;have g2:=ij (gg.trans rel.gh) s2;refine⟨fun d hd=>?_,fun e=>⟨xs,ys,g1,g2,?_⟩⟩
 ·rw[List.getElem?_map]at hd;cases hz:(as.zip bs)[i]? with
  |none=>rw[hz]at hd;cases hd
  |some z=>
   rw[hz]at hd;cases hd;obtain⟨h1,h2⟩:=List.getElem?_zip_eq_some.mp hz;obtain⟨x,hx,rx⟩:=r1.get h1;obtain⟨y,hy,ry⟩:=r2.get h2;refine⟨⟨xs,ys,x,y,g1,g2,hx,hy⟩,fun v H2 ⟨T,hT,ev,hh⟩=>?_⟩;have e2:=hh xs ys x y g1 g2 hx hy;subst e2;obtain⟨Fe,Fo⟩:=rel.newF (u:=.tup [x,y]) hT;refine⟨_,?_,Fe,Fo⟩;rw[Rep];exact⟨T,[x,y],ev,aV,.cons (Rep.mono (gg.trans Fo.gg) rx) (.one (Rep.mono (gg.trans Fo.gg) ry))⟩
 ·rw[P5,Sb]at e;rw[r1.length,r2.length];exact e
theorem pq(k1 k2:Bool){IH:List Expr}{kt:Nat}{pt:Pos}{e1 e2:Expr}{fs:FOs}{p pos:Pos}(hg:Gl X "zip")(hm:X.mg "zip" = none)(ha:JN X [e1,e2] fs)(he:starEach [e1,e2] X.env=(false,eval e1 X.env)::starEach [e2] X.env:=by rfl)(Hh:(backTo pos (starEach [e2] X.env)).any (·.1)=false:=by rfl):
  QI X (.Tuple IH kt pt) (.Call (.Name "zip" p) [e1,e2] [] pos) (qo k1 k2 fs):=
 iJ (AE k1 k2 hg hm ha he Hh) fun σ H R Fs=>by
  obtain⟨G,env,fp,ds,env',rel,e,k⟩:=Fs;obtain⟨⟨o,Fd⟩,e1,e⟩:=ai e;dsimp only at e;split at e
  ·rename_i d1 d2;obtain⟨a,ea,e⟩:=ai e;obtain⟨b,eb,e⟩:=ai e;cases e;refine⟨G,env,fp,_,_,rel,e1,fun vs H1 G1 FE Fx Fh Hc=>?_⟩;obtain⟨y,ys,ev,v1,z,zs,ev2,v2,e3⟩:=Hc;have e3:zs=[]:=e3;subst e3;obtain⟨p1,OT,OU,q1,r1⟩:=ly ea v1;obtain⟨p2,MI,ep2,q2,r2⟩:=ly eb v2;subst OU;subst ep2;subst ev2;exact⟨p1,p2,OT,MI,ev,ij Fh.gh q1,ij Fh.gh q2,k _ H1 G1 FE Fx Fh (vA q1 q2 r1 r2)⟩
  ·cases e
end
def fBody(np nn:Nat)(g:FS):List D->Res R:=fun ds=>if ds.length=np then(g (ds.map (fun d=>some (O.f,d))++List.replicate nn none)).bind fun o=>match o with
 | .rt r=>.ok r
 | .nx _=>.ok (.f,.non)
 |_=>.bad
 else .bad
theorem ju{K:W.Frag}{G H:Hp}(n:Nat):∀{ds:List D}{vs:List V},Reps K G ds vs->RepE K G H (ds.map (fun d=>some (O.f,d))++List.replicate n none) (vs.map some++List.replicate n none) []
 |[],vs,r=>by
  rw[Reps]at r;subst r;show RepE K G H (List.replicate n none) (List.replicate n none) [];induction n with
  |zero=>exact⟨rfl,rfl⟩
  |succ n ih=>exact⟨none,_,rfl,ih⟩
 |d::ds,vs,r=>by
  rw[Reps]at r;obtain⟨y,ys,e,r1,r2⟩:=r;subst e;exact⟨some y,_,rfl,y,[],[],rfl,rfl,gY.mpr ⟨r1,rfl⟩,ju n r2⟩
theorem dt{P:Program}{w:World}{K:W.Frag}{mg:Str->Option Value}{base:Heap}{x:Str}{st:Stmt}{N ps:List Str}{k:Nat}{g:FS}(Df:Def K mg x st)(sc:FnScope N ps (defScope st))
  (hb:∀(kV doc pm:Value) (an:Option Addr) (FK ct:Value) (us:List Value),us.length=ps.length->bindArgs (PySem.W.fnOf x x (fB st) (dB st) (defScope st) .none kV doc pm an FK ct) ⟨us,[]⟩=pure (ps.zip us))
  (body:∀(f:Addr) (FK:Value) (A:Around) (outer:List PySem.Env) (s:Shared) (H:Hp) (E:XK),Room k (A.deeper (envOfC x (defScope st) s.heap.objs.size f FK))->Kx (md:=.plain) (wB J4 P w K mg base N x (defScope st) f FK A outer s H E).nox (dB st) g):
  Ct P w K mg base x (k+1) (spF K (fBody ps.length (N.length-ps.length) g)):=by
 obtain⟨f,fd,F,m⟩:=Df;refine⟨f,fd,ps,F.ok sc (fun vs H Q E h=>?_) (fun FK A outer s H vs Q E hr h=>?_),m,F.kp,F.binds hb⟩
 ·obtain⟨G,ds,r,_,rs,e,_⟩:=h;unfold fBody at e;split at e
  ·rename_i hl;rw[rs.length,hl]
  ·cases e
 ·obtain⟨G,ds,r,gh,rs,e,q⟩:=h;unfold fBody at e;split at e
  ·rename_i hl;refine⟨_,body f FK A outer s H E hr,G,ds.map (fun d=>some (O.f,d))++List.replicate (N.length-ps.length) none,[],⟨?_,RM,(fun _ h=>nomatch h),gh⟩,?_⟩
   ·have:=ju (K:=K) (G:=G) (H:=H) (N.length-ps.length) rs;unfold L2.start;rw[rs.length,hl];exact this
   ·obtain⟨o,eo,e⟩:=ai e;rw[eo];cases o with
    |rt r'=>
     cases e;exact fun v H' G' Fm st rel=>q v H' G' Fm st rel
    |nx env'=>
     cases e;exact fun σ' H' G' Fm st rel=>q .non H' G' [] (st.trans (Step.cut fun _ h=>nomatch h)) (rel.nilF.push lu)
    |bk env'=>cases e
    |ct env'=>cases e
  ·cases e
def cj(ix:List (Option Nat))(env:PV.Env):PV.Env:=ix.map fun j=>j.bind fun j=>match env[j]? with
 |some (some r)=>some (O.f,r.2)
 |_=>none
def cW:FT:=fun env=>.ok (true,env)
def bX(a:FG)(c:FT)(f:FX):List D->PV.Env->Res (List D)
 |[],_=>.ok []
 |d::ds,env=>(a d env).bind fun e=>(c e).bind fun p=>if p.1 then(f p.2).bind fun q=>(bX a c f ds q.2).bind fun rs=>.ok (q.1.2::rs) else bX a c f ds p.2
def cB(fi:FI)(ix:List (Option Nat))(a:FG)(c:FT)(f:FX):FX:=fun env=>(fi env).bind fun p=>(bX a c f p.1 (cj ix p.2)).bind fun ds=>if ds.length<=sizeLine then .ok ((.l .f,.lst ds),if flatDs ds then p.2 else p.2.map frz) else .bad
theorem lz:∀ds,ds.all (bu .f)=flatDs ds
 |[]=>rfl
 |d::ds=>by rw[S6,flatDs,lz ds,bu]
theorem d5{K:W.Frag}{G1 H:Hp}{es:PV.Env}{σ:L2.St}(ht:∀(i:Nat) (r:R) (v:V),es[i]?=some (some r)->σ[i]?=some (some v)->Rep K G1 r.2 v)(hv:∀(i:Nat) (r:R),es[i]?=some (some r)->∃v,σ[i]?=some (some v)):
  ∀ix:List (Option Nat),RepE K G1 H (cj ix es) (iI ix σ) []
 |[]=>⟨rfl,rfl⟩
 |none::ix=>⟨none,_,rfl,d5 ht hv ix⟩
 |some j::ix=>by
  show RepE K G1 H ((match es[j]? with|some (some r)=>some (O.f,r.2)|_=>none)::cj ix es) ((σ[j]?).bind id::iI ix σ) [];cases e:es[j]? with
  |none=>exact⟨_,_,rfl,d5 ht hv ix⟩
  |some r=>
   cases r with
   |none=>exact⟨_,_,rfl,d5 ht hv ix⟩
   |some r=>
    obtain⟨v,ev⟩:=hv j r e;refine⟨_,_,rfl,v,[],[],?_,rfl,gY.mpr ⟨ht j r v e ev,rfl⟩,d5 ht hv ix⟩;rw[ev];rfl
section
variable{md:Mode}{X:Cx}{scope:Scope}{N:List Str}{tg iter elt:Expr}{ifs:List Expr}{pos:Pos}{fi:FI}{a:FG}{c:FT}{f:FX}
def Nj(X:Cx)(ifs:List Expr)(c:FT):Prop:=MG X ifs (tQT X.K c)
theorem bj:Nj X [] cW:=fun pi s σ H Q I Fs=>by
 obtain⟨G,env,fp,b,env',rel,e,k⟩:=Fs;cases e;exact xO pi s σ H Q I (k H G fp .refl rel)
theorem yi{t:Expr}(h:QT X t c):Nj X [t] c:=xP h
end
section
variable{X:Cx}
inductive rCatS(K:W.Frag)(x:V)(y:V)(H:Hp)(Q:VK):Prop
 |mk:∀l b xs zs,x=.ref l->y=.ref b->SqL K H l xs->SqL K H b zs->xs.length+zs.length<=sizeLine->(∀p,H p=none->Q (.ref p) (upd H p (.lst (xs++zs))))->rCatS K x y H Q
theorem yj:F3 X (binaryOp .Add) (rCatS X.K):=by
 intro pi s σ H x y v u Q I rx ry h;obtain⟨l,b,xs,zs,rfl,rfl,hH,hB,hz,q⟩:=h;cases rx;cases ry;obtain⟨Fg,r1,p1,_⟩:=I.list hH;obtain⟨JI,r2,p2,_⟩:=I.list hB;have l1:=r1.length;have l2:=r2.length;obtain⟨⟨cls,dd,data,sl⟩,ho,hc,n,hd⟩:=id p1.isList;obtain⟨⟨LH,Kt,data2,Ku⟩,Hx,Hf,n2,hd2⟩:=id p2.isList;simp only at hc hd Hf hd2;subst hc hd Hf hd2;have e:Fg.toArray++JI.toArray=(Fg++JI).toArray:=by simp
 refine Up ⟨_,ho,rfl⟩ ⟨_,Hx,rfl⟩ noFill_list_add seq_list_add PySem.F.slot_list_add PySem.F.entry_list_add (PySem.F.args_list_add_2 _ _) (list_addW l b Fg.toArray JI.toArray n n2 dd Kt sl Ku (by rw[P6,P6];lia)) ⟨ho,Hx,?_⟩;rw[e];exact⟨.ref _,_,I.lnew (t':=s.toks) (r1.append r2) (by rw[QU];lia),rfl,q _ I.fresh⟩
end
noncomputable def addD:D->D->Res R
 | .int i,.int j=>.ok (.f,.int (i+j))
 | .str a,.str b=>if a.length+b.length<=sizeLine then .ok (.f,.str (a++b)) else .bad
 | .lst a,.lst b=>if a.length+b.length<=sizeLine then .ok (.l .f,.lst (a++b)) else .bad
 | .tup a,.tup b=>if a≠[]/\a.length+b.length<=sizeLine then .ok (.f,.tup (a++b)) else .bad
 |_,_=>.bad
section
variable{X:Cx}
theorem lA{K:W.Frag}{G H:Hp}{fp:List Addr}{es:PV.Env}{vs:L2.St}{ds:List D}{xs:List V}{p:Addr}(rel:Rel K G H es vs fp)(hp:H p=none)(r:Reps K G ds xs):
  ∃G',Rel K G' (upd H p (.tup xs)) (some (.f,.tup ds)::es) (some (.ref p)::vs) fp/\Step G H fp G' (upd H p (.tup xs)) fp:=by
 obtain⟨Fe,Fo⟩:=rel.newF (u:=.tup xs) hp;refine⟨_,Fe.push ?_,Fo⟩;rw[Rep];exact⟨p,xs,rfl,aV,r.mono Fo.gg⟩
theorem AQ:F3 X (binaryOp .Add) (rG X.K addD):=by
 rintro pi s σ H x y v u Q I rx ry ⟨G,fp,es,vs,a,b,r,⟨rel,k⟩,va,vb,e⟩;unfold addD at e;split at e
 ·rename_i i j;cases e;cases bE va;cases bE vb;exact Ah pi s σ H _ _ v u Q I rx ry ⟨i,j,rfl,rfl,k _ H G fp .refl (rel.push (aU _))⟩
 ·rename_i i j;split at e
  ·rename_i hl;cases e;obtain⟨e1,h1⟩:=fC va;obtain⟨e2,h2⟩:=fC vb;subst e1;subst e2;refine qb pi s σ H _ _ v u Q I rx ry ⟨_,_,rfl,rfl,by rw[kh,kh];exact hl,?_⟩;rw[C0];exact k _ H G fp .refl (rel.push (gI (by rw[QU];exact hl)))
  ·cases e
 ·rename_i i j;split at e
  ·rename_i hl;cases e;obtain⟨p,xs,e1,h1,r1⟩:=va;obtain⟨p2,MI,e2,h2,r2⟩:=vb;subst e1;subst e2;refine yj pi s σ H _ _ v u Q I rx ry ⟨p,p2,xs,MI,rfl,rfl,h1,h2,by rw[r1.length,r2.length];exact hl,fun q hq=>?_⟩;obtain⟨Fe,Fo⟩:=rel.newL hq (r1.app r2);exact k _ _ G _ Fo Fe
  ·cases e
 ·rename_i i j;split at e
  ·rename_i hl;cases e;obtain⟨p,xs,e1,h1,r1⟩:=gZ va;obtain⟨p2,MI,e2,h2,r2⟩:=gZ vb;subst e1;subst e2;have hx:xs≠[]:=fun z=>hl.1 (Ro (by rw[<-r1.length,z];rfl))
   refine xJ pi s σ H _ _ v u Q I rx ry ⟨p,p2,xs,MI,rfl,rfl,bO rel.gh h1,bO rel.gh h2,hx,by rw[r1.length,r2.length];exact hl.2,fun z=>?_,fun z q hq=>?_⟩
   ·have:j=[]:=Ro (by rw[<-r2.length,z];rfl);subst this;rw[QR]at k;exact k _ H G fp .refl (rel.push va)
   ·obtain⟨G',Fe,Fo⟩:=lA rel hq (r1.app r2);exact k _ _ G' _ Fo Fe
  ·cases e
 ·cases e
def oi:D->D->Res R
 | .int i,.int j=>.ok (.f,.int (i-j))
 |_,_=>.bad
theorem jv:F3 X (binaryOp .Sub) (rG X.K oi):=by
 rintro pi s σ H x y v u Q I rx ry ⟨G,fp,es,vs,a,b,r,⟨rel,k⟩,va,vb,e⟩;unfold oi at e;split at e
 ·rename_i i j;cases e;cases bE va;cases bE vb;exact Ai pi s σ H _ _ v u Q I rx ry ⟨i,j,rfl,rfl,k _ H G fp .refl (rel.push (aU _))⟩
 ·cases e
def b9(i:Int):Bool:=decide (-(2 ^ 64)<i/\i<2 ^ 64)
def Dk:D->D->Res R
 | .int i,.int j=>if b9 i||b9 j then .ok (.f,.int (i*j)) else .bad
 |_,_=>.bad
theorem AR:F3 X (binaryOp .Mult) (rG X.K Dk):=by
 rintro pi s σ H x y v u Q I rx ry ⟨G,fp,es,vs,a,b,r,⟨rel,k⟩,va,vb,e⟩;unfold Dk at e;split at e
 ·rename_i i j;split at e
  ·rename_i hc;cases e;cases bE va;cases bE vb;have hc:CMul i j:=by
    rw[Us]at hc;exact hc.imp Sa Sa
   exact Aj pi s σ H _ _ v u Q I rx ry ⟨i,j,rfl,rfl,hc,k _ H G fp .refl (rel.push (aU _))⟩
  ·cases e
 ·cases e
def gq:D->D->Res R
 | .int i,.int j=>if 0<j/\j<1073741824 then .ok (.f,.int (i / j)) else .bad
 |_,_=>.bad
theorem dR:F3 X (binaryOp .FloorDiv) (rG X.K gq):=by
 rintro pi s σ H x y v u Q I rx ry ⟨G,fp,es,vs,a,b,r,⟨rel,k⟩,va,vb,e⟩;unfold gq at e;split at e
 ·rename_i i j;split at e
  ·rename_i hc;cases e;cases bE va;cases bE vb;exact xB pi s σ H _ _ v u Q I rx ry ⟨i,j,rfl,rfl,hc,k _ H G fp .refl (rel.push (aU _))⟩
  ·cases e
 ·cases e
def iK:D->D->Res R
 | .int i,.int j=>if 0<j then .ok (.f,.int (i%j)) else .bad
 |_,_=>.bad
theorem cX:F3 X (binaryOp .Mod) (rG X.K iK):=by
 rintro pi s σ H x y v u Q I rx ry ⟨G,fp,es,vs,a,b,r,⟨rel,k⟩,va,vb,e⟩;unfold iK at e;split at e
 ·rename_i i j;split at e
  ·rename_i hc;cases e;cases bE va;cases bE vb;exact Ak pi s σ H _ _ v u Q I rx ry ⟨i,j,rfl,rfl,hc,k _ H G fp .refl (rel.push (aU _))⟩
  ·cases e
 ·cases e
def zJ:D->D->Res R
 | .int i,.int j=>if 0<=j/\j<=1000000/\i.natAbs<2 ^ 64 then .ok (.f,.int (i ^ j.toNat)) else .bad
 |_,_=>.bad
theorem AS:F3 X (binaryOp .Pow) (rG X.K zJ):=by
 rintro pi s σ H x y v u Q I rx ry ⟨G,fp,es,vs,a,b,r,⟨rel,k⟩,va,vb,e⟩;unfold zJ at e;split at e
 ·rename_i i j;split at e
  ·rename_i hc;cases e;cases bE va;cases bE vb;exact Al pi s σ H _ _ v u Q I rx ry ⟨i,j,rfl,rfl,hc,k _ H G fp .refl (rel.push (aU _))⟩
  ·cases e
 ·cases e
def MH:D->D->Res R
 | .int i,.int j=>.ok (.f,.bl (decide (i<j)))
 | .str a,.str b=>.ok (.f,.bl (decide (a<b)))
 |_,_=>.bad
theorem Dl:F3 X (compareOp .Lt) (rG X.K MH):=by
 rintro pi s σ H x y v u Q I rx ry ⟨G,fp,es,vs,a,b,r,⟨rel,k⟩,va,vb,e⟩;unfold MH at e;split at e
 ·rename_i i j;cases e;cases bE va;cases bE vb;exact CQ pi s σ H _ _ v u Q I rx ry ⟨i,j,rfl,rfl,k _ H G fp .refl (rel.push (cP _))⟩
 ·rename_i i j;cases e;obtain⟨e1,h1⟩:=fC va;obtain⟨e2,h2⟩:=fC vb;subst e1;subst e2;refine qY pi s σ H _ _ v u Q I rx ry ⟨_,_,rfl,rfl,?_⟩;rw[dC,dC];exact k _ H G fp .refl (rel.push (cP _))
 ·cases e
def leD:D->D->Res R
 | .int i,.int j=>.ok (.f,.bl (decide (i<=j)))
 | .str a,.str b=>.ok (.f,.bl (!decide (b<a)))
 |_,_=>.bad
def Oc:D->D->Res R
 | .int i,.int j=>.ok (.f,.bl (decide (j<i)))
 |_,_=>.bad
theorem Dm:F3 X (compareOp .Gt) (rG X.K Oc):=by
 rintro pi s σ H x y v u Q I rx ry ⟨G,fp,es,vs,a,b,r,⟨rel,k⟩,va,vb,e⟩;unfold Oc at e;split at e
 ·rename_i i j;cases e;cases bE va;cases bE vb;exact CS pi s σ H _ _ v u Q I rx ry ⟨i,j,rfl,rfl,k _ H G fp .refl (rel.push (cP _))⟩
 ·cases e
def geD:D->D->Res R
 | .int i,.int j=>.ok (.f,.bl (decide (j<=i)))
 |_,_=>.bad
end
abbrev FDs:=PV.Env->Res (List D×PV.Env)
inductive tDs(K:W.Frag)(f:FDs)(σ:L2.St)(H:Hp)(Q:List V->Hp->Prop):Prop
 |mk:∀G env fp ds env',Rel K G H env σ fp->f env=.ok (ds,env')->(∀vs H' G' Fm,Step G H fp G' H' Fm->Rel K G' H' env' σ Fm->Reps K G' ds vs->Q vs H')->tDs K f σ H Q
def Nk(X:Cx)(es:List Expr)(f:FDs):Prop:=PA X es (tDs X.K f)
def bG:FDs:=fun env=>.ok ([],env)
def aF(f:FX)(g:FDs):FDs:=fun env=>(f env).bind fun p=>(g p.2).bind fun q=>.ok (p.1.2::q.1,q.2)
section
variable{X:Cx}
theorem aN:Nk X [] bG:=kz jj fun σ H Q Fs=>by
 obtain⟨G,env,fp,o,env',rel,e,k⟩:=Fs;cases e;exact k [] H G fp .refl rel .nil
theorem aw{e:Expr}{es:List Expr}{f:FX}{g:FDs}(h:QE X e f)(hs:Nk X es g)(JU:starEach (e::es) X.env=(false,eval e X.env)::starEach es X.env:=by rfl):Nk X (e::es) (aF f g):=
 kz (eh h hs JU) fun σ H Q Fs=>by
  obtain⟨G,env,fp,o,env',rel,e,k⟩:=Fs;obtain⟨⟨r,Fd⟩,e1,e⟩:=ai e;obtain⟨⟨ds,Fl⟩,e2,e⟩:=ai e;cases e;refine⟨G,env,fp,r,Fd,rel,e1,fun v H1 G1 FE Fx Fh=>?_⟩;obtain⟨G2,b,rv,Fe,Fo⟩:=Fh.freeze;exact⟨G2,Fd,b,ds,Fl,Fe,e2,fun vs H3 G3 HC FQ FC rs=>k _ H3 G3 HC (Fx.trans (Fo.trans FQ)) FC (.cons (Rep.mono FQ.gg rv) rs)⟩
def jb(fs:FDs):FX:=fun env=>(fs env).bind fun p=>if p.1.length<=1000 then .ok ((.f,.tup p.1),p.2) else .bad
def kc(fs:FDs):FX:=fun env=>(fs env).bind fun p=>if p.1.length<=1000 then .ok ((.l .f,.lst p.1),p.2) else .bad
variable{es:List Expr}{fs:FDs}{pos:Pos}
theorem cG{x1}(h:Nk X es fs):QE X (.Tuple es x1 pos) (jb fs):=bK (wz h) fun σ H Q Fs=>by
 obtain⟨G,env,fp,r,env',rel,e,k⟩:=Fs;obtain⟨⟨ds,Fd⟩,e1,e⟩:=ai e;dsimp only at e;split at e
 ·rename_i hl;cases e;refine⟨G,env,fp,ds,env',rel,e1,fun vs H1 G1 FE Fx Fh rs=>⟨by rw[rs.length,line_eq];lia,fun p hp=>?_⟩⟩;obtain⟨G2,Fe,Fo⟩:=lA Fh hp rs;exact k _ _ G2 _ (Fx.trans Fo) Fe
 ·cases e
theorem cY(h:Nk X es fs):QE X (.List es pos) (kc fs):=bK (Am h) fun σ H Q Fs=>by
 obtain⟨G,env,fp,r,env',rel,e,k⟩:=Fs;obtain⟨⟨ds,Fd⟩,e1,e⟩:=ai e;dsimp only at e;split at e
 ·rename_i hl;cases e;refine⟨G,env,fp,ds,env',rel,e1,fun vs H1 G1 FE Fx Fh rs=>⟨by rw[rs.length,line_eq];lia,fun p hp=>?_⟩⟩;obtain⟨Fe,Fo⟩:=Fh.newL hp rs;exact k _ _ G1 _ (Fx.trans Fo) Fe
 ·cases e
noncomputable def FF:D->D->Res R
 | .lst ds,.int i=>match Gw ds i with
  |some d=>.ok (.f,d)
  |none=>.bad
 | .tup ds,.int i=>match Gw ds i with
  |some d=>.ok (.f,d)
  |none=>.bad
 | .str l,.int i=>match Gw l i with
  |some c=>.ok (.f,.str [c])
  |none=>.bad
 |_,_=>.bad
theorem pw{K:W.Frag}{G:Hp}{ds:List D}{xs:List V}{i:Int}{d:D}(r:Reps K G ds xs)(e:Gw ds i=some d):∃v,Gw xs i=some v/\Rep K G d v:=by
 unfold Gw at e ⊢;rw[r.length];cases hn:ixN ds.length i with
 |none=>rw[hn]at e;cases e
 |some j=>
  rw[hn]at e;exact r.get e
theorem Dn:MW X (rG X.K FF):=by
 rintro value slice pi s σ H x y v u Q I rx ry ⟨G,fp,es,vs,a,b,r,⟨rel,k⟩,va,vb,e⟩ hs;unfold FF at e;split at e
 ·rename_i ds i;split at e
  ·rename_i d hd;cases e;obtain⟨p,xs,ev,sq,rs⟩:=va;subst ev;cases bE vb;obtain⟨w',hw,JJ⟩:=pw rs hd;exact rB value slice pi s σ H _ _ v u Q I rx ry ⟨p,xs,i,w',rfl,rfl,sq,hw,k _ H G fp .refl (rel.push JJ)⟩ hs
  ·cases e
 ·rename_i ds i;split at e
  ·rename_i d hd;cases e;obtain⟨p,xs,ev,sq,rs⟩:=gZ va;subst ev;cases bE vb;obtain⟨w',hw,JJ⟩:=pw rs hd;exact Aq value slice pi s σ H _ _ v u Q I rx ry ⟨p,xs,i,w',rfl,rfl,bO rel.gh sq,hw,k _ H G fp .refl (rel.push JJ)⟩ hs
  ·cases e
 ·rename_i l i;split at e
  ·rename_i c hc;cases e;obtain⟨ev,hl⟩:=fC va;subst ev;cases bE vb;refine Ar value slice pi s σ H _ _ v u Q I rx ry ⟨_,i,c,rfl,rfl,by rw[kh];exact hl,by rw[dC];exact hc,?_⟩ hs;exact k _ H G fp .refl (rel.push (gI (l:=[c]) (by rw[line_eq];simp)))
  ·cases e
 ·cases e
variable{a b:Expr}{fa fb:FO}
theorem a7(ha:QO X a fa)(hb:QO X b fb)(hs:nV b:=by exact fun _ _=>rfl):QE X (.Subscript a b pos) (aE FF fa fb):=bK (Ap Dn ha hb hs) fun _ _ _=>sf
abbrev FP:=PV.Env->Res (Option Int×PV.Env)
inductive tQP(K:W.Frag)(f:FP)(σ:L2.St)(H:Hp)(Q:Option Int->Hp->Prop):Prop
 |mk:∀G env fp i env',Rel K G H env σ fp->f env=.ok (i,env')->(∀H' G' Fm,Step G H fp G' H' Fm->Rel K G' H' env' σ Fm->Q i H')->tQP K f σ H Q
def QP(X:Cx)(e:Option Expr)(f:FP):Prop:=PO X e (tQP X.K f)
def qp:FP:=fun env=>.ok (none,env)
def jw(f:FX):FP:=fun env=>(f env).bind fun p=>match p.1.2 with
 | .int i=>.ok (some i,p.2)
 |_=>.bad
theorem wV{X:Cx}{e:Option Expr}{t t':TO}(h:PO X e t)(k:∀σ H Q,t' σ H Q->t σ H Q):PO X e t':=fun pi s σ H Q I w=>h pi s σ H Q I (k σ H Q w)
theorem lB:QP X none qp:=wV xH fun σ H Q Fs=>by
 obtain⟨G,env,fp,i,env',rel,e,k⟩:=Fs;cases e;exact k H G fp .refl rel
theorem eI{e:Expr}{f:FX}(h:QE X e f):QP X (some e) (jw f):=wV (xI h) fun σ H Q Fs=>by
 obtain⟨G,env,fp,i,env',rel,e,k⟩:=Fs;obtain⟨⟨⟨o,d⟩,Fd⟩,e1,e⟩:=ai e;dsimp only at e;split at e
 ·rename_i j;cases e;refine⟨G,env,fp,_,_,rel,e1,fun v H1 G1 FE Fx Fh=>?_⟩;have hv:=Fh.top;obtain⟨b,Fe,Fo⟩:=Fh.drop;exact⟨j,bz hv,k H1 G1 b (Fx.trans Fo) Fe⟩
 ·cases e
def gS{α:Type}(xs:List α)(lo hi:Option Int):List α:=(xs.drop (HT.sIx xs.length 0 lo)).take (HT.sIx xs.length xs.length hi-HT.sIx xs.length 0 lo)
noncomputable def Nl(k:D)(lo hi:Option Int):Res R:=match k with
 | .lst ds=>.ok (.l .f,.lst (gS ds lo hi))
 | .tup ds=>if ¬ (HT.sIx ds.length 0 lo=0/\HT.sIx ds.length ds.length hi=ds.length) then .ok (.f,.tup (gS ds lo hi)) else .bad
 | .str l=>.ok (.f,.str (gS l lo hi))
 |_=>.bad
def eSl(fa:FO)(lo hi:FP):FX:=fun env=>(fa env).bind fun p=>(lo p.2).bind fun q=>(hi q.2).bind fun t=>(Gx t.2 p.1).bind fun d=>(Nl d q.1 t.1).bind fun r=>.ok (r,t.2)
theorem px{K:W.Frag}{G:Hp}{ds:List D}{xs:List V}{lo hi:Option Int}(r:Reps K G ds xs):Reps K G (gS ds lo hi) (wC xs lo hi):=by
 unfold gS wC;rw[r.length];exact(r.drop _).take _
theorem yk{α:Type}(xs:List α)(lo hi:Option Int):(gS xs lo hi).length<=xs.length:=by
 unfold gS;rw[Qy,RX];lia
inductive rSl(K:W.Frag)(x:V)(lo:Option Int)(hi:Option Int)(H:Hp)(Q:VK):Prop
 |mk:∀G fp es vs d r,Goes K H G fp es vs r Q->Vw K G H d x->Nl d lo hi=.ok r->rSl K x lo hi H Q
theorem AU:LK X (rSl X.K):=by
 rintro pi s σ H x v vl vu lo hi sl Q I rx hs pl pu ⟨G,fp,es,vs,d,r,⟨rel,k⟩,vd,e⟩;unfold Nl at e;split at e
 ·rename_i ds;cases e;obtain⟨p,xs,ev,sq,rs⟩:=vd;subst ev;refine xK pi s σ H _ v vl vu lo hi sl Q I rx hs pl pu ⟨p,xs,rfl,sq,fun q hq=>?_⟩;obtain⟨Fe,Fo⟩:=rel.newL hq (px (lo:=lo) (hi:=hi) rs);exact k _ _ G _ Fo Fe
 ·rename_i ds;split at e
  ·rename_i hw;cases e;obtain⟨p,xs,ev,sq,rs⟩:=gZ vd;subst ev;refine Ao pi s σ H _ v vl vu lo hi sl Q I rx hs pl pu ⟨p,xs,rfl,bO rel.gh sq,by rw[rs.length];exact hw,fun q hq=>?_⟩;obtain⟨G2,Fe,Fo⟩:=lA rel hq (px (lo:=lo) (hi:=hi) rs);exact k _ _ G2 _ Fo Fe
  ·cases e
 ·rename_i l;cases e;obtain⟨ev,hl⟩:=fC vd;subst ev;exact Ay pi s σ H _ v vl vu lo hi sl Q I rx hs pl pu ⟨l,rfl,hl,k _ H G fp .refl (rel.push (gI (l:=Ax l lo hi) (Rh (yk l lo hi) hl)))⟩
 ·cases e
def su(env:PV.Env)(i:Nat):Bool:=match env[i]? with
 |some (some (_,.lst _))=>true
 |_=>false
theorem vB{K:W.Frag}{G H:Hp}{es:PV.Env}{σ:L2.St}{fp:List Addr}{i:Nat}(rel:Rel K G H es σ fp)(h:su es i=true):∃v,σ[i]?=some (some v)/\OA K "list" v H:=by
 unfold su at h;split at h
 ·rename_i o ds hr;obtain⟨v,ev,rv⟩:=rel.view hr;obtain⟨p,xs,e,sq,_⟩:=bC rv;subst e;exact⟨_,ev,.inl ⟨rfl,xs,sq⟩⟩
 ·cases h
def oj(i:Nat)(f:FX):FX:=fun env=>if su env i then(f env).bind fun p=>match p.2[i]? with
 |some (some (.l .f,.lst ds))=>if ds.length<sizeLine then .ok ((.f,.non),p.2.set i (some (.l .f,.lst (ds++[p.1.2])))) else .bad
 |_=>.bad
 else .bad
theorem bS{i:Nat}{o e:Expr}{f:FX}{apos Fw:Pos}(ho:PE X o (qL i))(he:QE X e f)
  (Ge:attributeBase o "append" X.env (eval o X.env)=eval o X.env:=by rfl)
  (Hi:((backTo Fw (starEach [e] X.env)).all (fun x=>!x.1)&&(backToKw Fw (keywordEach [] X.env)).all (fun x=>x.1.isSome)&&decide ([e].length+([]:List Keyword).length+(if([]:List Keyword).isEmpty then 0 else 1)<30))=true:=by rfl)
  (Gf:(apos.endLine==Fw.line)=true:=by rfl) (hs:starEach [e] X.env=(false,eval e X.env)::starEach [] X.env:=by rfl) (FR:(backTo Fw (starEach [] X.env)).any (·.1)=false:=by rfl):
  QE X (.Call (.Attribute o "append" apos) [e] [] Fw) (oj i f):=by
 refine bK (uR SJ TH TJ jl ho (aw he aN hs) Ge Hi Gf hs FR) fun σ H Q Fz=>?_
 obtain⟨G,env,fp,r,env',rel,e,k⟩:=Fz;unfold oj at e;split at e
 ·rename_i MJ;obtain⟨v,ev,ty⟩:=vB rel MJ;obtain⟨⟨r1,Fd⟩,e1,e⟩:=ai e;dsimp only at e;split at e
  ·rename_i ds LJ;split at e
   ·rename_i hl;cases e;refine⟨v,ev,ty,G,env,fp,[r1.2],Fd,rel,by show(f env).bind _=_;rw[e1];rfl,fun vs H1 G1 FE Fx Fh rs=>?_⟩;rw[Reps]at rs;obtain⟨y,ys,eys,ry,rn⟩:=rs;rw[Reps]at rn;subst rn;obtain⟨p,xs,ep,hp,Nm,cg⟩:=Fh.chg (ds':=ds++[r1.2]) LJ;rw[ev]at ep;cases ep;obtain⟨fq,Fe,Fo⟩:=cg (xs++[y]) (Nm.app (.one ry));exact⟨p,xs,y,rfl,eys,hp,by rw[Nm.length];exact hl,k _ _ G1 fq (Fx.trans Fo) (Fe.push lu)⟩
   ·cases e
  ·cases e
 ·cases e
def Dp:List D->Res R
 |[.lst ds]=>.ok (.f,.int ds.length)
 |[.tup ds]=>.ok (.f,.int ds.length)
 |[.str l]=>.ok (.f,.int l.length)
 |_=>.bad
theorem kB{K:W.Frag}{G H:Hp}{d:D}{xs:List V}(h:Lz K G H [d] xs):∃v,xs=[v]/\Vw K G H d v:=by
 obtain⟨y,ys,e,v1,e2⟩:=h;have e2:ys=[]:=e2;subst e2;exact⟨y,e,v1⟩
theorem Ef{K:W.Frag}{G H:Hp}{d d':D}{xs:List V}(h:Lz K G H [d,d'] xs):∃v w,xs=[v,w]/\Vw K G H d v/\Vw K G H d' w:=by
 obtain⟨y,ys,e,v1,h2⟩:=h;obtain⟨z,e2,v2⟩:=kB h2;subst e2;exact⟨y,z,e,v1,v2⟩
theorem AV:cZ X (.builtin "len") (rC X.K Dp):=by
 rintro pi s σ H xs us Q I rx ⟨G,fp,es,vs,ds,r,⟨rel,k⟩,vd,e⟩;unfold Dp at e;split at e
 ·rename_i ds;cases e;obtain⟨v,ev,p,ys,ep,sq,rs⟩:=kB vd;subst ev;subst ep;refine iH pi s σ H _ us Q I rx ⟨p,ys,rfl,.inl sq,?_⟩;rw[rs.length];exact k _ H G fp .refl (rel.push (aU _))
 ·rename_i ds;cases e;obtain⟨v,ev,vt⟩:=kB vd;obtain⟨p,ys,ep,sq,rs⟩:=gZ vt;subst ev;subst ep;refine iH pi s σ H _ us Q I rx ⟨p,ys,rfl,.inr (bO rel.gh sq),?_⟩;rw[rs.length];exact k _ H G fp .refl (rel.push (aU _))
 ·rename_i l;cases e;obtain⟨v,ev,vt⟩:=kB vd;obtain⟨ep,hl⟩:=fC vt;subst ev;subst ep;refine me pi s σ H _ us Q I rx ⟨S l,rfl,by rw[kh];exact hl,?_⟩;rw[kh];exact k _ H G fp .refl (rel.push (aU _))
 ·cases e
def EV:List D->Res R
 |[.lst ds]=>.ok (.l .f,.lst ds)
 |[.tup ds]=>.ok (.l .f,.lst ds)
 |_=>.bad
def cu:List D->Res R
 |[.lst ds]=>.ok (.f,.tup ds)
 |[.tup ds]=>.ok (.f,.tup ds)
 |_=>.bad
theorem b6:cZ X (.type "tuple") (rC X.K cu):=by
 rintro pi s σ H xs us Q I rx ⟨G,fp,es,vs,ds,r,⟨rel,k⟩,vd,e⟩;unfold cu at e;split at e
 ·rename_i ds;cases e;obtain⟨v,ev,p,ys,ep,sq,rs⟩:=kB vd;subst ev;subst ep;refine gT pi s σ H _ us Q I rx ⟨p,ys,rfl,.inl ⟨sq,fun q hq=>?_⟩⟩;obtain⟨G2,Fe,Fo⟩:=lA rel hq rs;exact k _ _ G2 _ Fo Fe
 ·rename_i ds;cases e;obtain⟨v,ev,vt⟩:=kB vd;obtain⟨p,ys,ep,sq,rs⟩:=gZ vt;subst ev;subst ep;exact gT pi s σ H _ us Q I rx ⟨p,ys,rfl,.inr ⟨bO rel.gh sq,k _ H G fp .refl (rel.push vt)⟩⟩
 ·cases e
def km:List D->Option (List Bool)
 |[]=>some []
 | .bl b::ds=>(km ds).map (b:: ·)
 |_=>none
def cv:List D->Option (List Int)
 |[]=>some []
 | .int b::ds=>(cv ds).map (b:: ·)
 |_=>none
theorem ik{K:W.Frag}{G:Hp}:∀{ds:List D}{bs:List Bool}{xs:List V},km ds=some bs->Reps K G ds xs->xs=bs.map V.bl
 |[],_,_,e,r=>by
  cases e;rw[Reps]at r;exact r
 | .bl b::ds,_,_,e,r=>by
  rw[km,QA]at e;obtain⟨bs,e1,e2⟩:=e;subst e2;rw[Reps]at r;obtain⟨y,ys,e3,r1,r2⟩:=r;rw[e3,cQ r1,ik e1 r2];rfl
 | .non::_,_,_,e,_ | .int _::_,_,_,e,_ | .str _::_,_,_,e,_ | .tup _::_,_,_,e,_ | .lst _::_,_,_,e,_ | .dct _ _ _::_,_,_,e,_=>by simp[km]at e
theorem gJ{K:W.Frag}{G:Hp}:∀{ds:List D}{bs:List Int}{xs:List V},cv ds=some bs->Reps K G ds xs->xs=bs.map V.int
 |[],_,_,e,r=>by
  cases e;rw[Reps]at r;exact r
 | .int b::ds,_,_,e,r=>by
  rw[cv,QA]at e;obtain⟨bs,e1,e2⟩:=e;subst e2;rw[Reps]at r;obtain⟨y,ys,e3,r1,r2⟩:=r;rw[e3,bz r1,gJ e1 r2];rfl
 | .non::_,_,_,e,_ | .bl _::_,_,_,e,_ | .str _::_,_,_,e,_ | .tup _::_,_,_,e,_ | .lst _::_,_,_,e,_ | .dct _ _ _::_,_,_,e,_=>by simp[cv]at e
theorem il(ns:List Int):cv (ns.map D.int)=some ns:=by
 induction ns with
 |nil=>rfl
 |cons n ns ih=>rw[Qn,cv,ih];rfl
theorem mK(ns:List Bool):km (ns.map D.bl)=some ns:=by
 induction ns with
 |nil=>rfl
 |cons n ns ih=>rw[Qn,km,ih];rfl
def jx:D->Option (List D)
 | .lst ds=>some ds
 | .tup ds=>some ds
 |_=>none
theorem om{K:W.Frag}{G H:Hp}{d:D}{ds:List D}{v:V}(gh:Same G H)(e:jx d=some ds)(h:Vw K G H d v):∃p xs,v=.ref p/\(SqL K H p xs\/SqT K H p xs)/\Reps K G ds xs:=by
 cases d with
 |lst es=>
  cases e;obtain⟨p,xs,ev,sq,rs⟩:=h;exact⟨p,xs,ev,.inl sq,rs⟩
 |tup es=>
  cases e;obtain⟨p,xs,ev,sq,rs⟩:=bp h;exact⟨p,xs,ev,.inr (bO gh sq),rs⟩
 |_=>cases e
def AW:List D->Res R
 |[d]=>match(jx d).bind km with
  |some bs=>.ok (.f,.bl (bs.all id))
  |none=>.bad
 |_=>.bad
def zL:List D->Res R
 |[d]=>match(jx d).bind km with
  |some bs=>.ok (.f,.bl (bs.any id))
  |none=>.bad
 |_=>.bad
theorem pA(bs:List Bool):(bs.map V.bl).all Cw=true:=by
 rw[Rf,Qp];intro b _;rfl
theorem ym(bs:List Bool):(bs.map V.bl).all wI=bs.all id:=by
 rw[Rf];rfl
theorem yn(bs:List Bool):(bs.map V.bl).any wI=bs.any id:=by
 rw[RN];rfl
theorem AX(hc:X.calm=true):cZ X (.builtin "all") (rC X.K AW):=by
 rintro pi s σ H xs us Q I rx ⟨G,fp,es,vs,ds,r,⟨rel,k⟩,vd,e⟩;unfold AW at e;split at e
 ·rename_i d;split at e
  ·rename_i bs hb;cases e;obtain⟨l,hl,hb⟩:=Qz.mp hb;obtain⟨v,ev,vt⟩:=kB vd;obtain⟨p,ys,ep,sq,rs⟩:=om rel.gh hl vt;have:=ik hb rs;subst this;subst ev;subst ep;refine uX hc pi s σ H _ us Q I rx ⟨p,_,rfl,sq,pA bs,?_⟩;rw[ym];exact k _ H G fp .refl (rel.push (cP _))
  ·cases e
 ·cases e
theorem wW(hc:X.calm=true):cZ X (.builtin "any") (rC X.K zL):=by
 rintro pi s σ H xs us Q I rx ⟨G,fp,es,vs,ds,r,⟨rel,k⟩,vd,e⟩;unfold zL at e;split at e
 ·rename_i d;split at e
  ·rename_i bs hb;cases e;obtain⟨l,hl,hb⟩:=Qz.mp hb;obtain⟨v,ev,vt⟩:=kB vd;obtain⟨p,ys,ep,sq,rs⟩:=om rel.gh hl vt;have:=ik hb rs;subst this;subst ev;subst ep;refine uY hc pi s σ H _ us Q I rx ⟨p,_,rfl,sq,pA bs,?_⟩;rw[yn];exact k _ H G fp .refl (rel.push (cP _))
  ·cases e
 ·cases e
def AY:List D->Res R
 |[d]=>match(jx d).bind cv with
  |some ns=>.ok (.f,.int ns.sum)
  |none=>.bad
 |_=>.bad
def maxD:List D->Res R
 |[d]=>match(jx d).bind cv with
  |some (n::ns)=>.ok (.f,.int (mx (n::ns)))
  |_=>.bad
 |[.int i,.int j]=>.ok (.f,.int (if i<j then j else i))
 |_=>.bad
def minD:List D->Res R
 |[d]=>match(jx d).bind cv with
  |some (n::ns)=>.ok (.f,.int (eD (n::ns)))
  |_=>.bad
 |_=>.bad
theorem fF{K:W.Frag}{G H:Hp}{d:D}{ns:List Int}{v:V}(gh:Same G H)(hb:(jx d).bind cv=some ns)(vt:Vw K G H d v):∃p,v=.ref p/\(SqL K H p (ns.map V.int)\/SqT K H p (ns.map V.int)):=by
 obtain⟨l,hl,hb⟩:=Qz.mp hb;obtain⟨p,ys,ep,sq,rs⟩:=om gh hl vt;have:=gJ hb rs;subst this;exact⟨p,ep,sq⟩
theorem AZ(hc:X.calm=true):cZ X (.builtin "sum") (rC X.K AY):=by
 rintro pi s σ H xs us Q I rx ⟨G,fp,es,vs,ds,r,⟨rel,k⟩,vd,e⟩;unfold AY at e;split at e
 ·rename_i d;split at e
  ·rename_i ns hb;cases e;obtain⟨v,ev,vt⟩:=kB vd;obtain⟨p,ep,sq⟩:=fF rel.gh hb vt;subst ev;subst ep;exact rP hc pi s σ H _ us Q I rx ⟨p,ns,rfl,sq,k _ H G fp .refl (rel.push (aU _))⟩
  ·cases e
 ·cases e
end
mutual
noncomputable def Fj:D->D->Bool
 | .non,.non=>true
 | .bl a,.bl b=>a==b
 | .bl a,.int j=>(if a then 1 else 0)==j
 | .int i,.bl b=>i==(if b then 1 else 0)
 | .int i,.int j=>i==j
 | .str a,.str b=>a==b
 | .tup a,.tup b=>iq a b
 | .lst a,.lst b=>iq a b
 |_,_=>false
noncomputable def iq:List D->List D->Bool
 |[],[]=>true
 |a::as,b::bs=>Fj a b&&iq as bs
 |_,_=>false
end
mutual
noncomputable def plainD:Nat->D->Bool
 |n+1,.tup ds=>plainDs n ds
 |n+1,.lst ds=>plainDs n ds
 | 0,.tup _=>false
 | 0,.lst _=>false
 |_,.dct _ _ _=>false
 |_,_=>true
noncomputable def plainDs:Nat->List D->Bool
 |_,[]=>true
 |n,d::ds=>plainD n d&&plainDs n ds
end
theorem plainDs_mem:∀{n:Nat}{ds:List D},plainDs n ds=true->∀{i:Nat}{d:D},ds[i]?=some d->plainD n d=true
 |_,[],_,_,_,e=>by simp at e
 |n,a::ds,h,0,d,e=>by
  rw[plainDs,Qo]at h;simp at e;rw[<-e];exact h.1
 |n,a::ds,h,i+1,d,e=>by
  rw[plainDs,Qo]at h;exact plainDs_mem h.2 (i:=i) (by simpa using e)
theorem g5:∀{a b:List D},a.length≠b.length->iq a b=false
 |[],[],h=>absurd rfl h
 |[],_::_,_=>by simp only[iq]
 |_::_,[],_=>by simp only[iq]
 |x::xs,y::ys,h=>by
  rw[iq,g5 (fun e=>h (by simp[e])),UL]
theorem d6:∀{a b:List D},a.length=b.length->(List.range a.length).all (fun j=>Fj (a.getD j .non) (b.getD j .non))=iq a b
 |[],[],_=>rfl
 |[],_::_,h=>by simp at h
 |_::_,[],h=>by simp at h
 |x::xs,y::ys,h=>by
  rw[iq,<-d6 (a:=xs) (b:=ys) (by simpa using h),Ql,List.range_succ_eq_map,S6,Rf];rfl
section
variable{X:Cx}{pi:List (Addr×Obj)}{σ:L2.St}{H:Hp}{s:Shared}
theorem jy(I:Inv X pi σ H s){p:Addr}{xs ys:List V}(h:SqL X.K H p xs)(h':SqT X.K H p ys):False:=by
 obtain⟨us,_,p1,_⟩:=I.list h;obtain⟨ws,_,p2,_⟩:=I.tuple h';exact SeqAt.ne_of_list_tuple p1.isList (show s.heap.IsTuple p ws.toArray from p2) rfl
mutual
theorem jz(I:Inv X pi σ H s):∀(d e:D) (x:V) (n:Nat),plainD n d=true->Rep X.K H d x->Rep X.K H e x->d=e
 | .non,e,x,n,_,r,q=>by
  cases bZ r;cases e with
  |non=>rfl
  |bl b=>cases cQ q
  |int i=>cases bz q
  |str l=>cases(bx q).1
  |tup l=>obtain⟨p,xs,ev,_⟩:=bp q;cases ev
  |lst l=>obtain⟨p,xs,ev,_⟩:=bC q;cases ev
  |dct tk ks vs=>rw[Rep]at q;obtain⟨p,xs,o,ev,_⟩:=q;cases ev
 | .bl b,e,x,n,_,r,q=>by
  cases cQ r;cases e with
  |non=>cases bZ q
  |bl b=>cases cQ q;rfl
  |int i=>cases bz q
  |str l=>cases(bx q).1
  |tup l=>obtain⟨p,xs,ev,_⟩:=bp q;cases ev
  |lst l=>obtain⟨p,xs,ev,_⟩:=bC q;cases ev
  |dct tk ks vs=>rw[Rep]at q;obtain⟨p,xs,o,ev,_⟩:=q;cases ev
 | .int i,e,x,n,_,r,q=>by
  cases bz r;cases e with
  |non=>cases bZ q
  |bl b=>cases cQ q
  |int i=>cases bz q;rfl
  |str l=>cases(bx q).1
  |tup l=>obtain⟨p,xs,ev,_⟩:=bp q;cases ev
  |lst l=>obtain⟨p,xs,ev,_⟩:=bC q;cases ev
  |dct tk ks vs=>rw[Rep]at q;obtain⟨p,xs,o,ev,_⟩:=q;cases ev
 | .str l,e,x,n,_,r,q=>by
  have hr:=(bx r).1;subst hr;cases e with
  |non=>cases bZ q
  |bl b=>cases cQ q
  |int i=>cases bz q
  |str l'=>
   have hq:=(bx q).1;injection hq with hq;rw[S_inj hq]
  |tup l=>obtain⟨p,xs,ev,_⟩:=bp q;cases ev
  |lst l=>obtain⟨p,xs,ev,_⟩:=bC q;cases ev
  |dct tk ks vs=>rw[Rep]at q;obtain⟨p,xs,o,ev,_⟩:=q;cases ev
 | .tup l,e,x,n,h,r,q=>by
  obtain⟨p,xs,ev,sq,rs⟩:=bp r;subst ev;cases e with
  |non=>cases bZ q
  |bl b=>cases cQ q
  |int i=>cases bz q
  |str l=>cases(bx q).1
  |tup l'=>
   obtain⟨p',G0,Hm,GN,Hy⟩:=bp q;cases Hm;have:=I.tuple_inj sq GN;subst this;cases n with
   |zero=>simp only[plainD]at h;cases h
   |succ n=>
    simp only[plainD]at h;rw[lC I l l' xs n h rs Hy]
  |lst l'=>
   obtain⟨p',G0,Hm,GN,Hy⟩:=bC q;cases Hm;exact(jy I GN sq).elim
  |dct tk ks vs=>
   exfalso;rw[Rep]at q;obtain⟨p',G0,o,Hm,rd,dd,_⟩:=q;cases Hm;obtain⟨Fg,_,ip,_⟩:=I.tuple sq;obtain⟨ob,ho,hc,_⟩:=ip;have Nn:=rd.ok I.hok;cases tk with
   |true=>
    obtain⟨Ff,eo,_⟩:=dd;subst eo;obtain⟨_,_,_,_,o2,_,_,Hx,ex,_⟩:=Nn;rw[ho]at Hx;cases Hx;rw[ex.1]at hc;exact absurd hc (by decide)
   |false=>
    obtain⟨Ff,eo,_⟩:=dd;subst eo;obtain⟨_,_,_,_,o2,_,_,Hx,ex,_⟩:=Nn;rw[ho]at Hx;cases Hx;rw[ex.1]at hc;exact absurd hc (by decide)
 | .lst l,e,x,n,h,r,q=>by
  obtain⟨p,xs,ev,sq,rs⟩:=bC r;subst ev;cases e with
  |non=>cases bZ q
  |bl b=>cases cQ q
  |int i=>cases bz q
  |str l=>cases(bx q).1
  |tup l'=>
   obtain⟨p',G0,Hm,GN,Hy⟩:=bp q;cases Hm;exact(jy I sq GN).elim
  |lst l'=>
   obtain⟨p',G0,Hm,GN,Hy⟩:=bC q;cases Hm;have:=I.list_inj sq GN;subst this;cases n with
   |zero=>simp only[plainD]at h;cases h
   |succ n=>
    simp only[plainD]at h;rw[lC I l l' xs n h rs Hy]
  |dct tk ks vs=>
   exfalso;rw[Rep]at q;obtain⟨p',G0,o,Hm,rd,dd,_⟩:=q;cases Hm;obtain⟨Fg,_,ip,_⟩:=I.list sq;obtain⟨ob,_,ho,hc,_⟩:=ip;have Nn:=rd.ok I.hok;cases tk with
   |true=>
    obtain⟨Ff,eo,_⟩:=dd;subst eo;obtain⟨_,_,_,_,o2,_,_,Hx,ex,_⟩:=Nn;rw[ho]at Hx;cases Hx;rw[ex.1]at hc;exact absurd hc (by decide)
   |false=>
    obtain⟨Ff,eo,_⟩:=dd;subst eo;obtain⟨_,_,_,_,o2,_,_,Hx,ex,_⟩:=Nn;rw[ho]at Hx;cases Hx;rw[ex.1]at hc;exact absurd hc (by decide)
 | .dct _ _ _,_,_,n,h,_,_=>by cases n <;> (simp only[plainD]at h;cases h)
theorem lC(I:Inv X pi σ H s):∀(ds es:List D) (xs:List V) (n:Nat),plainDs n ds=true->Reps X.K H ds xs->Reps X.K H es xs->ds=es
 |[],es,xs,n,_,r,q=>by
  rw[Reps]at r;subst r;cases es with
  |nil=>rfl
  |cons e es=>
   rw[Reps]at q;obtain⟨y,ys,ev,_⟩:=q;cases ev
 |d::ds,es,xs,n,h,r,q=>by
  rw[Reps]at r;obtain⟨y,ys,ev,r1,r2⟩:=r;subst ev;rw[plainDs,Qo]at h;cases es with
  |nil=>
   rw[Reps]at q;cases q
  |cons e es=>
   rw[Reps]at q;obtain⟨y',ys',ev,q1,q2⟩:=q;cases ev;rw[jz I d e y n h.1 r1 q1,lC I ds es ys n h.2 r2 q2]
end
mutual
theorem jc:∀(d:D) (n:Nat),plainD n d=true->Fj d d=true
 | .non,_,_=>by simp only[Fj]
 | .bl _,_,_=>by simp only[Fj,QZ]
 | .int _,_,_=>by simp only[Fj,QZ]
 | .str _,_,_=>by simp only[Fj,QZ]
 | .tup ds,0,h=>by simp only[plainD]at h;cases h
 | .tup ds,n+1,h=>by simp only[plainD]at h;simp only[Fj];exact jA ds n h
 | .lst ds,0,h=>by simp only[plainD]at h;cases h
 | .lst ds,n+1,h=>by simp only[plainD]at h;simp only[Fj];exact jA ds n h
 | .dct _ _ _,n,h=>by cases n <;> (simp only[plainD]at h;cases h)
theorem jA:∀(ds:List D) (n:Nat),plainDs n ds=true->iq ds ds=true
 |[],_,_=>by simp only[iq]
 |d::ds,n,h=>by
  rw[plainDs,Qo]at h;rw[iq,jc d n h.1,jA ds n h.2];rfl
end
open PySem.SeqAt
theorem bH{n:Nat}{tk:Bool}{ks vs:List D}(h:plainD n (.dct tk ks vs)=true):False:=by cases n <;> (simp only[plainD]at h;cases h)
mutual
theorem yo(I:Inv X pi σ H s):∀(d e:D) (x y:V) (v u:Value) (A:Around) (n:Nat),plainD n d=true->plainD n e=true->A.units+n<cLine->Rep X.K H d x->Rep X.K H e y->RelV x v->RelV y u->EqAt A s v u (Fj d e)
 | .non,e,x,y,v,u,A,n,h,h',hu,r,q,rx,ry=>by
  cases bZ r;cases rx;cases e with
  |non=>cases bZ q;cases ry;simp only[Fj];exact .same _
  |bl b=>cases cQ q;cases ry;simp only[Fj];exact .none_bool _
  |int i=>cases bz q;obtain⟨t,rfl⟩:=ry;simp only[Fj];exact .none_int _ _
  |str l=>cases(bx q).1;obtain⟨t,rfl⟩:=ry;simp only[Fj];exact .none_str _ _
  |tup l=>obtain⟨p,xs,rfl,sq,_⟩:=bp q;cases ry;obtain⟨Fg,_,ip,_⟩:=I.tuple sq;simp only[Fj];exact .none_tuple (show s.heap.IsTuple p Fg.toArray from ip) (by lia)
  |lst l=>obtain⟨p,xs,rfl,sq,_⟩:=bC q;cases ry;obtain⟨Fg,_,ip,_⟩:=I.list sq;simp only[Fj];exact .none_list ip.isList (by lia)
  |dct tk ks vs=>exact(bH h').elim
 | .bl b,e,x,y,v,u,A,n,h,h',hu,r,q,rx,ry=>by
  cases cQ r;cases rx;cases e with
  |non=>cases bZ q;cases ry;simp only[Fj];exact .bool_none _
  |bl b=>cases cQ q;cases ry;simp only[Fj];exact .bool_bool _ _
  |int i=>cases bz q;obtain⟨t,rfl⟩:=ry;simp only[Fj];exact .bool_int _ _ _
  |str l=>cases(bx q).1;obtain⟨t,rfl⟩:=ry;simp only[Fj];exact .bool_str _ _ _
  |tup l=>obtain⟨p,xs,rfl,sq,_⟩:=bp q;cases ry;obtain⟨Fg,_,ip,_⟩:=I.tuple sq;simp only[Fj];exact .bool_tuple _ (show s.heap.IsTuple p Fg.toArray from ip) (by lia)
  |lst l=>obtain⟨p,xs,rfl,sq,_⟩:=bC q;cases ry;obtain⟨Fg,_,ip,_⟩:=I.list sq;simp only[Fj];exact .bool_list _ ip.isList (by lia)
  |dct tk ks vs=>exact(bH h').elim
 | .int b,e,x,y,v,u,A,n,h,h',hu,r,q,rx,ry=>by
  cases bz r;obtain⟨t0,rfl⟩:=rx;cases e with
  |non=>cases bZ q;cases ry;simp only[Fj];exact .int_none _ _
  |bl b=>cases cQ q;cases ry;simp only[Fj];exact .int_bool _ _ _
  |int i=>cases bz q;obtain⟨t,rfl⟩:=ry;simp only[Fj];exact .int_int _ _ _ _
  |str l=>cases(bx q).1;obtain⟨t,rfl⟩:=ry;simp only[Fj];exact .int_str _ _ _ _
  |tup l=>obtain⟨p,xs,rfl,sq,_⟩:=bp q;cases ry;obtain⟨Fg,_,ip,_⟩:=I.tuple sq;simp only[Fj];exact .int_tuple _ _ (show s.heap.IsTuple p Fg.toArray from ip) (by lia)
  |lst l=>obtain⟨p,xs,rfl,sq,_⟩:=bC q;cases ry;obtain⟨Fg,_,ip,_⟩:=I.list sq;simp only[Fj];exact .int_list _ _ ip.isList (by lia)
  |dct tk ks vs=>exact(bH h').elim
 | .str b,e,x,y,v,u,A,n,h,h',hu,r,q,rx,ry=>by
  have hr:=(bx r).1;subst hr;obtain⟨t0,rfl⟩:=rx;cases e with
  |non=>cases bZ q;cases ry;simp only[Fj];exact .str_none _ _
  |bl b=>cases cQ q;cases ry;simp only[Fj];exact .str_bool _ _ _
  |int i=>cases bz q;obtain⟨t,rfl⟩:=ry;simp only[Fj];exact .str_int _ _ _ _
  |str l=>
   have hq:=(bx q).1;subst hq;obtain⟨t,rfl⟩:=ry;have e1:(b==l)=(S b==S l):=by
    rw[Qv,QM,QM];exact⟨fun z=>by rw[z],S_inj⟩
   simp only[Fj,e1];exact .str_str _ _ _ _
  |tup l=>obtain⟨p,xs,rfl,sq,_⟩:=bp q;cases ry;obtain⟨Fg,_,ip,_⟩:=I.tuple sq;simp only[Fj];exact .str_tuple _ _ (show s.heap.IsTuple p Fg.toArray from ip) (by lia)
  |lst l=>obtain⟨p,xs,rfl,sq,_⟩:=bC q;cases ry;obtain⟨Fg,_,ip,_⟩:=I.list sq;simp only[Fj];exact .str_list _ _ ip.isList (by lia)
  |dct tk ks vs=>exact(bH h').elim
 | .tup l,e,x,y,v,u,A,n,h,h',hu,r,q,rx,ry=>by
  have rr:=r;obtain⟨p,xs,ev,sq,rs⟩:=bp r;subst ev;cases rx;obtain⟨Fg,vl,ip,_⟩:=I.tuple sq;have ip:s.heap.IsTuple p Fg.toArray:=ip;cases e with
  |non=>cases bZ q;cases ry;simp only[Fj];exact .tuple_none ip (by lia)
  |bl b=>cases cQ q;cases ry;simp only[Fj];exact .tuple_bool _ ip (by lia)
  |int i=>cases bz q;obtain⟨t,rfl⟩:=ry;simp only[Fj];exact .tuple_int _ _ ip (by lia)
  |str l=>cases(bx q).1;obtain⟨t,rfl⟩:=ry;simp only[Fj];exact .tuple_str _ _ ip (by lia)
  |tup l'=>
   obtain⟨p',G0,Hm,GN,Hy⟩:=bp q;subst Hm;cases ry;by_cases hp:p=p'
   ·subst hp;have hz:=jz I _ _ _ n h rr q;rw[<-hz,jc _ n h];exact .same _
   ·obtain⟨its',J8,G9,_⟩:=I.tuple GN;have G9:s.heap.IsTuple p' its'.toArray:=G9;cases n with
    |zero=>simp only[plainD]at h;cases h
    |succ n=>
     simp only[plainD]at h h';have l1:=vl.length;have l2:=J8.length;have l3:=rs.length;have l4:=Hy.length;have key:=RcAt.tuples (A:=A) (e:=fun j=>Fj (l.getD j .non) (l'.getD j .non)) ip G9 (by lia) fun j h1 h2=>by
      simp only[P6]at h1 h2;have g1:l[j]?=some (l[j]'(by lia)):=List.getElem?_eq_getElem _;have g2:l'[j]?=some (l'[j]'(by lia)):=List.getElem?_eq_getElem _;obtain⟨w1,Jg,Jh⟩:=rs.get g1;obtain⟨w2,J9,Ka⟩:=Hy.get g2;obtain⟨u1,HD,Ji⟩:=vl.get Jg;obtain⟨u2,II,Kb⟩:=J8.get J9;have q1:Fg.toArray[j]=u1:=by rw[List.getElem?_eq_getElem h1]at HD;simpa using HD
      have q2:its'.toArray[j]=u2:=by rw[List.getElem?_eq_getElem h2]at II;simpa using II
      rw[q1,q2,List.getD_eq_getElem?_getD,List.getD_eq_getElem?_getD,g1,g2];exact mL I l j _ g1 _ w1 w2 u1 u2 A.in1 n (plainDs_mem h g1) (plainDs_mem h' g2) (by show A.units+1+n<cLine;lia) Jh Ka Ji Kb
     simp only[Fj];have fin:((List.range (min Fg.toArray.size its'.toArray.size)).all (fun j=>Fj (l.getD j .non) (l'.getD j .non))&&Fg.toArray.size==its'.toArray.size)=iq l l':=by
      simp only[P6];by_cases hl:l.length=l'.length
      ·rw[<-d6 hl,show min Fg.length its'.length=l.length by lia,show(Fg.length==its'.length)=true by rw[QM];lia,S7]
      ·rw[g5 hl,show(Fg.length==its'.length)=false by rw[Rq];lia,UL]
     rw[<-fin];exact .of_refs hp key
  |lst l'=>obtain⟨p',G0,Hm,GN,_⟩:=bC q;subst Hm;cases ry;obtain⟨its',_,G9,_⟩:=I.list GN;simp only[Fj];exact .tuple_list ip G9.isList (by lia)
  |dct tk ks vs=>exact(bH h').elim
 | .lst l,e,x,y,v,u,A,n,h,h',hu,r,q,rx,ry=>by
  have rr:=r;obtain⟨p,xs,ev,sq,rs⟩:=bC r;subst ev;cases rx;obtain⟨Fg,vl,ip,_⟩:=I.list sq;have ip:=ip.isList;cases e with
  |non=>cases bZ q;cases ry;simp only[Fj];exact .list_none ip (by lia)
  |bl b=>cases cQ q;cases ry;simp only[Fj];exact .list_bool _ ip (by lia)
  |int i=>cases bz q;obtain⟨t,rfl⟩:=ry;simp only[Fj];exact .list_int _ _ ip (by lia)
  |str l=>cases(bx q).1;obtain⟨t,rfl⟩:=ry;simp only[Fj];exact .list_str _ _ ip (by lia)
  |lst l'=>
   obtain⟨p',G0,Hm,GN,Hy⟩:=bC q;subst Hm;cases ry;by_cases hp:p=p'
   ·subst hp;have hz:=jz I _ _ _ n h rr q;rw[<-hz,jc _ n h];exact .same _
   ·obtain⟨its',J8,G9,_⟩:=I.list GN;have G9:=G9.isList;cases n with
    |zero=>simp only[plainD]at h;cases h
    |succ n=>
     simp only[plainD]at h h';have l1:=vl.length;have l2:=J8.length;have l3:=rs.length;have l4:=Hy.length;simp only[Fj];by_cases hl:l.length=l'.length
     ·have key:=RcAt.lists (A:=A) (e:=fun j=>Fj (l.getD j .non) (l'.getD j .non)) ip G9 (by simp only[P6];lia) (by lia) fun j h1 h2=>by
       simp only[P6]at h1 h2;have g1:l[j]?=some (l[j]'(by lia)):=List.getElem?_eq_getElem _;have g2:l'[j]?=some (l'[j]'(by lia)):=List.getElem?_eq_getElem _;obtain⟨w1,Jg,Jh⟩:=rs.get g1;obtain⟨w2,J9,Ka⟩:=Hy.get g2;obtain⟨u1,HD,Ji⟩:=vl.get Jg;obtain⟨u2,II,Kb⟩:=J8.get J9;have q1:Fg.toArray[j]=u1:=by rw[List.getElem?_eq_getElem h1]at HD;simpa using HD
       have q2:its'.toArray[j]=u2:=by rw[List.getElem?_eq_getElem h2]at II;simpa using II
       rw[q1,q2,List.getD_eq_getElem?_getD,List.getD_eq_getElem?_getD,g1,g2];exact mL I l j _ g1 _ w1 w2 u1 u2 A.in1 n (plainDs_mem h g1) (plainDs_mem h' g2) (by show A.units+1+n<cLine;lia) Jh Ka Ji Kb
      rw[<-d6 hl,show l.length=Fg.toArray.size by simp only[P6];lia];exact .of_refs hp key
     ·rw[g5 hl];exact .of_refs hp (RcAt.lists_lengths ip G9 (by simp only[P6,Wo];lia) (by lia))
  |tup l'=>obtain⟨p',G0,Hm,GN,_⟩:=bp q;subst Hm;cases ry;obtain⟨its',_,G9,_⟩:=I.tuple GN;simp only[Fj];exact .list_tuple ip (show s.heap.IsTuple p' its'.toArray from G9) (by lia)
  |dct tk ks vs=>exact(bH h').elim
 | .dct _ _ _,_,_,_,_,_,_,n,h,_,_,_,_,_,_=>(bH h).elim
theorem mL(I:Inv X pi σ H s):∀(ds:List D) (j:Nat) (d:D),ds[j]?=some d->∀(e:D) (x y:V) (v u:Value) (A:Around) (n:Nat),plainD n d=true->plainD n e=true->A.units+n<cLine->Rep X.K H d x->Rep X.K H e y->RelV x v->RelV y u->EqAt A s v u (Fj d e)
 |[],_,_,hj=>by simp at hj
 |d'::ds,0,d,hj=>by
  simp at hj;subst hj;exact yo I d'
 |d'::ds,j+1,d,hj=>mL I ds j d (by simpa using hj)
end
end
section
variable{X:Cx}
def IB(a b:D):Res R:=if plainD 40 a&&plainD 40 b then .ok (.f,.bl (Fj a b)) else .bad
def JP(a b:D):Res R:=if plainD 40 a&&plainD 40 b then .ok (.f,.bl (!Fj a b)) else .bad
open PySem.SeqAt in
theorem A7{pi:List (Addr×Obj)}{σ:L2.St}{H:Hp}{s:Shared}(I:Inv X pi σ H s){d e:D}{x y:V}{v u:Value}{A:Around}(h:plainD 40 d=true)(h':plainD 40 e=true)(hu:A.units+64<cLine)(r:Rep X.K H d x)(q:Rep X.K H e y)(rx:RelV x v)(ry:RelV y u):
  RcAt A s v u (Fj d e)/\RcNeAt A s v u (!Fj d e):=by
 cases d with
 |non=>
  cases bZ r;cases rx;cases e with
  |non=>cases bZ q;cases ry;simp only[Fj];exact⟨.none_none,.none_none⟩
  |bl b=>cases cQ q;cases ry;simp only[Fj];exact⟨.none_bool _,.none_bool _⟩
  |int i=>cases bz q;obtain⟨t,rfl⟩:=ry;simp only[Fj];exact⟨.none_int _ _,.none_int _ _⟩
  |str l=>cases(bx q).1;obtain⟨t,rfl⟩:=ry;simp only[Fj];exact⟨.none_str _ _,.none_str _ _⟩
  |tup l=>obtain⟨p,xs,rfl,sq,_⟩:=bp q;cases ry;obtain⟨Fg,_,ip,_⟩:=I.tuple sq;simp only[Fj];exact⟨.none_tuple (show s.heap.IsTuple p Fg.toArray from ip) (by lia),.none_tuple (show s.heap.IsTuple p Fg.toArray from ip) (by lia)⟩
  |lst l=>obtain⟨p,xs,rfl,sq,_⟩:=bC q;cases ry;obtain⟨Fg,_,ip,_⟩:=I.list sq;simp only[Fj];exact⟨.none_list ip.isList (by lia),.none_list ip.isList (by lia)⟩
  |dct tk ks vs=>exact(bH h').elim
 |bl b=>
  cases cQ r;cases rx;cases e with
  |non=>cases bZ q;cases ry;simp only[Fj];exact⟨.bool_none _,.bool_none _⟩
  |bl b=>cases cQ q;cases ry;simp only[Fj];exact⟨.bool_bool _ _,.bool_bool _ _⟩
  |int i=>cases bz q;obtain⟨t,rfl⟩:=ry;simp only[Fj];exact⟨.bool_int _ _ _,.bool_int _ _ _⟩
  |str l=>cases(bx q).1;obtain⟨t,rfl⟩:=ry;simp only[Fj];exact⟨.bool_str _ _ _,.bool_str _ _ _⟩
  |tup l=>obtain⟨p,xs,rfl,sq,_⟩:=bp q;cases ry;obtain⟨Fg,_,ip,_⟩:=I.tuple sq;simp only[Fj];exact⟨.bool_tuple _ (show s.heap.IsTuple p Fg.toArray from ip) (by lia),.bool_tuple _ (show s.heap.IsTuple p Fg.toArray from ip) (by lia)⟩
  |lst l=>obtain⟨p,xs,rfl,sq,_⟩:=bC q;cases ry;obtain⟨Fg,_,ip,_⟩:=I.list sq;simp only[Fj];exact⟨.bool_list _ ip.isList (by lia),.bool_list _ ip.isList (by lia)⟩
  |dct tk ks vs=>exact(bH h').elim
 |int b=>
  cases bz r;obtain⟨t0,rfl⟩:=rx;cases e with
  |non=>cases bZ q;cases ry;simp only[Fj];exact⟨.int_none _ _,.int_none _ _⟩
  |bl b=>cases cQ q;cases ry;simp only[Fj];exact⟨.int_bool _ _ _,.int_bool _ _ _⟩
  |int i=>cases bz q;obtain⟨t,rfl⟩:=ry;simp only[Fj];exact⟨.int_int _ _ _ _,.int_int _ _ _ _⟩
  |str l=>cases(bx q).1;obtain⟨t,rfl⟩:=ry;simp only[Fj];exact⟨.int_str _ _ _ _,.int_str _ _ _ _⟩
  |tup l=>obtain⟨p,xs,rfl,sq,_⟩:=bp q;cases ry;obtain⟨Fg,_,ip,_⟩:=I.tuple sq;simp only[Fj];exact⟨.int_tuple _ _ (show s.heap.IsTuple p Fg.toArray from ip) (by lia),.int_tuple _ _ (show s.heap.IsTuple p Fg.toArray from ip) (by lia)⟩
  |lst l=>obtain⟨p,xs,rfl,sq,_⟩:=bC q;cases ry;obtain⟨Fg,_,ip,_⟩:=I.list sq;simp only[Fj];exact⟨.int_list _ _ ip.isList (by lia),.int_list _ _ ip.isList (by lia)⟩
  |dct tk ks vs=>exact(bH h').elim
 |str b=>
  have hr:=(bx r).1;subst hr;obtain⟨t0,rfl⟩:=rx;cases e with
  |non=>cases bZ q;cases ry;simp only[Fj];exact⟨.str_none _ _,.str_none _ _⟩
  |bl b=>cases cQ q;cases ry;simp only[Fj];exact⟨.str_bool _ _ _,.str_bool _ _ _⟩
  |int i=>cases bz q;obtain⟨t,rfl⟩:=ry;simp only[Fj];exact⟨.str_int _ _ _ _,.str_int _ _ _ _⟩
  |str l=>
   have hq:=(bx q).1;subst hq;obtain⟨t,rfl⟩:=ry;have e1:(b==l)=(S b==S l):=by
    rw[Qv,QM,QM];exact⟨fun z=>by rw[z],S_inj⟩
   simp only[Fj,e1];exact⟨.str_str _ _ _ _,.str_str _ _ _ _⟩
  |tup l=>obtain⟨p,xs,rfl,sq,_⟩:=bp q;cases ry;obtain⟨Fg,_,ip,_⟩:=I.tuple sq;simp only[Fj];exact⟨.str_tuple _ _ (show s.heap.IsTuple p Fg.toArray from ip) (by lia),.str_tuple _ _ (show s.heap.IsTuple p Fg.toArray from ip) (by lia)⟩
  |lst l=>obtain⟨p,xs,rfl,sq,_⟩:=bC q;cases ry;obtain⟨Fg,_,ip,_⟩:=I.list sq;simp only[Fj];exact⟨.str_list _ _ ip.isList (by lia),.str_list _ _ ip.isList (by lia)⟩
  |dct tk ks vs=>exact(bH h').elim
 |tup l=>
  obtain⟨p,xs,ev,sq,rs⟩:=bp r;subst ev;cases rx;obtain⟨Fg,vl,ip,_⟩:=I.tuple sq;have ip:s.heap.IsTuple p Fg.toArray:=ip;cases e with
  |non=>cases bZ q;cases ry;simp only[Fj];exact⟨.tuple_none ip (by lia),.tuple_none ip (by lia)⟩
  |bl b=>cases cQ q;cases ry;simp only[Fj];exact⟨.tuple_bool _ ip (by lia),.tuple_bool _ ip (by lia)⟩
  |int i=>cases bz q;obtain⟨t,rfl⟩:=ry;simp only[Fj];exact⟨.tuple_int _ _ ip (by lia),.tuple_int _ _ ip (by lia)⟩
  |str l=>cases(bx q).1;obtain⟨t,rfl⟩:=ry;simp only[Fj];exact⟨.tuple_str _ _ ip (by lia),.tuple_str _ _ ip (by lia)⟩
  |tup l'=>
   obtain⟨p',G0,Hm,GN,Hy⟩:=bp q;subst Hm;cases ry;obtain⟨its',J8,G9,_⟩:=I.tuple GN;have G9:s.heap.IsTuple p' its'.toArray:=G9;simp only[plainD]at h h';have l1:=vl.length;have l2:=J8.length;have l3:=rs.length;have l4:=Hy.length;have el:∀j (h1:j<Fg.toArray.size) (h2:j<its'.toArray.size),EqAt A.in1 s Fg.toArray[j] its'.toArray[j] ((fun j=>Fj (l.getD j .non) (l'.getD j .non)) j):=fun j h1 h2=>by
    simp only[P6]at h1 h2;have g1:l[j]?=some (l[j]'(by lia)):=List.getElem?_eq_getElem _;have g2:l'[j]?=some (l'[j]'(by lia)):=List.getElem?_eq_getElem _;obtain⟨w1,Jg,Jh⟩:=rs.get g1;obtain⟨w2,J9,Ka⟩:=Hy.get g2;obtain⟨u1,HD,Ji⟩:=vl.get Jg;obtain⟨u2,II,Kb⟩:=J8.get J9;have q1:Fg.toArray[j]=u1:=by rw[List.getElem?_eq_getElem h1]at HD;simpa using HD
    have q2:its'.toArray[j]=u2:=by rw[List.getElem?_eq_getElem h2]at II;simpa using II
    dsimp only;rw[q1,q2,List.getD_eq_getElem?_getD,List.getD_eq_getElem?_getD,g1,g2];exact mL I l j _ g1 _ w1 w2 u1 u2 A.in1 39 (plainDs_mem h g1) (plainDs_mem h' g2) (by show A.units+1+39<cLine;lia) Jh Ka Ji Kb
   simp only[Fj];have fin:((List.range (min Fg.toArray.size its'.toArray.size)).all (fun j=>Fj (l.getD j .non) (l'.getD j .non))&&Fg.toArray.size==its'.toArray.size)=iq l l':=by
    simp only[P6];by_cases hl:l.length=l'.length
    ·rw[<-d6 hl,show min Fg.length its'.length=l.length by lia,show(Fg.length==its'.length)=true by rw[QM];lia,S7]
    ·rw[g5 hl,show(Fg.length==its'.length)=false by rw[Rq];lia,UL]
   rw[<-fin];exact⟨.tuples ip G9 (by lia) el,.tuples ip G9 (by lia) el⟩
  |lst l'=>obtain⟨p',G0,Hm,GN,_⟩:=bC q;subst Hm;cases ry;obtain⟨its',_,G9,_⟩:=I.list GN;simp only[Fj];exact⟨.tuple_list ip G9.isList (by lia),.tuple_list ip G9.isList (by lia)⟩
  |dct tk ks vs=>exact(bH h').elim
 |lst l=>
  obtain⟨p,xs,ev,sq,rs⟩:=bC r;subst ev;cases rx;obtain⟨Fg,vl,ip,_⟩:=I.list sq;have ip:=ip.isList;cases e with
  |non=>cases bZ q;cases ry;simp only[Fj];exact⟨.list_none ip (by lia),.list_none ip (by lia)⟩
  |bl b=>cases cQ q;cases ry;simp only[Fj];exact⟨.list_bool _ ip (by lia),.list_bool _ ip (by lia)⟩
  |int i=>cases bz q;obtain⟨t,rfl⟩:=ry;simp only[Fj];exact⟨.list_int _ _ ip (by lia),.list_int _ _ ip (by lia)⟩
  |str l=>cases(bx q).1;obtain⟨t,rfl⟩:=ry;simp only[Fj];exact⟨.list_str _ _ ip (by lia),.list_str _ _ ip (by lia)⟩
  |lst l'=>
   obtain⟨p',G0,Hm,GN,Hy⟩:=bC q;subst Hm;cases ry;obtain⟨its',J8,G9,_⟩:=I.list GN;have G9:=G9.isList;simp only[plainD]at h h';have l1:=vl.length;have l2:=J8.length;have l3:=rs.length;have l4:=Hy.length;simp only[Fj];by_cases hl:l.length=l'.length
   ·have el:∀j (h1:j<Fg.toArray.size) (h2:j<its'.toArray.size),EqAt A.in1 s Fg.toArray[j] its'.toArray[j] ((fun j=>Fj (l.getD j .non) (l'.getD j .non)) j):=fun j h1 h2=>by
     simp only[P6]at h1 h2;have g1:l[j]?=some (l[j]'(by lia)):=List.getElem?_eq_getElem _;have g2:l'[j]?=some (l'[j]'(by lia)):=List.getElem?_eq_getElem _;obtain⟨w1,Jg,Jh⟩:=rs.get g1;obtain⟨w2,J9,Ka⟩:=Hy.get g2;obtain⟨u1,HD,Ji⟩:=vl.get Jg;obtain⟨u2,II,Kb⟩:=J8.get J9;have q1:Fg.toArray[j]=u1:=by rw[List.getElem?_eq_getElem h1]at HD;simpa using HD
     have q2:its'.toArray[j]=u2:=by rw[List.getElem?_eq_getElem h2]at II;simpa using II
     dsimp only;rw[q1,q2,List.getD_eq_getElem?_getD,List.getD_eq_getElem?_getD,g1,g2];exact mL I l j _ g1 _ w1 w2 u1 u2 A.in1 39 (plainDs_mem h g1) (plainDs_mem h' g2) (by show A.units+1+39<cLine;lia) Jh Ka Ji Kb
    rw[<-d6 hl,show l.length=Fg.toArray.size by simp only[P6];lia];exact⟨.lists ip G9 (by simp only[P6];lia) (by lia) el,.lists ip G9 (by simp only[P6];lia) (by lia) el⟩
   ·rw[g5 hl];exact⟨.lists_lengths ip G9 (by simp only[P6,Wo];lia) (by lia),.lists_lengths ip G9 (by simp only[P6,Wo];lia) (by lia)⟩
  |tup l'=>obtain⟨p',G0,Hm,GN,_⟩:=bp q;subst Hm;cases ry;obtain⟨its',_,G9,_⟩:=I.tuple GN;simp only[Fj];exact⟨.list_tuple ip (show s.heap.IsTuple p' its'.toArray from G9) (by lia),.list_tuple ip (show s.heap.IsTuple p' its'.toArray from G9) (by lia)⟩
  |dct tk ks vs=>exact(bH h').elim
 |dct tk ks vs=>exact(bH h).elim
theorem qr(hu:X.A.units+64<cLine):F3 X (compareOp .Eq) (rGA X.K IB):=by
 rintro pi s σ H x y v u Q I rx ry ⟨G,fp,es,vs,a,b,r,⟨rel,k⟩,va,vb,e⟩;unfold IB at e;split at e
 ·rename_i hp;cases e;rw[Qo]at hp;exact(A7 I hp.1 hp.2 hu va vb rx ry).1 _ _ _ _ ⟨.bl _,H,I,rfl,k _ H G fp .refl (rel.push (cP _))⟩
 ·cases e
theorem yp(hu:X.A.units+64<cLine):F3 X (compareOp .NotEq) (rGA X.K JP):=by
 rintro pi s σ H x y v u Q I rx ry ⟨G,fp,es,vs,a,b,r,⟨rel,k⟩,va,vb,e⟩;unfold JP at e;split at e
 ·rename_i hp;cases e;rw[Qo]at hp;exact(A7 I hp.1 hp.2 hu va vb rx ry).2 _ _ _ _ ⟨.bl _,H,I,rfl,k _ H G fp .refl (rel.push (cP _))⟩
 ·cases e
def qN(a:D)(ds:List D):Bool:=ds.any fun d=>Fj d a
noncomputable def JV(a b:D):Res R:=match b with
 | .lst ds=>if plainD 40 a&&plainDs 40 ds then .ok (.f,.bl (qN a ds)) else .bad
 | .tup ds=>if plainD 40 a&&plainDs 40 ds then .ok (.f,.bl (qN a ds)) else .bad
 | .str l=>match a with
  | .str [c]=>.ok (.f,.bl (decide (c∈l)))
  |_=>.bad
 |_=>.bad
def uA(a b:D):Res R:=(JV a b).bind fun r=>match r.2 with
 | .bl k=>.ok (.f,.bl (!k))
 |_=>.bad
open PySem.SeqAt in
theorem pB{pi:List (Addr×Obj)}{σ:L2.St}{H:Hp}{s:Shared}(I:Inv X pi σ H s){a:D}{x:V}{v:Value}{A:Around}(h:plainD 40 a=true)(hu:A.units+64<cLine)(r:Rep X.K H a x)(rx:RelV x v):
  ∀(ds:List D) (xs:List V) (us:List Value),plainDs 40 ds=true->Reps X.K H ds xs->Vals xs us->∃e:Value->Bool,us.any e=qN a ds/\∀u∈us,EqAt A s u v (e u):=by
 classical
 intro ds xs us hp rs vl;refine⟨fun u=>decide (∃(j:Nat) (d:D),ds[j]?=some d/\us[j]?=some u/\Fj d a=true),?_,fun u OV=>?_⟩
 ·rw[Qv,Q8];unfold qN;rw[Q8];constructor
  ·rintro⟨u,_,hd⟩;obtain⟨j,d,h1,_,h2⟩:=Sa hd;exact⟨d,Qj h1,h2⟩
  ·rintro⟨d,hd,h2⟩;obtain⟨j,hj⟩:=Qt.mp hd;obtain⟨w1,Jg,Jh⟩:=rs.get hj;obtain⟨u1,HD,Ji⟩:=vl.get Jg;exact⟨u1,Qj HD,Q9 ⟨j,d,hj,HD,h2⟩⟩
 ·obtain⟨j,hj⟩:=Qt.mp OV;have l1:=vl.length;have l2:=rs.length;have hjl:=(List.getElem?_eq_some_iff.mp hj).1;have g1:ds[j]?=some (ds[j]'(by lia)):=List.getElem?_eq_getElem _;obtain⟨w1,Jg,Jh⟩:=rs.get g1;obtain⟨u1,HD,Ji⟩:=vl.get Jg;rw[hj]at HD;cases HD;have z:=yo I _ _ w1 x u v A 40 (plainDs_mem hp g1) h (by lia) Jh r Ji rx;have e:decide (∃(j:Nat) (d:D),ds[j]?=some d/\us[j]?=some u/\Fj d a=true)=Fj (ds[j]'(by lia)) a:=by
   rw[Qv,Qm];constructor
   ·rintro⟨j2,d2,k1,k2,k3⟩;obtain⟨w2,J9,Ka⟩:=rs.get k1;obtain⟨u2,II,Kb⟩:=vl.get J9;rw[k2]at II;cases II;have:=Ji.inj Kb;subst this;rw[jz I _ _ _ 40 (plainDs_mem hp g1) Jh Ka];exact k3
   ·intro k3;exact⟨j,_,g1,hj,k3⟩
  show EqAt A s u v (decide (∃(j:Nat) (d:D),ds[j]?=some d/\us[j]?=some u/\Fj d a=true));rw[e];exact z
theorem mM(l:List Nat)(c:Nat):(!(Builtin.Str.occurrences (S l) (S [c]) 0 (S l).length 1).isEmpty)=decide (c∈l):=by
 have h:=PySem.StrLaws.found_one (S l) c;rw[dC]at h;exact h
theorem lD{e:Value->Bool}(us:List Value):us.toArray.any e=us.any e:=by simp
theorem Dq(hu:X.A.units+65<cLine):F3 X (compareOp .In) (rGA X.K JV):=by
 rintro pi s σ H x y v u Q I rx ry ⟨G,fp,es,vs,a,b,r,⟨rel,k⟩,va,vb,e⟩;unfold JV at e;split at e
 ·rename_i ds;split at e
  ·rename_i hp;cases e;rw[Qo]at hp;obtain⟨p,xs,ev,sq,rs⟩:=bC vb;subst ev;cases ry;obtain⟨Fg,vl,ip,_⟩:=I.list sq;obtain⟨ef,e1,e2⟩:=pB (A:=X.A.in1) I hp.1 (by show X.A.units+1+64<cLine;lia) va rx ds xs Fg hp.2 rs vl;refine SeqAt.in_listAt ef ip.isList (fun z hz=>e2 z (by simpa using hz)) ?_;rw[lD,e1];exact⟨.bl _,H,I,rfl,k _ H G fp .refl (rel.push (cP _))⟩
  ·cases e
 ·rename_i ds;split at e
  ·rename_i hp;cases e;rw[Qo]at hp;obtain⟨p,xs,ev,sq,rs⟩:=bp vb;subst ev;cases ry;obtain⟨Fg,vl,ip,_⟩:=I.tuple sq;obtain⟨ef,e1,e2⟩:=pB (A:=X.A.in1) I hp.1 (by show X.A.units+1+64<cLine;lia) va rx ds xs Fg hp.2 rs vl;refine SeqAt.in_tupleAt ef (show s.heap.IsTuple p Fg.toArray from ip) (fun z hz=>e2 z (by simpa using hz)) ?_;rw[lD,e1];exact⟨.bl _,H,I,rfl,k _ H G fp .refl (rel.push (cP _))⟩
  ·cases e
 ·rename_i l;split at e
  ·rename_i c;cases e;obtain⟨e1,h1⟩:=bx va;obtain⟨e2,h2⟩:=bx vb;subst e1;subst e2;refine qZ pi s σ H _ _ v u Q I rx ry ⟨_,_,rfl,rfl,?_⟩;rw[mM];exact k _ H G fp .refl (rel.push (cP _))
  ·cases e
 ·cases e
theorem A8(hu:X.A.units+65<cLine):F3 X (compareOp .NotIn) (rGA X.K uA):=by
 rintro pi s σ H x y v u Q I rx ry ⟨G,fp,es,vs,a,b,r,⟨rel,k⟩,va,vb,e⟩;unfold uA at e;obtain⟨r0,e0,e⟩:=ai e;unfold JV at e0;split at e0
 ·rename_i ds;split at e0
  ·rename_i hp;cases e0;cases e;rw[Qo]at hp;obtain⟨p,xs,ev,sq,rs⟩:=bC vb;subst ev;cases ry;obtain⟨Fg,vl,ip,_⟩:=I.list sq;obtain⟨ef,e1,e2⟩:=pB (A:=X.A.in1) I hp.1 (by show X.A.units+1+64<cLine;lia) va rx ds xs Fg hp.2 rs vl;refine SeqAt.notIn_listAt ef ip.isList (fun z hz=>e2 z (by simpa using hz)) ?_;rw[lD,e1];exact⟨.bl _,H,I,rfl,k _ H G fp .refl (rel.push (cP _))⟩
  ·cases e0
 ·rename_i ds;split at e0
  ·rename_i hp;cases e0;cases e;rw[Qo]at hp;obtain⟨p,xs,ev,sq,rs⟩:=bp vb;subst ev;cases ry;obtain⟨Fg,vl,ip,_⟩:=I.tuple sq;obtain⟨ef,e1,e2⟩:=pB (A:=X.A.in1) I hp.1 (by show X.A.units+1+64<cLine;lia) va rx ds xs Fg hp.2 rs vl;refine SeqAt.notIn_tupleAt ef (show s.heap.IsTuple p Fg.toArray from ip) (fun z hz=>e2 z (by simpa using hz)) ?_;rw[lD,e1];exact⟨.bl _,H,I,rfl,k _ H G fp .refl (rel.push (cP _))⟩
  ·cases e0
 ·rename_i l;split at e0
  ·rename_i c;cases e0;cases e;obtain⟨e1,h1⟩:=bx va;obtain⟨e2,h2⟩:=bx vb;subst e1;subst e2;refine l5 pi s σ H _ _ v u Q I rx ry ⟨_,_,rfl,rfl,?_⟩;rw[mM];exact k _ H G fp .refl (rel.push (cP _))
  ·cases e0
 ·cases e0
def MK(a b:D):Res R:=match b with
 | .bl k=>.ok (.f,.bl (match a with | .bl j=>j==k|_=>false))
 | .non=>.ok (.f,.bl (match a with | .non=>true|_=>false))
 |_=>.bad
def isnO(a b:D):Res R:=(MK a b).bind fun r=>match r.2 with
 | .bl k=>.ok (.f,.bl (!k))
 |_=>.bad
theorem pC{K:W.Frag}{H:Hp}{a b:D}{x y:V}{v u:Value}{r:R}(va:Rep K H a x)(vb:Rep K H b y)(rx:RelV x v)(ry:RelV y u)(e:MK a b=.ok r):plainIs v u=true/\r=(.f,.bl (v==u)):=by
 unfold MK at e;split at e
 ·rename_i k;cases e;cases cQ vb;cases ry;cases a with
  |non=>cases bZ va;cases rx;exact⟨rfl,rfl⟩
  |bl j=>cases cQ va;cases rx;refine⟨rfl,?_⟩;cases j <;> cases k <;> rfl
  |int i=>cases bz va;obtain⟨t,rfl⟩:=rx;exact⟨rfl,rfl⟩
  |str l=>cases(bx va).1;obtain⟨t,rfl⟩:=rx;exact⟨rfl,rfl⟩
  |tup l=>obtain⟨p,xs,rfl,_⟩:=bp va;cases rx;exact⟨rfl,rfl⟩
  |lst l=>obtain⟨p,xs,rfl,_⟩:=bC va;cases rx;exact⟨rfl,rfl⟩
  |dct tk ks vs=>rw[Rep]at va;obtain⟨p,xs,o,rfl,_⟩:=va;cases rx;exact⟨rfl,rfl⟩
 ·cases e;cases bZ vb;cases ry;cases a with
  |non=>cases bZ va;cases rx;exact⟨rfl,rfl⟩
  |bl j=>cases cQ va;cases rx;exact⟨rfl,rfl⟩
  |int i=>cases bz va;obtain⟨t,rfl⟩:=rx;exact⟨rfl,rfl⟩
  |str l=>cases(bx va).1;obtain⟨t,rfl⟩:=rx;exact⟨rfl,rfl⟩
  |tup l=>obtain⟨p,xs,rfl,_⟩:=bp va;cases rx;exact⟨rfl,rfl⟩
  |lst l=>obtain⟨p,xs,rfl,_⟩:=bC va;cases rx;exact⟨rfl,rfl⟩
  |dct tk ks vs=>rw[Rep]at va;obtain⟨p,xs,o,rfl,_⟩:=va;cases rx;exact⟨rfl,rfl⟩
 ·cases e
theorem Dr:F3 X (compareOp .Is) (rGA X.K MK):=by
 rintro pi s σ H x y v u Q I rx ry ⟨G,fp,es,vs,a,b,r,⟨rel,k⟩,va,vb,e⟩;obtain⟨h1,h2⟩:=pC va vb rx ry e;subst h2;exact wpAny_is_plain h1 ⟨.bl _,H,I,rfl,k _ H G fp .refl (rel.push (cP _))⟩
theorem sv:F3 X (compareOp .IsNot) (rGA X.K isnO):=by
 rintro pi s σ H x y v u Q I rx ry ⟨G,fp,es,vs,a,b,r,⟨rel,k⟩,va,vb,e⟩;obtain⟨r0,e0,e⟩:=ai e;obtain⟨h1,h2⟩:=pC va vb rx ry e0;subst h2;cases e;exact wpAny_isNot_plain h1 ⟨.bl _,H,I,rfl,k _ H G fp .refl (rel.push (cP _))⟩
end
section
variable{X:Cx}
theorem pD(hc:X.calm=true):cZ X (.builtin "max") (rC X.K maxD):=by
 rintro pi s σ H xs us Q I rx ⟨G,fp,es,vs,ds,r,⟨rel,k⟩,vd,e⟩;unfold maxD at e;split at e
 ·rename_i d;split at e
  ·rename_i n ns hb;cases e;obtain⟨v,ev,vt⟩:=kB vd;obtain⟨p,ep,sq⟩:=fF rel.gh hb vt;subst ev;subst ep;exact rN hc pi s σ H _ us Q I rx ⟨p,n::ns,rfl,sq,by simp,k _ H G fp .refl (rel.push (aU _))⟩
  ·cases e
 ·rename_i i j;cases e;obtain⟨v,w',ev,v1,v2⟩:=Ef vd;subst ev;cases bE v1;cases bE v2;obtain⟨u,u',rfl,⟨t,rfl⟩,t',rfl⟩:=xD rx;refine max_two_ints (I.ok.hd hc) fun h' tk kk=>?_
  have I2:Inv X pi σ H {s with heap:=h',toks:=tk}:=I.kept kk;refine⟨.int (if i<j then j else i),H,I2,?_,k _ H G fp .refl (rel.push (aU _))⟩;by_cases Kw:i<j
  ·rw[Qa Kw,Qa (show j>i from Kw)];exact⟨_,rfl⟩
  ·rw[Qf Kw,Qf (show ¬ j>i from Kw)];exact⟨_,rfl⟩
 ·cases e
def yq(f g:FX):FX:=fun env=>(f env).bind fun p=>(g p.2).bind fun q=>match(jx p.1.2).bind cv,q.1.2 with
 |some ns,.int d=>.ok ((.f,.int (NX.maxD ns d)),q.2)
 |_,_=>.bad
theorem yr{e k:Expr}{f g:FX}{p pos Ij:Pos}(hc:X.calm=true)(hg:Gl X "max")(hm:X.mg "max" = none)(he:QE X e f)(hk:QE X k g)(hs:starEach [e] X.env=[(false,eval e X.env)]:=by rfl):
  QE X (.Call (.Name "max" p) [e] [⟨some "default",k,Ij⟩] pos) (yq f g):=bK (xR hc hg hm he hk hs) fun σ H Q Fs=>by
 obtain⟨G,env,fp,r,env',rel,e,k⟩:=Fs;obtain⟨⟨r1,Fd⟩,e1,e⟩:=ai e;obtain⟨⟨r2,Fl⟩,e2,e⟩:=ai e;dsimp only at e;split at e
 ·rename_i ns d Lx hd;cases e;refine⟨G,env,fp,r1,Fd,rel,e1,fun v H1 G1 FE Fx Fh=>?_⟩;obtain⟨G2,b,rv,Fe,Fo⟩:=Fh.freeze;refine⟨G2,Fd,b,r2,_,Fe,e2,fun w' H3 G3 HC FQ FC=>?_⟩;have hw:=FC.top;obtain⟨b3,FV,Gv⟩:=FC.drop;rw[hd]at hw;obtain⟨p',ep,sq⟩:=fF FV.gh Lx (Vw.of FV.gh (Rep.mono FQ.gg rv));subst ep;exact⟨p',ns,d,rfl,by rw[bz hw],sq,k _ H3 G3 b3 (Fx.trans (Fo.trans (FQ.trans Gv))) (FV.push (aU _))⟩
 ·cases e
def zM:List D->Res R
 |[.bl b]=>.ok (.f,.int (if b then 1 else 0))
 |[.int i]=>.ok (.f,.int i)
 |_=>.bad
theorem A9:cZ X (.type "int") (rC X.K zM):=by
 rintro pi s σ H xs us Q I rx ⟨G,fp,es,vs,ds,r,⟨rel,k⟩,vd,e⟩;unfold zM at e;split at e
 ·rename_i b;cases e;obtain⟨v,ev,v1⟩:=kB vd;subst ev;cases Dh v1;obtain⟨u,rfl,ru⟩:=dy rx;cases ru;exact call_int_bool ⟨.int _,H,I.tok _,⟨_,rfl⟩,k _ H G fp .refl (rel.push (aU _))⟩
 ·rename_i i;cases e;obtain⟨v,ev,v1⟩:=kB vd;subst ev;cases bE v1;obtain⟨u,rfl,t,rfl⟩:=dy rx;first
   |exact U5 ⟨.int _,H,I.tok _,⟨_,rfl⟩,k _ H G fp .refl (rel.push (aU _))⟩
   |exact U5 ⟨.int _,H,I,⟨_,rfl⟩,k _ H G fp .refl (rel.push (aU _))⟩
 ·cases e
def sx:D->String
 | .non=>"NoneType"
 | .bl _=>"bool"
 | .int _=>"int"
 | .str _=>"str"
 | .tup _=>"tuple"
 | .lst _=>"list"
 | .dct _ _ _=>"dict"
def Eg(T:String)(d:D):Bool:=sx d==T||(sx d == "bool" && T == "int")
def eIs(T:String)(f:FO):FX:=fun env=>(f env).bind fun p=>(qM p.2 p.1).bind fun d=>.ok ((.f,.bl (Eg T d)),p.2)
def Ga{α:Type}(f g:PV.Env->Res α):PV.Env->Res α:=fun env=>match f env with
 | .ok a=>.ok a
 |_=>g env
theorem wX{α:Type}{f g:PV.Env->Res α}{env:PV.Env}{a:α}(h:Ga f g env=.ok a):f env=.ok a\/g env=.ok a:=by
 unfold Ga at h;split at h
 ·rename_i b hb;cases h;exact .inl hb
 ·exact .inr h
theorem qu{tg e:Expr}{f g:FI}(h:QI X tg e f)(h2:QI X tg e g):QI X tg e (Ga f g):=fun pi s σ H R I Fs=>by
 obtain⟨G,env,fp,ds,env',rel,ee,k⟩:=Fs;rcases wX ee with z|z
 ·exact h pi s σ H R I ⟨G,env,fp,ds,env',rel,z,k⟩
 ·exact h2 pi s σ H R I ⟨G,env,fp,ds,env',rel,z,k⟩
end
section
variable{α:Type}
def ins(lt:α->α->Bool)(x:α):List α->List α
 |[]=>[x]
 |y::ys=>if lt y x then y::ins lt x ys else x::y::ys
def bI(lt:α->α->Bool)(l:List α):List α:=l.foldr (ins lt) []
structure Ord(lt:α->α->Bool):Prop where
 irr:∀a,lt a a=false
 trans:∀a b c,lt a b=true->lt b c=true->lt a c=true
 tot:∀a b,lt a b=false->lt b a=false->a=b
theorem lE(lt:α->α->Bool)(x:α):∀l,(ins lt x l).Perm (x::l)
 |[]=>.refl _
 |y::ys=>by
  unfold ins;split
  ·exact(List.Perm.cons y (lE lt x ys)).trans (List.Perm.swap x y ys)
  ·exact .refl _
theorem du(lt:α->α->Bool):∀l,(bI lt l).Perm l
 |[]=>.refl _
 |x::l=>(lE lt x _).trans (List.Perm.cons x (du lt l))
theorem kC{lt:α->α->Bool}(o:Ord lt)(x:α):∀l:List α,l.Pairwise (fun a b=>lt b a=false)->(ins lt x l).Pairwise (fun a b=>lt b a=false)
 |[],_=>by simp[ins]
 |y::ys,h=>by
  rw[Si]at h;unfold ins;split
  ·rename_i hy;rw[Si];refine⟨fun z hz=>?_,kC o x ys h.2⟩;rcases Qh.mp ((lE lt x ys).mem_iff.mp hz) with rfl|hz
   ·cases e:lt z y with
    |false=>rfl
    |true=>
     have:=o.trans y z y hy e;rw[o.irr]at this;cases this
   ·exact h.1 z hz
  ·rename_i hy;have hy:lt y x=false:=by simpa using hy
   rw[Si,Si];refine⟨fun z hz=>?_,h⟩;rcases Qh.mp hz with rfl|Ky
   ·exact hy
   ·cases e:lt z x with
    |false=>rfl
    |true=>
     exfalso;cases e2:lt x y with
     |true=>
      have:=o.trans z x y e e2;rw[h.1 z Ky]at this;cases this
     |false=>
      have hxy:=o.tot x y e2 hy;rw[hxy,h.1 z Ky]at e;cases e
theorem dN{lt:α->α->Bool}(o:Ord lt):∀l:List α,(bI lt l).Pairwise (fun a b=>lt b a=false)
 |[]=>.nil
 |x::l=>kC o x _ (dN o l)
theorem mN{lt:α->α->Bool}(o:Ord lt):∀{a b:List α},a.Perm b->a.Pairwise (fun a b=>lt b a=false)->b.Pairwise (fun a b=>lt b a=false)->a=b
 |[],_,p,_,_=>p.nil_eq
 |x::xs,[],p,_,_=>absurd p.length_eq (by simp)
 |x::xs,y::ys,p,ha,hb=>by
  rw[Si]at ha hb;have hx:x∈y::ys:=p.mem_iff.mp P8;have hy:y∈x::xs:=p.mem_iff.mpr P8;have e:x=y:=by
   rcases Qh.mp hx with e|hx
   ·exact e
   ·rcases Qh.mp hy with e|hy
    ·exact e.symm
    ·exact o.tot x y (hb.1 x hx) (ha.1 y hy)
  subst e;rw[mN o p.cons_inv ha.2 hb.2]
theorem g6{lt:α->α->Bool}(o:Ord lt){l ms:List α}(p:ms.Perm l)(h:ms.Pairwise (fun a b=>lt b a=false)):ms=bI lt l:=mN o (p.trans (du lt l).symm) h (dN o l)
end
def ltI(a b:Int):Bool:=decide (a<b)
def JQ(a b:List Nat):Bool:=decide (a<b)
theorem yt:Ord ltI:=⟨fun a=>by simp[ltI],fun a b c=>by simp only[ltI,Qm];lia,fun a b=>by simp only[ltI,Rl];lia⟩
theorem oq:Ord JQ:=by
 refine⟨fun a=>?_,fun a b c h1 h2=>?_,fun a b h1 h2=>?_⟩
 ·unfold JQ;rw[Rl];exact List.lt_irrefl a
 ·unfold JQ at *;rw[Qm] at *;exact List.lt_trans h1 h2
 ·unfold JQ at *;rw[Rl] at *;exact List.le_antisymm (TY.mp h2) (TY.mp h1)
theorem sy:Ord dJ:=⟨gF,fZ,f6⟩
def d7:List D->Option (List (List Nat))
 |[]=>some []
 | .str b::ds=>(d7 ds).map (b:: ·)
 |_=>none
def jB:D->Option Key
 | .int i=>some (.inl i)
 | .str l=>some (.inr (S l))
 |_=>none
def eJ:List D->Option (List Key)
 |[]=>some []
 |d::ds=>(jB d).bind fun k=>(eJ ds).map (k:: ·)
def eK:D->Option (List Key)
 | .tup ds=>eJ ds
 |_=>none
def iL:List D->Option (List (List Key))
 |[]=>some []
 |d::ds=>(eK d).bind fun k=>(iL ds).map (k:: ·)
def kT(k:List Key):D:=.tup (k.map kD)
section
variable{K:W.Frag}{G:Hp}
theorem eL:∀{ds:List D}{bs:List (List Nat)}{xs:List V},d7 ds=some bs->Reps K G ds xs->xs=bs.map (fun l=>V.str (S l))/\∀l∈bs,l.length<=sizeLine
 |[],_,_,e,r=>by
  cases e;rw[Reps]at r;exact⟨r,fun _ h=>nomatch h⟩
 |d::ds,_,_,e,r=>by
  cases d with
  |str b=>
   rw[d7,QA]at e;obtain⟨bs,e1,e2⟩:=e;subst e2;rw[Reps]at r;obtain⟨y,ys,e3,r1,r2⟩:=r;obtain⟨h1,h2⟩:=eL e1 r2;obtain⟨h3,h4⟩:=bx r1;subst h3;refine⟨by rw[e3,h1];rfl,fun l hl=>?_⟩;rcases Qh.mp hl with rfl|hl
   ·exact h4
   ·exact h2 l hl
  |_=>simp[d7]at e
theorem gc{d:D}{k:Key}{v:V}(e:jB d=some k)(r:Rep K G d v):v=kV k/\d=kD k:=by
 cases d with
 |int i=>
  cases e;exact⟨bz r,rfl⟩
 |str l=>
  cases e;refine⟨(bx r).1,?_⟩;show D.str l=D.str (S l).cps.toList;rw[dC]
 |_=>cases e
theorem iM:∀{ds:List D}{ks:List Key}{xs:List V},eJ ds=some ks->Reps K G ds xs->xs=ks.map kV/\ds=ks.map kD
 |[],_,_,e,r=>by
  cases e;rw[Reps]at r;exact⟨r,rfl⟩
 |d::ds,_,_,e,r=>by
  rw[eJ,Qz]at e;obtain⟨k,e1,e⟩:=e;rw[QA]at e;obtain⟨ks,e2,e3⟩:=e;subst e3;rw[Reps]at r;obtain⟨y,ys,e4,r1,r2⟩:=r;obtain⟨h1,h2⟩:=gc e1 r1;obtain⟨h3,h4⟩:=iM e2 r2;rw[e4,h1,h2,h3,h4];exact⟨rfl,rfl⟩
theorem dE{d:D}{ks:List Key}{v:V}(e:eK d=some ks)(r:Rep K G d v):∃p,v=.ref p/\G p=some (.tup (ks.map kV))/\d=kT ks:=by
 cases d with
 |tup ds=>
  obtain⟨p,xs,ev,g,rs⟩:=sj r;obtain⟨h1,h2⟩:=iM e rs;subst h1;exact⟨p,ev,g,by rw[h2];rfl⟩
 |_=>cases e
theorem jC:∀{ds:List D}{HE:List (List Key)}{xs:List V},iL ds=some HE->Reps K G ds xs->∃al:List (Addr×List Key),xs=al.map (fun a=>V.ref a.1)/\HE=al.map (·.2)/\ds=al.map (fun a=>kT a.2)/\∀a∈al,G a.1=some (.tup (a.2.map kV))/\Rep K G (kT a.2) (.ref a.1)
 |[],_,_,e,r=>by
  cases e;rw[Reps]at r;exact⟨[],r,rfl,rfl,fun _ h=>nomatch h⟩
 |d::ds,_,_,e,r=>by
  rw[iL,Qz]at e;obtain⟨k,e1,e⟩:=e;rw[QA]at e;obtain⟨ks,e2,e3⟩:=e;subst e3;rw[Reps]at r;obtain⟨y,ys,e4,r1,r2⟩:=r;obtain⟨p,h1,h2,h5⟩:=dE e1 r1;obtain⟨al,h3,h4,h6,h7⟩:=jC e2 r2;subst h1;refine⟨(p,k)::al,by rw[e4,h3];rfl,by rw[h4];rfl,by rw[h5,h6];rfl,fun a ha=>?_⟩;rcases Qh.mp ha with rfl|ha
  ·exact⟨h2,by rw[<-h5];exact r1⟩
  ·exact h7 a ha
theorem eO{α:Type}{f:α->D}{g:α->V}:∀{l:List α},(∀a∈l,Rep K G (f a) (g a))->Reps K G (l.map f) (l.map g)
 |[],_=>Reps.nil
 |a::l,h=>.cons (h a P8) (eO fun b hb=>h b (Qg _ hb))
end
def sameKinds(k:List Key)(HE:List (List Key)):Bool:=!k.isEmpty&&HE.all fun j=>kinds j==kinds k
noncomputable def jD(ds:List D):Option (List D):=match cv ds with
 |some ns=>some ((bI ltI ns).map D.int)
 |none=>match d7 ds with
  |some ls=>some ((bI JQ ls).map D.str)
  |none=>match iL ds with
   |some (k::HE)=>if sameKinds k HE then some ((bI dJ (k::HE)).map kT) else none
   |_=>none
noncomputable def fG:List D->Res R
 |[.lst ds]=>if ds.length<64 then match jD ds with
  |some l=>.ok (.l .f,.lst l)
  |none=>.bad
  else .bad
 |[.dct true ks _]=>if ks.length<64 then match ks,iL ks with
  |[],_=>.ok (.l .f,.lst [])
  |_,some (k::HE)=>if sameKinds k HE then .ok (.l .f,.lst ((bI dJ (k::HE)).map kT)) else .bad
  |_,_=>.bad
  else .bad
 |_=>.bad
theorem g7{k:List Key}{HE:List (List Key)}(h:sameKinds k HE=true):∃top t,∀j∈k::HE,kinds j=top::t:=by
 unfold sameKinds at h;rw[Qo,Qp]at h;cases k with
 |nil=>simp at h
 |cons a k=>
  refine⟨a.isLeft,kinds k,fun j hj=>?_⟩;rcases Qh.mp hj with rfl|hj
  ·rfl
  ·exact QM.mp (h.2 j hj)
def iN(H G:Hp):Hp:=fun p=>match H p with
 |some (HO.tup xs)=>some (HO.tup xs)
 |_=>G p
theorem qv{H G:Hp}{p:Addr}{xs:List V}(e:H p=some (.tup xs)):iN H G p=some (.tup xs):=by
 unfold iN;rw[e]
theorem jE{H G:Hp}{p:Addr}{u:HO}(e:iN H G p=some u):G p=some u\/(isT u=true/\H p=some u):=by
 unfold iN at e;split at e
 ·rename_i xs hx;cases e;exact .inr ⟨rfl,hx⟩
 ·exact .inl e
theorem sH{H G:Hp}(gh:Same G H):Same G (iN H G):=fun p u e=>by
 unfold iN;rw[gh p u e];cases u with
 |tup xs=>rfl
 |_=>exact e
theorem Rel.addT{K:W.Frag}{G H:Hp}{es:PV.Env}{vs:L2.St}{fp:List Addr}(q:Rel K G H es vs fp):∃G',Rel K G' H es vs fp/\Step G H fp G' H fp/\∀p xs,H p=some (.tup xs)->G' p=some (.tup xs):=by
 have gg:=sH q.gh;refine⟨iN H G,⟨q.rep.step gg fun _ _=>rfl,q.nd,fun p hp=>?_,fun p u e=>?_⟩,⟨gg,fun _ _ e _=>e,fun _ h=>.inl h,fun p u e=>(jE e).imp_right fun z=>.inr (.inr z),fun _ u e=>⟨u,e⟩⟩,fun p xs e=>qv e⟩
 ·cases e:iN H G p with
  |none=>rfl
  |some u=>
   exfalso;rcases jE e with z|⟨t,z⟩
   ·rw[q.gn p hp]at z;cases z
   ·obtain⟨u2,h2,hm⟩:=q.rep.mut p hp;rw[z]at h2;cases h2;cases u with
    |tup _=>cases hm
    |frz _ _=>cases hm
    |_=>cases t
 ·rcases jE e with z|z
  ·exact q.gh p u z
  ·exact z.2
theorem Ba{K:W.Frag}{G:Hp}{k:Key}(h:wM k):Rep K G (kD k) (kV k):=by
 cases k with
 |inl i=>exact aU i
 |inr x=>
  have:=gI (K:=K) (G:=G) (l:=x.cps.toList) h;rw[mn]at this;exact this
theorem Bb(k:Key):jB (kD k)=some k:=by
 cases k with
 |inl i=>rfl
 |inr x=>
  show some (Sum.inr (S x.cps.toList))=_;rw[mn]
theorem jF:∀ks:List Key,eJ (ks.map kD)=some ks
 |[]=>rfl
 |k::ks=>by
  rw[Qn,eJ,Bb,jF ks];rfl
theorem ir:∀HE:List (List Key),iL (HE.map kT)=some HE
 |[]=>rfl
 |k::HE=>by
  rw[Qn,iL];show(eJ (k.map kD)).bind _=_;rw[jF,ir HE];rfl
section
variable{X:Cx}
theorem Pw{α:Type}{lt:α->α->Bool}{p:α->α->Prop}(h:∀a b,p a b->lt b a=false){l:List α}(q:l.Pairwise p):l.Pairwise (fun a b=>lt b a=false):=q.imp (h _ _)
theorem mO(hc:X.calm=true):cZ X (.builtin "sorted") (rC X.K fG):=by
 rintro pi s σ H xs us Q I rx ⟨G,fp,es,vs,ds,r,⟨rel,k⟩,vd,e⟩;unfold fG at e;split at e
 ·rename_i ds;split at e
  ·rename_i JL;split at e
   ·rename_i l hl;cases e;obtain⟨v,ev,p,ys,ep,sq,rs⟩:=kB vd;subst ev;subst ep;unfold jD at hl;split at hl
    ·rename_i ns Lx;cases hl;have hy:=gJ Lx rs;subst hy;have hlen:ns.length<64:=by have:=rs.length;rw[P5]at this;lia
     refine iY hc pi s σ H _ us Q I rx ⟨p,ns,rfl,sq,hlen,fun q ms hq pm sm=>?_⟩;have em:=g6 yt pm (Pw (fun a b h=>by unfold ltI;rw[Rl];lia) sm);subst em;obtain⟨Fe,Fo⟩:=rel.newL hq (eO (K:=X.K) (G:=G) (f:=D.int) (g:=V.int) fun a _=>aU a);exact k _ _ G _ Fo Fe
    ·split at hl
     ·rename_i ls hls;cases hl;obtain⟨hy,hz⟩:=eL hls rs;subst hy;have hlen:ls.length<64:=by have:=rs.length;rw[P5]at this;lia
      refine iZ hc pi s σ H _ us Q I rx ⟨p,ls,rfl,sq,hlen,fun q ms hq pm sm=>?_⟩;have em:=g6 oq pm (Pw (fun a b h=>by unfold JQ;rw[Rl];exact h) sm);obtain⟨Fe,Fo⟩:=rel.newL hq (eO (K:=X.K) (G:=G) (f:=D.str) (g:=fun l=>V.str (S l)) (l:=ms) fun a ha=>gI (hz a (pm.mem_iff.mp ha)));rw[<-em]at k;exact k _ _ G _ Fo Fe
     ·split at hl
      ·rename_i kk HE hk;split at hl
       ·rename_i hsk;cases hl;obtain⟨al,h1,h2,h3,h4⟩:=jC hk rs;obtain⟨top,t,HF⟩:=g7 hsk;subst h1;have hlen:al.length<64:=by have:=rs.length;rw[P5]at this;lia
        refine i0 hc pi s σ H _ us Q I rx ⟨p,al,top,t,rfl,sq,fun a ha=>⟨SqT.of (rel.gh _ _ (h4 a ha).1),HF a.2 (by rw[h2];exact QD.mpr ⟨a,ha,rfl⟩)⟩,hlen,fun q ms hq pm sm=>?_⟩;have em:ms.map (·.2)=bI dJ (kk::HE):=by
         rw[h2];refine g6 sy (pm.map _) ?_;rw[SR];exact sm
        obtain⟨Fe,Fo⟩:=rel.newL hq (eO (K:=X.K) (G:=G) (f:=fun a:Addr×List Key=>kT a.2) (g:=fun a=>V.ref a.1) (l:=ms) fun a ha=>(h4 a (pm.mem_iff.mp ha)).2);have ek:ms.map (fun a=>kT a.2)=(bI dJ (kk::HE)).map kT:=by rw[<-em,Qe];rfl
        rw[ek]at Fe;exact k _ _ G _ Fo Fe
       ·cases hl
      ·cases hl
   ·cases e
  ·cases e
 ·rename_i ks vv;split at e
  ·rename_i JL;obtain⟨v,ev,vt⟩:=kB vd;obtain⟨p,ys,o,ep,rd,dd,rs⟩:=vt;subst ev;subst ep;obtain⟨Ff,eo,ek,ex,Jj⟩:=dd;subst eo;have ek:ks=(Ff.map (·.1)).map kT:=by rw[ek,Qe];rfl
   have hlen:Ff.length<64:=by rw[ek,P5,P5]at JL;exact JL
   have go:∀(top:Bool) (t:List Bool),(∀kv∈Ff,kinds kv.1=top::t)->r=(.l .f,.lst ((bI dJ (Ff.map (·.1))).map kT))->wpAny (model X.prog X.w) X.A (call (.builtin "sorted") us) (EP X pi σ Q) X.xe s:=fun top t HF er=>by
    subst er;refine kj hc pi s σ H _ us Q I rx ⟨p,Ff,top,t,rfl,rd,HF,hlen,fun q ms hq hm pm sm=>?_⟩;have em:ms.map (·.2)=bI dJ (Ff.map (·.1)):=by
     refine g6 sy pm ?_;rw[SR];exact sm
    obtain⟨G2,Fe,Fo,ht⟩:=rel.addT;have HS:∀a∈ms,Rep X.K G2 (kT a.2) (.ref a.1):=fun a ha=>by
     unfold kT;rw[Rep];refine⟨a.1,_,rfl,ht _ _ (hm a ha),?_⟩;refine eO (f:=kD) (g:=kV) fun key Hn=>Ba ?_
     have:a.2∈Ff.map (·.1):=pm.mem_iff.mp (QD.mpr ⟨a,ha,rfl⟩);obtain⟨kv,IF,e2⟩:=QD.mp this;exact Jj kv IF key (by rw[e2];exact Hn)
    obtain⟨FC,FQ⟩:=Fe.newL hq (eO (K:=X.K) (G:=G2) (f:=fun a:Addr×List Key=>kT a.2) (g:=fun a=>V.ref a.1) (l:=ms) HS);have ek:ms.map (fun a=>kT a.2)=(bI dJ (Ff.map (·.1))).map kT:=by rw[<-em,Qe];rfl
    rw[ek]at FC;exact k _ _ G2 _ (Fo.trans FQ) FC
   rw[ek,ir]at e;split at e
   ·rename_i LZ;cases e;have:Ff=[]:=by
     cases Ff with
     |nil=>rfl
     |cons a b=>cases LZ
    subst this;exact go true [] (fun _ h=>nomatch h) rfl
   ·rename_i kk HE heq IA;split at e
    ·rename_i hsk;cases e;obtain⟨top,t,HF⟩:=g7 hsk;have heq:Ff.map (·.1)=kk::HE:=by
      injection heq
     refine go top t (fun kv IF=>HF kv.1 ?_) (by rw[heq]);rw[<-heq];exact QD.mpr ⟨kv,IF,rfl⟩
    ·cases e
   ·cases e
  ·cases e
 ·cases e
def JW(a b:D):Res R:=match eK a,eK b with
 |some ks,some js=>if kinds ks==kinds js then .ok (.f,.bl (dJ ks js)) else .bad
 |_,_=>MH a b
def geO(a b:D):Res R:=match eK a,eK b with
 |some ks,some js=>if kinds ks==kinds js then .ok (.f,.bl (!dJ ks js)) else .bad
 |_,_=>match a,b with
  | .str a,.str b=>.ok (.f,.bl (!decide (a<b)))
  |a,b=>geD a b
theorem pE(hu:X.A.units<cLine):F3 X (compareOp .Lt) (rG X.K JW):=by
 rintro pi s σ H x y v u Q I rx ry ⟨G,fp,es,vs,a,b,r,⟨rel,k⟩,va,vb,e⟩;unfold JW at e;split at e
 ·rename_i ks js h1 h2;split at e
  ·rename_i hk;cases e;have ra:Rep X.K G a x:=by cases a <;> first|exact va|cases h1
   have rb:Rep X.K G b y:=by cases b <;> first|exact vb|cases h2
   obtain⟨p,e1,g1,_⟩:=dE h1 ra;obtain⟨p2,e2,g2,_⟩:=dE h2 rb;subst e1;subst e2;exact AI hu pi s σ H _ _ v u Q I rx ry ⟨p,p2,ks,js,rfl,rfl,SqT.of (rel.gh _ _ g1),SqT.of (rel.gh _ _ g2),QM.mp hk,k _ H G fp .refl (rel.push (cP _))⟩
  ·cases e
 ·exact Dl pi s σ H x y v u Q I rx ry ⟨G,fp,es,vs,a,b,r,⟨rel,k⟩,va,vb,e⟩
end
def eNewD(tk:Bool):FX:=fun env=>.ok ((.d,.dct tk [] []),env)
section
variable{md:Mode}{X:Cx}
def qw(ks vs:List D)(k v:D):List D×List D:=if ks.any (Fj k) then(ks,(ks.zip vs).map fun p=>if Fj k p.1 then v else p.2) else(ks++[k],vs++[v])
def d8(tk:Bool)(k:D):Bool:=if tk then(eK k).isSome else(jB k).isSome
noncomputable def Cz(i:Nat)(fk fv:FX):FS:=fun env=>(fv env).bind fun p=>(fk p.2).bind fun q=>match p.2[i]?,q.2[i]? with
 |some (some _),some (some (.d,.dct tk ks vs))=>if d8 tk q.1.2&&decide (ks.length<sizeLine) then .ok (.nx (q.2.set i (some (.d,.dct tk (qw ks vs q.1.2 p.1.2).1 (qw ks vs q.1.2 p.1.2).2)))) else .bad
 |_,_=>.bad
theorem sI(a b:Key):Fj (kD a) (kD b)=decide (a=b):=by
 cases a with
 |inl i=>
  cases b with
  |inl j=>simp only[kD,Fj];rw[Qv];simp
  |inr y=>simp only[kD,Fj];simp
 |inr x=>
  cases b with
  |inl j=>simp only[kD,Fj];simp
  |inr y=>
   simp only[kD,Fj];rw[Qv];simp only[QM,Qm,Sum.inr.injEq];exact⟨fun h=>by rw[<-mn x,<-mn y,h],fun h=>by rw[h]⟩
theorem sJ:∀a b:List Key,iq (a.map kD) (b.map kD)=decide (a=b)
 |[],[]=>by simp[iq]
 |[],_::_=>by simp[iq]
 |_::_,[]=>by simp[iq]
 |a::r,b::t=>by
  rw[Qn,Qn,iq,sI,sJ r t,Qv];simp
theorem wY(a b:List Key):Fj (kT a) (kT b)=decide (a=b):=by
 unfold kT;rw[Fj];exact sJ a b
theorem mP{κ:Type}[DecidableEq κ]{K:W.Frag}{G:Hp}(f:κ->D)(hf:∀a b,Fj (f a) (f b)=decide (a=b)){Ff:List (κ×V)}{vs:List D}{k:κ}{v:D}{y:V}(r:Reps K G vs (Ff.map (·.2)))(ry:Rep K G v y):
  (i4 Ff k y).map (fun kv=>f kv.1)=(qw (Ff.map fun kv=>f kv.1) vs (f k) v).1/\Reps K G (qw (Ff.map fun kv=>f kv.1) vs (f k) v).2 ((i4 Ff k y).map (·.2)):=by
 have e:(Ff.map fun kv=>f kv.1).any (Fj (f k))=Ff.any fun kv=>decide (kv.1=k):=by
  rw[RN];congr 1
  funext kv
  show Fj (f k) (f kv.1)=_;rw[hf,Qv];simp only[Qm];exact⟨fun z=>z.symm,fun z=>z.symm⟩
 unfold qw i4;rw[e];split
 ·refine⟨?_,?_⟩
  ·rw[Qe];refine QK fun kv _=>?_
   show f (if kv.1=k then(kv.1,y) else kv).1=f kv.1;split <;> rfl
  ·rename_i KR;clear e KR;induction Ff generalizing vs with
   |nil=>
    have:vs=[]:=Ro (by rw[<-r.length];rfl);subst this;exact Reps.nil
   |cons kv Ff ih=>
    cases vs with
    |nil=>have:=r.length;simp at this
    |cons d vs=>
     rw[Qn,Reps.cons_iff]at r;rw[Qn,Rz,Qn,Qn,Qn];refine .cons ?_ (ih r.2);show Rep K G (if Fj (f k) (f kv.1)=true then v else d) (if kv.1=k then(kv.1,y) else kv).2;rw[hf];by_cases hk:kv.1=k
     ·rw[Qa (by simp[hk]),Qa hk];exact ry
     ·rw[Qf (by simp;exact fun z=>hk z.symm),Qf hk];exact r.1
 ·refine⟨?_,?_⟩
  ·rw[Qi];rfl
  ·rw[Qi];exact r.app (.one ry)
theorem Rel.chgD{K:W.Frag}{G H:Hp}{es:PV.Env}{vs:L2.St}{fp:List Addr}{i:Nat}{tk:Bool}{ks ws:List D}(q:Rel K G H es vs fp)(e:es[i]?=some (some (.d,.dct tk ks ws))):∃p xs u,vs[i]?=some (some (.ref p))/\H p=some u/\DictO u tk ks xs/\Reps K G ws xs/\
  ∀u' Jb G0 Na,DictO u' tk Jb G0->Reps K G Na G0->∃fq,Rel K G (upd H p u') (es.set i (some (.d,.dct tk Jb Na))) vs fq/\Step G H fp G (upd H p u') fq:=by
 obtain⟨v,fq,ev,g,st,He⟩:=q.out e;obtain⟨y,ys,e0,v',a,b,e1,e2,r1,r2⟩:=g.rep;cases e0;cases e1;rw[RepO]at r1;obtain⟨p,xs,u,e3,hp,dd,e4,rs⟩:=r1;subst e3;subst e4;subst e2;have nd:=Qw.mp (show(p::b).Nodup from g.nd);refine⟨p,xs,u,ev,hp,dd,rs,fun u' Jb G0 Na KN Hy=>?_⟩;have g2:Rel K G (upd H p u') (some (.d,.dct tk Jb Na)::es.set i none) (some (.ref p)::vs) (p::b):=by
  refine⟨⟨some (.ref p),vs,rfl,.ref p,[p],b,rfl,rfl,?_,r2.step (.refl _) fun z hz=>aD fun e=>nd.1 (e▸hz)⟩,g.nd,g.gn,fun z o ez=>?_⟩
  ·rw[RepO];exact⟨p,G0,u',rfl,aV,KN,rfl,Hy⟩
  ·have:z≠p:=fun w=>by
    subst w;rw[g.gn z P8]at ez;cases ez
   rw[aD this];exact g.gh z o ez
 have Nb:Step G H (p::b) G (upd H p u') (p::b):=by
  refine⟨.refl _,fun z o ez nz=>?_,fun z hz=>.inl hz,fun z o ez=>.inl ez,fun z o ez=>?_⟩
  ·have:z≠p:=fun w=>nz (by rw[w];exact P8)
   rw[aD this];exact ez
  ·by_cases w:z=p
   ·subst w;exact⟨_,aV⟩
   ·exact⟨o,by rw[aD w];exact ez⟩
 obtain⟨fz,g3,FQ⟩:=g2.back (i:=i) (by rw[R8];exact(List.getElem?_eq_some_iff.mp e).1) ev;rw[Tn]at g3;exact⟨fz,g3,st.trans (Nb.trans FQ)⟩
theorem sL{K:W.Frag}{G:Hp}{d:D}{k:Key}{v:V}(e:jB d=some k)(r:Rep K G d v):wM k:=by
 cases d with
 |int i=>cases e;trivial
 |str l=>
  cases e;show(S l).cps.toList.length<=sizeLine;rw[dC];exact(bx r).2
 |_=>cases e
theorem sM{K:W.Frag}{G:Hp}:∀{ds:List D}{ks:List Key}{xs:List V},eJ ds=some ks->Reps K G ds xs->∀k∈ks,wM k
 |[],_,_,e,_=>by
  cases e;exact fun _ h=>nomatch h
 |d::ds,_,_,e,r=>by
  rw[eJ,Qz]at e;obtain⟨k,e1,e⟩:=e;rw[QA]at e;obtain⟨ks,e2,e3⟩:=e;subst e3;rw[Reps]at r;obtain⟨y,ys,e4,r1,r2⟩:=r;intro z hz;rcases Qh.mp hz with rfl|hz
  ·exact sL e1 r1
  ·exact sM e2 r2 z hz
theorem pF{κ:Type}[DecidableEq κ]{P:κ->Prop}{Ff:List (κ×V)}{k:κ}{y:V}(h:∀kv∈Ff,P kv.1)(hk:P k):∀kv∈i4 Ff k y,P kv.1:=by
 intro kv IF;unfold i4 at IF;split at IF
 ·obtain⟨z,hz,e⟩:=QD.mp IF;rw[<-e];split
  ·exact h z hz
  ·exact h z hz
 ·rcases QH.mp IF with IF|IF
  ·exact h kv IF
  ·rw[Qx]at IF;rw[IF];exact hk
theorem Bc{i:Nat}{o ix value:Expr}{fk fv:FX}{pos pos':Pos}(hu:X.A.units+1<cLine)(ho:PE X o (qL i))(hi:QE X ix fk)(hv:QE X value fv)(hs:swapsWith value (some (.Subscript o ix pos')) pos.line X.env=pure false:=by rfl):
  QS (md:=md) X (.Assign [.Subscript o ix pos'] value pos) (Cz i fk fv):=e7 (x4 hu ho hi hv hs) fun Dd σ H Fs=>by
 obtain⟨G,env,fp,rel,k⟩:=Fs;unfold Cz at k;match q1:fv env,k with
 | .ok (r1,Fd),k=>
  have k:OutOk X.K G H fp Dd ((fk Fd).bind fun q=>match Fd[i]?,q.2[i]? with
   |some (some _),some (some (.d,.dct tk ks vs))=>if d8 tk q.1.2&&decide (ks.length<sizeLine) then .ok (.nx (q.2.set i (some (.d,.dct tk (qw ks vs q.1.2 r1.2).1 (qw ks vs q.1.2 r1.2).2)))) else .bad
   |_,_=>.bad):=k
  match q2:fk Fd,k with
  | .ok (r2,Fl),k=>
   have k:OutOk X.K G H fp Dd (match Fd[i]?,Fl[i]? with
    |some (some _),some (some (.d,.dct tk ks vs))=>if d8 tk r2.2&&decide (ks.length<sizeLine) then .ok (.nx (Fl.set i (some (.d,.dct tk (qw ks vs r2.2 r1.2).1 (qw ks vs r2.2 r1.2).2)))) else .bad
    |_,_=>.bad):=k
   split at k
   ·rename_i rr tk ks ws h1 h2;split at k
    ·rename_i hc;rw[Qo,Qm]at hc;refine⟨G,env,fp,r1,Fd,rel,q1,fun y H1 G1 FE Fx Fh=>?_⟩;obtain⟨G2,b,ry,Fe,Fo⟩:=Fh.freeze;obtain⟨v0,Np,_⟩:=Fe.view h1;refine⟨v0,Np,G2,Fd,b,r2,Fl,Fe,q2,fun z H3 G3 HC FQ FC=>?_⟩;obtain⟨G4,b4,rz,FV,Gv⟩:=FC.freeze;obtain⟨p,xs,u,ep,hp,dd,rs,cg⟩:=FV.chgD h2;rw[Np]at ep;cases ep;have Od:Rep X.K G4 r1.2 y:=Rep.mono (FQ.gg.trans Gv.gg) ry;cases tk with
     |true=>
      obtain⟨Ff,eu,ek,ex,Jj⟩:=dd;subst eu;subst ex;have hk:=hc.1;unfold d8 at hk;rw[Qa rfl,Rr]at hk;obtain⟨kk,hk⟩:=hk;obtain⟨pz,ez,gz,dz⟩:=dE hk rz;subst ez;obtain⟨t1,t2⟩:=mP (K:=X.K) (G:=G4) kT wY (k:=kk) rs Od;have ek:ks=Ff.map fun kv=>kT kv.1:=ek
      rw[<-ek,<-dz]at t1 t2;have hfk:∀key∈kk,wM key:=by
       cases hd:r2.2 with
       |tup ds=>
        rw[hd]at hk rz;obtain⟨_,G0,_,_,Hy⟩:=sj rz;exact sM hk Hy
       |_=>rw[hd]at hk;cases hk
      obtain⟨fq,F8,GZ⟩:=cg (.dT (i4 Ff kk y)) _ _ _ ⟨i4 Ff kk y,rfl,t1.symm,rfl,pF (P:=fun ks=>∀k∈ks,wM k) Jj hfk⟩ t2;have hlen:Ff.length<sizeLine:=by have:=hc.2;rw[ek,P5]at this;exact this
      exact⟨p,_,rfl,DPut.t hp (FV.gh _ _ gz) hlen,k _ _ G4 fq (Fx.trans (Fo.trans (FQ.trans (Gv.trans GZ)))) F8⟩
     |false=>
      obtain⟨Ff,eu,ek,ex,Jj⟩:=dd;subst eu;subst ex;have hk:=hc.1;unfold d8 at hk;rw[Qf Qb,Rr]at hk;obtain⟨kk,hk⟩:=hk;obtain⟨ez,dz⟩:=gc hk rz;subst ez;obtain⟨t1,t2⟩:=mP (K:=X.K) (G:=G4) kD sI (k:=kk) rs Od;rw[<-ek,<-dz]at t1 t2;obtain⟨fq,F8,GZ⟩:=cg (.dK (i4 Ff kk y)) _ _ _ ⟨i4 Ff kk y,rfl,t1.symm,rfl,pF (P:=wM) Jj (sL hk rz)⟩ t2;have hlen:Ff.length<sizeLine:=by have:=hc.2;rw[ek,P5]at this;exact this
      exact⟨p,_,rfl,DPut.k hp hlen,k _ _ G4 fq (Fx.trans (Fo.trans (FQ.trans (Gv.trans GZ)))) F8⟩
    ·exact k.elim
   ·exact k.elim
end
end PV
namespace NX
open PySem PySem.Spec PyProof.Rows L2
section
variable{prog:Program}{w:World}{A:Around}{E:Value->Shared->Prop}{s:Shared}{d:Addr}{es:Array DictEntry}{ep:Nat}
theorem lF(nm:(d==sysModules)=false):MeetsIn prog w (Builtin.«dict.__len__» ⟨[.ref d],[]⟩) (fun _ R s=>RawD s.heap d es ep/\R (.ok (.ret (.int es.size s.toks))) {s with toks:=s.toks+1}):=
 .of_wp fun A R s Fs=>by
  obtain⟨⟨o,g,_,dat⟩,h⟩:=Fs;show wpAny _ _ (dictSize d >>= fun _=>_) _ _ s;unfold dictSize;refine P2 (P2 (SQ g dat (P4 ?_)));show wpAny _ _ (Builtin.Dict.pendingCount d >>= fun _=>_) _ _ s;refine P2 (wpAny_pendingCount_other nm (wpAny_ret_mkInt ?_));rw[Vl];exact h
theorem yu{Q:Value->Shared->Prop}(nm:(d==sysModules)=false)(x:RawD s.heap d es ep)(hf:(es.size:Int)<2 ^ 63)(h:Q (.int es.size (s.toks+1)) {s with toks:=s.toks+1+1}):wpAny (model prog w) A (call (.builtin "len") [.ref d]) Q E s:=by
 have ty:=ja x;refine Ss kind_len plain_len entry_len (args_len1 _) ?_;unfold Builtin.«len»;refine P2 (m:=oneArg "len" _) (P4 (P2 (m:=callSpecial? (.ref d) (Str.ofString "__len__")) (wpAny_callSpecial?_slot (name:=Str.ofString "__len__") ty F.slot_dict_len
  (call_meetsIn F.slot_dict_len ty F.entry_dict_len (F.args_dict_len_1 _) (lF (es:=es) (ep:=ep) nm) ⟨x,?_⟩))))
 show wpAny _ _ _ _ _ {s with toks:=s.toks+1};refine P2 (RG (P4 (P2 (RT ?_))));show wpAny _ _ (if((es.size:Nat):Int)<0 then _ else _) _ _ _;rw[Qf (Int.not_lt.mpr (Int.natCast_nonneg _))];show wpAny _ _ (if((es.size:Nat):Int)>=2 ^ 63 then _ else _) _ _ _;rw[Qf (Int.not_le.mpr hf)];exact P2 (wpAny_mkInt (P4 ⟨_,rfl,h⟩))
end
end NX
namespace PV
open PySem PySem.Spec PyProof.Rows L2 NX
section
variable{X:Cx}
def nN:List D->Res R
 |[.dct _ ks _]=>.ok (.f,.int ks.length)
 |ds=>Dp ds
theorem Bd{pi:List (Addr×Obj)}{σ:L2.St}{H:Hp}{s:Shared}(I:Inv X pi σ H s){p:Addr}{o:HO}{tk:Bool}{ks:List D}{xs:List V}(rd:Rd H p o)(dd:DictO o tk ks xs):(p==sysModules)=false/\∃es ep,RawD s.heap p es ep/\es.size=ks.length/\ks.length<=sizeLine:=by
 have ok:=rd.ok I.hok;cases tk with
 |true=>
  obtain⟨Ff,eo,ek,_⟩:=dd;subst eo;obtain⟨z,nm,ws,r,o2,es,ep,h1,h2,h3,h4,_⟩:=ok;refine⟨nm,es,ep,⟨o2,h1,h2,h3⟩,?_,by rw[ek,P5];exact z⟩;have:=Rg List.length h4;rw[P5,RB,<-S4 r]at this;rw[ek,P5];exact this
 |false=>
  obtain⟨Ff,eo,ek,_⟩:=dd;subst eo;obtain⟨z,nm,ws,r,o2,es,ep,h1,h2,h3,h4,h5,_⟩:=ok;refine⟨nm,es,ep,⟨o2,h1,h2,h3⟩,?_,by rw[ek,P5];exact z⟩;have l1:=h5.length;have l2:Ff.length=ws.length:=S4 r;rw[ek,P5];rw[RB]at l1;lia
theorem gK:cZ X (.builtin "len") (rC X.K nN):=by
 rintro pi s σ H xs us Q I rx ⟨G,fp,es,vs,ds,r,⟨rel,k⟩,vd,e⟩;unfold nN at e;split at e
 ·rename_i tk ks ws;cases e;obtain⟨v,ev,p,ys,o,ep,rd,dd,_⟩:=kB vd;subst ev;subst ep;obtain⟨u,rfl,ru⟩:=dy rx;cases ru;obtain⟨nm,en,ep,raw,h1,h2⟩:=Bd I rd dd;refine yu nm raw (by rw[h1];rw[Ri]at h2;lia) ?_;refine⟨.int ks.length,H,I.tok _,⟨_,by rw[h1]⟩,k _ H G fp .refl (rel.push (aU _))⟩
 ·exact AV pi s σ H xs us Q I rx ⟨G,fp,es,vs,_,r,⟨rel,k⟩,vd,e⟩
def Ds(g:List Nat->List D->Res R)(fa:FO)(fs:FOs):FX:=fun env=>(fa env).bind fun p=>match Gx p.2 p.1 with
 | .ok (.str l)=>(fs p.2).bind fun q=>(nL q.2 q.1).bind fun ds=>(g l ds).bind fun r=>.ok (r,q.2)
 |_=>.bad
inductive rMtS(K:W.Frag)(g:List Nat->List D->Res R)(x:V)(xs:List V)(H:Hp)(Q:VK):Prop
 |mk:∀G fp es vs l ds r,Goes K H G fp es vs r Q->x=.str (S l)->l.length<=sizeLine->Lz K G H ds xs->g l ds=.ok r->rMtS K g x xs H Q
theorem Be{g:List Nat->List D->Res R}{id:String}{name:Str}{o e:Expr}{es:List Expr}{fa:FO}{fs:FOs}{apos Fw:Pos}(slot:Slot "str" name id)(J2:typeOf (.builtin id)=pure (.type "method_descriptor"))(hm:KC X id (rMtS X.K g))(ho:QO X o fa)(ha:JN X (e::es) fs)
  (Ge:attributeBase o name X.env (eval o X.env)=eval o X.env:=by rfl)
  (Hi:((backTo Fw (starEach (e::es) X.env)).all (fun x=>!x.1)&&(backToKw Fw (keywordEach [] X.env)).all (fun x=>x.1.isSome)&&decide ((e::es).length+([]:List Keyword).length+(if([]:List Keyword).isEmpty then 0 else 1)<30))=true:=by rfl)
  (Gf:(apos.endLine==Fw.line)=true:=by rfl) (hs:starEach (e::es) X.env=(false,eval e X.env)::starEach es X.env:=by rfl) (FR:(backTo Fw (starEach es X.env)).any (·.1)=false:=by rfl):
  QE X (.Call (.Attribute o name apos) (e::es) [] Fw) (Ds g fa fs):=by
 refine bK (uR PySem.F.plainAttrs_str slot J2 hm ho ha Ge Hi Gf hs FR) fun σ H Q Fz=>?_
 obtain⟨G,env,fp,r,env',rel,e,k⟩:=Fz;obtain⟨⟨oa,Fd⟩,e1,e⟩:=ai e;dsimp only at e;split at e
 ·rename_i l hl;obtain⟨⟨os,Fl⟩,e2,e⟩:=ai e;obtain⟨ds,e3,e⟩:=ai e;obtain⟨r',e4,e⟩:=ai e;cases e;refine⟨G,env,fp,oa,Fd,rel,e1,fun v H1 G1 FE Fx Fh Hc=>?_⟩;obtain⟨ev,hz⟩:=fC (Fh.vw Hc hl);subst ev;exact⟨rfl,G1,Fd,FE,os,Fl,Fh,e2,fun vs H2 G2 F0 Fo Fe JO=>⟨G2,F0,Fl,σ,l,ds,r,⟨Fe,fun v H' G' Fm st FJ=>k v H' G' Fm (Fx.trans (Fo.trans st)) FJ⟩,rfl,hz,Fe.vws JO e3,e4⟩⟩
 ·cases e
end
theorem fnok_of{P:Program}{w:World}{K:W.Frag}{mg:Str->Option Value}{base:Heap}{x:Str}{st:Stmt}{N ps:List Str}{k:Nat}{g:FS}{f:Addr}{fd:FuncData}(F:Fun K x x st f fd)(sc:FnScope N ps (defScope st))
  (body:∀(FK:Value) (A:Around) (outer:List PySem.Env) (s:Shared) (H:Hp) (E:XK),Room k (A.deeper (envOfC x (defScope st) s.heap.objs.size f FK))->Kx (md:=.plain) (wB J4 P w K mg base N x (defScope st) f FK A outer s H E).nox (dB st) g):
  FnOk P w K mg base J4 (k+1) f fd ps (spF K (fBody ps.length (N.length-ps.length) g)):=by
 refine F.ok sc (fun vs H Q E h=>?_) (fun FK A outer s H vs Q E hr h=>?_)
 ·obtain⟨G,ds,r,_,rs,e,_⟩:=h;unfold fBody at e;split at e
  ·rename_i hl;rw[rs.length,hl]
  ·cases e
 ·obtain⟨G,ds,r,gh,rs,e,q⟩:=h;unfold fBody at e;split at e
  ·rename_i hl;refine⟨_,body FK A outer s H E hr,G,ds.map (fun d=>some (O.f,d))++List.replicate (N.length-ps.length) none,[],⟨?_,RM,(fun _ h=>nomatch h),gh⟩,?_⟩
   ·have:=ju (K:=K) (G:=G) (H:=H) (N.length-ps.length) rs;unfold L2.start;rw[rs.length,hl];exact this
   ·obtain⟨o,eo,e⟩:=ai e;rw[eo];cases o with
    |rt r'=>
     cases e;exact fun v H' G' Fm st rel=>q v H' G' Fm st rel
    |nx env'=>
     cases e;exact fun σ' H' G' Fm st rel=>q .non H' G' [] (st.trans (Step.cut fun _ h=>nomatch h)) (rel.nilF.push lu)
    |bk env'=>cases e
    |ct env'=>cases e
  ·cases e
def vC(K:W.Frag):Sp:=fun vs H Q _=>∃(a:Addr) (ns:List Int),vs=[.ref a]/\SqL K H a (ns.map V.int)/\ns.length<=63/\∀H',Q (.bl true) H'
theorem Bf{K:W.Frag}{F:List D->Res R}(h:∀ns:List Int,ns.length<=63->∃o,F [.lst (ns.map D.int)]=.ok (o,.bl true)):∀vs H Q E,vC K vs H Q E->spF K F vs H Q E:=by
 rintro vs H Q E ⟨a,ns,rfl,sq,hl,q⟩;obtain⟨o,e⟩:=h ns hl;refine⟨H,_,_,.refl _,?_,e,fun v H' G' Fm st rel=>?_⟩
 ·refine .one ?_;rw[Rep];exact⟨a,_,rfl,sq,eO fun n _=>aU n⟩
 ·rw[cQ rel.top];exact q H'
theorem _root_.L2.Room.u65{k:Nat}{A:Around}(r:Room k A):A.units+65<cLine:=by have:=r.un;lia
def Bg(f:FX)(a:FG):FS:=fun env=>(f env).bind fun p=>(a p.1.2 p.2).bind fun e=>.ok (.nx e)
theorem wZ{X:Cx}{tg e:Expr}{f:FX}{a:FG}{pos:Pos}(he:QE X e f)(hg:QG X tg a)(hs:swapsWithSole [tg] e pos.line X.env=pure false:=by rfl)(hw:swappedStores [tg] e X.env=pure none:=by rfl)
  (h1:(assignEach [tg] X.env).map (·.2)=[assign tg X.env]:=by rfl):QS (md:=md) X (.Assign [tg] e pos) (Bg f a):=e7 (Ac he hg hs hw h1) fun Dd σ H Fs=>by
 obtain⟨G,env,fp,rel,k⟩:=Fs;unfold Bg at k;match q:f env,k with
 | .ok (r,Fd),k=>
  have k:OutOk X.K G H fp Dd ((a r.2 Fd).bind fun e=>.ok (.nx e)):=k;match q2:a r.2 Fd,k with
  | .ok Fl,k=>
   refine⟨G,env,fp,r,Fd,rel,q,fun v H1 G1 FE Fx Fh=>?_⟩;obtain⟨G2,b,rv,Fe,Fo⟩:=Fh.freeze;exact⟨G2,Fd,b,r.2,Fl,Fe,rv,q2,fun σ' G' Fm st FJ=>k σ' H1 G' Fm (Fx.trans (Fo.trans st)) FJ⟩
theorem EW{l:PySem.W.OpenLaw}{q:Program}{loose:List Str}{XP:(Str->Option Value)->Heap->Prop}{YP:World->Heap->Prop}{d:DefRec}{K:Params->W.Frag}{k:Nat}{x:Str}(hn:l.most=some 63)(MX:d.params.defaults=[])(hr:Room k PySem.callerA)
  (hY:∀(w:World) (h:Heap),YP w h->(K w.params).In h)
  (F:∀(w:World) (mg:Str->Option Value) (fa:Addr) (h:Heap),(K w.params).In h->h.Ns mainGlobals mg->mg d.name=some (.ref fa)->
   ∃fd:FuncData,(∀(s:Shared) (u:Value),BindsTo s fd ⟨[u],[]⟩ [(x,u)])/\∀base:Heap,(K w.params).In base->base.Ns mainGlobals mg->FnOk l.prog w (K w.params) mg base J4 k fa fd [x] (vC (K w.params))):
  PySem.W.WalkO q loose XP YP l.row.toRowW d [] (fun f vs=>PySem.call f vs):=
 L2.xN (n:=63) (k:=k) (x:=x) (CX:=fun _=>J4) (sp:=fun w=>vC (K w.params)) hn (by decide) MX hr hY F (fun _ _ a ns hl _ hS=>⟨a,ns,rfl,hS,hl,fun _=>rfl⟩) fun _ _ _ _ _ z=>z
theorem pG:bootBuiltins "max" = some (.builtin "max"):=by decide +kernel
theorem Bh:bootBuiltins "min" = some (.builtin "min"):=by decide +kernel
theorem Bi:bootBuiltins "sum" = some (.builtin "sum"):=by decide +kernel
theorem Bj:bootBuiltins "all" = some (.builtin "all"):=by decide +kernel
theorem w4:bootBuiltins "any" = some (.builtin "any"):=by decide +kernel
theorem mQ:bootBuiltins "sorted" = some (.builtin "sorted"):=by decide +kernel
theorem bY{K:W.Frag}{h:Heap}{mg:Str->Option Value}{x:Str}{st:Stmt}{f:Addr}{oc:Value}{od an:Option Addr}{Ks:Array (Option Value)}{kV doc pm FK ct:Value}(X:K.In h)(G:h.Ns mainGlobals mg)
  (a:PySem.W.nsIn K mainGlobals x=some (some (.ref f))) (l:K.lookup f=some ⟨oc,od,.func (PySem.W.fnOf x x (fB st) (dB st) (defScope st) .none kV doc pm an FK ct),Ks⟩)
  (c:PySem.W.codeIn K FK x=true) (k:PySem.W.keepIn K (.ref f)=true):Def K mg x st:=⟨f,_,wG l c k,PySem.W.mg_of X G a⟩
inductive tQL(K:W.Frag)(f:FI)(σ:L2.St)(H:Hp)(R:It->Hp->Prop):Prop
 |mk:∀G env fp ds env',Rel K G H env σ fp->f env=.ok (ds,env')->(∀J H' G' Fm,Step G H fp G' H' Fm->Rel K G' H' env' σ Fm->(∀G2,Same G' G2->(∀(i:Nat) (r:PV.R) (v:V),env'[i]?=some (some r)->σ[i]?=some (some v)->Rep K G2 r.2 v)->Walk K G2 J ds)->R J H')->tQL K f σ H R
def L0(X:Cx)(tg e:Expr)(f:FI):Prop:=PI X tg e (tQL X.K f)
theorem Walk.mono{K:W.Frag}{G G2:Hp}{J:It}{ds:List D}(w:Walk K G J ds)(gg:Same G G2):Walk K G2 J ds:=fun G' H' es vs fp g rel=>w G' H' es vs fp (gg.trans g) rel
theorem w5{K:W.Frag}{fi:FI}{ix:List (Option Nat)}{a:FG}{c:FT}{f:FX}{σ:L2.St}{H:Hp}{Q:VK}(h:tQ K (cB fi ix a c f) σ H Q):uV (tQL K fi) ix (tQG K a) (tQT K c) (tQ K f) σ H Q:=by
 obtain⟨G,env,fp,r,env',rel,e,k⟩:=h;obtain⟨⟨ds,Fd⟩,e1,e⟩:=ai e;obtain⟨rs,e2,e⟩:=ai e;refine⟨G,env,fp,ds,Fd,rel,e1,fun J H1 G1 FE Fx Fh wk D hD=>?_⟩;dsimp only at e e2;split at e
 ·rename_i hz;have er:r=(.l .f,.lst rs):=by cases e;rfl
  have ee:env'=if flatDs rs then Fd else Fd.map frz:=by cases e;rfl
  subst er;obtain⟨G2,Ng,Nh,HS,hrE,IG⟩:=Fh.lend;have wk2:=wk G2 Ng HS;have Fe:Rel K G2 H1 (cj ix Fd) (iI ix σ) []:=⟨d5 HS (fun i r er=>let⟨v,ev,_⟩:=Fh.view er;⟨v,ev⟩) ix,RM,(fun _ h=>nomatch h),Nh⟩
  obtain⟨FC,FQ⟩:=Fe.newL (ds:=[]) (xs:=[]) hD .nil;refine⟨fun i m σ1 H2=>m=ds.length-i/\i<=ds.length/\∃G' es Fm acc dI,Step G2 H1 [] G' H2 Fm/\Rel K G' H2 (some (.l .f,.lst acc)::es) (some (.ref D)::σ1) Fm/\bX a c f (ds.drop i) es=.ok dI/\acc++dI=rs,
   ⟨_,rfl,QJ _,G2,cj ix Fd,_,[],rs,FQ,FC,e2,rfl⟩,?_⟩
  rintro i m σ1 H2 ⟨rfl,hi,G3,es,HC,acc,dI,Gv,FV,e4,HG⟩;obtain⟨w1,w2⟩:=wk2 G3 H2 _ _ _ Gv.gg FV i;by_cases FH:i<ds.length
  ·have hd:ds[i]?=some ds[i]:=List.getElem?_eq_getElem FH;obtain⟨go,yl⟩:=w1 _ hd;rw[Su FH]at e4;unfold bX at e4;obtain⟨Nq,h1,e4⟩:=ai e4;obtain⟨⟨b,Kc⟩,h2,e4⟩:=ai e4;dsimp only at e4;refine .inr ⟨go,fun x H3 y=>?_⟩;obtain⟨G4,rx,F8,GZ⟩:=yl x H3 y;obtain⟨fa,fb,Nr,ra,L1,bk⟩:=F8.frame;refine⟨G4,es,fb,ds[i],Nq,L1,rx,h1,fun σ2 G5 Kd OW L3=>?_⟩;refine⟨G5,Nq,Kd,b,Kc,L3,h2,fun H6 G6 Nu OX Ke=>?_⟩;have Kf:=OW.trans OX;cases b with
   |false=>
    refine iteF ⟨ds.length-(i+1),by lia,rfl,FH,?_⟩;obtain⟨Il,Jk⟩:=bk G6 H6 Kc σ2 Nu Kf Ke;rw[<-Nr]at Jk;exact⟨G6,Kc,_,acc,dI,Gv.trans (GZ.trans Jk),Il,e4,HG⟩
   |true=>
    have e4:((f Kc).bind fun q=>(bX a c f (ds.drop (i+1)) q.2).bind fun rs=>.ok (q.1.2::rs))=.ok dI:=e4;obtain⟨⟨r,L4⟩,h3,e4⟩:=ai e4;obtain⟨Kg,h4,e4⟩:=ai e4;cases e4;refine Av ⟨G6,Kc,Nu,r,L4,Ke,h3,fun v H7 G7 Px OY L5=>?_⟩;obtain⟨G8,fp8,rv,rel9,st9⟩:=L5.freeze;obtain⟨Il,Jk⟩:=bk G8 H7 L4 σ2 fp8 (Kf.trans (OY.trans st9)) rel9;rw[<-Nr]at Jk;obtain⟨p,xs,ep,hp,Nm,cg⟩:=Il.chg (i:=0) (ds:=acc) (ds':=acc++[r.2]) rfl;have ep:some (some (V.ref D))=some (some (V.ref p)):=ep;cases ep;obtain⟨fq,L6,OZ⟩:=cg (xs++[v]) (Nm.app (.one rv));refine⟨xs,hp,?_,ds.length-(i+1),by lia,rfl,FH,G8,L4,fq,acc++[r.2],Kg,Gv.trans (GZ.trans (Jk.trans OZ)),L6,h4,?_⟩
    ·rw[Nm.length];have:=Rg List.length HG;rw[QU,Ql]at this;lia
    ·rw[<-HG,Q5];rfl
  ·have ei:i=ds.length:=by lia
   subst ei;rw[Ua]at e4;cases e4;rw[QR]at HG;subst HG;refine .inl ⟨w2 rfl,?_⟩;obtain⟨fa,L7,O0⟩:=FV.only;obtain⟨k1,k2⟩:=IG H2 G3 fa _ _ (Gv.trans O0) L7;rw[ee]at k;by_cases hc:flatDs acc=true
   ·rw[Qa hc]at k;obtain⟨G5,Kd,GZ,F8⟩:=k1 (by rw[bu,lz];exact hc);exact k _ H2 G5 Kd (Fx.trans GZ) F8
   ·rw[Qf hc]at k;obtain⟨G5,Kd,GZ,F8⟩:=k2;exact k _ H2 G5 Kd (Fx.trans GZ) F8
 ·cases e
section
variable{md:Mode}{X:Cx}{scope:Scope}{N:List Str}{tg iter elt:Expr}{ifs:List Expr}{pos:Pos}{fi:FI}{a:FG}{c:FT}{f:FX}
variable{l e:Expr}{g fj:FI}
theorem bc(h:QI X tg e fi):L0 X tg e fi:=iJ h fun σ H R ⟨G,env,fp,ds,env',rel,e,k⟩=>⟨G,env,fp,ds,env',rel,e,fun J H' G' Fm st FJ wk=>k J H' G' Fm st FJ fun _ gg _=>wk.mono gg⟩
theorem cH(h:L0 X tg e fi)(h2:L0 X tg e fj):L0 X tg e (Ga fi fj):=fun pi s σ H R I Fs=>by
 obtain⟨G,env,fp,ds,env',rel,ee,k⟩:=Fs;rcases wX ee with z|z
 ·exact h pi s σ H R I ⟨G,env,fp,ds,env',rel,z,k⟩
 ·exact h2 pi s σ H R I ⟨G,env,fp,ds,env',rel,z,k⟩
def gr(i:Nat):FI:=fun env=>match env[i]? with
 |some (some (_,.lst ds))=>.ok (ds,env)
 |_=>.bad
theorem dS{i:Nat}(h:PE X l (qL i)):L0 X tg l (gr i):=iJ (qU h) fun σ H R Fs=>by
 obtain⟨G,env,fp,ds,env',rel,e,k⟩:=Fs;unfold gr at e;split at e
 ·rename_i o ds hr;cases e;obtain⟨v,ev,rv⟩:=rel.view hr;obtain⟨p,xs,Py,sq,rs⟩:=bC rv;refine⟨v,ev,p,Py,⟨xs,sq⟩,k _ H G fp .refl rel fun G2 gg HS=>?_⟩;obtain⟨p',G0,Nv,GN,Hy⟩:=bC (HS i _ v hr ev);rw[Py]at Nv;cases Nv;exact mJ GN Hy
 ·cases e
theorem a8(ix:List (Option Nat))(N:List Str)(hc:X.calm=true)(hi:L0 X tg iter fi)(hg:∀C s H fp pn,QG (bJ X scope N C s H fp pn) tg a)(ht:∀C s H fp pn,Nj (bJ X scope N C s H fp pn) ifs c)(he:∀C s H fp pn,QE (bJ X scope N C s H fp pn) elt f)
  (hf:gx scope X.env=true:=by rfl) (hk:scope.kind=.function:=by rfl) (FY:∀y∈scope.names,y.2≠.cell:=by decide +kernel) (Gk:∀y∈scope.names,y.2=.local->scope.names.lookup y.1=some .local:=by decide +kernel) (Hj:uW X scope N ix=true:=by rfl)
  (hs:∀x,foldedSetIterable iter X.env x=pure x:=by intro _;rfl):QE X (.ListComp elt [⟨tg,iter,ifs,0⟩] scope pos) (cB fi ix a c f):=
 bK (xQ (g:=tQG X.K a) (tc:=tQT X.K c) (te:=tQ X.K f) ix N hc hi hg ht he hf hk FY Gk Hj hs) fun _ _ _=>w5
theorem jd{i:Nat}{y:Str}{py Hk:Pos}(ix:List (Option Nat))(N:List Str)(hN:X.N.Nodup)(M5:X.N[i]?=some y)(hy:Loc X.env.scope y)(hc:X.calm=true)(hi:L0 X tg iter fi)(hg:∀C s H fp pn,QG (bJ X scope N C s H fp pn) tg a)(ht:∀C s H fp pn,Nj (bJ X scope N C s H fp pn) ifs c)
  (he:∀C s H fp pn,QE (bJ X scope N C s H fp pn) elt f) (M6:swapsWith (.ListComp elt [⟨tg,iter,ifs,0⟩] scope pos) (some (.Name y py)) Hk.line X.env=pure true:=by rfl)
  (hf:gx scope X.env=true:=by rfl) (hk:scope.kind=.function:=by rfl) (FY:∀y∈scope.names,y.2≠.cell:=by decide +kernel) (Gk:∀y∈scope.names,y.2=.local->scope.names.lookup y.1=some .local:=by decide +kernel) (Hj:uW X scope N ix=true:=by rfl)
  (hs:∀x,foldedSetIterable iter X.env x=pure x:=by intro _;rfl) (JH:X.fn y=true\/X.env.scope.names.lookup y=some .local:=by first|exact .inl rfl|exact .inr rfl):
  QS (md:=md) X (.Assign [.Name y py] (.ListComp elt [⟨tg,iter,ifs,0⟩] scope pos) Hk) (cp i (cB fi ix a c f)):=
 e7 (rK (i:=i) (g:=tQG X.K a) (tc:=tQT X.K c) (te:=tQ X.K f) ix N hN M5 hy hc hi hg ht he M6 hf hk FY Gk Hj hs JH) fun D σ H ⟨G,env,fp,rel,k⟩=>w5 (oh rel k)
end
section
variable{X:Cx}{a:Expr}{pos:Pos}{fa:FO}
def Fb(fa:FO):FX:=fun env=>(fa env).bind fun p=>(Gx p.2 p.1).bind fun d=>match d with
 | .int i=>.ok ((.f,.int (-i)),p.2)
 |_=>.bad
theorem sN{i:Int}(h:i.natAbs<2 ^ 1000):Builtin.Int.intBits i<=2 ^ 20:=by
 unfold Builtin.Int.intBits;split
 ·exact QJ _
 ·rename_i h0;have h1:i.natAbs≠0:=by
   intro e;rw[Int.natAbs_eq_zero]at e;exact h0 (by rw[e];rfl)
  have:=(Nat.log2_lt h1).mpr h;have e:(2:Nat) ^ 20=1048576:=by decide
  lia
theorem yv:F3 X (binaryOp .Mult) (rI (fun i j=>i.natAbs<2 ^ 1000/\j.natAbs<2 ^ 1000) fun i j=>.int (i*j)):=MT fun _ _ _ _ _ _ _ hc q=>mul_int q (.of_bits (sN hc.1) (sN hc.2))
theorem mR{α:Type}:∀(ls:List (Array α)) (acc:Array α),(ls.foldl (·++·) acc).toList=acc.toList++(ls.map Array.toList).flatten
 |[],acc=>by simp
 |a::ls,acc=>by
  rw[R9,mR ls,Array.toList_append,Qn,RP,Q5]
theorem Dt(l:List Nat)(n:Nat):(⟨(List.replicate n (S l).cps).foldl (·++·) #[]⟩:Str)=S (List.replicate n l).flatten:=by
 have h:((List.replicate n (S l).cps).foldl (·++·) #[]).toList=(List.replicate n l).flatten:=by
  rw[mR,List.map_replicate];simp only[dC,Uy]
 show Str.mk _=Str.mk _;rw[<-h]
theorem yw(a b:Int):Dk (.int a) (.int b)=if b9 a||b9 b then .ok (.f,.int (a*b)) else .bad:=rfl
noncomputable def yx:D->D->Res R
 | .int i,.int j=>if b9 i||b9 j then .ok (.f,.int (i*j)) else if i.natAbs<2 ^ 1000/\j.natAbs<2 ^ 1000 then .ok (.f,.int (i*j)) else .bad
 | .str l,.int k=>if 2<=k/\k<=1000/\1<=l.length/\l.length<=1000 then .ok (.f,.str (List.replicate k.toNat l).flatten) else .bad
 |_,_=>.bad
theorem yy:F3 X (binaryOp .Mult) (rG X.K yx):=by
 rintro pi s σ H x y v u Q I rx ry ⟨G,fp,es,vs,a,b,r,⟨rel,k⟩,va,vb,e⟩;unfold yx at e;split at e
 ·rename_i i j;split at e
  ·rename_i hc;exact AR pi s σ H x y v u Q I rx ry ⟨G,fp,es,vs,.int i,.int j,r,⟨rel,k⟩,va,vb,by rw[yw,Qa hc];exact e⟩
  ·split at e
   ·rename_i hc;cases e;cases bE va;cases bE vb;exact yv pi s σ H _ _ v u Q I rx ry ⟨i,j,rfl,rfl,hc,k _ H G fp .refl (rel.push (aU _))⟩
   ·cases e
 ·rename_i l j;split at e
  ·rename_i hc;cases e;obtain⟨ev,hl⟩:=fC va;subst ev;cases bE vb;obtain⟨t,rfl⟩:=rx;obtain⟨t',rfl⟩:=ry;have hlen:(S l).length=l.length:=kh l;have hz:(List.replicate j.toNat l).flatten.length<=1000000:=by
    rw[kU];exact Nat.mul_le_mul (by lia:j.toNat<=1000) hc.2.2.2
   have Ky:(List.replicate j.toNat l).flatten.length<=sizeLine:=Rh hz (by decide);refine PySem.P.mul_str ?_ ?_ ?_ ?_
   ·rw[QB (by lia),QB (by lia)];rfl
   ·intro _ _;rw[hlen];have h1:1000<=(2 ^ 63-1) / j:=(Int.le_ediv_iff_mul_le (by lia)).mpr (by lia);lia
   ·intro _ _;unfold Builtin.Str.tooLong;rw[Rl,hlen,Vm,<-kU];lia
   ·rw[Qf (by lia),Qf (by rw[hlen,Us,QM,QM];lia),Dt];refine⟨?_,?_⟩
    ·rw[kh];exact Ky
    ·exact⟨.str (S (List.replicate j.toNat l).flatten),H,I.tok _,⟨_,rfl⟩,k _ H G fp .refl (rel.push (gI Ky))⟩
  ·cases e
 ·cases e
end
end PV
namespace HT
open PySem PySem.Spec PyProof.Rows L2
variable{prog:Program}{w:World}{A:Around}{E:Value->Shared->Prop}{s:Shared}
theorem g8{t sl:Addr}{items:Array Value}{vl vu:Value}{lo hi:Option Int}{Q:Value->Shared->Prop}(ht:IsTup s.heap t items)(hs:s.heap.IsSliceOf sl vl vu .none)(pl:IsPart vl lo)(pu:IsPart vu hi)
  (hw:sIx items.size 0 lo=0/\sIx items.size items.size hi=items.size) (h:Q (.ref t) s):wpAny (model prog w) A (getItem (.ref t) (.ref sl)) Q E s:=by
 obtain⟨os,LI,N4,LJ⟩:=id hs;have Oy:s.TypeIs (.ref sl) "slice":=⟨os,LI,N4⟩
 unfold getItem;try with_reducible refine RG ?_
 first|refine P2 (P4 ?_)|skip
 refine P2 (wpAny_sequenceKey ht.typeIs (by decide) ?_);refine P2 (wpAny_callSpecial?_slot (name:=Str.ofString "__getitem__") ht.typeIs RD
  (Rk RD ht.typeIs entry_tuple_getitem ?_ (args_tuple_getitem _ _)))
 show wpAny _ _ (Builtin.Tuple.tupleItemsOf (.ref t) >>= _) _ _ s;refine P2 (tupleItemsOf_ ht ?_);refine P2 (SA Oy ?_);rw[Qa (by decide)];refine P2 (eZ hs pl pu ?_);have hyes:(((sIx items.size 0 lo:Nat):Int)==0&&(1:Int)==1&&(sIx items.size items.size hi-sIx items.size 0 lo)==items.size)=true:=by
  rw[hw.1,hw.2];simp
 show wpAny _ _ (if(((sIx items.size 0 lo:Nat):Int)==0&&(1:Int)==1&&(sIx items.size items.size hi-sIx items.size 0 lo)==items.size)=true then _ else _) _ _ s;rw[Qa hyes];refine P2 (m:=Builtin.Tuple.tupleIsExact _) ?_;unfold Builtin.Tuple.tupleIsExact;refine P2 (SA ht.typeIs (P4 ?_));rw[Qa (by decide)];exact P2 (TC (P4 ⟨_,rfl,P4 h⟩))
end HT
namespace PV
open PySem PySem.Spec PyProof.Rows L2 NX
section
variable{X:Cx}{pos:Pos}{fa:FO}
theorem yz:LK X (fun x lo hi H Q=>∃a xs,x=.ref a/\SqT X.K H a xs/\(HT.sIx xs.length 0 lo=0/\HT.sIx xs.length xs.length hi=xs.length)/\Q x H):=by
 intro pi s σ H x v vl vu lo hi sl Q I rx hs pl pu h;obtain⟨a,xs,rfl,hx,hw,q⟩:=h;cases rx;obtain⟨Fg,r,ht,hz⟩:=I.tuple hx;have hlen:Fg.toArray.size=xs.length:=by rw[P6];exact r.length.symm
 refine⟨"tuple",_,PyProof.Rows.slot_tuple_getitem.lookup,ht.typeIs,?_⟩;exact HT.g8 ht hs pl pu (by rw[hlen];exact hw) ⟨.ref a,H,I,rfl,q⟩
def Nw(k:D)(lo hi:Option Int):Res R:=match k with
 | .tup ds=>if HT.sIx ds.length 0 lo=0/\HT.sIx ds.length ds.length hi=ds.length then .ok (.f,.tup ds) else Nl k lo hi
 |_=>Nl k lo hi
def yA(fa:FO)(lo hi:FP):FX:=fun env=>(fa env).bind fun p=>(lo p.2).bind fun q=>(hi q.2).bind fun t=>(Gx t.2 p.1).bind fun d=>(Nw d q.1 t.1).bind fun r=>.ok (r,t.2)
inductive rSlW(K:W.Frag)(x:V)(lo:Option Int)(hi:Option Int)(H:Hp)(Q:VK):Prop
 |mk:∀G fp es vs d r,Goes K H G fp es vs r Q->Vw K G H d x->Nw d lo hi=.ok r->rSlW K x lo hi H Q
theorem Bk:LK X (rSlW X.K):=by
 rintro pi s σ H x v vl vu lo hi sl Q I rx hs pl pu ⟨G,fp,es,vs,d,r,⟨rel,k⟩,vd,e⟩;unfold Nw at e;split at e
 ·rename_i ds;split at e
  ·rename_i hw;cases e;obtain⟨p,xs,ev,sq,rs⟩:=gZ vd;subst ev;refine yz pi s σ H _ v vl vu lo hi sl Q I rx hs pl pu ⟨p,xs,rfl,bO rel.gh sq,by rw[rs.length];exact hw,?_⟩;exact k _ H G fp .refl (rel.push vd)
  ·exact AU pi s σ H x v vl vu lo hi sl Q I rx hs pl pu ⟨G,fp,es,vs,_,r,⟨rel,k⟩,vd,e⟩
 ·exact AU pi s σ H x v vl vu lo hi sl Q I rx hs pl pu ⟨G,fp,es,vs,_,r,⟨rel,k⟩,vd,e⟩
theorem mS{e:Expr}{lo hi:Option Expr}{p2:Pos}{fl fh:FP}(he:QO X e fa)(hl:QP X lo fl)(hh:QP X hi fh):QE X (.Subscript e (.Slice lo hi none p2) pos) (yA fa fl fh):=
 bK (uO Bk he hl hh) fun σ H Q Fs=>by
  obtain⟨G,env,fp,r,env',rel,e,k⟩:=Fs;obtain⟨⟨o,Fd⟩,e1,e⟩:=ai e;obtain⟨⟨i,Fl⟩,e2,e⟩:=ai e;obtain⟨⟨j,F7⟩,e3,e⟩:=ai e;obtain⟨d,e4,e⟩:=ai e;obtain⟨r',e5,e⟩:=ai e;cases e;exact⟨G,env,fp,o,Fd,rel,e1,fun v H1 G1 FE Fx Fh Hc=>⟨G1,Fd,FE,i,Fl,Fh,e2,fun H2 G2 F0 Fo Fe=>⟨G2,Fl,F0,j,F7,Fe,e3,fun H3 G3 HC FQ FC=>
   ⟨G3,HC,F7,σ,d,r,⟨FC,fun v H' G' Fm st FJ=>k v H' G' Fm (Fx.trans (Fo.trans (FQ.trans st))) FJ⟩,FC.vw ((Hc.mono Fo.gg).mono FQ.gg) e4,e5⟩⟩⟩⟩
end
end PV
namespace L2
open PySem PySem.Spec PyProof.Rows
section
variable{X:Cx}{tg:Expr}
def sO(i j c:Int):Prop:=(-1048576<=i/\i<=1048576)/\(-1048576<=j/\j<=1048576)/\(c = -1\/1<=c)/\c<=1048576
instance (i j c:Int):Decidable (sO i j c):=by unfold sO;infer_instance
end
end L2
namespace PV
open PySem PySem.Spec PyProof.Rows L2 NX
section
variable{X:Cx}{tg:Expr}
def yB:List D->Res R
 |[d]=>match(jx d).bind cv with
  |some (n::ns)=>.ok (.f,.int (eD (n::ns)))
  |_=>.bad
 |[.int i,.int j]=>.ok (.f,.int (if j<i then j else i))
 |_=>.bad
theorem Bl(hc:X.calm=true):cZ X (.builtin "min") (rC X.K yB):=by
 rintro pi s σ H xs us Q I rx ⟨G,fp,es,vs,ds,r,⟨rel,k⟩,vd,e⟩;unfold yB at e;split at e
 ·rename_i d;split at e
  ·rename_i n ns hb;cases e;obtain⟨v,ev,vt⟩:=kB vd;obtain⟨p,ep,sq⟩:=fF rel.gh hb vt;subst ev;subst ep;exact rO hc pi s σ H _ us Q I rx ⟨p,n::ns,rfl,sq,by simp,k _ H G fp .refl (rel.push (aU _))⟩
  ·cases e
 ·rename_i i j;cases e;obtain⟨v,w',ev,v1,v2⟩:=Ef vd;subst ev;cases bE v1;cases bE v2;exact q5 hc pi s σ H _ us Q I rx ⟨i,j,rfl,k _ H G fp .refl (rel.push (aU _))⟩
 ·cases e
def Fc:List D->Res R
 |[.int i]=>.ok (.f,.int (if i<0 then -i else i))
 |_=>.bad
noncomputable def Du(fs:FOs):FI:=fun env=>(fs env).bind fun p=>(nL p.2 p.1).bind fun d=>match d with
 |[.int i,.int j,.int c]=>if sO i j c then .ok ((List.range (Builtin.Range.rangeSize i j c).toNat).map fun(k:Nat)=>D.int (i+(k:Int)*c),p.2) else .bad
 |_=>.bad
end
end PV
namespace NX
open PySem PySem.Spec PyProof.Rows L2
section
open PySem.SeqAt
open PySem.AutoSeq1 (wpAny_loadPart')
theorem jG{M:Model}{A:Around}{E:Value->Shared->Prop}{s:Shared}{β:Type}(f:Nat->β->Sem (ForInStep β))(n:Nat)(I:Nat->β->Shared->Prop)(Q:β->Shared->Prop)
  (turn:∀(i:Nat) (b:β) (s:Shared),i<n->I i b s->wpAny M A (f i b) (fun r s'=>match r with | .yield b'=>I (i+1) b' s' | .done b'=>Q b' s') E s)
  (fin:∀(b:β) (s:Shared),I n b s->Q b s) (b:β) (h:I 0 b s):wpAny M A (forIn [0:n] b f) Q E s:=by
 rw[Std.Legacy.Range.forIn_eq_forIn_range'];refine wpAny_forIn_list f (fun dI b s=>∃i,i<=n/\dI=List.range' i (n-i)/\I i b s) Q ?_ ?_ _ b ?_
 ·rintro x dI b s ⟨i,hi,hr,h⟩;by_cases ML:i<n
  ·have e:n-i=(n-(i+1))+1:=by lia
   rw[e,List.range'_succ]at hr;injection hr with h1 h2;subst h1;refine Fy (turn x b s ML h) fun r s' Pz=>?_
   cases r with
   |yield b'=>exact⟨x+1,by lia,h2,Pz⟩
   |done b'=>exact Pz
  ·have e:n-i=0:=by lia
   rw[e]at hr;cases hr
 ·rintro b s ⟨i,hi,hr,h⟩;by_cases ML:i<n
  ·have e:n-i=(n-(i+1))+1:=by lia
   rw[e,List.range'_succ]at hr;cases hr
  ·have e:i=n:=by lia
   subst e;exact fin b s h
 ·refine⟨0,QJ _,?_,h⟩;simp[Std.Legacy.Range.size]
theorem i5(l:Addr)(items:Array Value)(n:Nat)(dd:Option Addr)(sl:Array (Option Value))(ns:List Str)(c:Str)(t:Tok)(hi:Vals (ns.map V.str) items.toList)(i:Nat)(hx:ns[i]?=some c)(h0:∀j,j<i->ns[j]?≠some c):
  Meets (Builtin.«tuple.index» ⟨[.ref l,.str c t],[]⟩)
   (fun _ R s=>s.heap.get? l=some {cls:=.type "tuple",dict:=dd,data:=.seq items n,slots:=sl}/\R (.ok (.ret (.int (i:Int) s.toks))) {s with toks:=s.toks+1}):=
 .of_wp fun prog w A R s h=>by
  obtain⟨hp,g,d,tk,os⟩:=s;obtain⟨hl,h⟩:=h;have z1:items.size=ns.length:=by have:=hi.length;simp at this;lia
  have ML:i<ns.length:=(List.getElem?_eq_some_iff.mp hx).1;have key:∀(j:Nat),j<ns.length->∃(b:Str) (u:Tok),items[j]?=some (.str b u)/\ns[j]?=some b:=by
   intro j hj;obtain⟨v,hv,hr⟩:=hi.get (i:=j) (x:=V.str ns[j]) (by simp[hj]);obtain⟨u,rfl⟩:=hr;exact⟨ns[j],u,by rw[<-Array.getElem?_toList];exact hv,by simp[hj]⟩
  wp_walk using wpAny_loadPart' hl,jG _ _ (fun j b s'=>b.1=none/\s'=⟨hp,g,d,tk,os⟩/\j<=i) _
  case turn=>
   rintro j ⟨b1,b2⟩ s' hj ⟨hb,rfl,PB⟩;simp only at hb;subst hb;obtain⟨b,u,e1,e2⟩:=key j (by lia);have he:EqAt A.in1 ⟨hp,g,d,tk,os⟩ (.str b u) (.str c t) (b==c):=EqAt.str_str b u c t;by_cases hbc:b=c
   ·have hji2:j=i:=by
     rcases Nat.lt_or_ge j i with FH|hge
     ·exact absurd (by rw[e2,hbc]) (h0 j FH)
     ·lia
    subst hji2 hbc;rw[e1];refine P2 (he prog w _ _ ?_);rw[show(b==b)=true from QZ b]
    wp_walk
    exact⟨_,rfl,h⟩
   ·rw[e1];refine P2 (he prog w _ _ ?_);rw[show(b==c)=false from Rq.mpr hbc]
    wp_walk
    refine⟨rfl,rfl,?_⟩;rcases Nat.lt_or_ge j i with FH|hge
    ·exact FH
    ·have:j=i:=by lia
     subst this;rw[e2]at hx;cases hx;exact absurd rfl hbc
  case fin=>
   rintro⟨b1,b2⟩ s' ⟨hb,rfl,PB⟩;rw[Vn]at PB;lia
  case h=>exact⟨rfl,rfl,QJ _⟩
end
end NX
namespace L2
open PySem PySem.Spec PyProof.Rows
section
variable{X:Cx}{o e:Expr}{es:List Expr}{to:TE}{t:TA}{name:Str}{apos Fw:Pos}{id:String}{r:V->List V->Hp->VK->Prop}
def EX(K:W.Frag)(r:V->List V->Hp->VK->Prop)(to:TE)(t:TA):TE:=fun σ H Q=>to σ H fun x H1=>(∃p ys,x=.ref p/\SqT K H1 p ys)/\t σ H1 fun xs H2=>r x xs H2 Q
theorem Bm(slot:Slot "tuple" name id)(J2:typeOf (.builtin id)=pure (.type "method_descriptor"))(hm:KC X id r)(ho:PE X o to)(ha:PA X (e::es) t)
  (Ge:attributeBase o name X.env (eval o X.env)=eval o X.env:=by rfl)
  (Hi:((backTo Fw (starEach (e::es) X.env)).all (fun x=>!x.1)&&(backToKw Fw (keywordEach [] X.env)).all (fun x=>x.1.isSome)
   && decide ((e::es).length+([]:List Keyword).length+(if([]:List Keyword).isEmpty then 0 else 1)<30))=true:=by rfl)
  (Gf:(apos.endLine==Fw.line)=true:=by rfl) (hs:starEach (e::es) X.env=(false,eval e X.env)::starEach es X.env:=by rfl) (FR:(backTo Fw (starEach es X.env)).any (·.1)=false:=by rfl):
  PE X (.Call (.Attribute o name apos) (e::es) [] Fw) (EX X.K r to t):=by
 intro pi s σ H Q I h;refine wpAny_Call_method_late Ge Hi Gf rfl (Fy (ho pi s σ H _ I h) fun v s1 Fz=>?_);obtain⟨x,H1,I1,r1,⟨p,ys,ex,sq⟩,q1⟩:=Fz;subst ex;cases r1;obtain⟨Fg,_,⟨ob,ho,hc,⟨n,hd⟩,hn⟩,_⟩:=I1.tupleN sq;refine⟨"tuple",id,PySem.F.plainAttrs_tuple,slot,J2,⟨ob,ho,hc⟩,fun a e2=>?_,?_⟩
 ·cases e2;exact⟨ob,ho,hn⟩
 have hA:=ha Fw pi s1 σ H1 _ I1 q1;rw[hs]at hA ⊢;refine Calls.callWith_builtin (by show(false||(backTo Fw (starEach es X.env)).any (·.1))=false;rw[FR] <;> rfl) (Calls.evalArgs_plain ?_);exact Fy hA fun us s2 ⟨vs,H2,I2,r2,q2⟩=>hm pi s2 σ H2 (.ref p) vs _ us Q I2 rfl r2 q2
end
end L2
namespace PV
open PySem PySem.Spec PyProof.Rows L2 NX
section
variable{X:Cx}
noncomputable def Bn(g:List D->List D->Res R)(fa:FO)(fs:FOs):FX:=fun env=>(fa env).bind fun p=>(Gx p.2 p.1).bind fun a=>match a with
 | .tup _=>(fs p.2).bind fun q=>(Gx q.2 p.1).bind fun a2=>match a2 with
  | .tup l=>(nL q.2 q.1).bind fun ds=>(g l ds).bind fun r=>.ok (r,q.2)
  |_=>.bad
 |_=>.bad
inductive rMtT(K:W.Frag)(g:List D->List D->Res R)(x:V)(xs:List V)(H:Hp)(Q:VK):Prop
 |mk:∀G fp es vs l ds r,Goes K H G fp es vs r Q->Vw K G H (.tup l) x->Lz K G H ds xs->g l ds=.ok r->rMtT K g x xs H Q
theorem w6{g:List D->List D->Res R}{id:String}{name:Str}{o e:Expr}{es:List Expr}{fa:FO}{fs:FOs}{apos Fw:Pos}(slot:Slot "tuple" name id)(J2:typeOf (.builtin id)=pure (.type "method_descriptor"))(hm:KC X id (rMtT X.K g))(ho:QO X o fa)(ha:JN X (e::es) fs)
  (Ge:attributeBase o name X.env (eval o X.env)=eval o X.env:=by rfl)
  (Hi:((backTo Fw (starEach (e::es) X.env)).all (fun x=>!x.1)&&(backToKw Fw (keywordEach [] X.env)).all (fun x=>x.1.isSome)&&decide ((e::es).length+([]:List Keyword).length+(if([]:List Keyword).isEmpty then 0 else 1)<30))=true:=by rfl)
  (Gf:(apos.endLine==Fw.line)=true:=by rfl) (hs:starEach (e::es) X.env=(false,eval e X.env)::starEach es X.env:=by rfl) (FR:(backTo Fw (starEach es X.env)).any (·.1)=false:=by rfl):
  QE X (.Call (.Attribute o name apos) (e::es) [] Fw) (Bn g fa fs):=by
 refine bK (Bm slot J2 hm ho ha Ge Hi Gf hs FR) fun σ H Q Fz=>?_
 obtain⟨G,env,fp,r,env',rel,e,k⟩:=Fz;obtain⟨⟨oa,Fd⟩,e1,e⟩:=ai e;obtain⟨da,KP,e⟩:=ai e;dsimp only at e;split at e
 ·obtain⟨⟨os,Fl⟩,e2,e⟩:=ai e;obtain⟨d2,hd2,e⟩:=ai e;dsimp only at e;split at e
  ·obtain⟨ds,e3,e⟩:=ai e;obtain⟨r',e4,e⟩:=ai e;cases e;refine⟨G,env,fp,oa,Fd,rel,e1,fun v H1 G1 FE Fx Fh Hc=>?_⟩;obtain⟨p,xs,ev,sq,_⟩:=bp (Vw.rep Fh.gh (Fh.vw Hc KP));exact⟨⟨p,xs,ev,sq⟩,G1,Fd,FE,os,_,Fh,e2,fun vs H2 G2 F0 Fo Fe JO=>⟨G2,F0,_,σ,_,ds,r,⟨Fe,fun v H' G' Fm st FJ=>k v H' G' Fm (Fx.trans (Fo.trans st)) FJ⟩,Fe.vw (Hc.mono Fo.gg) hd2,Fe.vws JO e3,e4⟩⟩
  ·cases e
 ·cases e
def qx(l:List D):List D->Res R
 |[.str c]=>match d7 l with
  |some bs=>if c∈bs then .ok (.f,.int (bs.idxOf c:Nat)) else .bad
  |none=>.bad
 |_=>.bad
def zP(l:List D):List D->Res R
 |[.str c]=>match d7 l with
  |some bs=>.ok (.f,.int (bs.count c:Nat))
  |none=>.bad
 |_=>.bad
theorem w9{a b:List Nat}(h:S a=S b):a=b:=by
 have:=Rg (fun s:Str=>s.cps.toList) h;simpa only[dC] using this
theorem pH:∀(bs:List (List Nat)) (c:List Nat) (j:Nat),bs[j]?=some c->bs.idxOf c<=j
 |[],c,j,h=>by simp at h
 |b::bs,c,0,h=>by
  simp at h;subst h;simp[Uz]
 |b::bs,c,j+1,h=>by
  rw[List.getElem?_cons_succ]at h;have:=pH bs c j h;rw[Uz];cases b==c with
  |true=>exact QJ _
  |false=>exact Nat.succ_le_succ this
def PD(c:Str):Value->Bool
 | .str b _=>b==c
 |_=>false
theorem kF(c:List Nat):∀(bs:List (List Nat)) (Fg:List Value),Vals (bs.map fun l=>V.str (S l)) Fg->Fg.countP (PD (S c))=bs.count c
 |[],Fg,h=>by cases h;rfl
 |b::bs,Fg,h=>by
  cases h with
  |cons r rr=>
   obtain⟨t,rfl⟩:=r;rw[List.countP_cons,List.count_cons,kF c bs _ rr];congr 1
   show(if(S b==S c)=true then 1 else 0)=_;by_cases hbc:b=c
   ·rw[hbc,Qa (QZ _),Qa (QZ _)]
   ·rw[Qf (by rw[QM];exact fun e=>hbc (w9 e)),Qf (by rw[QM];exact hbc)]
theorem ot:KC X "tuple.count" (rMtT X.K zP):=by
 rintro pi s σ H x xs v us Q I rx rv ⟨G,fp,es,vs,l,ds,r,⟨rel,k⟩,vx,vd,e⟩;unfold zP at e;split at e
 ·rename_i c;split at e
  ·rename_i bs hb;cases e;obtain⟨p,ys,ev,sq,rs⟩:=bp (Vw.rep rel.gh vx);obtain⟨hy,_⟩:=eL hb rs;subst ev;cases rx;obtain⟨w',ew,vc⟩:=kB vd;obtain⟨ev,_⟩:=fC vc;subst ew;subst ev;obtain⟨u,rfl,t',rfl⟩:=dy rv;obtain⟨Fg,vl,⟨ob,h1,h2,⟨n,h3⟩,h4⟩,_⟩:=I.tupleN sq;subst hy;obtain⟨cls,dict,data,slots⟩:=ob;dsimp only at h2 h3 h4;subst h2 h3 h4;refine Ub TK ⟨_,h1,rfl⟩ PySem.F.entry_tuple_count (PySem.F.args_tuple_count_2 _ _) (PySem.SeqAt.tuple_countAt p Fg.toArray n _ _ (.str (S c) t') (PD (S c))) ⟨h1,fun y hy=>?_,⟨.int (bs.count c:Nat),H,I.tok _,⟨s.toks,?_⟩,k _ H G fp .refl (rel.push (aU _))⟩⟩
   ·have hy:y∈Fg:=by simpa using hy
    obtain⟨i,hi,rfl⟩:=Ta hy;have hl:=vl.length;rw[P5]at hl;obtain⟨v,hv,hr⟩:=vl.get (i:=i) (x:=V.str (S bs[i])) (by rw[List.getElem?_map,List.getElem?_eq_getElem (by lia)];rfl);rw[List.getElem?_eq_getElem hi]at hv;cases hv;obtain⟨t,e⟩:=hr;rw[e];exact PySem.SeqAt.EqAt.str_str _ _ _ _
   ·rw[Sv,kF c bs Fg vl]
  ·cases e
 ·cases e
theorem ou:KC X "tuple.index" (rMtT X.K qx):=by
 rintro pi s σ H x xs v us Q I rx rv ⟨G,fp,es,vs,l,ds,r,⟨rel,k⟩,vx,vd,e⟩;unfold qx at e;split at e
 ·rename_i c;split at e
  ·rename_i bs hb;split at e
   ·rename_i hc;cases e;obtain⟨p,ys,ev,sq,rs⟩:=bp (Vw.rep rel.gh vx);obtain⟨hy,_⟩:=eL hb rs;subst ev;cases rx;obtain⟨w',ew,vc⟩:=kB vd;obtain⟨ev,_⟩:=fC vc;subst ew;subst ev;obtain⟨u,rfl,t',rfl⟩:=dy rv;obtain⟨Fg,vl,⟨ob,h1,h2,⟨n,h3⟩,h4⟩,_⟩:=I.tupleN sq;subst hy;obtain⟨cls,dict,data,slots⟩:=ob;dsimp only at h2 h3 h4;subst h2 h3 h4;have FH:=Q6 hc;refine Ub TL ⟨_,h1,rfl⟩ PySem.F.entry_tuple_index (PySem.F.args_tuple_index_2 _ _) (i5 p Fg.toArray n _ _ (bs.map S) (S c) t' (by rw[Qe];exact vl) (bs.idxOf c) ?_ ?_) ⟨h1,⟨.int (bs.idxOf c:Nat),H,I.tok _,⟨_,rfl⟩,k _ H G fp .refl (rel.push (aU _))⟩⟩
    ·rw[List.getElem?_map,List.getElem?_eq_getElem FH,To FH];rfl
    ·intro j hj he;rw[List.getElem?_map,List.getElem?_eq_getElem (by lia)]at he;have he:=w9 (Qu he);have:=pH bs c j (by rw[List.getElem?_eq_getElem (by lia),he]);lia
   ·cases e
  ·cases e
 ·cases e
def cU(a b:D):Res R:=match a,b with
 | .tup [],.tup l=>.ok (.f,.tup l)
 |a,b=>addD a b
theorem aO:F3 X (binaryOp .Add) (rG X.K cU):=by
 rintro pi s σ H x y v u Q I rx ry ⟨G,fp,es,vs,a,b,r,⟨rel,k⟩,va,vb,e⟩;unfold cU at e;split at e
 ·rename_i l;cases e;obtain⟨p,xs,e1,h1,r1⟩:=gZ va;obtain⟨p2,MI,e2,h2,r2⟩:=gZ vb;subst e1;subst e2;cases rx;cases ry;have hx:xs=[]:=Ro (by rw[r1.length];rfl);subst hx;obtain⟨Fg,v1,⟨⟨cls,dd,data,sl⟩,ho,hc,n,hd⟩,_⟩:=I.tuple (bO rel.gh h1);obtain⟨JI,v2,⟨⟨LH,Kt,data2,Ku⟩,Hx,Hf,n2,hd2⟩,_⟩:=I.tuple (bO rel.gh h2);dsimp only at hc hd Hf hd2;subst hc hd Hf hd2;cases v1;exact Up ⟨_,ho,rfl⟩ ⟨_,Hx,rfl⟩ T7 UX SN SE (Sz _ _) (tuple_addW0 p p2 _ _ n n2 dd Kt sl Ku rfl) ⟨ho,Hx,⟨.ref p2,H,I,rfl,k _ H G fp .refl (rel.push vb)⟩⟩
 ·exact AQ pi s σ H _ _ v u Q I rx ry ⟨G,fp,es,vs,a,b,r,⟨rel,k⟩,va,vb,e⟩
def mT(fs:FOs):FI:=Ga (qo true true fs) (Ga (qo true false fs) (Ga (qo false true fs) (qo false false fs)))
theorem jH{IH:List Expr}{kt:Nat}{pt:Pos}{e1 e2:Expr}{fs:FOs}{p pos:Pos}(hg:Gl X "zip")(hm:X.mg "zip" = none)(ha:JN X [e1,e2] fs)(he:starEach [e1,e2] X.env=(false,eval e1 X.env)::starEach [e2] X.env:=by rfl)(Hh:(backTo pos (starEach [e2] X.env)).any (·.1)=false:=by rfl):
  QI X (.Tuple IH kt pt) (.Call (.Name "zip" p) [e1,e2] [] pos) (mT fs):=qu (pq true true hg hm ha he Hh) (qu (pq true false hg hm ha he Hh) (qu (pq false true hg hm ha he Hh) (pq false false hg hm ha he Hh)))
end
end PV
namespace NX
open PySem PySem.Spec PyProof.Rows L2
section
open PySem.AutoSeq1 (wpAny_loadPart')
theorem mU(l:Addr)(items:Array Value)(n:Nat)(dd:Option Addr)(sl:Array (Option Value))(x:Int)(u:Tok)(h1:¬ (!Builtin.List.listFitsIndex x)=true)(h2:¬ items.size*x.toNat>(2 ^ 63-1) / 8)(h3:¬ Builtin.List.listTooLong (items.size*x.toNat)=true)(h4:(List.foldl (fun x1 x2=>x1++x2) #[] (List.replicate (if items.isEmpty=true then 0 else x.toNat) items)).size<=sizeLine):
  Meets (Builtin.«list.__mul__» ⟨[.ref l,.int x u],[]⟩)
   (fun _ R s=>s.heap.get? l=some {cls:=.type "list",dict:=dd,data:=.seq items n,slots:=sl}/\R (.ok (.ret (.ref s.heap.objs.size))) {s with heap:=s.heap.push {cls:=.type "list",data:=.seq (List.foldl (fun x1 x2=>x1++x2) #[] (List.replicate (if items.isEmpty=true then 0 else x.toNat) items))}}):=
 .of_wp fun prog w A R s h=>by
  obtain⟨hp,g,d,tk,os⟩:=s;obtain⟨hl,h⟩:=h
  wp_walk using wpAny_loadPart' hl
  rw[Qf (by lia)]
  wp_walk
  exact⟨_,rfl,h⟩
theorem mV(a:Int)(t:Tok)(l:Addr)(T:String)(items:Array Value)(n:Nat)(dd:Option Addr)(sl:Array (Option Value)):
  Meets (Builtin.«int.__rmul__» ⟨[.int a t,.ref l],[]⟩)
   (fun _ R s=>s.heap.get? l=some {cls:=.type "list",dict:=dd,data:=.seq items n,slots:=sl}/\R (.ok (.ret .notImplemented)) s):=
 .of_wp fun prog w A R s h=>by
  obtain⟨hp,g,d,tk,os⟩:=s;obtain⟨hl,h⟩:=h
  wp_walk using wpAny_loadPart' hl
  exact⟨_,rfl,h⟩
end
end NX
namespace PV
open PySem PySem.Spec PyProof.Rows L2 NX
section
variable{md:Mode}{X:Cx}
inductive rRepS(K:W.Frag)(x:V)(y:V)(H:Hp)(Q:VK):Prop
 |mk:∀l k xs,x=.ref l->y=.int k->SqL K H l xs->-(2 ^ 62)<=k->k<2 ^ 62->xs.length*k.toNat<=sizeLine->(∀p,H p=none->Q (.ref p) (upd H p (.lst (List.replicate k.toNat xs).flatten)))->rRepS K x y H Q
theorem yC:F3 X (binaryOp .Mult) (rRepS X.K):=by
 intro pi s σ H x y v u Q I rx ry h;obtain⟨l,k,xs,rfl,rfl,hH,h1,h2,hz,q⟩:=h;cases rx;obtain⟨t,rfl⟩:=ry;obtain⟨Fg,r,p1,_⟩:=I.list hH;have hl:=r.length;obtain⟨⟨cls,dd,data,sl⟩,ho,hc,n,hd⟩:=id p1.isList;simp only at hc hd;subst hc hd;have hlen:Fg.toArray.size*k.toNat<=sizeLine:=by rw[P6,<-hl];exact hz
 have hcap:¬ Fg.toArray.size*k.toNat>(2 ^ 63-1) / 8:=by
  have:(sizeLine:Nat)<=(2 ^ 63-1) / 8:=by decide
  lia
 have Jj:¬ (!Builtin.List.listFitsIndex k)=true:=by
  rw[fitsIndex_both (by lia) (by lia)];exact Qb
 have Nx:¬ Builtin.List.listTooLong (Fg.toArray.size*k.toNat)=true:=by
  rw[uS hlen];exact Qb
 have KS:List.foldl (fun x1 x2=>x1++x2) #[] (List.replicate (if Fg.toArray.isEmpty=true then 0 else k.toNat) Fg.toArray)=(List.replicate k.toNat Fg).flatten.toArray:=by
  have f0:∀m:Nat,List.foldl (fun x1 x2=>x1++x2) #[] (List.replicate m Fg.toArray)=(List.replicate m Fg).flatten.toArray:=fun m=>by
   have:=mf Fg m [];rw[Uy]at this;exact this
  rw[f0];cases Fg with
  |nil=>simp
  |cons a r'=>rw[Qf (by simp)]
 have hsz:(List.foldl (fun x1 x2=>x1++x2) #[] (List.replicate (if Fg.toArray.isEmpty=true then 0 else k.toNat) Fg.toArray)).size<=sizeLine:=by
  rw[KS,P6,kU,Vm];rw[P6]at hlen;exact hlen
 refine wpAny_binaryOp_repeat_ref (T:="list") (U:="int") (by decide) ⟨_,ho,rfl⟩ (fun s'=>UD s' k t) noFill_list_mul F.fills_int_mul F.slot_int_rmul repeat_list F.slot_int_index.lookup
  (call_meets F.slot_int_rmul (UD s k t) F.entry_int_rmul (F.args_int_rmul_2 _ _) (mV k t l "" Fg.toArray n dd sl)
   ⟨ho,rfl,⟨_,ho,rfl⟩,call_meets F.slot_list_mul ⟨_,ho,rfl⟩ F.entry_list_mul (F.args_list_mul_2 _ _) (mU l Fg.toArray n dd sl k t Jj hcap Nx hsz) ⟨ho,?_⟩⟩)
 rw[KS];exact⟨.ref _,_,I.lnew (t':=s.toks) (r.rep k.toNat) (by rw[kU,Vm];exact hz),rfl,q _ I.fresh⟩
theorem pI{K:W.Frag}{G:Hp}{ds:List D}{xs:List V}(r:Reps K G ds xs):∀n:Nat,Reps K G (List.replicate n ds).flatten (List.replicate n xs).flatten
 | 0=>.nil
 |n+1=>by
  rw[RE,RE,RP,RP];exact r.app (pI r n)
def je(a b:D):Res R:=match a,b with
 | .lst ds,.int k=>if 0<=k/\k<1000000/\ds.length*k.toNat<=sizeLine then .ok (.l .f,.lst (List.replicate k.toNat ds).flatten) else .bad
 |a,b=>yx a b
theorem dU:F3 X (binaryOp .Mult) (rG X.K je):=by
 rintro pi s σ H x y v u Q I rx ry ⟨G,fp,es,vs,a,b,r,⟨rel,k⟩,va,vb,e⟩;unfold je at e;split at e
 ·rename_i ds j;split at e
  ·rename_i hj;cases e;obtain⟨p,xs,e1,h1,r1⟩:=va;subst e1;cases bE vb;refine yC pi s σ H _ _ v u Q I rx ry ⟨p,j,xs,rfl,rfl,h1,by lia,by lia,by rw[r1.length];exact hj.2.2,fun q hq=>?_⟩;obtain⟨Fe,Fo⟩:=rel.newL hq (pI r1 j.toNat);exact k _ _ G _ Fo Fe
  ·cases e
 ·exact yy pi s σ H _ _ v u Q I rx ry ⟨G,fp,es,vs,a,b,r,⟨rel,k⟩,va,vb,e⟩
def Dv(td ty tv:TE):TS:=fun Dd σ H=>tv σ H fun v H1=>td σ H1 fun x H2=>ty σ H2 fun y H3=>As x y v H3 fun H4=>Dd.nx σ H4
theorem yD{o i value:Expr}{td ty tv:TE}{pos pos':Pos}(ho:PE X o td)(hi:PE X i ty)(hv:PE X value tv)(hs:swapsWith value (some (.Subscript o i pos')) pos.line X.env=pure false):
  PS X (.Assign [.Subscript o i pos'] value pos) (Dv td ty tv):=by
 intro pi s σ H Dd I h;refine wpAny_Assign_Subscript (Fy (hv pi s σ H _ I h) fun r s1 ⟨v,H1,I1,rv,q1⟩=>Fy (ho pi s1 σ H1 _ I1 q1) fun u s2 ⟨x,H2,I2,rx,q2⟩=>Fy (hi pi s2 σ H2 _ I2 q2) fun iv s3 ⟨y,H3,I3,ry,q3⟩=>?_) hs;exact Fy (uP pi s3 σ H3 x y v u iv r _ I3 rx ry rv q3) fun _ s4 ⟨H4,I4,q4⟩=>⟨σ,H4,I4,q4⟩
noncomputable def vD(i:Nat)(fk fv:FX):FS:=fun env=>(fv env).bind fun p=>(fk p.2).bind fun q=>match p.2[i]?,q.2[i]? with
 |some (some _),some (some (.l .f,.lst ds))=>(match q.1.2 with
  | .int k=>(match ixN ds.length k with
   |some j=>.ok (.nx (q.2.set i (some (.l .f,.lst (ds.set j p.1.2)))))
   |none=>.bad)
  |_=>.bad)
 |_,_=>.bad
theorem yE{i:Nat}{o ix value:Expr}{fk fv:FX}{pos pos':Pos}(ho:PE X o (qL i))(hi:QE X ix fk)(hv:QE X value fv)(hs:swapsWith value (some (.Subscript o ix pos')) pos.line X.env=pure false:=by rfl):
  QS (md:=md) X (.Assign [.Subscript o ix pos'] value pos) (vD i fk fv):=e7 (yD ho hi hv hs) fun Dd σ H Fs=>by
 obtain⟨G,env,fp,rel,k⟩:=Fs;unfold vD at k;match q1:fv env,k with
 | .ok (r1,Fd),k=>
  have k:OutOk X.K G H fp Dd ((fk Fd).bind fun q=>match Fd[i]?,q.2[i]? with
   |some (some _),some (some (.l .f,.lst ds))=>(match q.1.2 with
    | .int k=>(match ixN ds.length k with
     |some j=>.ok (.nx (q.2.set i (some (.l .f,.lst (ds.set j r1.2)))))
     |none=>.bad)
    |_=>.bad)
   |_,_=>.bad):=k
  match q2:fk Fd,k with
  | .ok (r2,Fl),k=>
   have k:OutOk X.K G H fp Dd (match Fd[i]?,Fl[i]? with
    |some (some _),some (some (.l .f,.lst ds))=>(match r2.2 with
     | .int k=>(match ixN ds.length k with
      |some j=>.ok (.nx (Fl.set i (some (.l .f,.lst (ds.set j r1.2)))))
      |none=>.bad)
     |_=>.bad)
    |_,_=>.bad):=k
   split at k
   ·rename_i rr ds h1 h2;split at k
    ·rename_i kk Ly;split at k
     ·rename_i j hj;refine⟨G,env,fp,r1,Fd,rel,q1,fun y H1 G1 FE Fx Fh=>?_⟩;obtain⟨G2,b,ry,Fe,Fo⟩:=Fh.freeze;obtain⟨v0,Np,_⟩:=Fe.view h1;refine⟨v0,Np,G2,Fd,b,r2,Fl,Fe,q2,fun z H3 G3 HC FQ FC=>?_⟩;obtain⟨G4,b4,rz,FV,Gv⟩:=FC.freeze;have Od:Rep X.K G4 r1.2 y:=Rep.mono (FQ.gg.trans Gv.gg) ry;obtain⟨p,xs,ep,hp,rs,cg⟩:=FV.chg (ds':=ds.set j r1.2) h2;rw[Np]at ep;cases ep;rw[Ly]at rz;have hz:=bz rz;obtain⟨fq,F8,GZ⟩:=cg _ (rs.set j Od);exact⟨p,xs,kk,j,rfl,hz,hp,by rw[rs.length];exact hj,k _ _ G4 fq (Fx.trans (Fo.trans (FQ.trans (Gv.trans GZ)))) F8⟩
     ·exact k.elim
    ·exact k.elim
   ·exact k.elim
end
section
variable{X:Cx}
theorem Rel.own{K:W.Frag}{G H:Hp}{es:PV.Env}{vs:L2.St}{fp:List Addr}{p:Addr}{u:HO}{tk:Bool}{ks ws:List D}{xs:List V}(q:Rel K G H es vs fp)(np:p∉fp)(gp:G p=none)(h:DictO u tk ks xs)(rs:Reps K G ws xs):
  Rel K G (upd H p u) (some (.d,.dct tk ks ws)::es) (some (.ref p)::vs) (p::fp):=by
 refine⟨⟨some (.ref p),vs,rfl,.ref p,[p],fp,rfl,rfl,?_,q.rep.step (.refl _) fun z hz=>aD fun e=>np (e▸hz)⟩,Qw.mpr ⟨np,q.nd⟩,fun z hz=>?_,fun b o e=>?_⟩
 ·rw[RepO];exact⟨p,xs,u,rfl,aV,h,rfl,rs⟩
 ·rcases Qh.mp hz with rfl|hz
  ·exact gp
  ·exact q.gn z hz
 ·rw[aD fun z=>by subst z;rw[gp]at e;cases e];exact q.gh b o e
theorem Rel.aside{K:W.Frag}{G H:Hp}{es:PV.Env}{vs:L2.St}{fp:List Addr}{p:Addr}{u:HO}(q:Rel K G H es vs fp)(hp:H p=none):Rel K G (upd H p u) es vs fp:=by
 have np:p∉fp:=fun z=>by
  obtain⟨u,e⟩:=q.rep.live p z;rw[hp]at e;cases e
 exact⟨q.rep.step (.refl _) fun z hz=>aD fun e=>np (e▸hz),q.nd,q.gn,fun b o e=>by rw[aD (aQ (q.gh b o e) hp)];exact q.gh b o e⟩
theorem Step.aside{K:W.Frag}{G H G2 H2:Hp}{es:PV.Env}{vs:L2.St}{fp F0:List Addr}{p:Addr}{u u2:HO}(q:Rel K G H es vs fp)(hp:H p=none)(hu:isT u=false)(st:Step G (upd H p u) fp G2 H2 F0):
  Step G H fp G2 (upd H2 p u2) (p::F0)/\p∉F0/\G2 p=none/\H2 p=some u:=by
 have np:p∉fp:=fun z=>by
  obtain⟨u,e⟩:=q.rep.live p z;rw[hp]at e;cases e
 have ne:∀{b o},H b=some o->b≠p:=fun e=>aQ e hp
 refine⟨⟨st.gg,fun b o e nb=>?_,fun b hb=>?_,fun b o e=>?_,fun b o e=>?_⟩,fun z=>?_,?_,st.keep p u aV np⟩
 ·rw[aD (ne e)];exact st.keep b o (by rw[aD (ne e)];exact e) nb
 ·rcases Qh.mp hb with rfl|hb
  ·exact .inr hp
  ·rcases st.fpn b hb with h|h
   ·exact .inl h
   ·by_cases e:b=p
    ·subst e;exact .inr hp
    ·rw[aD e]at h;exact .inr h
 ·rcases st.gnew b o e with h|h|h|⟨h1,h2⟩
  ·exact .inl h
  ·exact .inr (.inl h)
  ·by_cases e:b=p
   ·subst e;exact .inr (.inr (.inl hp))
   ·rw[aD e]at h;exact .inr (.inr (.inl h))
  ·by_cases e:b=p
   ·subst e;exact .inr (.inr (.inl hp))
   ·rw[aD e]at h2;exact .inr (.inr (.inr ⟨h1,h2⟩))
 ·obtain⟨o',h⟩:=st.there b o (by rw[aD (ne e)];exact e);exact⟨o',by rw[aD (ne e)];exact h⟩
 ·rcases st.fpn p z with h|h
  ·exact np h
  ·rw[aV]at h;cases h
 ·cases e:G2 p with
  |none=>rfl
  |some o=>
   rcases st.gnew p o e with h|h|h|⟨h1,h2⟩
   ·have:=q.gh p o h;rw[hp]at this;cases this
   ·exact absurd h np
   ·rw[aV]at h;cases h
   ·rw[aV]at h2;cases h2;rw[hu]at h1;cases h1
def sP(fk fv:FX):FX:=fun env=>(fk env).bind fun p=>(fv p.2).bind fun q=>if d8 false p.1.2 then .ok ((.d,.dct false [p.1.2] [q.1.2]),q.2) else .bad
theorem vE{k v:Expr}{fk fv:FX}{pos:Pos}(hk:QE X k fk)(hv:QE X v fv):QE X (.Dict [some k] [v] pos) (sP fk fv):=
 bK (x6 (vh hk hv x5) rfl rfl (List.cons_ne_nil _ _) (show 1<=15 by decide)) fun σ H Q Fs p hp=>by
  obtain⟨G,env,fp,r,env',rel,e,kk⟩:=Fs;obtain⟨⟨r1,Fd⟩,e1,e⟩:=ai e;obtain⟨⟨r2,Fl⟩,e2,e⟩:=ai e;dsimp only at e;split at e
  ·rename_i Hn;cases e;refine⟨G,env,fp,r1,Fd,rel.aside hp,e1,fun x H1 G1 FE Fx Fh=>?_⟩;obtain⟨G2,b,rx,Fe,Fo⟩:=Fh.freeze;refine⟨G2,Fd,b,r2,_,Fe,e2,fun y H3 G3 HC FQ FC=>?_⟩;obtain⟨G4,b4,ry,FV,Gv⟩:=FC.freeze;have PF:Rep X.K G4 r1.2 x:=Rep.mono (FQ.gg.trans Gv.gg) rx;unfold d8 at Hn;rw[Qf Qb,Rr]at Hn;obtain⟨kd,M1⟩:=Hn;obtain⟨ex,dx⟩:=gc M1 PF;obtain⟨st,np,gp,M8⟩:=Step.aside (u2:=.dK [(kd,y)]) rel hp rfl (Fx.trans (Fo.trans (FQ.trans Gv)));refine⟨M8,[(kd,y)],by rw[ex];rfl,(show 1<=15 by decide),?_⟩;exact kk _ _ G4 _ st (FV.own np gp ⟨[(kd,y)],rfl,by rw[dx];rfl,rfl,fun kv IF=>by rw[Qx.mp IF];exact sL M1 PF⟩ (.one ry))
  ·cases e
def getD(ks vs:List D)(k:D):Option D:=((ks.zip vs).find? fun p=>Fj k p.1).map (·.2)
theorem jI{κ:Type}[DecidableEq κ]{K:W.Frag}{G:Hp}(f:κ->D)(hf:∀a b,Fj (f a) (f b)=decide (a=b)){k:κ}:∀{Ff:List (κ×V)}{vs:List D},Reps K G vs (Ff.map (·.2))->((getD (Ff.map fun kv=>f kv.1) vs (f k)).isSome=(mC Ff k).isSome)/\∀d,getD (Ff.map fun kv=>f kv.1) vs (f k)=some d->∃v,mC Ff k=some v/\Rep K G d v
 |[],vs,r=>⟨rfl,fun d h=>nomatch h⟩
 |kv::Ff,vs,r=>by
  cases vs with
  |nil=>have:=r.length;simp at this
  |cons d0 vs=>
   rw[Qn,Reps.cons_iff]at r;obtain⟨h1,h2⟩:=jI f hf (k:=k) r.2;unfold getD mC at h1 h2 ⊢;rw[Qn,Rz];have e:Fj (f k) (f kv.1)=decide (kv.1=k):=by
    rw[hf,Qv,Qm,Qm];exact⟨fun z=>z.symm,fun z=>z.symm⟩
   by_cases hk:kv.1=k
   ·rw[List.find?_cons_of_pos (by show Fj (f k) (f kv.1)=true;rw[e];exact Q9 hk),List.find?_cons_of_pos (by exact Q9 hk)];refine⟨rfl,fun d h=>?_⟩;cases h;exact⟨_,rfl,r.1⟩
   ·rw[List.find?_cons_of_neg (by show ¬ Fj (f k) (f kv.1)=true;rw[e];simpa using hk),List.find?_cons_of_neg (by simpa using hk)];exact⟨h1,h2⟩
theorem ox{K:W.Frag}{G H:Hp}(gh:Same G H){tk:Bool}{ks vs:List D}{xs:List V}{o:HO}{p:Addr}{b:D}{y:V}(rd:Rd H p o)(dd:DictO o tk ks xs)(rs:Reps K G vs xs)(hk:d8 tk b=true)(ry:Rep K G b y):
  ∃ov,DGet H p y ov/\(getD ks vs b).isSome=ov.isSome/\∀d,getD ks vs b=some d->∃v,ov=some v/\Rep K G d v:=by
 unfold d8 at hk;cases tk with
 |true=>
  rw[Qa rfl,Rr]at hk;obtain⟨kk,hk⟩:=hk;obtain⟨pz,ez,gz,dz⟩:=dE hk ry;obtain⟨Ff,eo,ek,ex,_⟩:=dd;subst eo ex ez dz;have ek:ks=Ff.map fun kv=>kT kv.1:=ek
  obtain⟨h1,h2⟩:=jI (K:=K) (G:=G) kT wY (k:=kk) rs;rw[<-ek]at h1 h2;exact⟨mC Ff kk,.inr ⟨Ff,kk,pz,rd,rfl,gh _ _ gz,rfl⟩,h1,h2⟩
 |false=>
  rw[Qf Qb,Rr]at hk;obtain⟨kk,hk⟩:=hk;obtain⟨ez,dz⟩:=gc hk ry;obtain⟨Ff,eo,ek,ex,_⟩:=dd;subst eo ex ez dz;obtain⟨h1,h2⟩:=jI (K:=K) (G:=G) kD sI (k:=kk) rs;rw[<-ek]at h1 h2;exact⟨mC Ff kk,.inl ⟨Ff,kk,rd,rfl,rfl⟩,h1,h2⟩
def KU(a b:D):Res R:=match a with
 | .dct tk ks vs=>if d8 tk b then(match getD ks vs b with
  |some d=>.ok (.f,d)
  |none=>.bad) else .bad
 |_=>.bad
theorem Bo{a b:Expr}{fa fb:FO}{pos:Pos}(hu:X.A.units+1<cLine)(ha:QO X a fa)(hb:QO X b fb)(hs:NoSl b:=by exact fun _ _=>rfl):QE X (.Subscript a b pos) (aE KU fa fb):=
 bK (x3 hu ha hb hs) fun σ H Q h=>by
  obtain⟨G,env,fp,r,env',rel,e,k⟩:=h;obtain⟨⟨oa,e1⟩,ha,e⟩:=ai e;obtain⟨⟨ob,e2⟩,hb,e⟩:=ai e;obtain⟨da,KP,e⟩:=ai e;obtain⟨db,HQ,e⟩:=ai e;obtain⟨r',hr,e⟩:=ai e;cases e;refine⟨G,env,fp,oa,e1,rel,ha,fun x H1 G1 FE Fx Fh Hc=>⟨G1,e1,FE,ob,e2,Fh,hb,fun y H2 G2 F0 Fo Fe JO=>?_⟩⟩;have va:=Fe.vw (Hc.mono Fo.gg) KP;have vb:=Fe.vw JO HQ;unfold KU at hr;split at hr
  ·rename_i tk ks vs;split at hr
   ·rename_i Hn;split at hr
    ·rename_i d hd;cases hr;obtain⟨p,xs,o,ev,rd,dd,rs⟩:=va;subst ev;have vb':Rep X.K G2 db y:=by
      cases db with
      |lst l=>cases tk <;> simp[d8,eK,jB]at Hn
      |dct _ _ _=>cases tk <;> simp[d8,eK,jB]at Hn
      |_=>exact vb
     obtain⟨ov,g,_,h2⟩:=ox Fe.gh rd dd rs Hn vb';obtain⟨v,ho,rv⟩:=h2 d hd;subst ho;exact⟨p,v,rfl,g,k _ H2 G2 F0 (Fx.trans Fo) (Fe.push rv)⟩
    ·cases hr
   ·cases hr
  ·cases hr
def L8(a b:D):Res R:=match b with
 | .dct tk ks vs=>if d8 tk a then .ok (.f,.bl (getD ks vs a).isSome) else .bad
 |_=>JV a b
def zQ(a b:D):Res R:=match b with
 | .dct tk ks vs=>if d8 tk a then .ok (.f,.bl (!(getD ks vs a).isSome)) else .bad
 |_=>uA a b
theorem xa(hu:X.A.units+65<cLine):F3 X (compareOp .In) (rGA X.K L8):=by
 rintro pi s σ H x y v u Q I rx ry ⟨G,fp,es,vs,a,b,r,⟨rel,k⟩,va,vb,e⟩;unfold L8 at e;split at e
 ·rename_i tk ks ws;split at e
  ·rename_i Hn;cases e;obtain⟨p,xs,o,ev,rd,dd,rs⟩:=vb;subst ev;cases ry;obtain⟨ov,g,h1,_⟩:=ox (K:=X.K) (G:=H) (fun _ _ z=>z) rd dd rs Hn va;exact ER (by lia) I g rx fun s' I'=>⟨.bl ov.isSome,H,I',rfl,by rw[<-h1];exact k _ H G fp .refl (rel.push (cP _))⟩
  ·cases e
 ·exact Dq hu pi s σ H x y v u Q I rx ry ⟨G,fp,es,vs,a,b,r,⟨rel,k⟩,va,vb,e⟩
theorem oy(hu:X.A.units+65<cLine):F3 X (compareOp .NotIn) (rGA X.K zQ):=by
 rintro pi s σ H x y v u Q I rx ry ⟨G,fp,es,vs,a,b,r,⟨rel,k⟩,va,vb,e⟩;unfold zQ at e;split at e
 ·rename_i tk ks ws;split at e
  ·rename_i Hn;cases e;obtain⟨p,xs,o,ev,rd,dd,rs⟩:=vb;subst ev;cases ry;obtain⟨ov,g,h1,_⟩:=ox (K:=X.K) (G:=H) (fun _ _ z=>z) rd dd rs Hn va;exact xY (by lia) I g rx fun s' I'=>⟨.bl (!ov.isSome),H,I',rfl,by rw[<-h1];exact k _ H G fp .refl (rel.push (cP _))⟩
  ·cases e
 ·exact A8 hu pi s σ H x y v u Q I rx ry ⟨G,fp,es,vs,a,b,r,⟨rel,k⟩,va,vb,e⟩
end
section
variable{K:W.Frag}{G G' H H':Hp}{es:PV.Env}{vs:L2.St}{fp:List Addr}
end
section
variable{X:Cx}
def Bp:O->O->Bool
 | .l .f,.l .f=>true
 | .l .f,.pin _ (.l .f)=>true
 | .d,.d=>true
 | .d,.pin _ .d=>true
 |_,_=>false
open Classical in
def Bq(F:Addr->List D->Res R)(c:O)(d0:D)(ds:List D):Res (R×D):=
 if h:∃x:R×D,∀p,F p (d0::ds)=.ok (.t [x.1.1,.pin p c],.tup [x.1.2,x.2]) then .ok (Classical.choose h) else .bad
end
section
variable{X:Cx}{x:Str}{p pos:Pos}{e:Expr}{es:List Expr}{fs:FOs}
end
section
variable{K:W.Frag}{G G' H H':Hp}
end
section
variable{X:Cx}{md:Mode}
end
end PV
namespace NX
open PySem PySem.Spec PyProof.Rows L2
end NX
namespace PV
open PySem PySem.Spec PyProof.Rows L2 NX
section
variable{X:Cx}
end
end PV
namespace NX
open PySem PySem.Spec PyProof.Rows L2
section
variable{prog:Program}{w:World}{A:Around}{E:Value->Shared->Prop}{s:Shared}
end
section
variable{prog:Program}{w:World}{A:Around}{E:Value->Shared->Prop}{s:Shared}
end
section
variable{X:Cx}{e:Expr}{ta:TA}{p p2 pos pos2:Pos}
end
end NX
namespace PV
open PySem PySem.Spec PyProof.Rows L2 NX
section
variable{X:Cx}{e:Expr}{fs:FOs}{p p2 pos pos2:Pos}
end
end PV
namespace NX
open PySem PySem.Spec PyProof.Rows L2
section
open PySem.AutoSeq1 (wpAny_loadPart')
end
end NX
namespace PV
open PySem PySem.Spec PyProof.Rows L2 NX
section
variable{X:Cx}
end
section
variable{md:Mode}{X:Cx}{scope:Scope}{N:List Str}{tg iter elt:Expr}{ifs:List Expr}{pos:Pos}{fi:FI}{a:FG}{c:FT}{f:FX}{j k0:Nat}
end
section
variable{X:Cx}{x:Str}{p pos:Pos}{e:Expr}{es:List Expr}{f0:FX}{fs:FOs}
end
def joinL(sep:List Nat):List (List Nat)->List Nat
 |[]=>[]
 |[x]=>x
 |x::y::r=>x++sep++joinL sep (y::r)
def sQ(sep:List Nat):List D->Res R
 |[.lst ds]=>match d7 ds with
  |some ys=>if(ys.map List.length).sum+ys.length*sep.length<=16777216 then .ok (.f,.str (joinL sep ys)) else .bad
  |none=>.bad
 |_=>.bad
theorem sR(sep:List Nat):∀ys:List (List Nat),Str.join (S sep) (ys.map S)=S (joinL sep ys)
 |[]=>rfl
 |[x]=>rfl
 |x::y::r=>by
  have ih:=sR sep (y::r);show S x++S sep++Str.join (S sep) ((y::r).map S)=S (x++sep++joinL sep (y::r));rw[ih];apply Str.ext';simp[Str.cps_append]
theorem Br(sep:List Nat):∀ys:List (List Nat),Txt.join (S sep) (ys.map S)=S (joinL sep ys)
 |ys=>by
  show Builtin.Str.glued (S sep) (ys.map S)=_;rw[StrLaws.glued_eq_join];exact sR sep ys
theorem mW(sep:List Nat):∀ys:List (List Nat),(joinL sep ys).length<=(ys.map List.length).sum+ys.length*sep.length
 |[]=>QJ _
 |[x]=>by
  show x.length<=_;rw[Qn,TZ];lia
 |x::y::r=>by
  have ih:=mW sep (y::r);show(x++sep++joinL sep (y::r)).length<=_;rw[QU,QU,Qn,TZ,Ql,Nat.add_mul];lia
theorem mX{K:W.Frag}{G:Hp}:∀{ds:List D}{ys:List (List Nat)}{xs:List V}{us:List Value},d7 ds=some ys->Reps K G ds xs->Vals xs us->StrsAre us (ys.map S)
 |[],ys,xs,us,e,r,v=>by
  cases e;rw[Reps]at r;subst r;cases v;exact .nil
 | .str b::ds,ys,xs,us,e,r,v=>by
  rw[Reps]at r;obtain⟨y,zs,ex,r1,r2⟩:=r;subst ex;cases v with
  |cons h t=>
   rw[d7,QA]at e;obtain⟨ws,hw,rfl⟩:=e;rw[Rep]at r1;obtain⟨r1,_⟩:=r1;subst r1;obtain⟨tk,rfl⟩:=h;exact .cons _ tk (mX hw r2 t)
 | .non::_,_,_,_,e,_,_ | .bl _::_,_,_,_,e,_,_ | .int _::_,_,_,_,e,_,_ | .tup _::_,_,_,_,e,_,_ | .lst _::_,_,_,_,e,_,_ | .dct _ _ _::_,_,_,_,e,_,_=>by cases e
section
variable{X:Cx}
theorem yF:KC X "str.join" (rMtS X.K sQ):=by
 rintro pi s σ H x xs v us Q I rx rv ⟨G,fp,es,vs,l,ds,r,⟨rel,k⟩,ex,hz,vd,e⟩;unfold sQ at e;split at e
 ·rename_i ds;split at e
  ·rename_i ys OC;split at e
   ·rename_i hb;cases e;subst ex;obtain⟨w',ew,p,zs,ep,sq,rs⟩:=kB vd;subst ew ep;obtain⟨t,rfl⟩:=rx;obtain⟨u,rfl,ru⟩:=dy rv;cases ru;obtain⟨Fg,r',pl,Ky⟩:=I.list sq;refine join_list pl.isList (ys:=ys.map S) (mX OC rs r') ?_ fun t' kk=>?_
    ·rw[Qe,P5];have e1:((fun x:Str=>x.length)∘S)=List.length:=by funext z;exact kh z
     rw[e1,kh];exact hb
    ·rw[Br];refine⟨.str (S (joinL l ys)),H,I.tok _,⟨_,rfl⟩,k _ H G fp .refl (rel.push ?_)⟩;rw[Rep];have:=mW l ys;exact⟨rfl,by rw[line_eq];lia⟩
   ·cases e
  ·cases e
 ·cases e
end
end PV
namespace NX
open PySem PySem.Spec PyProof.Rows L2
section
variable{prog:Program}{w:World}{A:Around}{R:Result->Shared->Prop}{it:Addr}{fp wr:List Addr}{n:Nat}{Pv:Nat->Value->Prop}{Sx:Nat->Heap->Prop}{kw:List (Str×Value)}
theorem lG:(toString "min"++toString ".loop" : String) = "min.loop":=by decide
theorem Dw(Wk:Walks prog w A.in1 it fp wr n Pv Sx)(bt:Nat->Nat->Bool)(cm:CmpOf prog w A.in1 .Lt Pv bt)(T:Addr)(nT:T∉fp):∀(k j:Nat) (s:Shared) (vb:Value) (c:Nat),n-(j+1)=k->j+1<=n->Sx (j+1) s.heap->Pv (argBest bt j) vb->
   s.heap.get? T=some {cls:=.type "list",dict:=none,data:=.seq #[vb,vb] c,slots:=#[]}->
   (∀v h' tk,Pv (argBest bt (n-1)) v->(∀b o,b∉wr->b≠T->s.heap.get? b=some o->h'.get? b=some o)->R (.ok (.ret v)) {s with heap:=h',toks:=tk})->codeAny (model prog w) A (.builtin "min.loop" ⟨[.ref it,.none,.ref T],kw⟩) R s:=by
 have KJ:T∉wr:=fun z=>nT (Wk.sub _ z)
 intro k;induction k with
 |zero=>
  intro j s vb c hk hj st hp hT fin;have ej:j+1=n:=by lia
  refine Sk Uc ?_;rw[RK R3 _];show wpAny _ A.in1 (seqItems? (.ref T) >>= _) _ _ s;refine P2 (Rb hT rfl ?_);show wpAny _ A.in1 (tryCatch (pyNext (.ref it)) _ >>= _) _ _ s;refine P2 (RH (Wk.done s _ _ (ej▸st) fun h' tk kk=>?_));have IE:=kk T _ KJ hT;show wpAny _ A.in1 (updateSeq T (fun _=>#[]) >>= _) _ _ _;refine P2 (Sl IE rfl (P2 (RT (P4 ?_))));exact fin vb _ tk (by rw[<-ej];exact hp) fun b o bw bT e=>(Heap.get?_update_other _ _ (Rv bT)).trans (kk b o bw e)
 |succ k ih=>
  intro j s vb c hk hj st hp hT fin;have jn:j+1<n:=by lia
  refine Sk Uc ?_;rw[RK R3 _];show wpAny _ A.in1 (seqItems? (.ref T) >>= _) _ _ s;refine P2 (Rb hT rfl ?_);show wpAny _ A.in1 (tryCatch (pyNext (.ref it)) _ >>= _) _ _ s;refine P2 (RH (Wk.item (j+1) s _ _ jn st fun v h' tk pv He kk=>?_));have IE:=kk T _ KJ hT;show wpAny _ A.in1 (tryCatch (holding [v,v] (richCompare .Lt v vb >>= _)) _ >>= _) _ _ _;refine P2 (RH (RG (P2 (cm (j+1) (argBest bt j) v vb _ _ _ pv hp (P2 (RG (RO (P2 (RT (P4 ?_))))))))));cases eb:bt (j+1) (argBest bt j) with
  |true=>
   rw[Qa rfl];refine P2 (Sl IE rfl (P2 (RT ?_)));rw[lG];refine P4 ⟨Sh R3 _,ih (j+1) _ v _ (by lia) jn (Wk.frame _ _ _ He fun b bf o e=>?_) (by simp only[argBest,eb,SF];exact pv) (Heap.get?_update_self _ IE rfl) fun v2 h2 t2 p2 k2=>?_⟩
   ·exact(Heap.get?_update_other _ _ (fun z:T=b=>nT (by rw[z];exact bf))).trans e
   ·exact fin v2 h2 t2 p2 fun b o bw bT e=>k2 b o bw bT ((Heap.get?_update_other _ _ (Rv bT)).trans (kk b o bw e))
  |false=>
   rw[Qf Qb];refine P2 (RT ?_);rw[lG];refine P4 ⟨Sh R3 _,ih (j+1) _ vb c (by lia) jn He (by simp only[argBest,eb,Ry,SS];exact hp) IE fun v2 h2 t2 p2 k2=>?_⟩;exact fin v2 h2 t2 p2 fun b o bw bT e=>k2 b o bw bT (kk b o bw e)
theorem vF(Wk:Walks prog w A.in1 it fp wr n Pv Sx)(bt:Nat->Nat->Bool)(cm:CmpOf prog w A.in1 .Lt Pv bt)(T:Addr)(nT:T∉fp){s:Shared}{c:Nat}{d:Value}(OF:kw=[(Str.ofString "default",d)])(st:Sx 0 s.heap)
  (hT:s.heap.get? T=some {cls:=.type "list",dict:=none,data:=.seq #[] c,slots:=#[]}) (fin:∀v h' tk,(if n=0 then v=d else Pv (argBest bt (n-1)) v)->(∀b o,b∉wr->b≠T->s.heap.get? b=some o->h'.get? b=some o)->R (.ok (.ret v)) {s with heap:=h',toks:=tk}):
  codeAny (model prog w) A (.builtin "min.loop" ⟨[.ref it,.none,.ref T],kw⟩) R s:=by
 have KJ:T∉wr:=fun z=>nT (Wk.sub _ z)
 refine Sk Uc ?_;rw[RK R3 _];show wpAny _ A.in1 (seqItems? (.ref T) >>= _) _ _ s;refine P2 (Rb hT rfl ?_);show wpAny _ A.in1 (tryCatch (pyNext (.ref it)) _ >>= _) _ _ s;by_cases hn:n=0
 ·refine P2 (RH (Wk.done s _ _ (by rw[hn];exact st) fun h' tk kk=>?_));subst OF;refine P2 (TC (P4 ?_));exact fin d _ tk (by rw[Qa hn]) fun b o bw bT e=>kk b o bw e
 ·refine P2 (RH (Wk.item 0 s _ _ (by lia) st fun v h' tk pv He kk=>?_));have IE:=kk T _ KJ hT;show wpAny _ A.in1 (updateSeq T (fun _=>#[v,v]) >>= _) _ _ _;refine P2 (Sl IE rfl ?_);rw[lG];refine P4 ⟨Sh R3 _,Dw Wk bt cm T nT _ 0 _ v _ rfl (by lia) (Wk.frame _ _ _ He fun b bf o e=>?_) pv (Heap.get?_update_self _ IE rfl) fun v2 h2 t2 p2 k2=>?_⟩
  ·exact(Heap.get?_update_other _ _ (fun z:T=b=>nT (by rw[z];exact bf))).trans e
  ·exact fin v2 h2 t2 (by rw[Qf hn];exact p2) fun b o bw bT e=>k2 b o bw bT ((Heap.get?_update_other _ _ (Rv bT)).trans (kk b o bw e))
end
theorem args_mind(a d:Value):argsOk "min" ⟨[a],[(Str.ofString "default",d)]⟩:=by unfold argsOk;kernel_rfl
section
variable{X:Cx}{e k:Expr}{te tk:TE}{p pos Ij:Pos}
def minD(ns:List Int)(d:Int):Int:=if ns=[] then d else eD ns
def Dx(K:W.Frag)(te tk:TE):TE:=fun σ H Q=>qc te zI σ H fun vs H1=>qc tk zI σ H1 fun ks H2=>∃(a:Addr) (ns:List Int) (d:Int),vs=[.ref a]/\ks=[.int d]/\(SqL K H2 a (ns.map V.int)\/SqT K H2 a (ns.map V.int))/\Q (.int (minD ns d)) H2
theorem yG(hc:X.calm=true)(hg:Gl X "min")(hm:X.mg "min" = none)(he:PE X e te)(hk:PE X k tk)(hs:starEach [e] X.env=[(false,eval e X.env)]:=by rfl):
  PE X (.Call (.Name "min" p) [e] [⟨some "default",k,Ij⟩] pos) (Dx X.K te tk):=by
 intro pi s σ H Q I h;refine RI (ji I hg hm (by decide +kernel:bootBuiltins "min" = some (.builtin "min")) ?_ (by decide) (by decide));refine callWith_kw (Fy (eh he jj (hs:=hs) pos pi s σ H _ I h) fun us s1 ⟨vs,H1,I1,r1,q1⟩=>?_) (by rw[hs];rfl) (by rw[hs];rfl);refine Fy (rh hk wA pos pi s1 σ H1 _ I1 q1) fun ws s2 Fz=>?_
 obtain⟨ks,H2,I2,r2,a,ns,d,e1,e2,hp,q⟩:=Fz;subst e1 e2;obtain⟨u,rfl,ru⟩:=dy r1;obtain⟨w',rfl,t,rfl⟩:=dy r2;cases ru;show wpAny _ _ (call (.builtin "min") [.ref a] [(Str.ofString "default",.int d t)]) _ _ s2;refine tree_kw F.kind_min F.plain_min F.entry_min (args_mind _ _) ?_;show wpAny _ X.A.in1 (Builtin.Builtins.bindParams "min" ["key","default"] 0 ⟨[],[(Str.ofString "default",.int d t)]⟩ >>= _) _ _ s2;refine P2 (UN (show Builtin.Builtins.bindParams "min" ["key","default"] 0 ⟨[],[(Str.ofString "default",.int d t)]⟩=pure [none,some (.int d t)] from rfl) ?_);refine P2 (P4 ?_);refine P2 (eC hc I2 hp fun it fp o ws Sx rv Wk st hf hit=>?_);have hl:=rv.length;rw[P5]at hl;refine P2 (Q1 ?_);have nT:(s2.heap.push o).objs.size∉fp:=fun z=>RF _ (hf _ z)
 rw[lG];refine P4 ⟨Sh R3 _,vF Wk _ (mw rv _) (s2.heap.push o).objs.size nT rfl (Wk.frame _ _ _ st fun b _ ob e=>Heap.get?_push_of_some _ e) (Heap.get?_push_size _ rfl) fun v h' OG hv kk=>?_⟩;subst hit;have I3:Inv X pi σ H2 {s2 with heap:=h',toks:=OG}:=c5 (s:=s2) (o:=o) I2 fun b ob nb e=>kk b ob nb (Qq (Qc e)) (Heap.get?_push_of_some _ e)
 refine⟨.int (minD ns d),H2,I3,?_,q⟩;unfold minD;by_cases hn:ns=[]
 ·rw[Qa (by rw[<-hl,hn];rfl)]at hv;rw[Qa hn,hv];exact⟨t,rfl⟩
 ·have h0:0<ns.length:=UO.mpr hn;rw[Qf (by lia)]at hv;rw[Qf hn];obtain⟨b1,b2⟩:=kY ns (ns.length-1) (by lia);rw[<-hl]at hv;obtain⟨t2,rfl⟩:=dk rv hv;refine⟨t2,?_⟩;rw[b2,show ns.length-1+1=ns.length by lia,RA];rfl
end
end NX
namespace PV
open PySem PySem.Spec PyProof.Rows L2 NX
def yH(f g:FX):FX:=fun env=>(f env).bind fun p=>(g p.2).bind fun q=>match(jx p.1.2).bind cv,q.1.2 with
 |some ns,.int d=>.ok ((.f,.int (NX.minD ns d)),q.2)
 |_,_=>.bad
section
variable{X:Cx}
theorem yI{e k:Expr}{f g:FX}{p pos Ij:Pos}(hc:X.calm=true)(hg:Gl X "min")(hm:X.mg "min" = none)(he:QE X e f)(hk:QE X k g)(hs:starEach [e] X.env=[(false,eval e X.env)]:=by rfl):
  QE X (.Call (.Name "min" p) [e] [⟨some "default",k,Ij⟩] pos) (yH f g):=bK (yG hc hg hm he hk hs) fun σ H Q Fs=>by
 obtain⟨G,env,fp,r,env',rel,e,k⟩:=Fs;obtain⟨⟨r1,Fd⟩,e1,e⟩:=ai e;obtain⟨⟨r2,Fl⟩,e2,e⟩:=ai e;dsimp only at e;split at e
 ·rename_i ns d Lx hd;cases e;refine⟨G,env,fp,r1,Fd,rel,e1,fun v H1 G1 FE Fx Fh=>?_⟩;obtain⟨G2,b,rv,Fe,Fo⟩:=Fh.freeze;refine⟨G2,Fd,b,r2,_,Fe,e2,fun w' H3 G3 HC FQ FC=>?_⟩;have hw:=FC.top;obtain⟨b3,FV,Gv⟩:=FC.drop;rw[hd]at hw;obtain⟨p',ep,sq⟩:=fF FV.gh Lx (Vw.of FV.gh (Rep.mono FQ.gg rv));subst ep;exact⟨p',ns,d,rfl,by rw[bz hw],sq,k _ H3 G3 b3 (Fx.trans (Fo.trans (FQ.trans Gv))) (FV.push (aU _))⟩
 ·cases e
end
section
variable{X:Cx}
noncomputable def Dy(g:List D->List D->Res R)(fa:FO)(fs:FOs):FX:=fun env=>(fa env).bind fun p=>(Gx p.2 p.1).bind fun a=>match a with
 | .lst _=>(fs p.2).bind fun q=>(Gx q.2 p.1).bind fun a2=>match a2 with
  | .lst l=>(nL q.2 q.1).bind fun ds=>(g l ds).bind fun r=>.ok (r,q.2)
  |_=>.bad
 |_=>.bad
inductive rMtL(K:W.Frag)(g:List D->List D->Res R)(x:V)(xs:List V)(H:Hp)(Q:VK):Prop
 |mk:∀G fp es vs l ds r,Goes K H G fp es vs r Q->Vw K G H (.lst l) x->Lz K G H ds xs->g l ds=.ok r->rMtL K g x xs H Q
theorem Bs{g:List D->List D->Res R}{id:String}{name:Str}{o e:Expr}{es:List Expr}{fa:FO}{fs:FOs}{apos Fw:Pos}(slot:Slot "list" name id)(J2:typeOf (.builtin id)=pure (.type "method_descriptor"))(hm:KC X id (rMtL X.K g))(ho:QO X o fa)(ha:JN X (e::es) fs)
  (Ge:attributeBase o name X.env (eval o X.env)=eval o X.env:=by rfl)
  (Hi:((backTo Fw (starEach (e::es) X.env)).all (fun x=>!x.1)&&(backToKw Fw (keywordEach [] X.env)).all (fun x=>x.1.isSome)&&decide ((e::es).length+([]:List Keyword).length+(if([]:List Keyword).isEmpty then 0 else 1)<30))=true:=by rfl)
  (Gf:(apos.endLine==Fw.line)=true:=by rfl) (hs:starEach (e::es) X.env=(false,eval e X.env)::starEach es X.env:=by rfl) (FR:(backTo Fw (starEach es X.env)).any (·.1)=false:=by rfl):
  QE X (.Call (.Attribute o name apos) (e::es) [] Fw) (Dy g fa fs):=by
 refine bK (uR SJ slot J2 hm ho ha Ge Hi Gf hs FR) fun σ H Q Fz=>?_
 obtain⟨G,env,fp,r,env',rel,e,k⟩:=Fz;obtain⟨⟨oa,Fd⟩,e1,e⟩:=ai e;obtain⟨da,KP,e⟩:=ai e;dsimp only at e;split at e
 ·obtain⟨⟨os,Fl⟩,e2,e⟩:=ai e;obtain⟨d2,hd2,e⟩:=ai e;dsimp only at e;split at e
  ·obtain⟨ds,e3,e⟩:=ai e;obtain⟨r',e4,e⟩:=ai e;cases e;refine⟨G,env,fp,oa,Fd,rel,e1,fun v H1 G1 FE Fx Fh Hc=>?_⟩;obtain⟨p,xs,ev,sq,_⟩:=Fh.vw Hc KP;subst ev;exact⟨.inl ⟨rfl,xs,sq⟩,G1,Fd,FE,os,_,Fh,e2,fun vs H2 G2 F0 Fo Fe JO=>⟨G2,F0,_,σ,_,ds,r,⟨Fe,fun v H' G' Fm st FJ=>k v H' G' Fm (Fx.trans (Fo.trans st)) FJ⟩,Fe.vw (Hc.mono Fo.gg) hd2,Fe.vws JO e3,e4⟩⟩
  ·cases e
 ·cases e
open PySem.SeqAt in
theorem yJ{pi:List (Addr×Obj)}{σ:L2.St}{H:Hp}{s:Shared}(I:Inv X pi σ H s){a:D}{x:V}{v:Value}{A:Around}(h:plainD 40 a=true)(hu:A.units+64<cLine)(r:Rep X.K H a x)(rx:RelV x v):
  ∀(ds:List D) (xs:List V) (us:List Value),plainDs 40 ds=true->Reps X.K H ds xs->Vals xs us->∃e:Value->Bool,(∀(j:Nat) (d:D) (u:Value),ds[j]?=some d->us[j]?=some u->e u=Fj d a)/\∀u∈us,EqAt A s u v (e u):=by
 classical
 intro ds xs us hp rs vl;have key:∀(j:Nat) (d:D) (u:Value),ds[j]?=some d->us[j]?=some u->decide (∃(j:Nat) (d:D),ds[j]?=some d/\us[j]?=some u/\Fj d a=true)=Fj d a:=by
  intro j d u hd hj;obtain⟨w1,Jg,Jh⟩:=rs.get hd;obtain⟨u1,HD,Ji⟩:=vl.get Jg;rw[hj]at HD;cases HD;rw[Qv,Qm];constructor
  ·rintro⟨j2,d2,k1,k2,k3⟩;obtain⟨w2,J9,Ka⟩:=rs.get k1;obtain⟨u2,II,Kb⟩:=vl.get J9;rw[k2]at II;cases II;have:=Ji.inj Kb;subst this;rw[jz I _ _ _ 40 (plainDs_mem hp hd) Jh Ka];exact k3
  ·intro k3;exact⟨j,_,hd,hj,k3⟩
 refine⟨fun u=>decide (∃(j:Nat) (d:D),ds[j]?=some d/\us[j]?=some u/\Fj d a=true),key,fun u OV=>?_⟩;obtain⟨j,hj⟩:=Qt.mp OV;have l1:=vl.length;have l2:=rs.length;have hjl:=(List.getElem?_eq_some_iff.mp hj).1;have g1:ds[j]?=some (ds[j]'(by lia)):=List.getElem?_eq_getElem _;obtain⟨w1,Jg,Jh⟩:=rs.get g1;obtain⟨u1,HD,Ji⟩:=vl.get Jg;rw[hj]at HD;cases HD;have z:=yo I _ _ w1 x u v A 40 (plainDs_mem hp g1) h (by lia) Jh r Ji rx;show EqAt A s u v (decide (∃(j:Nat) (d:D),ds[j]?=some d/\us[j]?=some u/\Fj d a=true));rw[key j _ u g1 hj];exact z
def oz(l:List D):List D->Res R
 |[a]=>if plainD 40 a&&plainDs 40 l&&l.any (fun d=>Fj d a) then .ok (.f,.int (l.findIdx (fun d=>Fj d a):Nat)) else .bad
 |_=>.bad
theorem oA(hu:X.A.units+65<cLine):KC X "list.index" (rMtL X.K oz):=by
 rintro pi s σ H x xs v us Q I rx rv ⟨G,fp,es,vs,l,ds,r,⟨rel,k⟩,vx,vd,e⟩;unfold oz at e;split at e
 ·rename_i a;split at e
  ·rename_i hp;rw[Qo,Qo]at hp;cases e;obtain⟨p,ys,ev,sq,rs⟩:=vx;subst ev;cases rx;obtain⟨w',ew,va⟩:=kB vd;subst ew;obtain⟨u,rfl,ru⟩:=dy rv;obtain⟨Fg,vl,pl,hz⟩:=I.list sq;obtain⟨⟨cls,dd,data,sl⟩,ho,hc,n,hd⟩:=id pl.isList;simp only at hc hd;subst hc hd;obtain⟨ef,PH,he2⟩:=yJ (A:=X.A.in1) I hp.1.1 (by first|lia|(simp only[Around.in1_units];lia)) (va.rep rel.gh) ru l ys Fg hp.1.2 (Reps.mono rel.gh rs) vl;have FH:l.findIdx (fun d=>Fj d a)<l.length:=List.findIdx_lt_length.mpr (by rw[<-Q8];exact hp.2);have l1:=vl.length;have l2:=rs.length;have hlt2:l.findIdx (fun d=>Fj d a)<Fg.toArray.size:=by rw[P6];lia
   have hb:(l.findIdx (fun d=>Fj d a):Int)<2 ^ 63-1:=by
    rw[Ri]at hz;lia
   refine Ub T3 ⟨_,ho,rfl⟩ PySem.F.entry_list_index (PySem.F.args_list_index_2 _ _) (PySem.SeqAt.list_indexAt p Fg.toArray n _ _ u ef (l.findIdx fun d=>Fj d a) hlt2 hb ?_ ?_) ⟨ho,fun y hy=>?_,⟨.int (l.findIdx (fun d=>Fj d a):Nat),H,I.tok _,⟨_,rfl⟩,k _ H G fp .refl (rel.push (aU _))⟩⟩
   ·rw[PH _ _ _ (List.getElem?_eq_getElem FH) (by rw[UH];exact List.getElem?_eq_getElem _)];exact UI (w:=FH)
   ·intro m hm hlt3;rw[PH m (l[m]'(by lia)) _ (List.getElem?_eq_getElem _) (by rw[UH];exact List.getElem?_eq_getElem _)];exact List.not_of_lt_findIdx hlt3
   ·exact he2 y (by simpa using hy)
  ·cases e
 ·cases e
end
section
variable{K:W.Frag}{G G' H H':Hp}{es:PV.Env}{vs:L2.St}{fp:List Addr}
end
noncomputable def eFunW(c:O)(F:Addr->List D->Res R)(i:Nat)(fs:FOs):FX:=fun env=>(fs env).bind fun p=>match p.1 with
 | .var j::os=>if j=i then(match p.2[i]? with
  |some (some (ow,d0))=>if Bp c ow then(kl (p.2.set i none) os).bind fun ds=>(Bq F c d0 ds).bind fun x=>if bu x.1.1 x.1.2&&bu c x.2 then .ok (x.1,(p.2.set i none).set i (some (ow,x.2))) else .ok (x.1,((p.2.set i none).map frz).set i (some (ow,x.2))) else .bad
  |_=>.bad) else .bad
 |_=>.bad
section
variable{X:Cx}{x:Str}{p pos:Pos}{e:Expr}{es:List Expr}{f0:FX}{fs:FOs}
end
def SlR3(X:Cx)(r:V->Option Int->Option Int->Option Int->Hp->VK->Prop):Prop:=
 ∀(pi:List (Addr×Obj)) (s:Shared) (σ:L2.St) (H:Hp) (x:V) (v vl vu vt:Value) (lo hi st:Option Int) (sl:Addr) (Q:VK),Inv X pi σ H s->RelV x v->s.heap.IsSliceOf sl vl vu vt->IsPart vl lo->IsPart vu hi->IsPart vt st->r x lo hi st H Q->
  ∃T id,typeLookup (.type T) "__getitem__" = pure (some (.builtin id))/\s.TypeIs v T/\wpAny (model X.prog X.w) X.A (getItem v (.ref sl)) (EP X pi σ Q) X.xe s
def EY(r:V->Option Int->Option Int->Option Int->Hp->VK->Prop)(te:TE)(tl th ts:TO):TE:=fun σ H Q=>te σ H fun x H1=>tl σ H1 fun l H2=>th σ H2 fun u H3=>ts σ H3 fun t H4=>r x l u t H4 Q
theorem sS{X:Cx}{e:Expr}{te:TE}{lo hi:Option Expr}{se:Expr}{tl th ts:TO}{pos p2:Pos}{r:V->Option Int->Option Int->Option Int->Hp->VK->Prop}(hr:SlR3 X r)(he:PE X e te)(hl:PO X lo tl)(hu:PO X hi th)(hs:PO X (some se) ts):PE X (.Subscript e (.Slice lo hi (some se) p2) pos) (EY r te tl th ts):=by
 intro pi s σ H Q I h;refine Subscript_ (Fy (he pi s σ H _ I h) fun v s1 Fz=>?_);obtain⟨x,H1,I1,r1,q1⟩:=Fz;refine wpAny_Slice (Fy (hl pi s1 σ H1 _ I1 q1) fun vl s2 ⟨l,H2,I2,pl,q2⟩=>Fy (hu pi s2 σ H2 _ I2 q2) fun vu s3 ⟨u,H3,I3,pu,q3⟩=>Fy (hs pi s3 σ H3 _ I3 q3) fun vt s4 Fz=>?_);obtain⟨t,H4,I4,pt,q4⟩:=Fz;have I5:Inv X pi σ H4 {s4 with heap:=s4.heap.push {cls:=.type "slice",data:=.fields #[vl,vu,vt]}}:=I4.kept (t':=s4.toks) fun b ob q=>Heap.get?_push_of_some _ q
 obtain⟨T,id,hT,ht,hg⟩:=hr pi {s4 with heap:=s4.heap.push {cls:=.type "slice",data:=.fields #[vl,vu,vt]}} σ H4 x v vl vu vt l u t s4.heap.objs.size Q I5 r1 (Heap.IsSliceOf.new ..) pl pu pt q4;show wpAny (model X.prog X.w) X.A (subscriptTail e (.Slice lo hi (some se) p2) v (.ref s4.heap.objs.size)) (EP X pi σ Q) X.xe {s4 with heap:=s4.heap.push {cls:=.type "slice",data:=.fields #[vl,vu,vt]}};exact tail_any (ops:=[v,.ref s4.heap.objs.size]) ht hT hg (by with_unfolding_all rfl)
def fH{α:Type}(xs:List α)(lo hi:Option Int)(c:Int):List α:=
 (sliceRange (sliceBounds lo hi (some c) xs.length).1 (sliceBounds lo hi (some c) xs.length).2.1 (sliceBounds lo hi (some c) xs.length).2.2).filterMap (fun i=>xs[i]?)
theorem mY{K:W.Frag}{G:Hp}{ds:List D}{xs:List V}(r:Reps K G ds xs):∀ix:List Nat,Reps K G (ix.filterMap fun i=>ds[i]?) (ix.filterMap fun i=>xs[i]?)
 |[]=>.nil
 |i::ix=>by
  have ih:=mY r ix;cases e:ds[i]? with
  |none=>
   have e2:xs[i]?=none:=by
    rw[List.getElem?_eq_none_iff]at e ⊢;rw[r.length];exact e
   rw[Sd e,Sd e2];exact ih
  |some d=>
   obtain⟨v,e2,rv⟩:=r.get e;rw[Se e,Se e2];exact .cons rv ih
theorem vals_pick{xs:List V}{us:List Value}(r:Vals xs us):∀ix:List Nat,Vals (ix.filterMap fun i=>xs[i]?) (ix.filterMap fun i=>us[i]?)
 |[]=>.nil
 |i::ix=>by
  have ih:=vals_pick r ix;cases e:xs[i]? with
  |none=>
   rw[Sd e,Sd (r.none_of e)];exact ih
  |some d=>
   obtain⟨v,e2,rv⟩:=r.get e;rw[Se e,Se e2];exact .cons rv ih
theorem pJ(Fg:List Value)(lo hi:Option Int)(c:Int):slicePick Fg.toArray lo hi (some c)=(fH Fg lo hi c).toArray:=by
 unfold slicePick fH;simp only[P6,List.getElem?_toArray]
theorem yK(Fg:List Value)(lo hi:Option Int)(c:Int):(fH Fg lo hi c).length<=Fg.length:=by
 have:=slicePick_size_le Fg.toArray lo hi (some c);rw[pJ]at this;simpa using this
def Bt(k:D)(lo hi st:Option Int):Res R:=match k,st with
 | .lst ds,some c=>if c≠0 then .ok (.l .f,.lst (fH ds lo hi c)) else .bad
 |_,_=>.bad
def Dz(fa:FO)(lo hi st:FP):FX:=fun env=>(fa env).bind fun p=>(lo p.2).bind fun q=>(hi q.2).bind fun t=>(st t.2).bind fun u=>(Gx u.2 p.1).bind fun d=>(Bt d q.1 t.1 u.1).bind fun r=>.ok (r,u.2)
section
variable{X:Cx}{pos:Pos}{fa:FO}
inductive rSl3(K:W.Frag)(x:V)(lo:Option Int)(hi:Option Int)(st:Option Int)(H:Hp)(Q:VK):Prop
 |mk:∀G fp es vs d r,Goes K H G fp es vs r Q->Vw K G H d x->Bt d lo hi st=.ok r->rSl3 K x lo hi st H Q
theorem Bu:SlR3 X (rSl3 X.K):=by
 rintro pi s σ H x v vl vu vt lo hi st sl Q I rx hs pl pu pt ⟨G,fp,es,vs,d,r,⟨rel,k⟩,vd,e⟩;unfold Bt at e;split at e
 ·rename_i ds c;split at e
  ·rename_i hc;cases e;obtain⟨p,xs,ev,sq,rs⟩:=vd;subst ev;cases rx;obtain⟨Fg,r,ht,hz⟩:=I.list sq;have hlen:=r.length;refine⟨"list",_,slot_list_getitem.lookup,ht.isList.typeIs,?_⟩;refine Tu ht.isList hs pl pu pt (fun h=>hc (Qu h)) ?_ (by rw[P6];lia);rw[pJ];have r2:Vals (fH xs lo hi c) (fH Fg lo hi c):=by
    unfold fH;rw[hlen];exact vals_pick r _
   have rs2:Reps X.K G (fH ds lo hi c) (fH xs lo hi c):=by
    unfold fH;rw[rs.length];exact mY rs _
   have Ky:(fH xs lo hi c).length<=sizeLine:=by
    rw[r2.length];have:=yK Fg lo hi c;lia
   have hq:=I.hok.fresh (P9 s.heap.objs.size);obtain⟨Fe,Fo⟩:=rel.newL hq rs2;refine⟨.ref s.heap.objs.size,_,I.laid (t':=s.toks) (o:=.lst (fH xs lo hi c)) (fun b ob q=>Heap.get?_push_of_some _ q) (P9 _) ?_,rfl,k _ _ G _ Fo Fe⟩;exact⟨Ky,_,0,r2,Heap.get?_push_size _ rfl⟩
  ·cases e
 ·cases e
theorem Bv{e:Expr}{lo hi:Option Expr}{se:Expr}{p2:Pos}{fl fh fs:FP}(he:QO X e fa)(hl:QP X lo fl)(hh:QP X hi fh)(hs:QP X (some se) fs):QE X (.Subscript e (.Slice lo hi (some se) p2) pos) (Dz fa fl fh fs):=
 bK (sS Bu he hl hh hs) fun σ H Q Fs=>by
  obtain⟨G,env,fp,r,env',rel,e,k⟩:=Fs;obtain⟨⟨o,Fd⟩,e1,e⟩:=ai e;obtain⟨⟨i,Fl⟩,e2,e⟩:=ai e;obtain⟨⟨j,F7⟩,e3,e⟩:=ai e;obtain⟨⟨t,Ny⟩,e4,e⟩:=ai e;obtain⟨d,e5,e⟩:=ai e;obtain⟨r',e6,e⟩:=ai e;cases e;exact⟨G,env,fp,o,Fd,rel,e1,fun v H1 G1 FE Fx Fh Hc=>⟨G1,Fd,FE,i,Fl,Fh,e2,fun H2 G2 F0 Fo Fe=>⟨G2,Fl,F0,j,F7,Fe,e3,fun H3 G3 HC FQ FC=>⟨G3,F7,HC,t,Ny,FC,e4,fun H4 G4 Ni Gv FV=>
   ⟨G4,Ni,Ny,σ,d,r,⟨FV,fun v H' G' Fm st FJ=>k v H' G' Fm (Fx.trans (Fo.trans (FQ.trans (Gv.trans st)))) FJ⟩,FV.vw (((Hc.mono Fo.gg).mono FQ.gg).mono Gv.gg) e5,e6⟩⟩⟩⟩⟩
end
section
variable{X:Cx}
def yL(fa fb fc:FX):FX:=fun env=>(fa env).bind fun p=>(fb p.2).bind fun q=>(fc q.2).bind fun t=>.ok ((.t [.f,q.1.1,t.1.1],.tup [p.1.2,q.1.2,t.1.2]),t.2)
theorem yM{a b c:Expr}{fa fb fc:FX}{x1}{pos:Pos}(ha:QE X a fa)(hb:QE X b fb)(hc:QE X c fc)(h1:starEach [a,b,c] X.env=(false,eval a X.env)::starEach [b,c] X.env:=by rfl)(h2:starEach [b,c] X.env=(false,eval b X.env)::starEach [c] X.env:=by rfl)(h3:starEach [c] X.env=(false,eval c X.env)::starEach [] X.env:=by rfl):
  QE X (.Tuple [a,b,c] x1 pos) (yL fa fb fc):=
 bK (wz (eh ha (eh hb (eh hc jj h3) h2) h1)) fun σ H Q Fs=>by
  obtain⟨G,env,fp,r,env',rel,e,k⟩:=Fs;obtain⟨⟨r1,Fd⟩,e1,e⟩:=ai e;obtain⟨⟨⟨o2,d2⟩,Fl⟩,e2,e⟩:=ai e;obtain⟨⟨⟨o3,d3⟩,F7⟩,e3,e⟩:=ai e;cases e;refine⟨G,env,fp,r1,Fd,rel,e1,fun v H1 G1 FE Fx Fh=>?_⟩;obtain⟨G2,b,rv,Fe,Fo⟩:=Fh.freeze;refine⟨G2,Fd,b,(o2,d2),Fl,Fe,e2,fun v2 H3 G3 HC FQ FC=>?_⟩;obtain⟨a3,b3,ef3,ro3,Nz,bk3⟩:=FC.frame;refine⟨G3,Fl,b3,(o3,d3),F7,Nz,e3,fun v3 H4 G4 Ni Gv FV=>⟨by rw[line_eq];exact(by decide:3<=16777216),fun p hp=>?_⟩⟩;obtain⟨Il,Jk⟩:=bk3 G4 H4 _ _ Ni Gv FV;rw[<-ef3]at Jk;obtain⟨F8,GZ⟩:=Il.newF (u:=.tup [v,v2,v3]) hp;refine k _ _ _ _ (Fx.trans (Fo.trans (FQ.trans (Jk.trans GZ)))) ?_;obtain⟨y,ys,ey,v',a',b',O1,ef,q1,q2⟩:=F8.rep;cases ey;cases O1;obtain⟨y,ys,ey,v'',NA,b'',O1,ef',q3,q4⟩:=q2;cases ey;cases O1;subst ef';refine⟨⟨some (.ref p),σ,rfl,.ref p,a'++NA,b'',rfl,by rw[ef,Q5],?_,q4⟩,F8.nd,F8.gn,F8.gh⟩;show RepO X.K _ _ (.t [.f,o2,o3]) (.tup [r1.2,d2,d3]) (.ref p) (a'++NA);rw[RepO];refine⟨p,[v,v2,v3],rfl,aV,?_⟩;rw[RepT];refine⟨v,[v2,v3],[],a'++NA,rfl,rfl,gY.mpr ⟨Rep.mono (FQ.gg.trans (Jk.gg.trans GZ.gg)) rv,rfl⟩,?_⟩;rw[RepT];refine⟨v2,[v3],a',NA,rfl,rfl,q1,?_⟩;rw[RepT];refine⟨v3,[],NA,[],rfl,by rw[QR],q3,?_⟩;rw[RepT];exact⟨rfl,rfl⟩
end
section
variable{X:Cx}{scope:Scope}{N:List Str}{tg iter elt:Expr}{ifs:List Expr}{pos:Pos}{fi:FI}{a:FG}{c:FT}{f:FX}
end
end PV
namespace L2
open PySem PySem.Spec PyProof.Rows NX
section
variable{X:Cx}{tg:Expr}
end
end L2
namespace PV
open PySem PySem.Spec PyProof.Rows L2 NX
section
variable{X:Cx}{tg:Expr}
end
abbrev FB:=PV.Env->Bool
section
variable{X:Cx}{st:Stmt}{OS:List Stmt}{g:FS}{x:FB}{Ww:Hp->Prop}{c:FT}{pos np Fw:Pos}{e:Expr}{es:List Expr}{fs:FOs}{C:Addr}{y:Str}
end
abbrev FXE:=PV.Env->Option PV.Env
section
variable{md:Mode}{X:Cx}{x:Str}{p pos:Pos}{e a b:Expr}{es:List Expr}{C:Addr}{F:List D->Bool}{fs:FOs}{k:Nat}{xe:FXE}{dI:List Stmt}
end
section
variable{X:Cx}{x:Str}{p pos:Pos}{e:Expr}{es:List Expr}{fs:FOs}
end
section
variable{X:Cx}{x:Str}{p pos:Pos}{e:Expr}{es:List Expr}{f0:FX}{fs:FOs}
end
end PV
namespace NX
open PySem PySem.Spec PyProof.Rows L2
end NX
namespace PV
open PySem PySem.Spec PyProof.Rows L2 NX
section
variable{K:W.Frag}{G H:Hp}{es:PV.Env}{vs:L2.St}{fp:List Addr}
end
section
variable{md:Mode}{X:Cx}
end
section
variable{X:Cx}
end
end PV
namespace NX
open PySem PySem.Spec PyProof.Rows L2
section
variable{X:Cx}
end
end NX
namespace PV
open PySem PySem.Spec PyProof.Rows L2 NX
section
variable{X:Cx}
end
inductive BExp where
 |con (b:Bool)|var (j:Nat)|not (x:BExp)|and (x y:BExp)
section
variable{X:Cx}{a:Addr}{o:Obj}{i:Nat}{e b:Expr}{dI:List Expr}{x y:BExp}{pos p q:Pos}{n:Str}
variable{C:Addr}{vs:Array Value}
def yN(cs:List Addr):TA:=fun _ H Q=>Q (cs.map V.ref) H
theorem pr_nil:PA X [] (yN []):=kz jj fun _ _ _ h=>h
theorem pr_cons{x:Str}{c:Addr}{es:List Expr}{cs:List Addr}(hg:Gl X x)(hm:X.mg x=some (.ref c))(h:PA X es (yN cs))(HQ:(x==("__debug__" : Str))=false:=by decide)(hs:starEach (.Name x q::es) X.env=(false,eval (.Name x q) X.env)::starEach es X.env:=by rfl):PA X (.Name x q::es) (yN (c::cs)):=
 kz (eh (xt (v:=.ref c) hg hm rfl HQ) h hs) fun _ _ _ h=>h
end
section
variable{md:Mode}{X:Cx}{x:Str}{pos:Pos}{C:Addr}{xe:FXE}
end
end PV
namespace PV
open PySem PySem.Spec L2 NX
section
variable{X:Cx}
def uB(ds:List D):List D:=ds.zipIdx.map fun z=>D.tup [.int (z.2:Int),z.1]
def pK(k:Bool)(fs:FOs):FI:=fun env=>(fs env).bind fun p=>match p.1 with
 |[.val d]=>(g0 k d).bind fun a=>.ok (uB a,p.2)
 |_=>.bad
theorem sT{K:W.Frag}{G:Hp}{k:Bool}{p1:Addr}{xs:List V}{as:List D}(s1:if k then SqL K G p1 xs else SqT K G p1 xs)(r1:Reps K G as xs):Walk K G (OQ K k p1) (uB as):=by
 intro G' H' es vs fp gg rel i;have g1:=ij (gg.trans rel.gh) s1;refine⟨fun d hd=>?_,fun e=>⟨xs,g1,?_⟩⟩
 ·unfold uB at hd;rw[List.getElem?_map,List.getElem?_zipIdx]at hd;cases hz:as[i]? with
  |none=>rw[hz]at hd;cases hd
  |some z=>
   rw[hz]at hd;have hd:D.tup [.int ((0+i:Nat):Int),z]=d:=Qu hd;rw[SV]at hd;subst hd;obtain⟨x,hx,rx⟩:=r1.get hz;refine⟨⟨xs,x,g1,hx⟩,fun v H2 ⟨T,hT,ev,hh⟩=>?_⟩;have e2:=hh xs x g1 hx;subst e2;obtain⟨Fe,Fo⟩:=rel.newF (u:=.tup [.int (i:Int),x]) hT;refine⟨_,?_,Fe,Fo⟩;rw[Rep];exact⟨T,[.int (i:Int),x],ev,aV,.cons (by rw[Rep]) (.one (Rep.mono (gg.trans Fo.gg) rx))⟩
 ·unfold uB at e;rw[P5,List.length_zipIdx]at e;rw[r1.length];exact e
theorem sU(k:Bool){IH:List Expr}{kt:Nat}{pt:Pos}{e1:Expr}{fs:FOs}{p pos:Pos}(hg:Gl X "enumerate")(hm:X.mg "enumerate" = none)(ha:JN X [e1] fs)(he:starEach [e1] X.env=[(false,eval e1 X.env)]:=by rfl):
  QI X (.Tuple IH kt pt) (.Call (.Name "enumerate" p) [e1] [] pos) (pK k fs):=
 iJ (ye k hg hm ha he) fun σ H R Fs=>by
  obtain⟨G,env,fp,ds,env',rel,e,kk⟩:=Fs;obtain⟨⟨o,Fd⟩,e1,e⟩:=ai e;dsimp only at e;split at e
  ·rename_i d1;obtain⟨a,ea,e⟩:=ai e;cases e;refine⟨G,env,fp,_,_,rel,e1,fun vs H1 G1 FE Fx Fh Hc=>?_⟩;obtain⟨y,ys,ev,v1,e3⟩:=Hc;have e3:ys=[]:=e3;subst e3;obtain⟨p1,OT,OU,q1,r1⟩:=ly ea v1;subst OU;exact⟨p1,OT,ev,ij Fh.gh q1,kk _ H1 G1 FE Fx Fh (sT q1 r1)⟩
  ·cases e
def mZ(fs:FOs):FI:=Ga (pK true fs) (pK false fs)
theorem vG{IH:List Expr}{kt:Nat}{pt:Pos}{e1:Expr}{fs:FOs}{p pos:Pos}(hg:Gl X "enumerate")(hm:X.mg "enumerate" = none)(ha:JN X [e1] fs)(he:starEach [e1] X.env=[(false,eval e1 X.env)]:=by rfl):
  QI X (.Tuple IH kt pt) (.Call (.Name "enumerate" p) [e1] [] pos) (mZ fs):=qu (sU true hg hm ha he) (sU false hg hm ha he)
end
end PV
namespace PV
open PySem PySem.Spec PyProof.Rows L2 NX
section
variable{K:W.Frag}{G H:Hp}
theorem AllO.app{P:D->V->List Addr->Prop}{d:D}{v:V}{a:List Addr}(q:P d v a):∀{ds:List D}{xs:List V}{fp:List Addr},AllO P ds xs fp->AllO P (ds++[d]) (xs++[v]) (fp++a)
 |[],xs,fp,r=>by
  obtain⟨e1,e2⟩:=r;subst e1 e2;exact⟨v,[],a,[],rfl,by simp,q,rfl,rfl⟩
 |d'::ds,xs,fp,r=>by
  obtain⟨y,ys,a1,b1,e1,e2,p,r⟩:=r;subst e1 e2;exact⟨y,ys++[v],a1,b1++a,rfl,by rw[Q5],p,AllO.app q r⟩
theorem AllO.length{P:D->V->List Addr->Prop}:∀{ds:List D}{xs:List V}{fp:List Addr},AllO P ds xs fp->xs.length=ds.length
 |[],xs,fp,r=>by
  rw[r.1];rfl
 |d'::ds,xs,fp,r=>by
  obtain⟨y,ys,a1,b1,e1,e2,p,r⟩:=r;subst e1;rw[Ql,Ql,r.length]
theorem sV{p:Addr}{u:HO}(gh:Same G H)(gp:G p=none):Same G (upd H p u):=fun z o ez=>by
 have:z≠p:=fun w=>by
  subst w;rw[gp]at ez;cases ez
 rw[aD this];exact gh z o ez
theorem pL{p:Addr}{u:HO}{fp:List Addr}(hp:p∈fp):Step G H fp G (upd H p u) fp:=by
 refine⟨.refl _,fun z o ez nz=>?_,fun z hz=>.inl hz,fun z o ez=>.inl ez,fun z o ez=>?_⟩
 ·have:z≠p:=fun w=>nz (w▸hp)
  rw[aD this];exact ez
 ·by_cases w:z=p
  ·subst w;exact⟨_,aV⟩
  ·exact⟨o,by rw[aD w];exact ez⟩
theorem Rel.pushO{c:O}{acc:List D}{d v:_}{es:PV.Env}{vs:L2.St}{p:Addr}{fp:List Addr}(q:Rel K G H (some (.l c,.lst acc)::some (c,d)::es) (some (.ref p)::some v::vs) fp):
  ∃xs,H p=some (.lst xs)/\xs.length=acc.length/\Rel K G (upd H p (.lst (xs++[v]))) (some (.l c,.lst (acc++[d]))::es) (some (.ref p)::vs) fp/\Step G H fp G (upd H p (.lst (xs++[v]))) fp:=by
 obtain⟨y,ys,e,v',a,b,e1,e2,r1,r2⟩:=q.rep;cases e;cases e1;have r1:RepO K G H (.l c) (.lst acc) (.ref p) a:=r1;rw[RepO]at r1;obtain⟨p',xs,fa,ep,hp,ea,al⟩:=r1;cases ep;subst ea;obtain⟨y,ys,e,v',a2,b2,e1,e3,r3,r4⟩:=r2;cases e;cases e1;subst e3;subst e2;have nd:=Qw.mp (show(p::(fa++(a2++b2))).Nodup from q.nd);have out:∀z∈fa++(a2++b2),upd H p (.lst (xs++[v])) z=H z:=fun z hz=>aD fun e=>nd.1 (e▸hz)
 have r3:RepO K G (upd H p (.lst (xs++[v]))) c d v a2:=RepO.step (.refl _) (fun z hz=>out z (by simp[hz])) r3;have al:AllO (RepO K G (upd H p (.lst (xs++[v]))) c) acc xs fa:=AllO.imp (fun d v c hc=>RepO.step (.refl _) fun z hz=>out z (Qd _ (hc z hz))) al;refine⟨xs,hp,al.length,⟨⟨some (.ref p),vs,rfl,.ref p,p::(fa++a2),b2,rfl,by simp,?_,r4.step (.refl _) fun z hz=>out z (by simp[hz])⟩,q.nd,q.gn,sV q.gh (q.gn p (by simp))⟩,pL (by simp)⟩;show RepO K G _ (.l c) (.lst (acc++[d])) (.ref p) _;rw[RepO];exact⟨p,xs++[v],fa++a2,rfl,aV,rfl,al.app r3⟩
theorem AllO.chg:∀{ds:List D}{xs:List V}{fp:List Addr}{m:Nat}{es:List D},fp.Nodup->AllO (RepO K G H (.l .f)) ds xs fp->ds[m]?=some (.lst es)->∃l zs,xs[m]?=some (.ref l)/\l∈fp/\H l=some (.lst zs)/\Reps K G es zs/\
  ∀Ia JC,Reps K G Ia JC->AllO (RepO K G (upd H l (.lst JC)) (.l .f)) (ds.set m (.lst Ia)) xs fp
 |[],xs,fp,m,es,nd,r,e=>by rw[List.getElem?_nil]at e;cases e
 |d::ds,xs,fp,m,es,nd,r,e=>by
  obtain⟨y,ys,a,b,e1,e2,p,q⟩:=r;subst e1 e2;obtain⟨n1,n2,n3⟩:=QF.mp nd;cases m with
  |zero=>
   rw[List.getElem?_cons_zero]at e;cases e;obtain⟨l,zs,el,hl,ea,rz⟩:=gH.mp p;subst el ea;refine⟨l,zs,rfl,by simp,hl,rz,fun Ia JC NB=>?_⟩;refine⟨.ref l,ys,[l],b,rfl,rfl,gH.mpr ⟨l,JC,rfl,aV,rfl,NB⟩,AllO.imp (fun d v c hc=>RepO.step (.refl _) fun z hz=>aD fun e=>?_) q⟩;subst e;exact n3 z (by simp) z (hc z hz) rfl
  |succ m=>
   rw[List.getElem?_cons_succ]at e;obtain⟨l,zs,el,ml,hl,rz,k⟩:=AllO.chg n2 q e;refine⟨l,zs,el,P7 _ ml,hl,rz,fun Ia JC NB=>?_⟩;refine⟨y,ys,a,b,rfl,rfl,RepO.step (.refl _) (fun z hz=>aD fun e=>?_) p,k Ia JC NB⟩;subst e;exact n3 z hz z ml rfl
theorem Rel.chgAt{i m:Nat}{ds es:List D}{env:PV.Env}{vs:L2.St}{fp:List Addr}(q:Rel K G H env vs fp)(e:env[i]?=some (some (.l (.l .f),.lst ds)))(em:ds[m]?=some (.lst es)):
  ∃p xs l zs,vs[i]?=some (some (.ref p))/\H p=some (.lst xs)/\xs.length=ds.length/\xs[m]?=some (.ref l)/\H l=some (.lst zs)/\Reps K G es zs/\
   ∀Ia JC,Reps K G Ia JC->∃fq,Rel K G (upd H l (.lst JC)) (env.set i (some (.l (.l .f),.lst (ds.set m (.lst Ia))))) vs fq/\Step G H fp G (upd H l (.lst JC)) fq:=by
 obtain⟨v,fq,ev,g,st,He⟩:=q.out e;obtain⟨y,ys,e0,v',a,b,e1,e2,r1,r2⟩:=g.rep;cases e0;cases e1;have r1:RepO K G H (.l (.l .f)) (.lst ds) v a:=r1;rw[RepO]at r1;obtain⟨p,xs,fa,ep,hp,ea,al⟩:=r1;subst ep ea e2;have nd0:(p::(fa++b)).Nodup:=g.nd;have nd:=Qw.mp nd0;obtain⟨n1,n2,n3⟩:=QF.mp nd.2;obtain⟨l,zs,el,ml,hl,rz,k⟩:=AllO.chg n1 al em;refine⟨p,xs,l,zs,ev,hp,al.length,el,hl,rz,fun Ia JC NB=>?_⟩;have pl:p≠l:=fun z=>nd.1 (by rw[z];exact Qd _ ml)
 have g2:Rel K G (upd H l (.lst JC)) (some (.l (.l .f),.lst (ds.set m (.lst Ia)))::env.set i none) (some (.ref p)::vs) (p::(fa++b)):=by
  refine⟨⟨some (.ref p),vs,rfl,.ref p,p::fa,b,rfl,rfl,?_,r2.step (.refl _) fun z hz=>aD fun e=>?_⟩,g.nd,g.gn,sV g.gh (g.gn l (by simp[ml]))⟩
  ·show RepO K G _ (.l (.l .f)) (.lst (ds.set m (.lst Ia))) (.ref p) (p::fa);rw[RepO];exact⟨p,xs,fa,rfl,by rw[aD pl];exact hp,rfl,k Ia JC NB⟩
  ·subst e;exact n3 z ml z hz rfl
 have Nb:Step G H (p::(fa++b)) G (upd H l (.lst JC)) (p::(fa++b)):=pL (by simp[ml]);obtain⟨fz,g3,FQ⟩:=g2.back (i:=i) (by rw[R8];exact(List.getElem?_eq_some_iff.mp e).1) ev;rw[Tn]at g3;exact⟨fz,g3,st.trans (Nb.trans FQ)⟩
end
noncomputable def compLO(a:FG)(c:FT)(f:FX):List D->PV.Env->Res (List D)
 |[],_=>.ok []
 |d::ds,env=>(a d env).bind fun e=>(c e).bind fun p=>if p.1 then(f p.2).bind fun q=>(match q.1.1 with
  | .l .f=>(compLO a c f ds q.2).bind fun rs=>.ok (q.1.2::rs)
  |_=>.bad) else compLO a c f ds p.2
noncomputable def pM(fi:FI)(ix:List (Option Nat))(a:FG)(c:FT)(f:FX):FX:=fun env=>(fi env).bind fun p=>(compLO a c f p.1 (cj ix p.2)).bind fun ds=>if ds.length<=sizeLine then .ok ((.l (.l .f),.lst ds),if ds.all (bu (.l .f)) then p.2 else p.2.map frz) else .bad
theorem yO{K:W.Frag}{fi:FI}{ix:List (Option Nat)}{a:FG}{c:FT}{f:FX}{σ:L2.St}{H:Hp}{Q:VK}(h:tQ K (pM fi ix a c f) σ H Q):uV (tQI K fi) ix (tQG K a) (tQT K c) (tQ K f) σ H Q:=by
 obtain⟨G,env,fp,r,env',rel,e,k⟩:=h;obtain⟨⟨ds,Fd⟩,e1,e⟩:=ai e;obtain⟨rs,e2,e⟩:=ai e;refine⟨G,env,fp,ds,Fd,rel,e1,fun J H1 G1 FE Fx Fh wk D hD=>?_⟩;dsimp only at e e2;split at e
 ·rename_i hz;have er:r=(.l (.l .f),.lst rs):=by cases e;rfl
  have ee:env'=if rs.all (bu (.l .f)) then Fd else Fd.map frz:=by cases e;rfl
  subst er;obtain⟨G2,Ng,Nh,HS,hrE,IG⟩:=Fh.lend;have Fe:Rel K G2 H1 (cj ix Fd) (iI ix σ) []:=⟨d5 HS (fun i r er=>let⟨v,ev,_⟩:=Fh.view er;⟨v,ev⟩) ix,RM,(fun _ h=>nomatch h),Nh⟩
  obtain⟨FC,FQ⟩:=Fe.newL (ds:=[]) (xs:=[]) hD .nil;have FC:Rel K G2 (upd H1 D (.lst [])) (some (.l (.l .f),.lst [])::cj ix Fd) (some (.ref D)::iI ix σ) [D]:=by
   obtain⟨y,ys,e,v',a,b,e1,e2,r1,r2⟩:=FC.rep;obtain⟨p,xs,ep,hp,ea,rz⟩:=gH.mp r1;refine⟨⟨y,ys,e,v',a,b,e1,e2,?_,r2⟩,FC.nd,FC.gn,FC.gh⟩;show RepO K G2 _ (.l (.l .f)) (.lst []) v' a;rw[RepO];rw[Reps]at rz;exact⟨p,xs,[],ep,hp,ea,rz,rfl⟩
  refine⟨fun i m σ1 H2=>m=ds.length-i/\i<=ds.length/\∃G' es Fm acc dI,Step G2 H1 [] G' H2 Fm/\Rel K G' H2 (some (.l (.l .f),.lst acc)::es) (some (.ref D)::σ1) Fm/\compLO a c f (ds.drop i) es=.ok dI/\acc++dI=rs,
   ⟨_,rfl,QJ _,G2,cj ix Fd,_,[],rs,FQ,FC,e2,rfl⟩,?_⟩
  rintro i m σ1 H2 ⟨rfl,hi,G3,es,HC,acc,dI,Gv,FV,e4,HG⟩;obtain⟨w1,w2⟩:=wk G3 H2 _ _ _ (Ng.trans Gv.gg) FV i;by_cases FH:i<ds.length
  ·have hd:ds[i]?=some ds[i]:=List.getElem?_eq_getElem FH;obtain⟨go,yl⟩:=w1 _ hd;rw[Su FH]at e4;unfold compLO at e4;obtain⟨Nq,h1,e4⟩:=ai e4;obtain⟨⟨b,Kc⟩,h2,e4⟩:=ai e4;dsimp only at e4;refine .inr ⟨go,fun x H3 y=>?_⟩;obtain⟨G4,rx,F8,GZ⟩:=yl x H3 y;obtain⟨fa,fb,Nr,ra,L1,bk⟩:=F8.frame;refine⟨G4,es,fb,ds[i],Nq,L1,rx,h1,fun σ2 G5 Kd OW L3=>?_⟩;refine⟨G5,Nq,Kd,b,Kc,L3,h2,fun H6 G6 Nu OX Ke=>?_⟩;have Kf:=OW.trans OX;cases b with
   |false=>
    refine iteF ⟨ds.length-(i+1),by lia,rfl,FH,?_⟩;obtain⟨Il,Jk⟩:=bk G6 H6 Kc σ2 Nu Kf Ke;rw[<-Nr]at Jk;exact⟨G6,Kc,_,acc,dI,Gv.trans (GZ.trans Jk),Il,e4,HG⟩
   |true=>
    have e4:((f Kc).bind fun q=>(match q.1.1 with
     | .l .f=>(compLO a c f (ds.drop (i+1)) q.2).bind fun rs=>.ok (q.1.2::rs)
     |_=>.bad))=.ok dI:=e4
    obtain⟨⟨⟨ro,rd⟩,L4⟩,h3,e4⟩:=ai e4;dsimp only at e4;split at e4
    ·obtain⟨Kg,h4,e4⟩:=ai e4;cases e4;refine Av ⟨G6,Kc,Nu,_,L4,Ke,h3,fun v H7 G7 Px OY L5=>?_⟩;obtain⟨Il,Jk⟩:=bk G7 H7 (some (.l .f,rd)::L4) (some v::σ2) Px (Kf.trans OY) L5;rw[<-Nr]at Jk;obtain⟨xs,hp,lxs,L6,OZ⟩:=Il.pushO;refine⟨xs,hp,?_,ds.length-(i+1),by lia,rfl,FH,G7,L4,_,acc++[rd],Kg,Gv.trans (GZ.trans (Jk.trans OZ)),L6,h4,?_⟩
     ·rw[lxs];have:=Rg List.length HG;rw[QU,Ql]at this;lia
     ·rw[<-HG,Q5];rfl
    ·cases e4
  ·have ei:i=ds.length:=by lia
   subst ei;rw[Ua]at e4;cases e4;rw[QR]at HG;subst HG;refine .inl ⟨w2 rfl,?_⟩;obtain⟨fa,L7,O0⟩:=FV.only;obtain⟨k1,k2⟩:=IG H2 G3 fa _ _ (Gv.trans O0) L7;rw[ee]at k;by_cases hc:acc.all (bu (.l .f))=true
   ·rw[Qa hc]at k;obtain⟨G5,Kd,GZ,F8⟩:=k1 (by rw[bu];exact hc);exact k _ H2 G5 Kd (Fx.trans GZ) F8
   ·rw[Qf hc]at k;obtain⟨G5,Kd,GZ,F8⟩:=k2;exact k _ H2 G5 Kd (Fx.trans GZ) F8
 ·cases e
section
variable{md:Mode}{X:Cx}{scope:Scope}{N:List Str}{tg iter elt:Expr}{ifs:List Expr}{pos:Pos}{fi:FI}{a:FG}{c:FT}{f:FX}
theorem vH{i:Nat}{y:Str}{py Hk:Pos}(ix:List (Option Nat))(N:List Str)(hN:X.N.Nodup)(M5:X.N[i]?=some y)(hy:Loc X.env.scope y)(hc:X.calm=true)(hi:QI X tg iter fi)(hg:∀C s H fp pn,QG (bJ X scope N C s H fp pn) tg a)(ht:∀C s H fp pn,Nj (bJ X scope N C s H fp pn) ifs c)
  (he:∀C s H fp pn,QE (bJ X scope N C s H fp pn) elt f) (M6:swapsWith (.ListComp elt [⟨tg,iter,ifs,0⟩] scope pos) (some (.Name y py)) Hk.line X.env=pure true:=by rfl)
  (hf:gx scope X.env=true:=by rfl) (hk:scope.kind=.function:=by rfl) (FY:∀y∈scope.names,y.2≠.cell:=by decide +kernel) (Gk:∀y∈scope.names,y.2=.local->scope.names.lookup y.1=some .local:=by decide +kernel) (Hj:uW X scope N ix=true:=by rfl)
  (hs:∀x,foldedSetIterable iter X.env x=pure x:=by intro _;rfl) (JH:X.fn y=true\/X.env.scope.names.lookup y=some .local:=by first|exact .inl rfl|exact .inr rfl):
  QS (md:=md) X (.Assign [.Name y py] (.ListComp elt [⟨tg,iter,ifs,0⟩] scope pos) Hk) (cp i (pM fi ix a c f)):=
 e7 (rK (i:=i) (g:=tQG X.K a) (tc:=tQT X.K c) (te:=tQ X.K f) ix N hN M5 hy hc hi hg ht he M6 hf hk FY Gk Hj hs JH) fun D σ H ⟨G,env,fp,rel,k⟩=>yO (oh rel k)
noncomputable def pN(i j l:Nat):FX:=fun env=>match env[i]?,env[j]?,env[l]? with
 |some (some (.l (.l .f),.lst ds)),some (some (.f,.int n)),some (some (.f,d))=>(match ixN ds.length n with
  |some m=>(match ds[m]? with
   |some (.lst es)=>if es.length<sizeLine then .ok ((.f,.non),env.set i (some (.l (.l .f),.lst (ds.set m (.lst (es++[d])))))) else .bad
   |_=>.bad)
  |none=>.bad)
 |_,_,_=>.bad
theorem Rel.fz{K:W.Frag}{G H:Hp}{env:PV.Env}{σ:L2.St}{fp:List Addr}{i:Nat}{d:D}(q:Rel K G H env σ fp)(e:env[i]?=some (some (.f,d))):∃v,σ[i]?=some (some v)/\Rep K G d v:=by
 obtain⟨v,fq,ev,g,_⟩:=q.out e;obtain⟨y,ys,e0,v',a,b,e1,e2,r1,r2⟩:=g.rep;cases e0;cases e1;exact⟨v,ev,(gY.mp r1).1⟩
theorem vI{i j l:Nat}{o ke e:Expr}{Hk apos Fw:Pos}(ho:PE X o (qL i))(hk:PE X ke (qL j))(he:PE X e (qL l))(Hh:nV ke:=by exact fun _ _=>rfl)
  (Ge:attributeBase (.Subscript o ke Hk) "append" X.env (eval (.Subscript o ke Hk) X.env)=eval (.Subscript o ke Hk) X.env:=by rfl)
  (Hi:((backTo Fw (starEach [e] X.env)).all (fun x=>!x.1)&&(backToKw Fw (keywordEach [] X.env)).all (fun x=>x.1.isSome)&&decide ([e].length+([]:List Keyword).length+(if([]:List Keyword).isEmpty then 0 else 1)<30))=true:=by rfl)
  (Gf:(apos.endLine==Fw.line)=true:=by rfl) (hs:starEach [e] X.env=(false,eval e X.env)::starEach [] X.env:=by rfl) (FR:(backTo Fw (starEach [] X.env)).any (·.1)=false:=by rfl):
  QE X (.Call (.Attribute (.Subscript o ke Hk) "append" apos) [e] [] Fw) (pN i j l):=by
 refine bK (uR SJ TH TJ jl (Ap rB ho hk Hh) (eh he jj hs) Ge Hi Gf hs FR) fun σ H Q Fz=>?_
 obtain⟨G,env,fp,r,env',rel,e,k⟩:=Fz;unfold pN at e;split at e
 ·rename_i ds n d hi hj hl;split at e
  ·rename_i m hm;split at e
   ·rename_i es hes;split at e
    ·rename_i hz;cases e;obtain⟨p,xs,q,zs,ev,hp,lx,ex,hq,rz,kk⟩:=rel.chgAt hi hes;obtain⟨vk,evk,rk⟩:=rel.fz hj;obtain⟨vd,evd,rd⟩:=rel.fz hl;have e1:=bz rk;subst e1;obtain⟨fq,Fe,Fo⟩:=kk (es++[d]) (zs++[vd]) (rz.app (.one rd));refine⟨.ref p,ev,.int n,evk,p,xs,n,.ref q,rfl,rfl,SqL.of hp,?_,.inl ⟨rfl,zs,SqL.of hq⟩,vd,evd,q,zs,vd,rfl,rfl,hq,by rw[rz.length];exact hz,k _ _ G fq Fo (Fe.push lu)⟩;unfold Gw;rw[lx,hm];exact ex
    ·cases e
   ·cases e
  ·cases e
 ·cases e
end
end PV
namespace LW
open PySem L2 NX PV
abbrev nO(f:FX):FI:=Ga (AO f) (Ga (fm f) (fw f))
def m5:FS:=(e8 (bq AY (ag (ar (cB (mT (ag (ar (aK 0)) (ag (ar (aK 1)) az))) [none,none] (gm 2 (aB (au 0) (aB (au 1) cq))) cW (aE je (aq 0) (aq 1)))) az)))
def bU:List D->Res R:=fBody 2 0 m5
def xb:FS:=(e8 (bq cu (ag (ar (cB (mT (ag (ar (aK 0)) (ag (ar (aK 1)) az))) [none,none] (gm 2 (aB (au 0) (aB (au 1) cq))) cW (aE oi (aq 0) (aq 1)))) az)))
def jJ:List D->Res R:=fBody 2 0 xb
def jK:FS:=(e8 (aE cU (ar (aP (.int 1))) (ar (yq (cB (nO (aE FF (aq 0) (ar (aP (.int 1))))) [none,none,none] (gm 3 (aB (au 0) (aB (au 1) (aB (au 2) cq)))) cW (bq maxD (ag (aq 0) (ag (aq 2) az)))) (aP (.int 0))))))
def c8:List D->Res R:=fBody 1 0 jK
noncomputable def dO:FS:=(Ik (Dc (GL (cn IB (ar (aE FF (aq 4) (ar (aP (.int 0))))) (ar (aE FF (aq 1) (aq 3))))) (GL (cn zQ (ar (aE FF (aq 4) (ar (aP (.int 2))))) (aq 1))))
  (sSeq (gj (oj 1 (aE FF (aq 4) (ar (aP (.int 2))))))
  (gj (oj 2 (aK 4))))
  fg)
def jL:FS:=(nM (nO (aK 0)) (au 4)
  dO)
def iO:FS:=(cp 3 (aE cU (aq 3) (ar (aP (.int 1)))))
def fI:FS:=(sSeq jL
  iO)
def jM:FS:=(dm (GL (aE JW (aq 3) (ar (bq nN (ag (aq 1) az)))))
  fI 100000)
def iP:FS:=(e8 (lq 2))
def m6:FS:=(sSeq (cp 1 (kc (aF (aP (.int 0)) bG)))
  (sSeq (cp 2 (kc bG))
  (sSeq (cp 3 (aP (.int 0)))
  (sSeq jM
  iP))))
def cw:List D->Res R:=fBody 1 4 m6
def fJ:FS:=(Cz 1 (aK 4) (aE cU (ar (aE KU (aq 1) (aq 2))) (ar (jb (aF (aK 3) bG)))))
def jN:FS:=(nM (nO (c6 cw (ag (ar (aE FF (aq 0) (ar (aP (.int 1))))) az))) (gm 3 (aB (au 2) (aB (au 3) (aB (au 4) cq))))
  fJ)
def iQ:FS:=(e8 (cB (eG (ar (c6 c8 (ag (aq 0) az)))) [none,some 1] (au 0) cW (aE KU (aq 1) (aq 0))))
def m7:FS:=(sSeq (cp 1 (sP (aP (.int 0)) (jb bG)))
  (sSeq jN
  iQ))
def b0:List D->Res R:=fBody 1 4 m7
def m9:FS:=(e8 (bq cu (ag (ar (cB (Ga (gr 0) (Ga (fm (aK 0)) (fw (aK 0)))) [none,some 1] (au 0) cW (Bn zP (aq 1) (ag (aq 0) az)))) az)))
def cx:List D->Res R:=fBody 2 0 m9
def jO:FS:=(e8 (cB (nO (c6 b0 (ag (aq 0) az))) [none,some 0] (au 0) cW (c6 cx (ag (ar (aE FF (aq 1) (ar (aP (.int 0))))) (ag (aq 0) az)))))
def cC:List D->Res R:=fBody 1 0 jO
noncomputable def eQ:FS:=(Ik (GL (cn zQ (aq 4) (aq 2)))
  (gj (oj 3 (c6 jJ (ag (ar (c6 cx (ag (ar (aE FF (aq 0) (ar (aP (.int 0))))) (ag (ar (aE cU (ar (aE FF (aq 1) (ar (aE FF (aq 4) (ar (aP (.int 0))))))) (ar (jb (aF (aE FF (aq 4) (ar (aP (.int 1)))) bG))))) az)))) (ag (ar (c6 cx (ag (ar (aE FF (aq 0) (ar (aP (.int 0))))) (ag (ar (aE FF (aq 1) (ar (aE FF (aq 4) (ar (aP (.int 2))))))) az)))) az)))))
  fg)
def iR:FS:=(nM (nO (aE FF (aq 0) (ar (aP (.int 1))))) (au 4)
  eQ)
def g9:FS:=(e8 (lq 3))
def kG:FS:=(sSeq (cp 1 (c6 b0 (ag (aq 0) az)))
  (sSeq (cp 2 (c6 cw (ag (ar (aE FF (aq 0) (ar (aP (.int 1))))) az)))
  (sSeq (cp 3 (kc bG))
  (sSeq iR
  g9))))
def c9:List D->Res R:=fBody 1 4 kG
def kH:FS:=(e8 (bq zL (ag (ar (cB (nO (aE FF (aq 0) (ar (aP (.int 1))))) [none,none,none,some 1] (gm 3 (aB (au 0) (aB (au 1) (aB (au 2) cq)))) cW (cn IB (aq 1) (aq 3)))) az)))
def cI:List D->Res R:=fBody 2 0 kH
noncomputable def iS:FS:=(sSeq (Ik (GL (bq zL (ag (ar (cB (nO (c6 c9 (ag (aq 0) az))) [none,some 1] (au 0) cW (cn JP (ar (c6 bU (ag (aq 1) (ag (aq 0) az)))) (ar (aP (.int 0)))))) az)))
  (e8 (aP (.bl false)))
  fg)
  (e8 (bq AW (ag (ar (cB (mT (ag (ar (aE FF (aq 0) (ar (aP (.int 0))))) (ag (ar (aK 1)) az))) [none,none,some 0] (gm 2 (aB (au 0) (aB (au 1) cq))) cW (Nf (cn IB (aq 1) (ar (aP (.int 0)))) (c6 cI (ag (aq 2) (ag (aq 0) az)))))) az))))
def bM:List D->Res R:=fBody 2 0 iS
noncomputable def kI:FS:=(sSeq (Ik (De (GL (c6 bM (ag (aq 0) (ag (aq 1) az)))))
  wR
  fg)
  (sSeq (cp 2 (cB (nO (c6 cC (ag (aq 0) az))) [none,some 1] (au 0) cW (c6 bU (ag (aq 1) (ag (aq 0) az)))))
  (e8 (cB (Ga (gr 2) (Ga (fm (aK 2)) (fw (aK 2)))) [none,some 2] (au 0) cW (aE oi (aq 0) (ar (bq yB (ag (aq 1) az))))))))
def bL:List D->Res R:=fBody 2 1 kI
noncomputable def sW:FS:=(sSeq (cp 3 (cB (nO (aE FF (aq 0) (ar (aP (.int 1))))) [none,none,none,some 1,some 2] (gm 3 (aB (au 0) (aB (au 1) (aB (au 2) cq)))) (GL (cn IB (aq 1) (aq 4))) (aE FF (aq 3) (aq 0))))
  (e8 (yH (aK 3) (aE cU (ar (bq maxD (ag (aq 1) az))) (ar (aP (.int 1)))))))
def fK:List D->Res R:=fBody 3 1 sW
noncomputable def kJ:FS:=(sSeq (cp 2 (c6 bL (ag (aq 0) (ag (aq 1) az))))
  (sSeq (cp 3 (bq cu (ag (ar (cB (nO (aE FF (aq 0) (ar (aP (.int 0))))) [none,some 0,some 2] (au 0) cW (c6 fK (ag (aq 1) (ag (aq 2) (ag (aq 0) az)))))) az)))
  (e8 (jb (aF (aE FF (aq 2) (ar (aP (.int 0)))) (aF (aK 3) (aF (bq cu (ag (ar (cB (mT (ag (ar (aK 3)) (ag (ar (aK 1)) az))) [none,none] (gm 2 (aB (au 0) (aB (au 1) cq))) cW (aE cU (aq 0) (aq 1)))) az)) bG)))))))
def cJ:List D->Res R:=fBody 2 2 kJ
def gA:FS:=(sSeq (Ik (GL (aE JW (aq 1) (ar (bq nN (ag (aq 0) az)))))
  (e8 (aE FF (aq 0) (aq 1)))
  fg)
  (e8 (aP (.int 0))))
def aJ:List D->Res R:=fBody 2 0 gA
noncomputable def iT:FS:=(sSeq (cp 2 (aE cU (ar (aE iK (aq 0) (ar (aP (.int 2147483647))))) (ar (aE je (ar (aP (.int 48271))) (ar (aE cU (aq 1) (ar (aP (.int 1)))))))))
  (sSeq (cp 2 (aE iK (ar (aE cU (ar (aE je (aq 2) (aq 2))) (ar (aE je (ar (aP (.int 69621))) (aq 1))))) (ar (aP (.int 2147483647)))))
  (e8 (aE iK (ar (aE cU (ar (aE cU (ar (aE je (aq 2) (aq 2))) (ar (aE je (ar (aP (.int 16807))) (aq 1))))) (ar (aP (.int 1))))) (ar (aP (.int 2147483647)))))))
def aT:List D->Res R:=fBody 2 1 iT
noncomputable def cS:FS:=(sSeq (cp 7 (yA (aq 2) qp (jw (aK 3))))
  (sSeq (vD 7 (aK 4) (aE iK (ar (aE cU (ar (aE FF (aq 7) (aq 4))) (aq 6))) (ar (aP (.int 26)))))
  (sSeq (Ik (GL (cn IB (ar (aE iK (ar (aE gq (aq 0) (ar (aP (.int 64))))) (ar (aP (.int 4))))) (ar (aP (.int 1)))))
  (cp 7 (yA (aq 2) qp (jw (aE cU (aq 6) (ar (aP (.int 1)))))))
  fg)
  (gj (oj 5 (Ds sQ (ar (aP (.str []))) (ag (ar (cB (Ga (gr 7) (Ga (fm (aK 7)) (fw (aK 7)))) [none,some 1] (au 0) cW (aE FF (aq 1) (aq 0)))) az)))))))
def gB:FS:=(nM (eG (ar (aP (.int 5)))) (au 6)
  cS)
def fL:FS:=(sSeq (Ik (GL (cn L8 (ar (aP (.str [109,111,118,101,115]))) (aq 5)))
  (cp 5 (cB (Ga (gr 5) (Ga (fm (aK 5)) (fw (aK 5)))) [none] (au 0) cW (aE cU (ar (aP (.str [115]))) (aq 0))))
  fg)
  (e8 (bq fG (ag (aq 5) az))))
noncomputable def iU:FS:=(sSeq (cp 1 (aP (.str [97,98,99,100,101,102,103,104,105,106,107,108,109,110,111,112,113,114,115,116,117,118,119,120,121,122])))
  (sSeq (cp 2 (cB (eG (ar (aP (.int 8)))) [none,some 0] (au 0) cW (aE iK (ar (c6 aT (ag (aq 1) (ag (aq 0) az)))) (ar (aP (.int 26))))))
  (sSeq (cp 3 (aE cU (ar (aP (.int 1))) (ar (aE iK (aq 0) (ar (aP (.int 8)))))))
  (sSeq (cp 4 (aE iK (ar (aE gq (aq 0) (ar (aP (.int 8))))) (aq 3)))
  (sSeq (cp 5 (kc bG))
  (sSeq gB
  fL))))))
def cK:List D->Res R:=fBody 1 7 iU
noncomputable def cy:FS:=(sSeq (Ik (GL (aE JW (aq 5) (ar (aE FF (ar (aE FF (aq 6) (ar (aP (.int 1))))) (aq 3)))))
  (e8 (aP .non))
  fg)
  (gj (oj 4 (aE cU (ar (aE oi (aq 5) (ar (aE FF (ar (aE FF (aq 6) (ar (aP (.int 1))))) (aq 3))))) (ar (aE FF (ar (aE FF (aq 6) (ar (aP (.int 2))))) (aq 3)))))))
def eR:FS:=(nM (mT (ag (ar (aK 1)) (ag (ar (aE FF (aq 0) (ar (aP (.int 1))))) az))) (gm 2 (aB (au 5) (aB (au 6) cq)))
  cy)
def gC:FS:=(e8 (bq cu (ag (aq 4) az)))
def jP:FS:=(sSeq (cp 3 (Bn qx (ar (aE FF (aq 0) (ar (aP (.int 0))))) (ag (aq 2) az)))
  (sSeq (cp 4 (kc bG))
  (sSeq eR
  gC)))
def cD:List D->Res R:=fBody 3 4 jP
noncomputable def bP:FS:=(sSeq (cp 6 (c6 cD (ag (aq 0) (ag (ar (aE FF (aq 2) (aq 4))) (ag (aq 5) az)))))
  (Ik (GL (cn isnO (aq 6) (ar (aP .non))))
  (sSeq (Ik (GL (cn zQ (aq 6) (aq 2)))
  (sSeq (Ik (GL (cn IB (ar (bq nN (ag (aq 2) az))) (aq 1)))
  (e8 (aP .non))
  fg)
  (gj (oj 2 (aK 6))))
  fg)
  (gj (oj 3 (jb (aF (aK 4) (aF (aK 5) (aF (Dy oz (aq 2) (ag (aq 6) az)) bG)))))))
  fg))
def fM:FS:=(nM (nO (aE FF (aq 0) (ar (aP (.int 0))))) (au 5)
  bP)
def hJ:FS:=(cp 4 (aE cU (aq 4) (ar (aP (.int 1)))))
def b7:FS:=(sSeq fM
  hJ)
def dh:FS:=(dm (GL (aE JW (aq 4) (ar (bq nN (ag (aq 2) az)))))
  b7 100000)
def eS:FS:=(e8 (jb (aF (bq fG (ag (aq 3) az)) (aF (aK 2) bG))))
noncomputable def kK:FS:=(sSeq (cp 2 (kc (aF (bq cu (ag (ar (cB (nO (aE FF (aq 0) (ar (aP (.int 1))))) [none,none,none] (gm 3 (aB (au 0) (aB (au 1) (aB (au 2) cq)))) cW (aK 0))) az)) bG)))
  (sSeq (cp 3 (kc bG))
  (sSeq (cp 4 (aP (.int 0)))
  (sSeq dh
  eS))))
def aS:List D->Res R:=fBody 2 5 kK
def dW:FS:=(cp 3 (c6 aT (ag (ar (aE cU (aq 4) (aq 3))) (ag (aq 2) az))))
def hU:FS:=(nM (nO (Dz (aq 0) (jw (aE cU (aq 1) (aq 2))) (jw (aE cU (aq 1) (ar (aP (.int 84))))) (jw (aP (.int 6))))) (au 4)
  dW)
def gD:FS:=(e8 (lq 3))
def jQ:FS:=(sSeq (cp 3 (aE cU (ar (aP (.int 7))) (aq 2)))
  (sSeq hU
  gD))
def de:List D->Res R:=fBody 3 2 jQ
noncomputable def dF:FS:=(sSeq (cp 5 (c6 aT (ag (aq 0) (ag (aq 4) az))))
  (sSeq (cp 6 (aE oi (ar (aE iK (aq 5) (ar (aP (.int 5))))) (ar (aP (.int 2)))))
  (sSeq (cp 7 (aE gq (ar (aE iK (ar (aE gq (aq 5) (ar (aP (.int 8))))) (ar (aP (.int 4))))) (ar (aP (.int 3)))))
  (sSeq (gj (oj 2 (aE cU (ar (bq maxD (ag (ar (aP (.int 0))) (ag (ar (aE oi (ar (aP (.int 0))) (aq 6))) az)))) (aq 7))))
  (gj (oj 3 (aE cU (ar (bq maxD (ag (ar (aP (.int 0))) (ag (aq 6) az)))) (aq 7))))))))
def gE:FS:=(nM (eG (aq 1)) (au 4)
  dF)
def fN:FS:=(e8 (yL (aE iK (ar (aE gq (aq 0) (ar (aP (.int 16))))) (ar (aP (.int 4)))) (lq 2) (lq 3)))
def iV:FS:=(sSeq (cp 2 (kc bG))
  (sSeq (cp 3 (kc bG))
  (sSeq gE
  fN)))
def cM:List D->Res R:=fBody 2 6 iV
noncomputable def hV:FS:=(sSeq (cp 2 (aE cU (ar (aP (.int 1))) (ar (aE iK (aq 1) (ar (aE zJ (ar (aP (.int 10))) (ar (aP (.int 50)))))))))
  (sSeq (Bg (aK 0) (gm 3 (aB (au 3) (aB (au 4) (aB (au 5) cq)))))
  (sSeq (cp 4 (bq cu (ag (ar (cB (Ga (gr 4) (Ga (fm (aK 4)) (fw (aK 4)))) [none,some 2] (au 0) cW (aE je (aq 1) (aq 0)))) az)))
  (e8 (jb (aF (aE cU (ar (aE je (aq 2) (aq 3))) (ar (aE iK (ar (aE gq (aq 1) (ar (aP (.int 7))))) (aq 2)))) (aF (aK 4) (aF (bq cu (ag (ar (cB (Ga (gr 5) (Ga (fm (aK 5)) (fw (aK 5)))) [none,some 2] (au 0) cW (aE je (aq 1) (aq 0)))) az)) bG))))))))
def bQ:List D->Res R:=fBody 2 4 hV
noncomputable def cz:FS:=(sSeq (cp 5 (c6 de (ag (aq 0) (ag (aq 1) (ag (aq 4) az)))))
  (sSeq (cp 6 (c6 cM (ag (aq 5) (ag (aq 2) az))))
  (sSeq (gj (oj 3 (c6 bQ (ag (aq 6) (ag (ar (c6 aJ (ag (aq 0) (ag (ar (aE cU (aq 1) (aq 4))) az)))) az)))))
  (Ik (GL (aE Oc (ar (aE iK (ar (aE gq (aq 5) (ar (aP (.int 64))))) (ar (aP (.int 3))))) (ar (aP (.int 0)))))
  (sSeq (cp 7 (jb (aF (aE iK (ar (aE gq (aq 5) (ar (aP (.int 256))))) (ar (aP (.int 4)))) (aF (aE FF (ar (aK 6)) (ar (aP (.int 2)))) (aF (aE FF (ar (aK 6)) (ar (aP (.int 1)))) bG)))))
  (gj (oj 3 (c6 bQ (ag (aq 7) (ag (ar (c6 aJ (ag (aq 0) (ag (ar (aE cU (ar (aE cU (aq 1) (ar (aP (.int 6))))) (aq 4))) az)))) az))))))
  fg))))
def fP:FS:=(nM (eG (ar (aE cU (ar (aP (.int 1))) (ar (aE iK (ar (aE gq (ar (c6 aJ (ag (aq 0) (ag (ar (aP (.int 1))) az)))) (ar (aP (.int 4))))) (ar (aP (.int 4)))))))) (au 4)
  cz)
def e9:FS:=(e8 (lq 3))
def hW:FS:=(sSeq (cp 3 (kc bG))
  (sSeq fP
  e9))
def b8:List D->Res R:=fBody 3 5 hW
noncomputable def iW:FS:=(sSeq (cp 1 (c6 cK (ag (ar (c6 aJ (ag (aq 0) (ag (ar (aP (.int 0))) az)))) az)))
  (sSeq (cp 2 (c6 aJ (ag (aq 0) (ag (ar (aP (.int 1))) az))))
  (sSeq (cp 3 (aE cU (ar (aP (.int 1))) (ar (aE iK (aq 2) (ar (aP (.int 3)))))))
  (sSeq (cp 4 (aE iK (ar (aE gq (aq 2) (ar (aP (.int 32))))) (ar (aE oi (ar (aP (.int 6))) (aq 3)))))
  (e8 (bq cu (ag (ar (yA (aq 1) (jw (aK 4)) (jw (aE cU (aq 4) (aq 3))))) az)))))))
def cN:List D->Res R:=fBody 1 4 iW
noncomputable def kM:FS:=(sSeq (cp 2 (c6 cN (ag (aq 0) az)))
  (sSeq (cp 3 (bq nN (ag (aq 2) az)))
  (sSeq (cp 4 (c6 b8 (ag (aq 0) (ag (aq 1) (ag (aq 3) az)))))
  (sSeq (Ik (GL (cn isnO (ar (c6 aS (ag (ar (jb (aF (aK 2) (aF (aK 4) bG)))) (ag (ar (aP (.int 8))) az)))) (ar (aP .non))))
  (e8 (jb (aF (aK 2) (aF (aK 4) bG))))
  fg)
  (sSeq (cp 5 (bq cu (ag (ar (cB (Ga (gr 2) (Ga (fm (aK 2)) (fw (aK 2)))) [none] (au 0) cW (aP (.int 1)))) az)))
  (sSeq (cp 6 (bq cu (ag (ar (cB (Ga (gr 2) (Ga (fm (aK 2)) (fw (aK 2)))) [none] (au 0) cW (aP (.int 0)))) az)))
  (sSeq (Ik (GL (cn isnO (ar (c6 aS (ag (ar (jb (aF (aK 2) (aF (aE cU (aq 4) (ar (kc (aF (jb (aF (aP (.int 2)) (aF (aK 5) (aF (aK 6) bG)))) bG)))) bG)))) (ag (ar (aP (.int 8))) az)))) (ar (aP .non))))
  (e8 (jb (aF (aK 2) (aF (aE cU (aq 4) (ar (kc (aF (jb (aF (aP (.int 2)) (aF (aK 5) (aF (aK 6) bG)))) bG)))) bG))))
  fg)
  (e8 (jb (aF (aK 2) (aF (aE cU (aq 4) (ar (kc (aF (jb (aF (aP (.int 1)) (aF (aK 5) (aF (aK 6) bG)))) bG)))) bG)))))))))))
def df:List D->Res R:=fBody 2 5 kM
noncomputable def eU:FS:=(sSeq (cp 14 (c6 aS (ag (ar (jb (aF (aE FF (aq 1) (ar (aP (.int 0)))) (aF (aK 13) bG)))) (ag (ar (aP (.int 12))) az))))
  (Ik (OR (GL (cn MK (aq 14) (ar (aP .non)))) (GL (cn JP (ar (aE FF (aq 14) (ar (aP (.int 0))))) (aq 2))))
  (e8 (aP (.bl false)))
  fg))
noncomputable def sX:FS:=(nM (nO (kc (aF (aE cU (aq 6) (ar (kc (aF (aE FF (ar (aE FF (aq 1) (ar (aP (.int 1))))) (aq 10)) bG)))) (aF (aE cU (ar (aE cU (ar (yA (aq 6) qp (jw (aK 10)))) (ar (kc (aF (aE FF (ar (aE FF (aq 1) (ar (aP (.int 1))))) (aq 10)) bG))))) (ar (yA (aq 6) (jw (aE cU (aq 10) (ar (aP (.int 1))))) qp))) bG)))) (au 13)
  eU)
def eV:FS:=sX
def sY:FS:=(nM (eG (ar (bq nN (ag (aq 6) az)))) (au 10)
  eV)
def pO:FS:=(e8 (aP (.bl true)))
def hX:FS:=(gj (pN 7 10 11))
def sZ:FS:=(nM (mZ (ag (ar (c6 bL (ag (aq 4) (ag (aq 9) az)))) az)) (gm 2 (aB (au 10) (aB (au 11) cq)))
  hX)
noncomputable def dP:FS:=(sSeq (cp 9 (bq cu (ag (ar (cB (eG (ar (bq nN (ag (ar (aE FF (aq 1) (ar (aP (.int 0))))) az)))) [none,some 8,some 1,some 5] (au 0) cW (aE je (ar (aE oi (ar (aE FF (ar (aE FF (aq 1) (ar (aP (.int 2))))) (aq 0))) (ar (aE FF (ar (aE FF (aq 1) (ar (aP (.int 1))))) (aq 0))))) (ar (bq zM (ag (ar (cn L8 (ar (aE FF (ar (aE FF (aq 2) (ar (aP (.int 0))))) (aq 0))) (aq 3))) az)))))) az)))
  (sSeq (gj (oj 6 (c6 cJ (ag (aq 4) (ag (aq 9) az)))))
  sZ))
def oB:FS:=(nM (nO (aE FF (aq 1) (ar (aP (.int 1))))) (au 8)
  dP)
noncomputable def lH:FS:=(sSeq (cp 12 (cB (Ga (gr 7) (Ga (fm (aK 7)) (fw (aK 7)))) [none] (au 0) cW (bq cu (ag (aq 0) az))))
  (sSeq (Ik (GL (cn JP (ar (c6 aS (ag (ar (jb (aF (aE FF (aq 1) (ar (aP (.int 0)))) (aF (aK 6) bG)))) (ag (ar (aP (.int 12))) az)))) (ar (jb (aF (aK 2) (aF (aK 12) bG))))))
  (e8 (aP (.bl false)))
  fg)
  (sSeq sY
  pO)))
noncomputable def Bw:FS:=(sSeq (cp 1 (c6 df (ag (aq 0) (ag (ar (aP (.int 2))) az))))
  (sSeq (Bg (c6 aS (ag (aq 1) (ag (ar (aP (.int 8))) az))) (gm 2 (aB (au 2) (aB (au 3) cq))))
  (sSeq (cp 4 (jb (aF (aE FF (aq 1) (ar (aP (.int 0)))) (aF (aK 2) bG))))
  (sSeq (cp 5 (cB (Ga (gr 2) (Ga (fm (aK 2)) (fw (aK 2)))) [none,none,none] (gm 3 (aB (au 0) (aB (au 1) (aB (au 2) cq)))) cW (aK 1)))
  (sSeq (cp 6 (kc bG))
  (sSeq (cp 7 (pM (nO (aK 3)) [none] (au 0) cW (kc bG)))
  (sSeq oB
  lH)))))))
def m_law:List D->Res R:=fBody 1 14 Bw
end LW
namespace LW
open PySem PySem.Spec PyProof.Rows L2 NX PV
theorem yP{α:Type}{Q:List α->Prop}(h:∀a,Q [a]):∀us,us.length=1->Q us
 |[a],_=>h a
theorem qy{α:Type}{Q:List α->Prop}(h:∀a b,Q [a,b]):∀us,us.length=2->Q us
 |[a,b],_=>h a b
theorem CA{α:Type}{Q:List α->Prop}(h:∀a b c,Q [a,b,c]):∀us,us.length=3->Q us
 |[a,b,c],_=>h a b c
theorem dn{X:Cx}{tg e:Expr}{f:FX}(h:QE X e f):QI X tg e (Ga (AO f) (Ga (fm f) (fw f))):=qu (yh h) (qu (fD h) (fE h))
def top(i:Nat):Stmt:=PySem.Challenge.pw_netfinder_k55_whole_nets_of_stretches.main.body.getD i (.Pass ⟨0,0,0,0⟩)
theorem EZ:Str.ofString "moves" = S [109,111,118,101,115]:=by decide +kernel
theorem E1:Str.ofString "s" = S [115]:=by decide +kernel
theorem E2:Str.ofString "" = S []:=by decide +kernel
theorem E3:Str.ofString "abcdefghijklmnopqrstuvwxyz" = S [97,98,99,100,101,102,103,104,105,106,107,108,109,110,111,112,113,114,115,116,117,118,119,120,121,122]:=by decide +kernel
section
variable{P:Program}{w:World}{K:W.Frag}{mg:Str->Option Value}{base:Heap}
abbrev jR:Stmt:=top 4
theorem qz:FnScope ["one","other"] ["one","other"] (defScope jR):=fs
theorem qA(Df:Def K mg "product" jR)(IJ:mg "sum" = none)(Gg:mg "zip" = none):Ct P w K mg base "product" 1 (spF K bU):=
 dt Df qz (fun _ _ _ _ _ _=>qy fun _ _=>rfl) fun f FK A outer s H E hr=>
  (aA (br (bA (AZ rfl) (by rfl) IJ Bi (af (aa (a8 [none,none] ["number","factor"] rfl (bc (jH (by rfl) Gg (af (aa (av (pv 0))) (af (aa (av (pv 1))) ao)))) (fun _ _ _ _ _=>(have h:=(show List.Nodup (["number","factor"]:List Str) from by decide +kernel);(dM rfl (aG (ax (i:=0) h rfl (lo rfl)) (aG (ax (i:=1) h rfl (lo rfl)) cR))))) (fun _ _ _ _ _=>bj) (fun _ _ _ _ _=>(aH dU (ae (pv 0)) (ae (pv 1)))))) ao))))
abbrev tf:Stmt:=top 5
theorem yQ:FnScope ["row","other"] ["row","other"] (defScope tf):=fs
theorem yR(Df:Def K mg "less" tf)(Fp:mg "tuple" = none)(Gg:mg "zip" = none):Ct P w K mg base "less" 1 (spF K jJ):=
 dt Df yQ (fun _ _ _ _ _ _=>qy fun _ _=>rfl) fun f FK A outer s H E hr=>
  (aA (br (bF b6 (by rfl) Fp b5 (af (aa (a8 [none,none] ["number","taken"] rfl (bc (jH (by rfl) Gg (af (aa (av (pv 0))) (af (aa (av (pv 1))) ao)))) (fun _ _ _ _ _=>(have h:=(show List.Nodup (["number","taken"]:List Str) from by decide +kernel);(dM rfl (aG (ax (i:=0) h rfl (lo rfl)) (aG (ax (i:=1) h rfl (lo rfl)) cR))))) (fun _ _ _ _ _=>bj) (fun _ _ _ _ _=>(aH jv (ae (pv 0)) (ae (pv 1)))))) ao))))
abbrev gL:Stmt:=top 7
theorem ng:FnScope ["chart"] ["chart"] (defScope gL):=fs
theorem nh(Df:Def K mg "states_of" gL)(Gy:mg "max" = none):Ct P w K mg base "states_of" 1 (spF K c8):=
 dt Df ng (fun _ _ _ _ _ _=>yP fun _=>rfl) fun f FK A outer s H E hr=>
  (aA (br (aH aO (aa aj) (aa (yr rfl (by rfl) Gy (a8 [none,none,none] ["first","move","second"] rfl (bc (dn (a7 (ae (pv 0)) (aa aj)))) (fun _ _ _ _ _=>(have h:=(show List.Nodup (["first","move","second"]:List Str) from by decide +kernel);(dM rfl (aG (ax (i:=0) h rfl (lo rfl)) (aG (ax (i:=1) h rfl (lo rfl)) (aG (ax (i:=2) h rfl (lo rfl)) cR)))))) (fun _ _ _ _ _=>bj) (fun _ _ _ _ _=>(bA (pD rfl) (by rfl) Gy pG (af (ae (pv 0)) (af (ae (pv 2)) ao))))) aj)))))
abbrev jS:Stmt:=top 8
theorem dv:FnScope ["arcs","met","tree","looked_at","arc"] ["arcs"] (defScope jS):=fs
theorem qB(Df:Def K mg "tree_of" jS)(F4:mg "len" = none):Ct P w K mg base "tree_of" 1 (spF K cw):=
 dt Df dv (fun _ _ _ _ _ _=>yP fun _=>rfl) fun f FK A outer s H E hr=>
  (ah (aI (i:=1) dv.nd rfl (lo rfl) (cY (aw aj aN)))
  (ah (aI (i:=2) dv.nd rfl (lo rfl) (cY aN))
  (ah (aI (i:=3) dv.nd rfl (lo rfl) aj)
  (ah (pk 100000 QX (mI (pE hr.units0) (ae (pv 3)) (aa (bA gK (by rfl) F4 bt_len (af (ae (pv 1)) ao))) (cV _))
  (ah (d4 QX rfl (dn (av (pv 0))) (ax (i:=4) dv.nd rfl (lo rfl))
  (aA (gk (QW.qt (AL (cO (qr hr.units) (aa (a7 (ae (pv 4)) (aa aj))) (aa (a7 (ae (pv 1)) (ae (pv 3)))) (cV _)) (yg (cO (oy hr.u65) (aa (a7 (ae (pv 4)) (aa aj))) (ae (pv 1)) (by with_unfolding_all rfl)))))
  (ah (c7 (bS (pv 1) (a7 (ae (pv 4)) (aa aj))))
  (aA (c7 (bS (pv 2) (av (pv 4))))))
  cb)))
  (aA (aI (i:=3) dv.nd rfl (lo rfl) (aH aO (ae (pv 3)) (aa aj))))))
  (aA (br (ig (pv 2))))))))
abbrev jT:Stmt:=top 10
theorem d9:FnScope ["chart","ways","first","move","second"] ["chart"] (defScope jT):=fs
theorem qC(Df:Def K mg "ways_of" jT)(IK:Ct P w K mg base "states_of" 1 (spF K c8))(Ho:Ct P w K mg base "tree_of" 1 (spF K cw))(FD:mg "range" = none):Ct P w K mg base "ways_of" 2 (spF K b0):=
 dt Df d9 (fun _ _ _ _ _ _=>yP fun _=>rfl) fun f FK A outer s H E hr=>
  (ah (aI (i:=1) d9.nd rfl (lo rfl) (vE aj (cG aN)))
  (ah (d4 QX rfl (dn (aR Ho hr.m (by rfl) (af (aa (a7 (ae (pv 0)) (aa aj))) ao))) (dM rfl (aG (ax (i:=2) d9.nd rfl (lo rfl)) (aG (ax (i:=3) d9.nd rfl (lo rfl)) (aG (ax (i:=4) d9.nd rfl (lo rfl)) cR))))
  (aA (Bc (hu_of hr) (pv 1) (av (pv 4)) (aH aO (aa (Bo (hu_of hr) (ae (pv 1)) (ae (pv 2)))) (aa (cG (aw (av (pv 3)) aN)))))))
  (aA (br (a8 [none,some 1] ["state","ways"] rfl (bc (dD (by rfl) FD (aa (aR IK hr.m (by rfl) (af (ae (pv 0)) ao))))) (fun _ _ _ _ _=>(ax (i:=0) (show List.Nodup (["state","ways"]:List Str) from by decide +kernel) rfl (lo rfl))) (fun _ _ _ _ _=>bj) (fun _ _ _ _ _=>(Bo (hu_of hr) (ae (pv 1)) (ae (pv 0)))))))))
abbrev jU:Stmt:=top 11
theorem qD:FnScope ["moves","way"] ["moves","way"] (defScope jU):=fs
theorem qE(Df:Def K mg "counted" jU)(Fp:mg "tuple" = none):Ct P w K mg base "counted" 1 (spF K cx):=
 dt Df qD (fun _ _ _ _ _ _=>qy fun _ _=>rfl) fun f FK A outer s H E hr=>
  (aA (br (bF b6 (by rfl) Fp b5 (af (aa (a8 [none,some 1] ["move","way"] rfl (cH (dS (pv 0)) (cH (bc (fD (av (pv 0)))) (bc (fE (av (pv 0)))))) (fun _ _ _ _ _=>(ax (i:=0) (show List.Nodup (["move","way"]:List Str) from by decide +kernel) rfl (lo rfl))) (fun _ _ _ _ _=>bj) (fun _ _ _ _ _=>(w6 TK PySem.F.type_tuple_count ot (ae (pv 1)) (af (ae (pv 0)) ao))))) ao))))
abbrev gM:Stmt:=top 12
theorem ni:FnScope ["chart"] ["chart"] (defScope gM):=fs
theorem nj(Df:Def K mg "counts_of" gM)(GI:Ct P w K mg base "counted" 1 (spF K cx))(Hq:Ct P w K mg base "ways_of" 2 (spF K b0)):Ct P w K mg base "counts_of" 3 (spF K cC):=
 dt Df ni (fun _ _ _ _ _ _=>yP fun _=>rfl) fun f FK A outer s H E hr=>
  (aA (br (a8 [none,some 0] ["way","chart"] rfl (bc (dn (aR Hq hr.m (by rfl) (af (ae (pv 0)) ao)))) (fun _ _ _ _ _=>(ax (i:=0) (show List.Nodup (["way","chart"]:List Str) from by decide +kernel) rfl (lo rfl))) (fun _ _ _ _ _=>bj) (fun _ _ _ _ _=>(aR GI hr.m (by rfl) (af (aa (a7 (ae (pv 1)) (aa aj))) (af (ae (pv 0)) ao)))))))
abbrev iu:Stmt:=top 13
theorem dG:FnScope ["chart","ways","tree","rings","arc"] ["chart"] (defScope iu):=fs
theorem oC(Df:Def K mg "rings_of" iu)(GI:Ct P w K mg base "counted" 1 (spF K cx))(L9:Ct P w K mg base "less" 1 (spF K jJ))(Ho:Ct P w K mg base "tree_of" 1 (spF K cw))(Hq:Ct P w K mg base "ways_of" 2 (spF K b0)):Ct P w K mg base "rings_of" 3 (spF K c9):=
 dt Df dG (fun _ _ _ _ _ _=>yP fun _=>rfl) fun f FK A outer s H E hr=>
  (ah (aI (i:=1) dG.nd rfl (lo rfl) (aR Hq hr.m (by rfl) (af (ae (pv 0)) ao)))
  (ah (aI (i:=2) dG.nd rfl (lo rfl) (aR Ho hr.m (by rfl) (af (aa (a7 (ae (pv 0)) (aa aj))) ao)))
  (ah (aI (i:=3) dG.nd rfl (lo rfl) (cY aN))
  (ah (d4 QX rfl (dn (a7 (ae (pv 0)) (aa aj))) (ax (i:=4) dG.nd rfl (lo rfl))
  (aA (gk (cO (oy hr.u65) (ae (pv 4)) (ae (pv 2)) (by with_unfolding_all rfl))
  (aA (c7 (bS (pv 3) (aR L9 hr.m (by rfl) (af (aa (aR GI hr.m (by rfl) (af (aa (a7 (ae (pv 0)) (aa aj))) (af (aa (aH aO (aa (a7 (ae (pv 1)) (aa (a7 (ae (pv 4)) (aa aj))))) (aa (cG (aw (a7 (ae (pv 4)) (aa aj)) aN))))) ao)))) (af (aa (aR GI hr.m (by rfl) (af (aa (a7 (ae (pv 0)) (aa aj))) (af (aa (a7 (ae (pv 1)) (aa (a7 (ae (pv 4)) (aa aj))))) ao)))) ao))))))
  cb)))
  (aA (br (ig (pv 3))))))))
abbrev iw:Stmt:=top 15
theorem oD:FnScope ["chart","move"] ["chart","move"] (defScope iw):=fs
theorem oE(Df:Def K mg "has_arcs" iw)(HI:mg "any" = none):Ct P w K mg base "has_arcs" 1 (spF K cI):=
 dt Df oD (fun _ _ _ _ _ _=>qy fun _ _=>rfl) fun f FK A outer s H E hr=>
  (aA (br (bA (wW rfl) (by rfl) HI w4 (af (aa (a8 [none,none,none,some 1] ["first","by","second","move"] rfl (bc (dn (a7 (ae (pv 0)) (aa aj)))) (fun _ _ _ _ _=>(have h:=(show List.Nodup (["first","by","second","move"]:List Str) from by decide +kernel);(dM rfl (aG (ax (i:=0) h rfl (lo rfl)) (aG (ax (i:=1) h rfl (lo rfl)) (aG (ax (i:=2) h rfl (lo rfl)) cR)))))) (fun _ _ _ _ _=>bj) (fun _ _ _ _ _=>(lr (qr hr.units) (ae (pv 1)) (ae (pv 3)) (cV _))))) ao))))
abbrev fQ:Stmt:=top 16
theorem lI:FnScope ["chart","row"] ["chart","row"] (defScope fQ):=fs
theorem lJ(Df:Def K mg "is_stretch" fQ)(Jl:Ct P w K mg base "has_arcs" 1 (spF K cI))(Hr:Ct P w K mg base "product" 1 (spF K bU))(Jm:Ct P w K mg base "rings_of" 3 (spF K c9))(IL:mg "all" = none)(HI:mg "any" = none)(Gg:mg "zip" = none):Ct P w K mg base "is_stretch" 4 (spF K bM):=
 dt Df lI (fun _ _ _ _ _ _=>qy fun _ _=>rfl) fun f FK A outer s H E hr=>
  (ah (gk (wQ (bA (wW rfl) (by rfl) HI w4 (af (aa (a8 [none,some 1] ["ring","row"] rfl (bc (dn (aR Jm hr.m (by rfl) (af (ae (pv 0)) ao)))) (fun _ _ _ _ _=>(ax (i:=0) (show List.Nodup (["ring","row"]:List Str) from by decide +kernel) rfl (lo rfl))) (fun _ _ _ _ _=>bj) (fun _ _ _ _ _=>(lr (yp hr.units) (aa (aR Hr hr.m (by rfl) (af (ae (pv 1)) (af (ae (pv 0)) ao)))) (aa aj) (cV _))))) ao)))
  (aA (br vq))
  cb)
  (aA (br (bA (AX rfl) (by rfl) IL Bj (af (aa (a8 [none,none,some 0] ["move","number","chart"] rfl (bc (jH (by rfl) Gg (af (aa (a7 (ae (pv 0)) (aa aj))) (af (aa (av (pv 1))) ao)))) (fun _ _ _ _ _=>(have h:=(show List.Nodup (["move","number","chart"]:List Str) from by decide +kernel);(dM rfl (aG (ax (i:=0) h rfl (lo rfl)) (aG (ax (i:=1) h rfl (lo rfl)) cR))))) (fun _ _ _ _ _=>bj) (fun _ _ _ _ _=>(Di (lr (qr hr.units) (ae (pv 1)) (aa aj) (cV _)) (AN (aR Jl hr.m (by rfl) (af (ae (pv 2)) (af (ae (pv 0)) ao)))))))) ao)))))
abbrev iy:Stmt:=top 17
theorem jV:FnScope ["chart","row","heights"] ["chart","row"] (defScope iy):=fs
theorem oF(Df:Def K mg "beads_of" iy)(IM:Ct P w K mg base "counts_of" 3 (spF K cC))(Im:Ct P w K mg base "is_stretch" 4 (spF K bM))(Hr:Ct P w K mg base "product" 1 (spF K bU))(HJ:mg "min" = none):Ct P w K mg base "beads_of" 5 (spF K bL):=
 dt Df jV (fun _ _ _ _ _ _=>qy fun _ _=>rfl) fun f FK A outer s H E hr=>
  (ah (gk (AM (wQ (aR Im hr.m (by rfl) (af (ae (pv 0)) (af (ae (pv 1)) ao)))))
  (aA vy)
  cb)
  (ah (aI (i:=2) jV.nd rfl (lo rfl) (a8 [none,some 1] ["counts","row"] rfl (bc (dn (aR IM hr.m (by rfl) (af (ae (pv 0)) ao)))) (fun _ _ _ _ _=>(ax (i:=0) (show List.Nodup (["counts","row"]:List Str) from by decide +kernel) rfl (lo rfl))) (fun _ _ _ _ _=>bj) (fun _ _ _ _ _=>(aR Hr hr.m (by rfl) (af (ae (pv 1)) (af (ae (pv 0)) ao))))))
  (aA (br (a8 [none,some 2] ["height","heights"] rfl (cH (dS (pv 2)) (cH (bc (fD (av (pv 2)))) (bc (fE (av (pv 2)))))) (fun _ _ _ _ _=>(ax (i:=0) (show List.Nodup (["height","heights"]:List Str) from by decide +kernel) rfl (lo rfl))) (fun _ _ _ _ _=>bj) (fun _ _ _ _ _=>(aH jv (ae (pv 0)) (aa (bA (Bl rfl) (by rfl) HJ Bh (af (ae (pv 1)) ao))))))))))
abbrev oG:Stmt:=top 18
theorem pP:FnScope ["chart","beads","move","having"] ["chart","beads","move"] (defScope oG):=fs
theorem vJ(Df:Def K mg "taken" oG)(Gy:mg "max" = none)(HJ:mg "min" = none):Ct P w K mg base "taken" 1 (spF K fK):=
 dt Df pP (fun _ _ _ _ _ _=>CA fun _ _ _=>rfl) fun f FK A outer s H E hr=>
  (ah (jd (i:=3) [none,none,none,some 1,some 2] ["first","by","second","beads","move"] pP.nd rfl (lo rfl) rfl (bc (dn (a7 (ae (pv 0)) (aa aj)))) (fun _ _ _ _ _=>(have h:=(show List.Nodup (["first","by","second","beads","move"]:List Str) from by decide +kernel);(dM rfl (aG (ax (i:=0) h rfl (lo rfl)) (aG (ax (i:=1) h rfl (lo rfl)) (aG (ax (i:=2) h rfl (lo rfl)) cR)))))) (fun _ _ _ _ _=>(yi (cO (qr hr.units) (ae (pv 1)) (ae (pv 4)) (cV _)))) (fun _ _ _ _ _=>(a7 (ae (pv 3)) (ae (pv 0)))))
  (aA (br (yI rfl (by rfl) HJ (av (pv 3)) (aH aO (aa (bA (pD rfl) (by rfl) Gy pG (af (ae (pv 1)) ao))) (aa aj))))))
abbrev iz:Stmt:=top 19
theorem gN:FnScope ["chart","row","beads","takes"] ["chart","row"] (defScope iz):=fs
theorem oH(Df:Def K mg "place_of" iz)(GR:Ct P w K mg base "beads_of" 5 (spF K bL))(KW:Ct P w K mg base "taken" 1 (spF K fK))(Fp:mg "tuple" = none)(Gg:mg "zip" = none):Ct P w K mg base "place_of" 6 (spF K cJ):=
 dt Df gN (fun _ _ _ _ _ _=>qy fun _ _=>rfl) fun f FK A outer s H E hr=>
  (ah (aI (i:=2) gN.nd rfl (lo rfl) (aR GR hr.m (by rfl) (af (ae (pv 0)) (af (ae (pv 1)) ao))))
  (ah (aI (i:=3) gN.nd rfl (lo rfl) (bF b6 (by rfl) Fp b5 (af (aa (a8 [none,some 0,some 2] ["move","chart","beads"] rfl (bc (dn (a7 (ae (pv 0)) (aa aj)))) (fun _ _ _ _ _=>(ax (i:=0) (show List.Nodup (["move","chart","beads"]:List Str) from by decide +kernel) rfl (lo rfl))) (fun _ _ _ _ _=>bj) (fun _ _ _ _ _=>(aR KW hr.m (by rfl) (af (ae (pv 1)) (af (ae (pv 2)) (af (ae (pv 0)) ao))))))) ao)))
  (aA (br (cG (aw (a7 (ae (pv 2)) (aa aj)) (aw (av (pv 3)) (aw (bF b6 (by rfl) Fp b5 (af (aa (a8 [none,none] ["number","more"] rfl (bc (jH (by rfl) Gg (af (aa (av (pv 3))) (af (aa (av (pv 1))) ao)))) (fun _ _ _ _ _=>(have h:=(show List.Nodup (["number","more"]:List Str) from by decide +kernel);(dM rfl (aG (ax (i:=0) h rfl (lo rfl)) (aG (ax (i:=1) h rfl (lo rfl)) cR))))) (fun _ _ _ _ _=>bj) (fun _ _ _ _ _=>(aH aO (ae (pv 0)) (ae (pv 1)))))) ao)) aN))))))))
abbrev dX:Stmt:=top 21
theorem jW:FnScope ["_law_script","_law_k"] ["_law_script","_law_k"] (defScope dX):=fs
theorem jX(Df:Def K mg "_law_cell_at" dX)(F4:mg "len" = none):Ct P w K mg base "_law_cell_at" 1 (spF K aJ):=
 dt Df jW (fun _ _ _ _ _ _=>qy fun _ _=>rfl) fun f FK A outer s H E hr=>
  (ah (gk (mI (pE hr.units0) (ae (pv 1)) (aa (bA gK (by rfl) F4 bt_len (af (ae (pv 0)) ao))) (cV _))
  (aA (br (a7 (ae (pv 0)) (ae (pv 1)))))
  cb)
  (aA (br aj)))
abbrev fR:Stmt:=top 22
theorem eW:FnScope ["_law_cell","_law_k","_law_number"] ["_law_cell","_law_k"] (defScope fR):=fs
theorem lK(Df:Def K mg "_law_mixed" fR):Ct P w K mg base "_law_mixed" 1 (spF K aT):=
 dt Df eW (fun _ _ _ _ _ _=>qy fun _ _=>rfl) fun f FK A outer s H E hr=>
  (ah (aI (i:=2) eW.nd rfl (lo rfl) (aH aO (aa (aH cX (ae (pv 0)) (aa aj))) (aa (aH dU (aa aj) (aa (aH aO (ae (pv 1)) (aa aj)))))))
  (ah (aI (i:=2) eW.nd rfl (lo rfl) (aH cX (aa (aH aO (aa (aH dU (ae (pv 2)) (ae (pv 2)))) (aa (aH dU (aa aj) (ae (pv 1)))))) (aa aj)))
  (aA (br (aH cX (aa (aH aO (aa (aH aO (aa (aH dU (ae (pv 2)) (ae (pv 2)))) (aa (aH dU (aa aj) (ae (pv 1)))))) (aa aj))) (aa aj))))))
abbrev fS:Stmt:=top 23
theorem a9:FnScope ["_law_cell","_law_letters","_law_base","_law_width","_law_spot","_law_names_here","_law_k","_law_moved_on"] ["_law_cell"] (defScope fS):=fs
theorem lM(Df:Def K mg "_law_names" fS)(FN:Ct P w K mg base "_law_mixed" 1 (spF K aT))(FD:mg "range" = none)(F5:mg "sorted" = none):Ct P w K mg base "_law_names" 2 (spF K cK):=
 dt Df a9 (fun _ _ _ _ _ _=>yP fun _=>rfl) fun f FK A outer s H E hr=>
  (ah (aI (i:=1) a9.nd rfl (lo rfl) (pj E3 (by decide)))
  (ah (jd (i:=2) [none,some 0] ["_law_j","_law_cell"] a9.nd rfl (lo rfl) rfl (bc (dD (by rfl) FD (aa aj))) (fun _ _ _ _ _=>(ax (i:=0) (show List.Nodup (["_law_j","_law_cell"]:List Str) from by decide +kernel) rfl (lo rfl))) (fun _ _ _ _ _=>bj) (fun _ _ _ _ _=>(aH cX (aa (aR FN hr.m (by rfl) (af (ae (pv 1)) (af (ae (pv 0)) ao)))) (aa aj))))
  (ah (aI (i:=3) a9.nd rfl (lo rfl) (aH aO (aa aj) (aa (aH cX (ae (pv 0)) (aa aj)))))
  (ah (aI (i:=4) a9.nd rfl (lo rfl) (aH cX (aa (aH dR (ae (pv 0)) (aa aj))) (ae (pv 3))))
  (ah (aI (i:=5) a9.nd rfl (lo rfl) (cY aN))
  (ah (d4 QX rfl (dD (by rfl) FD (aa aj)) (ax (i:=6) a9.nd rfl (lo rfl))
  (ah (aI (i:=7) a9.nd rfl (lo rfl) (mS (ae (pv 2)) lB (eI (av (pv 3)))))
  (ah (yE (pv 7) (av (pv 4)) (aH cX (aa (aH aO (aa (a7 (ae (pv 7)) (ae (pv 4)))) (ae (pv 6)))) (aa aj)))
  (ah (gk (cO (qr hr.units) (aa (aH cX (aa (aH dR (ae (pv 0)) (aa aj))) (aa aj))) (aa aj) (cV _))
  (aA (aI (i:=7) a9.nd rfl (lo rfl) (mS (ae (pv 2)) lB (eI (aH aO (ae (pv 6)) (aa aj))))))
  cb)
  (aA (c7 (bS (pv 5) (Be PySem.F.slot_str_join PySem.F.type_str_join yF (aa (pj E2 (by decide))) (af (aa (a8 [none,some 1] ["_law_j","_law_letters"] rfl (cH (dS (pv 7)) (cH (bc (fD (av (pv 7)))) (bc (fE (av (pv 7)))))) (fun _ _ _ _ _=>(ax (i:=0) (show List.Nodup (["_law_j","_law_letters"]:List Str) from by decide +kernel) rfl (lo rfl))) (fun _ _ _ _ _=>bj) (fun _ _ _ _ _=>(a7 (ae (pv 1)) (ae (pv 0)))))) ao)))))))))
  (ah (gk (cO (xa hr.u65) (aa (pj EZ (by decide))) (ae (pv 5)) (by with_unfolding_all rfl))
  (aA (jd (i:=5) [none] ["_law_name"] a9.nd rfl (lo rfl) rfl (cH (dS (pv 5)) (cH (bc (fD (av (pv 5)))) (bc (fE (av (pv 5)))))) (fun _ _ _ _ _=>(ax (i:=0) (show List.Nodup (["_law_name"]:List Str) from by decide +kernel) rfl (lo rfl))) (fun _ _ _ _ _=>bj) (fun _ _ _ _ _=>(aH aO (aa (pj E1 (by decide))) (ae (pv 0))))))
  cb)
  (aA (br (bA (mO rfl) (by rfl) F5 mQ (af (ae (pv 5)) ao)))))))))))
abbrev gO:Stmt:=top 24
theorem di:FnScope ["_law_net_here","_law_marking","_law_move","_law_k","_law_after","_law_beads","_law_place_here"] ["_law_net_here","_law_marking","_law_move"] (defScope gO):=fs
theorem nq(Df:Def K mg "_law_step" gO)(Fp:mg "tuple" = none)(Gg:mg "zip" = none):Ct P w K mg base "_law_step" 1 (spF K cD):=
 dt Df di (fun _ _ _ _ _ _=>CA fun _ _ _=>rfl) fun f FK A outer s H E hr=>
  (ah (aI (i:=3) di.nd rfl (lo rfl) (w6 TL PySem.F.type_tuple_index ou (aa (a7 (ae (pv 0)) (aa aj))) (af (ae (pv 2)) ao)))
  (ah (aI (i:=4) di.nd rfl (lo rfl) (cY aN))
  (ah (d4 QX rfl (jH (by rfl) Gg (af (aa (av (pv 1))) (af (aa (a7 (ae (pv 0)) (aa aj))) ao))) (dM rfl (aG (ax (i:=5) di.nd rfl (lo rfl)) (aG (ax (i:=6) di.nd rfl (lo rfl)) cR)))
  (ah (gk (mI (pE hr.units0) (ae (pv 5)) (aa (a7 (aa (a7 (ae (pv 6)) (aa aj))) (ae (pv 3)))) (cV _))
  (aA (br kA))
  cb)
  (aA (c7 (bS (pv 4) (aH aO (aa (aH jv (ae (pv 5)) (aa (a7 (aa (a7 (ae (pv 6)) (aa aj))) (ae (pv 3)))))) (aa (a7 (aa (a7 (ae (pv 6)) (aa aj))) (ae (pv 3))))))))))
  (aA (br (bF b6 (by rfl) Fp b5 (af (ae (pv 4)) ao)))))))
abbrev iA:Stmt:=top 25
theorem cE:FnScope ["_law_net_here","_law_most","_law_markings","_law_arcs","_law_done","_law_move","_law_after"] ["_law_net_here","_law_most"] (defScope iA):=fs
theorem oI(Df:Def K mg "_law_run" iA)(IP:Ct P w K mg base "_law_step" 1 (spF K cD))(F4:mg "len" = none)(F5:mg "sorted" = none)(Fp:mg "tuple" = none):Ct P w K mg base "_law_run" 2 (spF K aS):=
 dt Df cE (fun _ _ _ _ _ _=>qy fun _ _=>rfl) fun f FK A outer s H E hr=>
  (ah (aI (i:=2) cE.nd rfl (lo rfl) (cY (aw (bF b6 (by rfl) Fp b5 (af (aa (a8 [none,none,none] ["_law_beads","_law_takes","_law_gives"] rfl (bc (dn (a7 (ae (pv 0)) (aa aj)))) (fun _ _ _ _ _=>(have h:=(show List.Nodup (["_law_beads","_law_takes","_law_gives"]:List Str) from by decide +kernel);(dM rfl (aG (ax (i:=0) h rfl (lo rfl)) (aG (ax (i:=1) h rfl (lo rfl)) (aG (ax (i:=2) h rfl (lo rfl)) cR)))))) (fun _ _ _ _ _=>bj) (fun _ _ _ _ _=>(av (pv 0))))) ao)) aN)))
  (ah (aI (i:=3) cE.nd rfl (lo rfl) (cY aN))
  (ah (aI (i:=4) cE.nd rfl (lo rfl) aj)
  (ah (pk 100000 QX (mI (pE hr.units0) (ae (pv 4)) (aa (bA gK (by rfl) F4 bt_len (af (ae (pv 2)) ao))) (cV _))
  (ah (d4 QX rfl (dn (a7 (ae (pv 0)) (aa aj))) (ax (i:=5) cE.nd rfl (lo rfl))
  (ah (aI (i:=6) cE.nd rfl (lo rfl) (aR IP hr.m (by rfl) (af (ae (pv 0)) (af (aa (a7 (ae (pv 2)) (ae (pv 4)))) (af (ae (pv 5)) ao)))))
  (aA (gk (cO sv (ae (pv 6)) (aa kA) (cV _))
  (ah (gk (cO (oy hr.u65) (ae (pv 6)) (ae (pv 2)) (by with_unfolding_all rfl))
  (ah (gk (cO (qr hr.units) (aa (bA gK (by rfl) F4 bt_len (af (ae (pv 2)) ao))) (ae (pv 1)) (cV _))
  (aA (br kA))
  cb)
  (aA (c7 (bS (pv 2) (av (pv 6))))))
  cb)
  (aA (c7 (bS (pv 3) (cG (aw (av (pv 4)) (aw (av (pv 5)) (aw (Bs T3 PySem.F.type_list_index (oA hr.u65) (ae (pv 2)) (af (ae (pv 6)) ao)) aN))))))))
  cb))))
  (aA (aI (i:=4) cE.nd rfl (lo rfl) (aH aO (ae (pv 4)) (aa aj))))))
  (aA (br (cG (aw (bA (mO rfl) (by rfl) F5 mQ (af (ae (pv 3)) ao)) (aw (av (pv 2)) aN)))))))))
abbrev gP:Stmt:=top 26
theorem dQ:FnScope ["_law_script","_law_first","_law_k","_law_number","_law_cell"] ["_law_script","_law_first","_law_k"] (defScope gP):=fs
theorem nr(Df:Def K mg "_law_fold" gP)(FN:Ct P w K mg base "_law_mixed" 1 (spF K aT)):Ct P w K mg base "_law_fold" 2 (spF K de):=
 dt Df dQ (fun _ _ _ _ _ _=>CA fun _ _ _=>rfl) fun f FK A outer s H E hr=>
  (ah (aI (i:=3) dQ.nd rfl (lo rfl) (aH aO (aa aj) (ae (pv 2))))
  (ah (d4 QX rfl (dn (Bv (ae (pv 0)) (eI (aH aO (ae (pv 1)) (ae (pv 2)))) (eI (aH aO (ae (pv 1)) (aa aj))) (eI aj))) (ax (i:=4) dQ.nd rfl (lo rfl))
  (aA (aI (i:=3) dQ.nd rfl (lo rfl) (aR FN hr.m (by rfl) (af (aa (aH aO (ae (pv 4)) (ae (pv 3)))) (af (ae (pv 2)) ao))))))
  (aA (br (ig (pv 3))))))
abbrev fT:Stmt:=top 27
theorem bR:FnScope ["_law_number","_law_count","_law_takes","_law_gives","_law_j","_law_mixed_here","_law_step_here","_law_loop"] ["_law_number","_law_count"] (defScope fT):=fs
theorem lN(Df:Def K mg "_law_place" fT)(FN:Ct P w K mg base "_law_mixed" 1 (spF K aT))(Gy:mg "max" = none)(FD:mg "range" = none):Ct P w K mg base "_law_place" 2 (spF K cM):=
 dt Df bR (fun _ _ _ _ _ _=>qy fun _ _=>rfl) fun f FK A outer s H E hr=>
  (ah (aI (i:=2) bR.nd rfl (lo rfl) (cY aN))
  (ah (aI (i:=3) bR.nd rfl (lo rfl) (cY aN))
  (ah (d4 QX rfl (dD (by rfl) FD (ae (pv 1))) (ax (i:=4) bR.nd rfl (lo rfl))
  (ah (aI (i:=5) bR.nd rfl (lo rfl) (aR FN hr.m (by rfl) (af (ae (pv 0)) (af (ae (pv 4)) ao))))
  (ah (aI (i:=6) bR.nd rfl (lo rfl) (aH jv (aa (aH cX (ae (pv 5)) (aa aj))) (aa aj)))
  (ah (aI (i:=7) bR.nd rfl (lo rfl) (aH dR (aa (aH cX (aa (aH dR (ae (pv 5)) (aa aj))) (aa aj))) (aa aj)))
  (ah (c7 (bS (pv 2) (aH aO (aa (bA (pD rfl) (by rfl) Gy pG (af (aa aj) (af (aa (aH jv (aa aj) (ae (pv 6)))) ao)))) (ae (pv 7)))))
  (aA (c7 (bS (pv 3) (aH aO (aa (bA (pD rfl) (by rfl) Gy pG (af (aa aj) (af (ae (pv 6)) ao)))) (ae (pv 7)))))))))))
  (aA (br (yM (aH cX (aa (aH dR (ae (pv 0)) (aa aj))) (aa aj)) (ig (pv 2)) (ig (pv 3))))))))
abbrev eX:Stmt:=top 28
theorem bV:FnScope ["_law_place_here","_law_cell","_law_factor","_law_beads","_law_takes","_law_gives"] ["_law_place_here","_law_cell"] (defScope eX):=fs
theorem kn(Df:Def K mg "_law_scaled" eX)(Fp:mg "tuple" = none):Ct P w K mg base "_law_scaled" 1 (spF K bQ):=
 dt Df bV (fun _ _ _ _ _ _=>qy fun _ _=>rfl) fun f FK A outer s H E hr=>
  (ah (aI (i:=2) bV.nd rfl (lo rfl) (aH aO (aa aj) (aa (aH cX (ae (pv 1)) (aa (aH AS (aa aj) (aa aj)))))))
  (ah (wZ (av (pv 0)) (dM rfl (aG (ax (i:=3) bV.nd rfl (lo rfl)) (aG (ax (i:=4) bV.nd rfl (lo rfl)) (aG (ax (i:=5) bV.nd rfl (lo rfl)) cR)))))
  (ah (aI (i:=4) bV.nd rfl (lo rfl) (bF b6 (by rfl) Fp b5 (af (aa (a8 [none,some 2] ["_law_take","_law_factor"] rfl (cH (dS (pv 4)) (cH (bc (fD (av (pv 4)))) (bc (fE (av (pv 4)))))) (fun _ _ _ _ _=>(ax (i:=0) (show List.Nodup (["_law_take","_law_factor"]:List Str) from by decide +kernel) rfl (lo rfl))) (fun _ _ _ _ _=>bj) (fun _ _ _ _ _=>(aH dU (ae (pv 1)) (ae (pv 0)))))) ao)))
  (aA (br (cG (aw (aH aO (aa (aH dU (ae (pv 2)) (ae (pv 3)))) (aa (aH cX (aa (aH dR (ae (pv 1)) (aa aj))) (ae (pv 2))))) (aw (av (pv 4)) (aw (bF b6 (by rfl) Fp b5 (af (aa (a8 [none,some 2] ["_law_give","_law_factor"] rfl (cH (dS (pv 5)) (cH (bc (fD (av (pv 5)))) (bc (fE (av (pv 5)))))) (fun _ _ _ _ _=>(ax (i:=0) (show List.Nodup (["_law_give","_law_factor"]:List Str) from by decide +kernel) rfl (lo rfl))) (fun _ _ _ _ _=>bj) (fun _ _ _ _ _=>(aH dU (ae (pv 1)) (ae (pv 0)))))) ao)) aN)))))))))
abbrev eY:Stmt:=top 29
theorem bW:FnScope ["_law_script","_law_first","_law_count","_law_places_here","_law_k","_law_number","_law_place_here","_law_mate"] ["_law_script","_law_first","_law_count"] (defScope eY):=fs
theorem ko(Df:Def K mg "_law_places" eY)(FA:Ct P w K mg base "_law_cell_at" 1 (spF K aJ))(IQ:Ct P w K mg base "_law_fold" 2 (spF K de))(Io:Ct P w K mg base "_law_place" 2 (spF K cM))(GO:Ct P w K mg base "_law_scaled" 1 (spF K bQ))(FD:mg "range" = none):Ct P w K mg base "_law_places" 3 (spF K b8):=
 dt Df bW (fun _ _ _ _ _ _=>CA fun _ _ _=>rfl) fun f FK A outer s H E hr=>
  (ah (aI (i:=3) bW.nd rfl (lo rfl) (cY aN))
  (ah (d4 QX rfl (dD (by rfl) FD (aa (aH aO (aa aj) (aa (aH cX (aa (aH dR (aa (aR FA hr.m (by rfl) (af (ae (pv 0)) (af (aa aj) ao)))) (aa aj))) (aa aj)))))) (ax (i:=4) bW.nd rfl (lo rfl))
  (ah (aI (i:=5) bW.nd rfl (lo rfl) (aR IQ hr.m (by rfl) (af (ae (pv 0)) (af (ae (pv 1)) (af (ae (pv 4)) ao)))))
  (ah (aI (i:=6) bW.nd rfl (lo rfl) (aR Io hr.m (by rfl) (af (ae (pv 5)) (af (ae (pv 2)) ao))))
  (ah (c7 (bS (pv 3) (aR GO hr.m (by rfl) (af (ae (pv 6)) (af (aa (aR FA hr.m (by rfl) (af (ae (pv 0)) (af (aa (aH aO (ae (pv 1)) (ae (pv 4)))) ao)))) ao)))))
  (aA (gk (mI Dm (aa (aH cX (aa (aH dR (ae (pv 5)) (aa aj))) (aa aj))) (aa aj) (cV _))
  (ah (aI (i:=7) bW.nd rfl (lo rfl) (cG (aw (aH cX (aa (aH dR (ae (pv 5)) (aa aj))) (aa aj)) (aw (a7 (aa (av (pv 6))) (aa aj)) (aw (a7 (aa (av (pv 6))) (aa aj)) aN)))))
  (aA (c7 (bS (pv 3) (aR GO hr.m (by rfl) (af (ae (pv 7)) (af (aa (aR FA hr.m (by rfl) (af (ae (pv 0)) (af (aa (aH aO (aa (aH aO (ae (pv 1)) (aa aj))) (ae (pv 4)))) ao)))) ao)))))))
  cb))))))
  (aA (br (ig (pv 3))))))
abbrev fU:Stmt:=top 30
theorem cT:FnScope ["_law_script","_law_names_here","_law_cell","_law_count","_law_start"] ["_law_script"] (defScope fU):=fs
theorem lO(Df:Def K mg "_law_moves" fU)(FA:Ct P w K mg base "_law_cell_at" 1 (spF K aJ))(Ip:Ct P w K mg base "_law_names" 2 (spF K cK))(Fp:mg "tuple" = none):Ct P w K mg base "_law_moves" 3 (spF K cN):=
 dt Df cT (fun _ _ _ _ _ _=>yP fun _=>rfl) fun f FK A outer s H E hr=>
  (ah (aI (i:=1) cT.nd rfl (lo rfl) (aR Ip hr.m (by rfl) (af (aa (aR FA hr.m (by rfl) (af (ae (pv 0)) (af (aa aj) ao)))) ao)))
  (ah (aI (i:=2) cT.nd rfl (lo rfl) (aR FA hr.m (by rfl) (af (ae (pv 0)) (af (aa aj) ao))))
  (ah (aI (i:=3) cT.nd rfl (lo rfl) (aH aO (aa aj) (aa (aH cX (ae (pv 2)) (aa aj)))))
  (ah (aI (i:=4) cT.nd rfl (lo rfl) (aH cX (aa (aH dR (ae (pv 2)) (aa aj))) (aa (aH jv (aa aj) (ae (pv 3))))))
  (aA (br (bF b6 (by rfl) Fp b5 (af (aa (mS (ae (pv 1)) (eI (av (pv 4))) (eI (aH aO (ae (pv 4)) (ae (pv 3)))))) ao))))))))
abbrev iC:Stmt:=top 31
theorem dg:FnScope ["_law_script","_law_first","_law_moves_here","_law_count","_law_places_here","_law_ones","_law_noughts"] ["_law_script","_law_first"] (defScope iC):=fs
theorem oJ(Df:Def K mg "_law_net" iC)(Iq:Ct P w K mg base "_law_moves" 3 (spF K cN))(HU:Ct P w K mg base "_law_places" 3 (spF K b8))(FW:Ct P w K mg base "_law_run" 2 (spF K aS))(F4:mg "len" = none)(Fp:mg "tuple" = none):Ct P w K mg base "_law_net" 4 (spF K df):=
 dt Df dg (fun _ _ _ _ _ _=>qy fun _ _=>rfl) fun f FK A outer s H E hr=>
  (ah (aI (i:=2) dg.nd rfl (lo rfl) (aR Iq hr.m (by rfl) (af (ae (pv 0)) ao)))
  (ah (aI (i:=3) dg.nd rfl (lo rfl) (bA gK (by rfl) F4 bt_len (af (ae (pv 2)) ao)))
  (ah (aI (i:=4) dg.nd rfl (lo rfl) (aR HU hr.m (by rfl) (af (ae (pv 0)) (af (ae (pv 1)) (af (ae (pv 3)) ao)))))
  (ah (gk (cO sv (aa (aR FW hr.m (by rfl) (af (aa (cG (aw (av (pv 2)) (aw (av (pv 4)) aN)))) (af (aa aj) ao)))) (aa kA) (cV _))
  (aA (br (cG (aw (av (pv 2)) (aw (av (pv 4)) aN)))))
  cb)
  (ah (aI (i:=5) dg.nd rfl (lo rfl) (bF b6 (by rfl) Fp b5 (af (aa (a8 [none] ["_law_move"] rfl (cH (dS (pv 2)) (cH (bc (fD (av (pv 2)))) (bc (fE (av (pv 2)))))) (fun _ _ _ _ _=>(ax (i:=0) (show List.Nodup (["_law_move"]:List Str) from by decide +kernel) rfl (lo rfl))) (fun _ _ _ _ _=>bj) (fun _ _ _ _ _=>aj))) ao)))
  (ah (aI (i:=6) dg.nd rfl (lo rfl) (bF b6 (by rfl) Fp b5 (af (aa (a8 [none] ["_law_move"] rfl (cH (dS (pv 2)) (cH (bc (fD (av (pv 2)))) (bc (fE (av (pv 2)))))) (fun _ _ _ _ _=>(ax (i:=0) (show List.Nodup (["_law_move"]:List Str) from by decide +kernel) rfl (lo rfl))) (fun _ _ _ _ _=>bj) (fun _ _ _ _ _=>aj))) ao)))
  (ah (gk (cO sv (aa (aR FW hr.m (by rfl) (af (aa (cG (aw (av (pv 2)) (aw (aH aO (ae (pv 4)) (aa (cY (aw (cG (aw aj (aw (av (pv 5)) (aw (av (pv 6)) aN)))) aN)))) aN)))) (af (aa aj) ao)))) (aa kA) (cV _))
  (aA (br (cG (aw (av (pv 2)) (aw (aH aO (ae (pv 4)) (aa (cY (aw (cG (aw aj (aw (av (pv 5)) (aw (av (pv 6)) aN)))) aN)))) aN)))))
  cb)
  (aA (br (cG (aw (av (pv 2)) (aw (aH aO (ae (pv 4)) (aa (cY (aw (cG (aw aj (aw (av (pv 5)) (aw (av (pv 6)) aN)))) aN)))) aN))))))))))))
abbrev lP:Stmt:=top 32
theorem dq:FnScope ["_law_script","_law_net_here","_law_arcs","_law_markings","_law_chart","_law_used","_law_places_here","_law_table","_law_old","_law_row","_law_k","_law_beads","_law_due","_law_some","_law_there"] ["_law_script"] (defScope lP):=fs
theorem Bx{f:Addr}{fd:FuncData}(F:Fun K "law" "law" lP f fd)(Jn:Ct P w K mg base "_law_net" 4 (spF K df))(FW:Ct P w K mg base "_law_run" 2 (spF K aS))(GR:Ct P w K mg base "beads_of" 5 (spF K bL))(Jo:Ct P w K mg base "place_of" 6 (spF K cJ))(FZ:mg "enumerate" = none)(IS:mg "int" = none)(F4:mg "len" = none)(FD:mg "range" = none)(Fp:mg "tuple" = none):FnOk P w K mg base J4 7 f fd ["_law_script"] (spF K m_law):=
 fnok_of F dq fun FK A outer s H E hr=>
  (ah (aI (i:=1) dq.nd rfl (lo rfl) (aR Jn hr.m (by rfl) (af (ae (pv 0)) (af (aa aj) ao))))
  (ah (wZ (aR FW hr.m (by rfl) (af (ae (pv 1)) (af (aa aj) ao))) (dM rfl (aG (ax (i:=2) dq.nd rfl (lo rfl)) (aG (ax (i:=3) dq.nd rfl (lo rfl)) cR))))
  (ah (aI (i:=4) dq.nd rfl (lo rfl) (cG (aw (a7 (ae (pv 1)) (aa aj)) (aw (av (pv 2)) aN))))
  (ah (aI (i:=5) dq.nd rfl (lo rfl) (a8 [none,none,none] ["_law_one","_law_move","_law_other"] rfl (cH (dS (pv 2)) (cH (bc (fD (av (pv 2)))) (bc (fE (av (pv 2)))))) (fun _ _ _ _ _=>(have h:=(show List.Nodup (["_law_one","_law_move","_law_other"]:List Str) from by decide +kernel);(dM rfl (aG (ax (i:=0) h rfl (lo rfl)) (aG (ax (i:=1) h rfl (lo rfl)) (aG (ax (i:=2) h rfl (lo rfl)) cR)))))) (fun _ _ _ _ _=>bj) (fun _ _ _ _ _=>(av (pv 1)))))
  (ah (aI (i:=6) dq.nd rfl (lo rfl) (cY aN))
  (ah (vH (i:=7) [none] ["_law_marking"] dq.nd rfl (lo rfl) rfl (dn (av (pv 3))) (fun _ _ _ _ _=>(ax (i:=0) (show List.Nodup (["_law_marking"]:List Str) from by decide +kernel) rfl (lo rfl))) (fun _ _ _ _ _=>bj) (fun _ _ _ _ _=>(cY aN)))
  (ah (d4 QX rfl (dn (a7 (ae (pv 1)) (aa aj))) (ax (i:=8) dq.nd rfl (lo rfl))
  (ah (aI (i:=9) dq.nd rfl (lo rfl) (bF b6 (by rfl) Fp b5 (af (aa (a8 [none,some 8,some 1,some 5] ["_law_k","_law_old","_law_net_here","_law_used"] rfl (bc (dD (by rfl) FD (aa (bA gK (by rfl) F4 bt_len (af (aa (a7 (ae (pv 1)) (aa aj))) ao))))) (fun _ _ _ _ _=>(ax (i:=0) (show List.Nodup (["_law_k","_law_old","_law_net_here","_law_used"]:List Str) from by decide +kernel) rfl (lo rfl))) (fun _ _ _ _ _=>bj) (fun _ _ _ _ _=>(aH dU (aa (aH jv (aa (a7 (aa (a7 (ae (pv 1)) (aa aj))) (ae (pv 0)))) (aa (a7 (aa (a7 (ae (pv 1)) (aa aj))) (ae (pv 0)))))) (aa (bF A9 (by rfl) IS Az (af (aa (lr (xa hr.u65) (aa (a7 (aa (a7 (ae (pv 2)) (aa aj))) (ae (pv 0)))) (ae (pv 3)) (by with_unfolding_all rfl))) ao))))))) ao)))
  (ah (c7 (bS (pv 6) (aR Jo hr.m (by rfl) (af (ae (pv 4)) (af (ae (pv 9)) ao)))))
  (aA (d4 QX rfl (vG (by rfl) FZ (af (aa (aR GR hr.m (by rfl) (af (ae (pv 4)) (af (ae (pv 9)) ao)))) ao)) (dM rfl (aG (ax (i:=10) dq.nd rfl (lo rfl)) (aG (ax (i:=11) dq.nd rfl (lo rfl)) cR)))
  (aA (c7 (vI (pv 7) (pv 10) (pv 11)))))))))
  (ah (jd (i:=12) [none] ["_law_row"] dq.nd rfl (lo rfl) rfl (cH (dS (pv 7)) (cH (bc (fD (av (pv 7)))) (bc (fE (av (pv 7)))))) (fun _ _ _ _ _=>(ax (i:=0) (show List.Nodup (["_law_row"]:List Str) from by decide +kernel) rfl (lo rfl))) (fun _ _ _ _ _=>bj) (fun _ _ _ _ _=>(bF b6 (by rfl) Fp b5 (af (ae (pv 0)) ao))))
  (ah (gk (cO (yp hr.units) (aa (aR FW hr.m (by rfl) (af (aa (cG (aw (a7 (ae (pv 1)) (aa aj)) (aw (av (pv 6)) aN)))) (af (aa aj) ao)))) (aa (cG (aw (av (pv 2)) (aw (av (pv 12)) aN)))) (cV _))
  (aA (br vq))
  cb)
  (ah (d4 QX rfl (dD (by rfl) FD (aa (bA gK (by rfl) F4 bt_len (af (ae (pv 6)) ao)))) (ax (i:=10) dq.nd rfl (lo rfl))
  (aA (d4 QX rfl (dn (cY (aw (aH aO (ae (pv 6)) (aa (cY (aw (a7 (aa (a7 (ae (pv 1)) (aa aj))) (ae (pv 10))) aN)))) (aw (aH aO (aa (aH aO (aa (mS (ae (pv 6)) lB (eI (av (pv 10))))) (aa (cY (aw (a7 (aa (a7 (ae (pv 1)) (aa aj))) (ae (pv 10))) aN))))) (aa (mS (ae (pv 6)) (eI (aH aO (ae (pv 10)) (aa aj))) lB))) aN)))) (ax (i:=13) dq.nd rfl (lo rfl))
  (ah (aI (i:=14) dq.nd rfl (lo rfl) (aR FW hr.m (by rfl) (af (aa (cG (aw (a7 (ae (pv 1)) (aa aj)) (aw (av (pv 13)) aN)))) (af (aa aj) ao))))
  (aA (gk (QW.qt (Dg (cO Dr (ae (pv 14)) (aa kA) (cV _)) (AK (cO (yp hr.units) (aa (a7 (ae (pv 14)) (aa aj))) (ae (pv 2)) (cV _)))))
  (aA (br vq))
  cb))))))
  (aA (br vq))))))))))))
end
end LW
namespace PV
open PySem L2 NX
class Cont (α β:Type) where
 run:α->Res β
def Res.bnd{α β:Type}[f:Cont α β](x:Res α):Res β:=x.bind f.run
theorem Gh{α β:Type}(a:α)(f:α->Res β):Res.bnd (Res.ok a) (f:=⟨f⟩)=f a:=id rfl
section
variable(env:PV.Env)(i n:Nat)(d:D)(f g:FX)(c c':FT)(fo Oe fo'':FO)(fs:FOs)(fd:FDs)(s t:FS)(op op':D->D->Res R)(F:List D->Res R)(a:FG)(as:KQ)(fi fj:FI)(fp Fm:FP)(T:String)
theorem Ma:aP d env=.ok ((.f,d),env):=id rfl
theorem JD:aK i env=match env[i]? with|some (some r)=>.ok ((.f,r.2),env.set i (some (fz r.1,r.2)))|_=>.bad:=id rfl
theorem NC:fz .f=.f:=id rfl
theorem ND(c:O):fz (.l c)=.f:=id rfl
theorem NF(cs:List O):fz (.t cs)=.f:=id rfl
theorem Kh(p:Addr):wN (.pin p .d)=true:=id rfl
theorem KY:lq i env=match env[i]? with|some (some r)=>.ok (r,env.set i none)|_=>.bad:=id rfl
theorem Mb:ar f env=Res.bnd (f env) (f:=⟨fun p=>.ok (.val p.1.2,p.2)⟩):=id rfl
theorem Mc:aq i env=match env[i]? with|some (some _)=>.ok (.var i,env)|_=>.bad:=id rfl
theorem KZ:az env=.ok ([],env):=id rfl
theorem Ki:ag fo fs env=Res.bnd (fo env) (f:=⟨fun p=>Res.bnd (fs p.2) (f:=⟨fun q=>.ok (p.1::q.1,q.2)⟩)⟩):=id rfl
theorem K0:bG env=.ok ([],env):=id rfl
theorem Kj:aF f fd env=Res.bnd (f env) (f:=⟨fun p=>Res.bnd (fd p.2) (f:=⟨fun q=>.ok (p.1.2::q.1,q.2)⟩)⟩):=id rfl
theorem Md:Gx env (.val d)=.ok d:=id rfl
theorem Me:Gx env (.var i)=match env[i]? with|some (some r)=>if wN r.1 then .ok r.2 else .bad|_=>.bad:=id rfl
theorem K1:qM env (.val d)=.ok d:=id rfl
theorem K2:qM env (.var i)=match env[i]? with|some (some r)=>.ok r.2|_=>.bad:=id rfl
theorem K3:nL env []=.ok []:=id rfl
theorem K4(o:Opd)(os:List Opd):nL env (o::os)=Res.bnd (Gx env o) (f:=⟨fun d=>Res.bnd (nL env os) (f:=⟨fun ds=>.ok (d::ds)⟩)⟩):=id rfl
theorem Kk:kl env []=.ok []:=id rfl
theorem Kl(o:Opd)(os:List Opd):kl env (o::os)=Res.bnd (qM env o) (f:=⟨fun d=>Res.bnd (kl env os) (f:=⟨fun ds=>.ok (d::ds)⟩)⟩):=id rfl
theorem K5:wN .f=true:=id rfl
theorem K6:wN (.l .f)=true:=id rfl
theorem K7:wN .d=true:=id rfl
theorem Mf:aE op fo Oe env=Res.bnd (fo env) (f:=⟨fun p=>Res.bnd (Oe p.2) (f:=⟨fun q=>Res.bnd (Gx q.2 p.1) (f:=⟨fun a=>Res.bnd (Gx q.2 q.1) (f:=⟨fun b=>Res.bnd (op a b) (f:=⟨fun r=>.ok (r,q.2)⟩)⟩)⟩)⟩)⟩):=id rfl
theorem K8:cn op fo Oe env=Res.bnd (fo env) (f:=⟨fun p=>Res.bnd (Oe p.2) (f:=⟨fun q=>Res.bnd (qM q.2 p.1) (f:=⟨fun a=>Res.bnd (qM q.2 q.1) (f:=⟨fun b=>Res.bnd (op a b) (f:=⟨fun r=>.ok (r,q.2)⟩)⟩)⟩)⟩)⟩):=id rfl
theorem NG:GL f env=Res.bnd (f env) (f:=⟨fun p=>match p.1.2 with | .bl k=>.ok (k,p.2)|_=>.bad⟩):=id rfl
theorem Mg:Dc c c' env=Res.bnd (c env) (f:=⟨fun p=>if p.1 then c' p.2 else .ok (false,p.2)⟩):=id rfl
theorem NH:OR c c' env=Res.bnd (c env) (f:=⟨fun p=>if p.1 then .ok (true,p.2) else c' p.2⟩):=id rfl
theorem Mh:De c env=Res.bnd (c env) (f:=⟨fun p=>.ok (!p.1,p.2)⟩):=id rfl
theorem NI:Nf f g env=Res.bnd (f env) (f:=⟨fun p=>match p.1.2 with | .bl true=>.ok ((.f,.bl true),p.2) | .bl false=>g p.2|_=>.bad⟩):=id rfl
theorem K9:bq F fs env=Res.bnd (fs env) (f:=⟨fun p=>Res.bnd (nL p.2 p.1) (f:=⟨fun ds=>Res.bnd (F ds) (f:=⟨fun r=>.ok (r,p.2)⟩)⟩)⟩):=id rfl
theorem Mi:c6 F fs env=Res.bnd (fs env) (f:=⟨fun p=>Res.bnd (kl p.2 p.1) (f:=⟨fun ds=>Res.bnd (F ds) (f:=⟨fun r=>.ok (r,if bu r.1 r.2 then p.2 else p.2.map frz)⟩)⟩)⟩):=id rfl
theorem Mj:jb fd env=Res.bnd (fd env) (f:=⟨fun p=>if p.1.length<=1000 then .ok ((.f,.tup p.1),p.2) else .bad⟩):=id rfl
theorem Mk:kc fd env=Res.bnd (fd env) (f:=⟨fun p=>if p.1.length<=1000 then .ok ((.l .f,.lst p.1),p.2) else .bad⟩):=id rfl
theorem La:qp env=.ok (none,env):=id rfl
theorem Lb:jw f env=Res.bnd (f env) (f:=⟨fun p=>match p.1.2 with | .int i=>.ok (some i,p.2)|_=>.bad⟩):=id rfl
theorem Ml:oj i f env=if su env i then(Res.bnd (f env) (f:=⟨fun(p:R×PV.Env)=>match p.2[i]? with
 |some (some (.l .f,.lst ds))=>if ds.length<sizeLine then .ok ((.f,.non),p.2.set i (some (.l .f,.lst (ds++[p.1.2])))) else .bad
 |_=>.bad⟩)) else .bad:=id rfl
theorem Lc:su env i=match env[i]? with|some (some (_,.lst _))=>true|_=>false:=id rfl
theorem Ld:yq f g env=Res.bnd (f env) (f:=⟨fun p=>Res.bnd (g p.2) (f:=⟨fun q=>match(jx p.1.2).bind cv,q.1.2 with|some ns,.int d=>.ok ((.f,.int (NX.maxD ns d)),q.2)|_,_=>.bad⟩)⟩):=id rfl
theorem Mm(gg:List Nat->List D->Res R):Ds gg fo fs env=Res.bnd (fo env) (f:=⟨fun p=>match Gx p.2 p.1 with
 | .ok (.str l)=>Res.bnd (fs p.2) (f:=⟨fun q=>Res.bnd (nL q.2 q.1) (f:=⟨fun ds=>Res.bnd (gg l ds) (f:=⟨fun r=>.ok (r,q.2)⟩)⟩)⟩)
 |_=>.bad⟩):=id rfl
theorem Le(ix:List (Option Nat)):cB fi ix a c f env=Res.bnd (fi env) (f:=⟨fun p=>Res.bnd (bX a c f p.1 (cj ix p.2)) (f:=⟨fun ds=>if ds.length<=sizeLine then .ok ((.l .f,.lst ds),if flatDs ds then p.2 else p.2.map frz) else .bad⟩)⟩):=id rfl
theorem Jp:cj [] env=[]:=id rfl
theorem Jq(ix:List (Option Nat)):cj (none::ix) env=none::cj ix env:=id rfl
theorem Jr(ix:List (Option Nat)):cj (some i::ix) env=(match env[i]? with|some (some r)=>some (O.f,r.2)|_=>none)::cj ix env:=id rfl
theorem By:cW env=.ok (true,env):=id rfl
theorem pQ(ds:List D):bX a c f (d::ds) env=Res.bnd (a d env) (f:=⟨fun e=>Res.bnd (c e) (f:=⟨fun p=>if p.1 then(Res.bnd (f p.2) (f:=⟨fun q=>Res.bnd (bX a c f ds q.2) (f:=⟨fun rs=>.ok (q.1.2::rs)⟩)⟩)) else bX a c f ds p.2⟩)⟩):=id rfl
theorem Bz:AO f env=Res.bnd (f env) (f:=⟨fun p=>match p.1.2 with | .lst ds=>.ok (ds,p.2)|_=>.bad⟩):=id rfl
theorem tj:fm f env=Res.bnd (f env) (f:=⟨fun p=>match p.1.2 with | .tup ds=>.ok (ds,p.2)|_=>.bad⟩):=id rfl
theorem tm:fw f env=Res.bnd (f env) (f:=⟨fun p=>match p.1.2 with | .str l=>.ok (l.map fun c=>.str [c],p.2)|_=>.bad⟩):=id rfl
theorem oK:Ga fi fj env=match fi env with | .ok a=>.ok a|_=>fj env:=by
 unfold Ga;cases fi env <;> rfl
theorem Js:Ga (AO f) (Ga (fm f) (fw f)) env=Res.bnd (f env) (f:=⟨fun p=>match p.1.2 with
 | .lst ds=>.ok (ds,p.2)
 | .tup ds=>.ok (ds,p.2)
 | .str l=>.ok (l.map fun c=>.str [c],p.2)
 |_=>.bad⟩):=by
 rw[oK,oK,Bz,tj,tm];cases f env with
 |ok p=>
  obtain⟨⟨o,d⟩,e⟩:=p;cases d <;> rfl
 |exc c=>rfl
 |bad=>rfl
theorem Lf:Ga (gr i) (Ga (fm (aK i)) (fw (aK i))) env=match env[i]? with
 |some (some (_,.lst ds))=>.ok (ds,env)
 |some (some (o,.tup ds))=>.ok (ds,env.set i (some (fz o,.tup ds)))
 |some (some (o,.str l))=>.ok (l.map fun c=>.str [c],env.set i (some (fz o,.str l)))
 |_=>.bad:=by
 rw[oK,oK,tj,tm,JD];unfold gr;cases env[i]? with
 |none=>rfl
 |some r=>
  cases r with
  |none=>rfl
  |some r=>
   obtain⟨o,d⟩:=r;cases d <;> rfl
theorem JR:eG fo env=Res.bnd (fo env) (f:=⟨fun p=>Res.bnd (Gx p.2 p.1) (f:=⟨fun d=>match d with
 | .int j=>if -4611686018427387904<=j/\j<4611686018427387904 then .ok ((List.range j.toNat).map fun(k:Nat)=>D.int (k:Int),p.2) else .bad
 |_=>.bad⟩)⟩):=id rfl
theorem lQ(k1 k2:Bool):qo k1 k2 fs env=Res.bnd (fs env) (f:=⟨fun p=>match p.1 with
 |[.val d1,.val d2]=>Res.bnd (g0 k1 d1) (f:=⟨fun a=>Res.bnd (g0 k2 d2) (f:=⟨fun b=>.ok ((a.zip b).map fun z=>D.tup [z.1,z.2],p.2)⟩)⟩)
 |_=>.bad⟩):=id rfl
theorem GJ:au i d env=if i<env.length then .ok (env.set i (some (.f,d))) else .bad:=id rfl
theorem Lg:cq [] env=.ok env:=id rfl
theorem Gi(ds:List D):aB a as (d::ds) env=Res.bnd (a d env) (f:=⟨fun e=>as ds e⟩):=id rfl
theorem Jt(ds:List D):gm n as (.tup ds) env=if ds.length=n then as ds env else .bad:=id rfl
theorem Ir:sSeq s t env=Res.bnd (s env) (f:=⟨fun o=>match o with | .nx e=>t e|o=>.ok o⟩):=id rfl
theorem Lh:fg env=.ok (.nx env):=id rfl
theorem Mn:cp i f env=Res.bnd (f env) (f:=⟨fun p=>if i<p.2.length then .ok (.nx (p.2.set i (some p.1))) else .bad⟩):=id rfl
theorem JE:gj f env=Res.bnd (f env) (f:=⟨fun p=>.ok (.nx p.2)⟩):=id rfl
theorem Mo:e8 f env=Res.bnd (f env) (f:=⟨fun p=>.ok (.rt p.1)⟩):=id rfl
theorem NJ:Ik c s t env=Res.bnd (c env) (f:=⟨fun p=>if p.1 then s p.2 else t p.2⟩):=id rfl
theorem HK:nM fi a s env=Res.bnd (fi env) (f:=⟨fun p=>gR a s p.1 p.2⟩):=id rfl
theorem jY(ds:List D):gR a s (d::ds) env=Res.bnd (a d env) (f:=⟨fun e=>Res.bnd (s e) (f:=⟨fun o=>match o with
 | .nx e=>gR a s ds e
 | .ct e=>gR a s ds e
 | .bk e=>.ok (.nx e)
 | .rt r=>.ok (.rt r)⟩)⟩):=id rfl
theorem gf:dm c s (n+1) env=Res.bnd (c env) (f:=⟨fun p=>if p.1 then(Res.bnd (s p.2) (f:=⟨fun o=>match o with
  | .nx e=>dm c s n e
  | .ct e=>dm c s n e
  | .bk e=>.ok (.nx e)
  | .rt r=>.ok (.rt r)⟩)) else .ok (.nx p.2)⟩):=id rfl
theorem Mp:Cz i f g env=Res.bnd (g env) (f:=⟨fun(p:R×PV.Env)=>Res.bnd (f p.2) (f:=⟨fun(q:R×PV.Env)=>match p.2[i]?,q.2[i]? with
 |some (some _),some (some (.d,.dct tk ks vs))=>if d8 tk q.1.2&&decide (ks.length<sizeLine) then .ok (.nx (q.2.set i (some (.d,.dct tk (qw ks vs q.1.2 p.1.2).1 (qw ks vs q.1.2 p.1.2).2)))) else .bad
 |_,_=>.bad⟩)⟩):=id rfl
theorem Mq:Bg f a env=Res.bnd (f env) (f:=⟨fun p=>Res.bnd (a p.1.2 p.2) (f:=⟨fun e=>.ok (.nx e)⟩)⟩):=id rfl
theorem bo(ds:List D)(nn:Nat)(h:ds.length=n):fBody n nn s ds=Res.bnd (s (ds.map (fun d=>some (O.f,d))++List.replicate nn none)) (f:=⟨fun o=>match o with
 | .rt r=>.ok r
 | .nx _=>.ok (.f,.non)
 |_=>.bad⟩):=by
 unfold fBody;rw[Qa h];all_goals cases s (ds.map (fun d=>some (O.f,d))++List.replicate nn none) with
 |ok o=>cases o <;> rfl
 |exc c=>rfl
 |bad=>rfl
end
theorem line_le{n:Nat}(h:n<=16777216):n<=sizeLine:=by rw[line_eq];exact h
section
variable(a b:Int)(x y:List Nat)(p q:Bool)(ds es:List D)
theorem DA:IB (.int a) (.int b)=.ok (.f,.bl (a==b)):=by simp only[IB,plainD,Fj,SK,SF]
theorem DB:IB (.str x) (.str y)=.ok (.f,.bl (x==y)):=by simp only[IB,plainD,Fj,SK,SF]
theorem DD:JP (.int a) (.int b)=.ok (.f,.bl (!(a==b))):=by simp only[JP,plainD,Fj,SK,SF]
theorem BA:oi (.int a) (.int b)=.ok (.f,.int (a-b)):=id rfl
theorem yS:gq (.int a) (.int b)=if 0<b/\b<1073741824 then .ok (.f,.int (a / b)) else .bad:=id rfl
theorem BC:iK (.int a) (.int b)=if 0<b then .ok (.f,.int (a%b)) else .bad:=id rfl
theorem BD:zJ (.int a) (.int b)=if 0<=b/\b<=1000000/\a.natAbs<2 ^ 64 then .ok (.f,.int (a ^ b.toNat)) else .bad:=id rfl
theorem DE:JW (.int a) (.int b)=.ok (.f,.bl (decide (a<b))):=id rfl
theorem DF:Oc (.int a) (.int b)=.ok (.f,.bl (decide (b<a))):=id rfl
theorem BE:nN [.lst ds]=.ok (.f,.int ds.length):=id rfl
theorem BF:nN [.tup ds]=.ok (.f,.int ds.length):=id rfl
theorem vK:cu [.lst ds]=.ok (.f,.tup ds):=id rfl
theorem BG:zM [.bl p]=.ok (.f,.int (if p then 1 else 0)):=id rfl
theorem DG:FF (.lst ds) (.int a)=match Gw ds a with|some d=>.ok (.f,d)|none=>.bad:=id rfl
theorem DH:FF (.tup ds) (.int a)=match Gw ds a with|some d=>.ok (.f,d)|none=>.bad:=id rfl
theorem DI:FF (.str x) (.int a)=match Gw x a with|some c=>.ok (.f,.str [c])|none=>.bad:=id rfl
theorem BH:maxD [.int a,.int b]=.ok (.f,.int (if a<b then b else a)):=id rfl
theorem BI(bs:List Bool):AW [.lst (bs.map D.bl)]=.ok (.f,.bl (bs.all id)):=by
 unfold AW;show(match km (bs.map D.bl) with|some bs=>_|none=>_)=_;rw[mK]
theorem at0{α:Type}(d:α)(l:List α):Gw (d::l) 0=some d:=by
 have:=dA (xs:=d::l) (j:=0) (v:=d) rfl;simpa using this
theorem at1{α:Type}(c d:α)(l:List α):Gw (c::d::l) 1=some d:=by
 have:=dA (xs:=c::d::l) (j:=1) (v:=d) rfl;simpa using this
end
theorem Fi(l:List Int):flatDs (l.map D.int)=true:=by
 rw[bh,Rf,Qp];intro b _;rfl
theorem lR(l:List Bool):flatDs (l.map D.bl)=true:=by
 rw[bh,Rf,Qp];intro b _;rfl
theorem flat_strs(l:List (List Nat)):flatDs (l.map D.str)=true:=by
 rw[bh,Rf,Qp];intro b _;rfl
theorem yT(d:D):bu .f d=flatD d:=by rw[bu]
theorem vL(ds:List D):bu (.l .f) (.lst ds)=flatDs ds:=by rw[bu,lz]
theorem jg(i:Int):flatD (.int i)=true:=by rw[flatD];all_goals simp
theorem yU(i:Bool):flatD (.bl i)=true:=by rw[flatD];all_goals simp
theorem cA(ds:List D):flatD (.tup ds)=flatDs ds:=by rw[flatD]
theorem iE(n:Nat)(l:List Int):plainDs n (l.map D.int)=true:=by
 induction l with
 |nil=>rfl
 |cons a l ih=>rw[Qn,plainDs,ih,plainD];all_goals simp
theorem qF(n:Nat)(l:List (List Nat)):plainDs n (l.map D.str)=true:=by
 induction l with
 |nil=>rfl
 |cons a l ih=>rw[Qn,plainDs,ih,plainD];all_goals simp
theorem eqDs_ints:∀a b:List Int,iq (a.map D.int) (b.map D.int)=(a==b)
 |[],[]=>by simp[iq]
 |[],_::_=>by simp[iq]
 |_::_,[]=>by simp[iq]
 |a::r,b::t=>by
  rw[Qn,Qn,iq,Fj,eqDs_ints r t,Qv];simp
theorem vM(a:Int)(l:List Int):qN (.int a) (l.map D.int)=decide (a∈l):=by
 unfold qN;rw[RN,Qv,Q8,Qm];constructor
 ·rintro⟨x,hx,e⟩;have e:Fj (.int x) (.int a)=true:=e;rw[Fj,QM]at e;rw[<-e];exact hx
 ·intro h;refine⟨a,h,?_⟩;show Fj (.int a) (.int a)=true;rw[Fj,QZ]
theorem vN(a:List Nat)(l:List (List Nat)):qN (.str a) (l.map D.str)=decide (a∈l):=by
 unfold qN;rw[RN,Qv,Q8,Qm];constructor
 ·rintro⟨x,hx,e⟩;have e:Fj (.str x) (.str a)=true:=e;rw[Fj,QM]at e;rw[<-e];exact hx
 ·intro h;refine⟨a,h,?_⟩;show Fj (.str a) (.str a)=true;rw[Fj,QZ]
theorem BJ(a:Int)(l:List Int):JV (.int a) (.lst (l.map D.int))=.ok (.f,.bl (decide (a∈l))):=by
 unfold JV;dsimp only;rw[iE,vM,plainD];all_goals simp
theorem yV(a:Int)(l:List Int):uA (.int a) (.lst (l.map D.int))=.ok (.f,.bl (!decide (a∈l))):=by
 unfold uA;rw[BJ];rfl
theorem vO{α:Type}{a:FG}{c:FT}{f:FX}{e:α->D}{p:α->Bool}{r:α->D}(I:PV.Env->Prop)(l:List α)
  (h:∀x∈l,∀env,I env->∃Fd,a (e x) env=.ok Fd/\∃Fl,c Fd=.ok (p x,Fl)/\if p x then ∃o F7,f Fl=.ok ((o,r x),F7)/\I F7 else I Fl):∀env,I env->bX a c f (l.map e) env=.ok ((l.filter p).map r):=by
 induction l with
 |nil=>intro env _;rfl
 |cons x l ih=>
  intro env hI;obtain⟨Fd,h1,Fl,h2,h3⟩:=h x P8 env hI;have ih:=ih fun y hy=>h y (Qg _ hy)
  rw[Qn,pQ,h1,Gh,h2,Gh];cases hp:p x with
  |true=>
   rw[hp]at h3;obtain⟨o,F7,h4,h5⟩:=h3;rw[Qa rfl,h4,Gh,ih F7 h5,Gh,T4 hp];rfl
  |false=>
   rw[hp]at h3;rw[Qf Qb,ih Fl h3,T5 (by rw[hp];exact Qb)]
theorem aW{α:Type}{a:FG}{f:FX}{e:α->D}{r:α->D}(I:PV.Env->Prop)(l:List α)
  (h:∀x∈l,∀env,I env->∃Fd,a (e x) env=.ok Fd/\∃o F7,f Fd=.ok ((o,r x),F7)/\I F7):∀env,I env->bX a cW f (l.map e) env=.ok (l.map r):=by
 induction l with
 |nil=>intro env _;rfl
 |cons x l ih=>
  intro env hI;obtain⟨Fd,h1,o,F7,h4,h5⟩:=h x P8 env hI;have ih:=ih fun y hy=>h y (Qg _ hy)
  rw[Qn,pQ,h1,Gh,By,Gh,Qa rfl,h4,Gh,ih F7 h5];rfl
theorem yW{a:FG}{g:FS}(P:Nat->PV.Env->Prop)(ds:List D)(h:∀i d env,ds[i]?=some d->P i env->∃Fd,a d env=.ok Fd/\∃Fl,(g Fd=.ok (.nx Fl)\/g Fd=.ok (.ct Fl))/\P (i+1) Fl):
  ∀env,P 0 env->∃env',gR a g ds env=.ok (.nx env')/\P ds.length env':=by
 have key:∀(l:List D) (k:Nat) (env:PV.Env),(∀i d,l[i]?=some d->ds[k+i]?=some d)->P k env->∃env',gR a g l env=.ok (.nx env')/\P (k+l.length) env':=by
  intro l;induction l with
  |nil=>exact fun k env _ hp=>⟨env,rfl,hp⟩
  |cons d l ih=>
   intro k env hd hp;obtain⟨Fd,h1,Fl,h2,h3⟩:=h k d env (hd 0 d rfl) hp;obtain⟨env',h4,h5⟩:=ih (k+1) Fl (fun i d e=>by have:=hd (i+1) d (by simpa using e);rw[show k+1+i=k+(i+1) by lia];exact this) h3;refine⟨env',?_,by rw[Ql,show k+(l.length+1)=k+1+l.length by lia];exact h5⟩;rw[jY,h1,Gh];rcases h2 with h2|h2
   ·rw[h2,Gh];exact h4
   ·rw[h2,Gh];exact h4
 intro env hp;obtain⟨env',h1,h2⟩:=key ds 0 env (fun i d e=>by rw[SV];exact e) hp;exact⟨env',h1,by rw[SV]at h2;exact h2⟩
section
variable(env:PV.Env)(fo:FO)(fp Fm:FP)(a b:Int)(ds:List D)(x:List Nat)
theorem Mr:yA fo fp Fm env=Res.bnd (fo env) (f:=⟨fun p=>Res.bnd (fp p.2) (f:=⟨fun q=>Res.bnd (Fm q.2) (f:=⟨fun t=>Res.bnd (Gx t.2 p.1) (f:=⟨fun d=>Res.bnd (Nw d q.1 t.1) (f:=⟨fun r=>.ok (r,t.2)⟩)⟩)⟩)⟩)⟩):=id rfl
theorem BK(lo hi:Option Int):Nw (.lst ds) lo hi=.ok (.l .f,.lst (gS ds lo hi)):=id rfl
theorem BL(lo hi:Option Int)(h:HT.sIx ds.length 0 lo=0/\HT.sIx ds.length ds.length hi=ds.length):gS ds lo hi=ds:=by
 unfold gS;rw[h.1,h.2,UK,Nat.sub_zero,RV (P9 _)]
theorem tq:yx (.int a) (.int b)=if b9 a||b9 b then .ok (.f,.int (a*b)) else if a.natAbs<2 ^ 1000/\b.natAbs<2 ^ 1000 then .ok (.f,.int (a*b)) else .bad:=id rfl
end
section
variable(env:PV.Env)(fo:FO)(fs:FOs)(f g:FX)(a b c:Int)(ds es:List D)(x y:List Nat)
theorem Ms(gg:List D->List D->Res R):Bn gg fo fs env=Res.bnd (fo env) (f:=⟨fun p=>Res.bnd (Gx p.2 p.1) (f:=⟨fun d=>match d with
 | .tup _=>Res.bnd (fs p.2) (f:=⟨fun q=>Res.bnd (Gx q.2 p.1) (f:=⟨fun d2=>match d2 with
  | .tup l=>Res.bnd (nL q.2 q.1) (f:=⟨fun ds=>Res.bnd (gg l ds) (f:=⟨fun r=>.ok (r,q.2)⟩)⟩)
  |_=>.bad⟩)⟩)
 |_=>.bad⟩)⟩):=id rfl
theorem Eh(d:D):(∃l,g0 true d=.ok l/\g0 false d=.bad/\jx d=some l)\/(∃l,g0 true d=.bad/\g0 false d=.ok l/\jx d=some l)\/(g0 true d=.bad/\g0 false d=.bad/\jx d=none):=by
 cases d with
 |lst l=>exact .inl ⟨l,rfl,rfl,rfl⟩
 |tup l=>exact .inr (.inl ⟨l,rfl,rfl,rfl⟩)
 |_=>exact .inr (.inr ⟨rfl,rfl,rfl⟩)
def vP(k1 k2:Bool)(e:PV.Env)(d1 d2:D):Res (List D×PV.Env):=(g0 k1 d1).bind fun a=>(g0 k2 d2).bind fun b=>.ok ((a.zip b).map fun z=>D.tup [z.1,z.2],e)
def DJ(e:PV.Env)(d1 d2:D):Res (List D×PV.Env):=match jx d1,jx d2 with|some a,some b=>.ok ((a.zip b).map fun z=>D.tup [z.1,z.2],e)|_,_=>.bad
def LA(a b:Res (List D×PV.Env)):Res (List D×PV.Env):=match a with | .ok a=>.ok a|_=>b
def uC(g:D->D->Res (List D×PV.Env))(os:List Opd):Res (List D×PV.Env):=match os with|[.val d1,.val d2]=>g d1 d2|_=>.bad
theorem oM(g h:D->D->Res (List D×PV.Env))(os:List Opd):LA (uC g os) (uC h os)=uC (fun a b=>LA (g a b) (h a b)) os:=by
 unfold uC;split <;> rfl
theorem yX(e:PV.Env)(a b:D):LA (vP true true e a b) (LA (vP true false e a b) (LA (vP false true e a b) (vP false false e a b)))=DJ e a b:=by
 unfold vP DJ;rcases Eh a with⟨l,h1,h2,h3⟩|⟨l,h1,h2,h3⟩|⟨h1,h2,h3⟩ <;> rcases Eh b with⟨m,i1,i2,i3⟩|⟨m,i1,i2,i3⟩|⟨i1,i2,i3⟩ <;> rw[h1,h2,h3,i1,i2,i3] <;> rfl
theorem Li:mT fs env=Res.bnd (fs env) (f:=⟨fun p=>match p.1 with
 |[.val d1,.val d2]=>(match jx d1,jx d2 with|some a,some b=>.ok ((a.zip b).map fun z=>D.tup [z.1,z.2],p.2)|_,_=>.bad)
 |_=>.bad⟩):=by
 unfold mT;rw[oK,oK,oK,lQ,lQ,lQ,lQ];cases fs env with
 |ok p=>
  show LA (uC (vP true true p.2) p.1) (LA (uC (vP true false p.2) p.1) (LA (uC (vP false true p.2) p.1) (uC (vP false false p.2) p.1)))=uC (DJ p.2) p.1;rw[oM,oM,oM];exact Rg (fun g=>uC g p.1) (funext fun a=>funext fun b=>yX p.2 a b)
 |_=>rfl
theorem Lj:jx (.lst ds)=some ds:=id rfl
theorem Lk:jx (.tup ds)=some ds:=id rfl
theorem Ll(i:Nat):vD i f g env=Res.bnd (g env) (f:=⟨fun(p:R×PV.Env)=>Res.bnd (f p.2) (f:=⟨fun(q:R×PV.Env)=>match p.2[i]?,q.2[i]? with
 |some (some _),some (some (.l .f,.lst ds))=>(match q.1.2 with
  | .int k=>(match ixN ds.length k with
   |some j=>.ok (.nx (q.2.set i (some (.l .f,.lst (ds.set j p.1.2)))))
   |none=>.bad)
  |_=>.bad)
 |_,_=>.bad⟩)⟩):=id rfl
theorem yY:je (.int a) (.int b)=yx (.int a) (.int b):=id rfl
theorem Km:sP f g env=Res.bnd (f env) (f:=⟨fun p=>Res.bnd (g p.2) (f:=⟨fun q=>if d8 false p.1.2 then .ok ((.d,.dct false [p.1.2] [q.1.2]),q.2) else .bad⟩)⟩):=id rfl
theorem BM(d:D):L8 d (.lst ds)=JV d (.lst ds):=id rfl
theorem yZ(d:D):zQ d (.lst ds)=uA d (.lst ds):=id rfl
theorem BN:d8 false (.int a)=true:=id rfl
theorem BO:d8 false (.str x)=true:=id rfl
theorem y0:cU (.int a) (.int b)=.ok (.f,.int (a+b)):=id rfl
theorem y1:cU (.str x) (.str y)=if x.length+y.length<=sizeLine then .ok (.f,.str (x++y)) else .bad:=id rfl
theorem tu:cU (.lst ds) (.lst es)=if ds.length+es.length<=sizeLine then .ok (.l .f,.lst (ds++es)) else .bad:=id rfl
theorem y2:cU (.tup ds) (.tup es)=if ds.length+es.length<=sizeLine\/ds=[] then .ok (.f,.tup (ds++es)) else .bad:=by
 unfold cU;cases ds with
 |nil=>rw[Qa (.inr rfl)];rfl
 |cons d ds=>
  dsimp only;unfold addD;dsimp only;by_cases h:(d::ds).length+es.length<=sizeLine
  ·rw[Qa ⟨nofun,h⟩,Qa (.inl h)]
  ·rw[Qf (fun z=>h z.2),Qf (fun z=>z.elim h nofun)]
end
section
variable(env:PV.Env)(f g:FX)(ds ks:List D)(i:Nat)
end
section
variable(env:PV.Env)(f:FX)(fs:FOs)(ds:List D)(i:Nat)
end
noncomputable def pv:=(Zz @Gh (Zz @Ma (Zz @JD (Zz @KY (Zz @Mb (Zz @Mc (Zz @KZ (Zz @Ki (Zz @K0 (Zz @Kj (Zz @Md (Zz @Me (Zz @K1 (Zz @K2 (Zz @K3 (Zz @K4 (Zz @Kk (Zz @Kl (Zz @K5 (Zz @K6 (Zz @K7 (Zz @Mf (Zz @K8 (Zz @NG (Zz @Mg (Zz @NH (Zz @Mh (Zz @NI (Zz @K9 (Zz @Mi (Zz @Mj (Zz @Mk (Zz @Mr (Zz @La (Zz @Lb (Zz @Ml (Zz @Lc (Zz @Ld (Zz @Mm (Zz @Le (Zz @Jp (Zz @Jq (Zz @Jr (Zz @Js (Zz @Lf (Zz @JR (Zz @GJ (Zz @Lg (Zz @Gi (Zz @Jt (Zz @Ir (Zz @Lh (Zz @Mn (Zz @JE (Zz @Mo (Zz @NJ (Zz @HK (Zz @Mp (Zz @Mq (Zz @List.getElem?_cons_zero.{0} (Zz @List.getElem?_cons_succ.{0} (Zz @List.set_cons_zero.{0} (Zz @List.set_cons_succ.{0} (Zz @List.length_cons.{0} (Zz @List.length_nil.{0} (Zz @List.map_cons.{0,0} (Zz @List.map_nil.{0,0} (Zz @List.replicate_succ.{0} (Zz @List.replicate_zero.{0} (Zz @List.cons_append.{0} (Zz @List.nil_append.{0} (Zz @Nat.zero_add (Zz @Ms (Zz @Li (Zz @Lj (Zz @Lk (Zz @Ll (Zz @Km (Zz @NC (Zz @ND (Zz @NF @Kh)))))))))))))))))))))))))))))))))))))))))))))))))))))))))))))))))))))))))))))))))
noncomputable def op:=(Zz @DA (Zz @DB (Zz @DD (Zz @BA (Zz @DE (Zz @DF (Zz @BE (Zz @BF (Zz @vK (Zz @BG (Zz @DG (Zz @DH (Zz @DI (Zz @BK (Zz @BH (Zz @at0 (Zz @at1 (Zz @yV (Zz @BI (Zz @yT (Zz @vL (Zz @jg (Zz @yU (Zz @Fi (Zz @PV.flat_strs (Zz @cA (Zz @y0 (Zz @yY (Zz @BM (Zz @yZ (Zz @BN @BO)))))))))))))))))))))))))))))))
theorem dV(n:Nat)(w:PV.Env):(∃d,Gx w (.var n)=.ok d)\/Gx w (.var n)=.bad:=by
 unfold Gx;dsimp only;split
 ·split
  ·exact .inl ⟨_,rfl⟩
  ·exact .inr rfl
 ·exact .inr rfl
section
variable(w:PV.Env)(op:D->D->Res R)(F:List D->Res R)(f g h:FX)(n n' n'':Nat)(x y:D)
end
section
variable(a b c d e g h i j k l m:Option R)(z:PV.Env)(r:R)(o:O)(x:D){ρ:Type}
end
end PV
namespace LW
open PySem L2 NX PV
theorem for_list{α:Type}{a:FG}{g:FS}{e:α->D}(l:List α)(P:Nat->PV.Env->Prop)
  (h:∀k x env,l[k]?=some x->P k env->∃Fd,a (e x) env=.ok Fd/\∃Fl,g Fd=.ok (.nx Fl)/\P (k+1) Fl):∀env,P 0 env->∃env',gR a g (l.map e) env=.ok (.nx env')/\P l.length env':=by
 intro env h0;have:=yW (a:=a) (g:=g) P (l.map e) (fun i d env hi hp=>by
  rw[List.getElem?_map,QA]at hi;obtain⟨x,hx,rfl⟩:=hi;obtain⟨Fd,h1,Fl,h2,h3⟩:=h i x env hx hp;exact⟨Fd,h1,Fl,.inl h2,h3⟩) env h0
 rwa [P5]at this
theorem jZ{a:FG}{g:FS}{e:Nat->D}(n:Nat)(P:Nat->PV.Env->Prop)
  (h:∀k env,k<n->P k env->∃Fd,a (e k) env=.ok Fd/\∃Fl,g Fd=.ok (.nx Fl)/\P (k+1) Fl):∀env,P 0 env->∃env',gR a g ((List.range n).map e) env=.ok (.nx env')/\P n env':=by
 intro env h0;have:=for_list (a:=a) (g:=g) (e:=e) (List.range n) P (fun k x env hk hp=>by
  obtain⟨h1,h2⟩:=List.getElem?_eq_some_iff.mp hk;rw[Qr]at h1;rw[U4]at h2;subst h2;exact h k env h1 hp) env h0
 rwa [Qr]at this
abbrev Fq:=List (List Nat)
theorem aZ{α β:Type}{l:List α}(f:α->β):(l.map f).length=l.length:=P5 f
theorem kg:(false=true)=False:=Ry
theorem iX{α:Type}{l:List α}{i:Nat}{a:α}(h:l[i]?=some a):∃h:i<l.length,l[i]=a:=List.getElem?_eq_some_iff.mp h
theorem fA{α:Type}{l:List α}{i:Nat}(h:i<l.length):l[i]?=some l[i]:=List.getElem?_eq_getElem h
theorem dH{α β:Type}{f:α->β}{a:α}{l:List α}:(a::l).map f=f a::l.map f:=Qn
theorem kq{α:Type}{a b:α}(h:a∈[b]):a=b:=Qx.mp h
theorem lS{α β:Type}{f:α->β}{l:List α}{b:β}(h:b∈l.map f):∃a,a∈l/\f a=b:=QD.mp h
theorem nt{α:Type}{a:α}{s t:List α}(h:a∈s++t):a∈s\/a∈t:=QH.mp h
theorem j0{α:Type}{s t:List α}:(s++t).length=s.length+t.length:=QU
theorem ay{s t:FS}{env env':PV.Env}(h:s env=.ok (.nx env')):sSeq s t env=t env':=by rw[Ir,h,Gh]
theorem aM{ds:List D}(h:ds.length<=16777216):ds.length<=sizeLine:=line_le h
theorem kN{l:List Int}{k:Nat}(h:k<l.length):Gw (l.map D.int) (k:Int)=some (.int (l.getD k 0)):=dA (by rw[List.getElem?_map,List.getD_eq_getElem?_getD,fA h];rfl)
theorem BP{l:Fq}{k:Nat}(h:k<l.length):Gw (l.map D.str) (k:Int)=some (.str l[k]):=dA (by rw[List.getElem?_map,fA h];rfl)
theorem at2{α:Type}(a b c:α):Gw [a,b,c] (2:Int)=some c:=rfl
theorem dw:∀l:Fq,d7 (l.map D.str)=some l
 |[]=>rfl
 |a::l=>by
  rw[dH,d7,dw l];rfl
theorem vQ{l:Fq}(nd:l.Nodup){k:Nat}(h:k<l.length):l.idxOf l[k]=k:=nd.idxOf_getElem k h
theorem oN(x y:D)(t1 t2:Option R)(dI:PV.Env):gm 2 (aB (au 0) (aB (au 1) cq)) (.tup [x,y]) (t1::t2::dI)=.ok (some (.f,x)::some (.f,y)::dI):=by
 rw[Jt,Qa (by simp),Gi,GJ,Qa (by simp),Gh,Gi,GJ,Qa (by simp),Gh];rfl
theorem j3{α:Type}(lt:α->α->Bool)(l:List α):(bI lt l).length=l.length:=(du lt l).length_eq
theorem tw(l:Fq)(h:l.length<64):fG [.lst (l.map D.str)]=.ok (.l .f,.lst ((bI JQ l).map D.str)):=by
 unfold fG;dsimp only;rw[Qa (by rw[aZ];exact h)];unfold jD;cases l with
 |nil=>rfl
 |cons a l=>
  have e:cv ((a::l).map D.str)=none:=rfl;rw[e,dw]
def HV:List Nat:=[97,98,99,100,101,102,103,104,105,106,107,108,109,110,111,112,113,114,115,116,117,118,119,120,121,122]
theorem BQ(j:Nat)(h:j<26):HV[j]?=some (97+j):=by
 have:∀j:_root_.Fin 26,HV[j.1]?=some (97+j.1):=by decide
 exact this ⟨j,h⟩
theorem BR(j:Int)(h0:0<=j)(h:j<26):Gw HV j=some (97+j.toNat):=by
 obtain⟨n,rfl⟩:=Q7 h0;exact dA (BQ n (by lia))
theorem gu(x b:Int)(h:0<b):0<=x%b/\x%b<b:=⟨Int.emod_nonneg _ (by lia),Int.emod_lt_of_pos _ h⟩
theorem E4(n:Nat)(h:n<=200):zJ (.int 10) (.int (n:Int))=.ok (.f,.int (10 ^ n)):=by
 rw[BD,Qa (by lia),QL]
theorem kO(x b:Int)(h:0<b):iK (.int x) (.int b)=.ok (.f,.int (x%b)):=by rw[BC,Qa h]
theorem i6(x b:Int)(h:0<b)(h2:b<1073741824):gq (.int x) (.int b)=.ok (.f,.int (x / b)):=by rw[yS,Qa ⟨h,h2⟩]
theorem tF(k:Nat)(h:k<=1000000):b9 (k:Int)=true:=by
 unfold b9;rw[Qm];lia
theorem E5(x y:List Nat)(h:x.length+y.length<=1000):cU (.str x) (.str y)=.ok (.f,.str (x++y)):=by rw[y1,Qa (line_le (by lia))]
theorem lT{α:Type}(l:List α)(k:Nat):gS l none (some (k:Int))=l.take k:=by
 unfold gS;rw[HT.oY,HT.kR,UK,Nat.sub_zero];by_cases h:k<=l.length
 ·rw[Te h]
 ·rw[Nat.min_eq_right (by lia),RV (P9 _),RV (by lia)]
theorem vR{α:Type}(l:List α)(k:Nat):gS l (some (k:Int)) none=l.drop k:=by
 unfold gS;rw[HT.oY,HT.kR];by_cases h:k<=l.length
 ·rw[Te h,RV (by rw[RX];exact P9 _)]
 ·rw[Nat.min_eq_right (by lia),Uk (P9 _),Uk (by lia),List.take_nil]
theorem j4{α:Type}(f:Nat->α)(n:Nat)(h:∀i j,i<n->j<n->f i=f j->i=j):((List.range n).map f).Nodup:=by
 rw[Sq,SR];refine List.pairwise_lt_range.imp_of_mem fun{a b} ha hb hl e=>?_
 have:=h a b (QC.mp ha) (QC.mp hb) e;lia
theorem y3{α:Type}(l:List α)(a b:Nat)(h:a<=b)(hb:b<=l.length):gS l (some (a:Int)) (some (b:Int))=(l.drop a).take (b-a):=by
 unfold gS;rw[HT.kR,HT.kR,Te hb,Te (Rh h hb)]
theorem j5(x:Int)(h:-1000000<=x)(h2:x<=1000000):b9 x=true:=by
 unfold b9;rw[Qm];lia
theorem nv(d:D)(h:plainD 40 d=true):JP d d=.ok (.f,.bl false):=by
 unfold JP;rw[h,jc d 40 h];rfl
theorem vS(l:List Int):plainD 40 (.tup (l.map D.int))=true:=by
 rw[plainD,iE]
theorem tG(n k:Nat)(h:k<n):ixN n (k:Int)=some k:=by
 unfold ixN;rw[Qa (by lia),Qa (by lia)];rfl
theorem BS(l:List Int):AY [.lst (l.map D.int)]=.ok (.f,.int l.sum):=by
 unfold AY;dsimp only;have:(jx (D.lst (l.map D.int))).bind cv=some l:=il l;rw[this]
theorem isT(ds:List D):Eg "tuple" (.tup ds)=true:=rfl
theorem ny{c:FT}{g:FS}(P:Nat->PV.Env->Prop)(fin:PV.Env->Prop)(h:∀k env,P k env->(∃Fd,c env=.ok (false,Fd)/\fin Fd)\/(∃Fd,c env=.ok (true,Fd)/\∃Fl k',g Fd=.ok (.nx Fl)/\k'<k/\P k' Fl)):
  ∀n k env,k<n->P k env->∃env',dm c g n env=.ok (.nx env')/\fin env'
 | 0,k,env,hk,_=>absurd hk (Tf _)
 |n+1,k,env,hk,hp=>by
  rcases h k env hp with⟨Fd,h1,h2⟩|⟨Fd,h1,Fl,k',h2,h3,h4⟩
  ·exact⟨Fd,by rw[gf,h1,Gh];rfl,h2⟩
  ·obtain⟨env',e,hf⟩:=ny P fin h n k' Fl (by lia) h4;refine⟨env',?_,hf⟩;rw[gf,h1,Gh];dsimp only;rw[Qa rfl,h2,Gh];exact e
theorem y4{α β:Type}(f:α->β)(l:List α)(lo hi:Option Int):gS (l.map f) lo hi=(gS l lo hi).map f:=by
 unfold gS;rw[aZ,<-U6,<-So]
theorem gv{α:Type}{l:List α}(h:l.length<=100000):l.length<sizeLine:=Qk (RY _) (line_le (by lia))
section
variable(env:PV.Env)(f:FX)(fs:FOs)(fo:FO)
theorem DK(i:Nat)(c:O)(F:Addr->List D->Res R):eFunW c F i fs env=Res.bnd (fs env) (f:=⟨fun p=>match p.1 with
 | .var j::os=>if j=i then(match p.2[i]? with
  |some (some (ow,d0))=>if Bp c ow then Res.bnd (kl (p.2.set i none) os) (f:=⟨fun ds=>Res.bnd (Bq F c d0 ds) (f:=⟨fun x=>if bu x.1.1 x.1.2&&bu c x.2 then .ok (x.1,(p.2.set i none).set i (some (ow,x.2))) else .ok (x.1,((p.2.set i none).map frz).set i (some (ow,x.2)))⟩)⟩) else .bad
  |_=>.bad) else .bad
 |_=>.bad⟩):=id rfl
theorem BU(r:R):frz (some r)=some (.f,r.2):=id rfl
theorem CB:frz none=none:=id rfl
theorem xc(gg:List D->List D->Res R):Dy gg fo fs env=Res.bnd (fo env) (f:=⟨fun p=>Res.bnd (Gx p.2 p.1) (f:=⟨fun d=>match d with
 | .lst _=>Res.bnd (fs p.2) (f:=⟨fun q=>Res.bnd (Gx q.2 p.1) (f:=⟨fun d2=>match d2 with
  | .lst l=>Res.bnd (nL q.2 q.1) (f:=⟨fun ds=>Res.bnd (gg l ds) (f:=⟨fun r=>.ok (r,q.2)⟩)⟩)
  |_=>.bad⟩)⟩)
 |_=>.bad⟩)⟩):=id rfl
theorem y6(g:FX):yH f g env=Res.bnd (f env) (f:=⟨fun p=>Res.bnd (g p.2) (f:=⟨fun q=>match(jx p.1.2).bind cv,q.1.2 with|some ns,.int d=>.ok ((.f,.int (NX.minD ns d)),q.2)|_,_=>.bad⟩)⟩):=id rfl
end
theorem o_isnT(ds:List D):isnO (.tup ds) .non=.ok (.f,.bl true):=id rfl
theorem tH:isnO .non .non=.ok (.f,.bl false):=id rfl
abbrev Fn:=Int×List Nat×Int
def eA(a:Fn):D:=.tup [.int a.1,.str a.2.1,.int a.2.2]
abbrev Nd:=Int×Fq
def met(T:List Fn):List Int:=0::T.map (·.2.2)
def qG(c:Int)(T:List Fn)(a:Fn):List Fn:=if a.1=c/\a.2.2∉met T then T++[a] else T
inductive Run(am:List Fn):Nat->List Fn->Prop where
 |z:Run am 0 []
 |s {i:Nat}{T:List Fn}{c:Int}:Run am i T->(met T)[i]?=some c->Run am (i+1) (am.foldl (qG c) T)
theorem Run.before{am:List Fn}:∀{j:Nat}{T:List Fn},Run am j T->∀i,i<j->∃T',Run am i T'/\i<(met T').length
 | 0,_,_,i,h=>absurd h (Tf _)
 |j+1,_,.s r h,i,hi=>by
  by_cases e:i=j
  ·subst e;exact⟨_,r,(iX h).1⟩
  ·exact Run.before r i (by lia)
structure Bfs(am:List Fn)(i:Nat)(pre:List Fn)(N:List Nd)(T:List Fn):Prop where
 z:N[0]?=some (0,[])
 len:N.length=T.length+1
 nd:(N.map (·.1)).Nodup
 bd:∀n∈N,0<=n.1/\n.1<12
 tr:∀(j:Nat) (a:Fn),T[j]?=some a->a∈am/\∃(k:Nat) (n:Nd),k<=j/\N[k]?=some n/\a.1=n.1/\N[j+1]?=some (a.2.2,n.2++[a.2.1])
 mono:∀(j k:Nat) (n m:Nd),j<=k->N[j]?=some n->N[k]?=some m->n.2.length<=m.2.length
 top:∀n∈N,∀c:Nd,N[i]?=some c->n.2.length<=c.2.length+1
 clo:∀k,k<i->∀n:Nd,N[k]?=some n->∀a∈am,a.1=n.1->∃m∈N,m.1=a.2.2/\m.2.length<=n.2.length+1
 cur:∀a∈pre,∀c:Nd,N[i]?=some c->a.1=c.1->∃m∈N,m.1=a.2.2/\m.2.length<=c.2.length+1
 nm:N.map (·.1)=met T
theorem Bfs.start(am:List Fn):Bfs am 0 [] [(0,[])] []:=by
 refine⟨rfl,rfl,Qw.mpr ⟨Q0,RM⟩,fun n hn=>?_,fun j a h=>by simp at h,fun j k n m _ h1 h2=>?_,fun n hn c hc=>?_,fun k hk=>absurd hk (Tf _),(fun a ha=>nomatch ha),rfl⟩
 ·rw[kq hn];exact⟨VM _,by decide⟩
 ·rw[kq (Qj h1)];exact QJ _
 ·rw[kq hn];exact QJ _
theorem gQ{α:Type}{l:List α}{x:α}{j:Nat}{y:α}(h:l[j]?=some y):(l++[x])[j]?=some y:=by
 rw[List.getElem?_append_left (iX h).1];exact h
theorem eg{α:Type}{l:List α}{x:α}{j:Nat}{y:α}(h:(l++[x])[j]?=some y):l[j]?=some y\/(j=l.length/\y=x):=by
 by_cases hj:j<l.length
 ·rw[List.getElem?_append_left hj]at h;exact .inl h
 ·rw[List.getElem?_append_right (by lia)]at h;by_cases e:j-l.length=0
  ·rw[e]at h;exact .inr ⟨by lia,by simpa using h.symm⟩
  ·rw[List.getElem?_eq_none (by simp;lia)]at h;cases h
theorem Bfs.skip{am:List Fn}{i:Nat}{pre:List Fn}{N:List Nd}{T:List Fn}(b:Bfs am i pre N T){a:Fn}{c:Nd}(hc:N[i]?=some c)(h:a.1≠c.1\/a.2.2∈N.map (·.1)):Bfs am i (pre++[a]) N T:=by
 refine⟨b.z,b.len,b.nd,b.bd,b.tr,b.mono,b.top,b.clo,fun x hx c' HP e=>?_,b.nm⟩;rcases nt hx with hx|hx
 ·exact b.cur x hx c' HP e
 ·rw[kq hx]at e ⊢;rw[hc]at HP;cases HP;rcases h with h|h
  ·exact absurd e h
  ·obtain⟨m,hm,em⟩:=lS h;exact⟨m,hm,em,b.top m hm c hc⟩
theorem Bfs.take{am:List Fn}{i:Nat}{pre:List Fn}{N:List Nd}{T:List Fn}(b:Bfs am i pre N T){a:Fn}{c:Nd}(hc:N[i]?=some c)(ha:a∈am)(KL:0<=a.2.2/\a.2.2<12)(h1:a.1=c.1)(h2:a.2.2∉N.map (·.1)):Bfs am i (pre++[a]) (N++[(a.2.2,c.2++[a.2.1])]) (T++[a]):=by
 have hi:=(iX hc).1;have LP:(c.2++[a.2.1]).length=c.2.length+1:=by rw[j0];rfl
 have up:∀{x:Int}{B:Nat},(∃m∈N,m.1=x/\m.2.length<=B)->∃m∈N++[(a.2.2,c.2++[a.2.1])],m.1=x/\m.2.length<=B:=fun⟨m,hm,q⟩=>⟨m,Qd _ hm,q⟩
 refine⟨gQ b.z,by rw[j0,j0,b.len];rfl,?_,fun n hn=>?_,fun j x hx=>?_,fun j k n m hjk hn hm=>?_,fun n hn c' HP=>?_,fun k hk n hn x hx e=>?_,fun x hx c' HP e=>?_,by unfold met;rw[Qi,Qi,b.nm];rfl⟩
 ·rw[Qi,QF];refine⟨b.nd,Qw.mpr ⟨Q0,RM⟩,fun x hx y hy=>?_⟩;have:y=a.2.2:=by simpa using hy
  rw[this];rintro rfl;exact h2 hx
 ·rcases nt hn with hn|hn
  ·exact b.bd n hn
  ·rw[kq hn];exact KL
 ·rcases eg hx with hx|⟨rfl,rfl⟩
  ·obtain⟨q,k,n,hk,hn,e,J3⟩:=b.tr j x hx;exact⟨q,k,n,hk,gQ hn,e,gQ J3⟩
  ·refine⟨ha,i,c,?_,gQ hc,h1,?_⟩
   ·have:=b.len;lia
   ·rw[<-b.len,List.getElem?_append_right (P9 _),Tp];rfl
 ·rcases eg hn with hn|⟨rfl,rfl⟩
  ·rcases eg hm with hm|⟨rfl,rfl⟩
   ·exact b.mono j k n m hjk hn hm
   ·show n.2.length<=(c.2++[a.2.1]).length;rw[LP];exact b.top n (Qj hn) c hc
  ·rcases eg hm with hm|⟨rfl,rfl⟩
   ·have:=(iX hm).1;lia
   ·exact P9 _
 ·have:c'=c:=by
   rw[gQ hc]at HP;exact(Qu HP).symm
  subst this;rcases nt hn with hn|hn
  ·exact b.top n hn c' hc
  ·rw[kq hn];exact Uq LP
 ·rcases eg hn with hn|⟨rfl,rfl⟩
  ·exact up (b.clo k hk n hn x hx e)
  ·lia
 ·have:c'=c:=by
   rw[gQ hc]at HP;exact(Qu HP).symm
  subst this;rcases nt hx with hx|hx
  ·exact up (b.cur x hx c' hc e)
  ·rw[kq hx];exact⟨_,P7 _ P8,rfl,Uq LP⟩
theorem Bfs.next{am:List Fn}{i:Nat}{N:List Nd}{T:List Fn}(b:Bfs am i am N T){c:Nd}(hc:N[i]?=some c):Bfs am (i+1) [] N T:=by
 refine⟨b.z,b.len,b.nd,b.bd,b.tr,b.mono,fun n hn c' HP=>?_,fun k hk n hn a ha e=>?_,(fun a ha=>nomatch ha),b.nm⟩
 ·have h1:=b.top n hn c hc;have h2:=b.mono i (i+1) c c' (Sg _) hc HP;lia
 ·by_cases hki:k=i
  ·subst hki;rw[hc]at hn;cases hn;exact b.cur a ha c hc e
  ·exact b.clo k (by lia) n hn a ha e
theorem pR:∀(n:Nat) {l:List Int},l.Nodup->(∀x∈l,0<=x/\x<(n:Int))->l.length<=n
 | 0,l,_,hb=>by
  cases l with
  |nil=>exact P9 _
  |cons a l=>have:=hb a P8;lia
 |n+1,l,nd,hb=>by
  have h1:=pR n (l:=l.erase (n:Int)) (nd.erase _) fun x hx=>by
   have h2:=(nd.mem_erase_iff.mp hx)
   have h3:=hb x h2.2;have h4:=h2.1;lia
  have:=List.length_erase_le (a:=(n:Int)) (l:=l);have h5:l.length<=(l.erase (n:Int)).length+1:=by
   by_cases hm:(n:Int)∈l
   ·rw[TM hm];have:=Ul hm;lia
   ·rw[List.erase_of_not_mem hm];lia
  lia
theorem Bfs.le12{am:List Fn}{i:Nat}{pre:List Fn}{N:List Nd}{T:List Fn}(b:Bfs am i pre N T):N.length<=12:=by
 have:=pR 12 b.nd fun x hx=>by
  obtain⟨n,hn,rfl⟩:=lS hx;exact b.bd n hn
 rw[aZ]at this;exact this
theorem tJ(am:List Fn)(i:Nat)(pre:List Fn)(N:List Nd)(T:List Fn)(b:Bfs am i pre N T)(c:Nd)(hc:N[i]?=some c)(a:Fn)(ha:a∈am)(KL:0<=a.2.2/\a.2.2<12):
  ∃N' T',T'=qG c.1 T a/\Bfs am i (pre++[a]) N' T'/\N'[i]?=some c/\dO [some (.f,.lst (am.map eA)),some (.l .f,.lst ((N.map (·.1)).map D.int)),some (.l .f,.lst (T.map eA)),some (.f,.int (i:Int)),some (.f,eA a)]=.ok (.nx [some (.f,.lst (am.map eA)),some (.l .f,.lst ((N'.map (·.1)).map D.int)),some (.l .f,.lst (T'.map eA)),some (.f,.int (i:Int)),some (.f,eA a)]):=by
 have Mt:=b.le12;have FH:=(iX hc).1;have JS:Gw ((N.map (·.1)).map D.int) (i:Int)=some (.int c.1):=dA (by rw[List.getElem?_map,List.getElem?_map,hc];rfl);have z1:((N.map (·.1)).map D.int).length<sizeLine:=gv (by rw[aZ,aZ];lia);have z2:(T.map eA).length<sizeLine:=gv (by rw[aZ];have:=b.len;lia);unfold dO eA;by_cases h1:a.1=c.1
 ·by_cases h2:a.2.2∈N.map (·.1)
  ·refine⟨N,T,by unfold qG;rw[Qf (by rw[<-b.nm];exact fun z=>z.2 h2)],b.skip hc (.inr h2),hc,?_⟩;have e1:(a.1==c.1)=true:=QM.mpr h1;simp only[pv,seval,op,JS,e1,at2,h2,Sm,T6,kg]
  ·refine⟨_,_,by unfold qG;rw[Qa (by rw[<-b.nm];exact⟨h1,h2⟩)],b.take hc ha KL h1 h2,gQ hc,?_⟩;have e1:(a.1==c.1)=true:=QM.mpr h1;have e:(fun a:Fn=>D.tup [D.int a.1,D.str a.2.1,D.int a.2.2])=eA:=rfl;rw[e] at *;simp only[pv,seval,op,JS,e1,at2,h2,R5,Ts,z1,z2,Qi];rfl
 ·refine⟨N,T,by unfold qG;rw[Qf (fun z=>h1 z.1)],b.skip hc (.inl h1),hc,?_⟩;have e1:(a.1==c.1)=false:=Rq.mpr h1;simp only[pv,seval,op,JS,e1,kg]
theorem tL(am:List Fn)(hl:am.length<=1000)(hb:∀a∈am,0<=a.2.2/\a.2.2<12):∃N T,Bfs am N.length [] N T/\Run am N.length T/\cw [.lst (am.map eA)]=.ok (.l .f,.lst (T.map eA)):=by
 unfold cw m6;rw[bo (h:=by rfl)];rw[ay (env':=[some (.f,.lst (am.map eA)),some (.l .f,.lst [.int 0]),none,none,none]) (by simp only[pv,↓reduceIte,Nat.reduceAdd,Nat.reduceLT,Nat.reduceLeDiff,Nat.reduceEqDiff,op])];rw[ay (env':=[some (.f,.lst (am.map eA)),some (.l .f,.lst [.int 0]),some (.l .f,.lst []),none,none]) (by simp only[pv,↓reduceIte,Nat.reduceAdd,Nat.reduceLT,Nat.reduceLeDiff,Nat.reduceEqDiff,op])];rw[ay (env':=[some (.f,.lst (am.map eA)),some (.l .f,.lst [.int 0]),some (.l .f,.lst []),some (.f,.int 0),none]) (by simp only[pv,↓reduceIte,Nat.reduceAdd,Nat.reduceLT,Nat.reduceLeDiff,Nat.reduceEqDiff,op])];obtain⟨env',ew,N,T,i,t4,b,hi,HW,rfl⟩:=ny (c:=(GL (aE JW (aq 3) (ar (bq nN (ag (aq 1) az)))))) (g:=fI)
  (fun k env=>∃N T i t4,Bfs am i [] N T/\i<=N.length/\Run am i T/\k=13-i/\env=[some (.f,.lst (am.map eA)),some (.l .f,.lst ((N.map (·.1)).map D.int)),some (.l .f,.lst (T.map eA)),some (.f,.int ((i:Nat):Int)),t4]) (fun env=>∃N T i t4,Bfs am i [] N T/\i=N.length/\Run am i T/\env=[some (.f,.lst (am.map eA)),some (.l .f,.lst ((N.map (·.1)).map D.int)),some (.l .f,.lst (T.map eA)),some (.f,.int ((i:Nat):Int)),t4]) (by
  rintro k env ⟨N,T,i,t4,b,hi,HW,rfl,rfl⟩;have Mt:=b.le12;by_cases FH:i<N.length
  ·refine .inr ⟨[some (.f,.lst (am.map eA)),some (.l .f,.lst ((N.map (·.1)).map D.int)),some (.l .f,.lst (T.map eA)),some (.f,.int ((i:Nat):Int)),t4],?_,?_⟩
   ·have:(i:Int)<(N.length:Int):=by lia
    simp only[pv,↓reduceIte,Nat.reduceAdd,Nat.reduceLT,Nat.reduceLeDiff,Nat.reduceEqDiff,op,aZ,this,Sm]
   ·obtain⟨c,hc⟩:∃c,N[i]?=some c:=⟨N[i],fA FH⟩
    have NK:=Run.s HW (c:=c.1) (by rw[<-b.nm,List.getElem?_map,hc];rfl);obtain⟨env',ef,N',T',t4',b',HP,eT,rfl⟩:=for_list (a:=au 4) (g:=dO) (e:=eA) am (fun j env=>∃N T2 t4,Bfs am i (am.take j) N T2/\N[i]?=some c/\T2=(am.take j).foldl (qG c.1) T/\env=[some (.f,.lst (am.map eA)),some (.l .f,.lst ((N.map (·.1)).map D.int)),some (.l .f,.lst (T2.map eA)),some (.f,.int ((i:Nat):Int)),t4]) (by
     rintro j a env hj ⟨N,T2,t4,b,hc,eT,rfl⟩;have Of:=Qj hj;obtain⟨N',T',eT',b',HP,e⟩:=tJ am i _ N T2 b c hc a Of (hb a Of);have ht:am.take (j+1)=am.take j++[a]:=by rw[Rt,hj];rfl
     exact⟨_,rfl,_,e,N',T',some (.f,eA a),by rw[ht];exact b',HP,by rw[eT',eT,ht,Tz];rfl,rfl⟩) _ ⟨N,T,t4,by rw[Tr];exact b,hc,by rw[Tr];rfl,rfl⟩
    rw[RA]at b' eT;have hlt':=(iX HP).1;refine⟨_,13-(i+1),?_,by lia,N',T',i+1,t4',b'.next HP,by lia,by rw[eT];exact NK,rfl,rfl⟩;unfold fI;rw[ay (env':=_) (by
     unfold jL;simp only[pv,↓reduceIte,Nat.reduceAdd,Nat.reduceLT,Nat.reduceLeDiff,Nat.reduceEqDiff,op];exact ef)]
    unfold iO;simp only[pv,↓reduceIte,Nat.reduceAdd,Nat.reduceLT,Nat.reduceLeDiff,Nat.reduceEqDiff,op,Int.natCast_add,U7]
  ·refine .inl ⟨_,?_,N,T,i,t4,b,by lia,HW,rfl⟩;have:¬ (i:Int)<(N.length:Int):=by lia
   simp only[pv,↓reduceIte,Nat.reduceAdd,Nat.reduceLT,Nat.reduceLeDiff,Nat.reduceEqDiff,op,aZ,this,R5]) 100000 13 _ (by decide) ⟨[(0,[])],[],0,none,Bfs.start am,QJ _,.z,rfl,rfl⟩
 subst hi;rw[ay (env':=_) (by
  unfold jM;exact ew)]
 unfold iP;exact⟨N,T,b,HW,by simp only[pv,↓reduceIte,Nat.reduceAdd,Nat.reduceLT,Nat.reduceLeDiff,Nat.reduceEqDiff,op]⟩
def Fv(nZ:Fq)(am:List Fn):D:=.tup [.tup (nZ.map D.str),.lst (am.map eA)]
theorem oO(a:Fn)(t1 t2 t3:Option R)(dI:PV.Env):gm 3 (aB (au 0) (aB (au 1) (aB (au 2) cq))) (eA a) (t1::t2::t3::dI)=.ok (some (.f,.int a.1)::some (.f,.str a.2.1)::some (.f,.int a.2.2)::dI):=by
 unfold eA;rw[Jt,Qa (by simp),Gi,GJ,Qa (by simp),Gh,Gi,GJ,Qa (by simp),Gh,Gi,GJ,Qa (by simp),Gh];rfl
theorem tM(l:List Int):(jx (.lst (l.map D.int))).bind cv=some l:=il l
def pS(a:Fn):Int:=if a.1<a.2.2 then a.2.2 else a.1
def aX(am:List Fn):Int:=1+NX.maxD (am.map pS) 0
theorem vT{α:Type}{f:α->D}{l:List α}(h:∀a,flatD (f a)=true):flatDs (l.map f)=true:=by
 rw[bh,Rf,Qp];intro a _;exact h a
theorem oP(nZ:Fq)(am:List Fn)(hl:am.length<=16777216):c8 [Fv nZ am]=.ok (.f,.int (aX am)):=by
 unfold c8 jK;rw[bo (h:=by rfl)];simp only[pv,seval,op,Fv];rw[aW (r:=fun a:Fn=>D.int (pS a)) (fun env=>∃t1 t2 t3,env=[t1,t2,t3]) am ?_ _ ⟨_,_,_,rfl⟩]
 ·rw[Gh,Qa (aM (by rw[aZ];exact hl)),Gh,vT fun a=>jg _];simp only[pv,seval,op];have e:(some (am.map fun a=>D.int (pS a))).bind cv=some (am.map pS):=by
   have:=tM (am.map pS);rw[Qe]at this;exact this
  rw[e];rfl
 ·rintro a _ env ⟨t1,t2,t3,rfl⟩;refine⟨_,oO a t1 t2 t3 _,?_⟩;simp only[pv,seval,op];exact⟨_,_,rfl,_,_,_,rfl⟩
def pT(n:Nd):D:=.tup (n.2.map D.str)
theorem oQ:∀(N:List Nd) (k:Nat) (n:Nd),(N.map (·.1)).Nodup->N[k]?=some n->getD (N.map fun n=>D.int n.1) (N.map pT) (.int n.1)=some (pT n)
 |[],_,_,_,h=>by simp at h
 |m::N,0,n,_,h=>by
  simp at h;subst h;unfold getD;rw[dH,dH,Rz,List.find?_cons_of_pos (by show Fj (.int m.1) (.int m.1)=true;rw[Fj];exact QZ _)];rfl
 |m::N,k+1,n,nd,h=>by
  rw[List.getElem?_cons_succ]at h;rw[dH,Qw]at nd;have ih:=oQ N k n nd.2 h;unfold getD at ih ⊢;have IA:n.1≠m.1:=fun e=>nd.1 (by rw[<-e];exact QD.mpr ⟨n,Qj h,rfl⟩)
  rw[dH,dH,Rz,List.find?_cons_of_neg (by show ¬ Fj (.int n.1) (.int m.1)=true;rw[Fj,QM];exact IA)];exact ih
theorem y7(N:List Nd)(n:Nd)(h:n.1∉N.map (·.1)):qw (N.map fun n=>D.int n.1) (N.map pT) (.int n.1) (pT n)=((N++[n]).map (fun n=>D.int n.1),(N++[n]).map pT):=by
 have e:(N.map fun n=>D.int n.1).any (Fj (.int n.1))=false:=by
  rw[RN,List.any_eq_false];intro m hm;show ¬ Fj (.int n.1) (.int m.1)=true;rw[Fj,QM];intro e;exact h (by rw[e];exact QD.mpr ⟨m,hm,rfl⟩)
 unfold qw;rw[e,Qf Qb,Qi,Qi];rfl
theorem y8(a:Fn):flatD (eA a)=true:=rfl
theorem tP(as:List Fn):flatDs (as.map eA)=true:=by
 rw[bh,Rf,Qp];exact fun p _=>y8 p
theorem Ei(w:Fq)(m:List Nat)(h:w.length<=1000):cU (.tup (w.map D.str)) (.tup [.str m])=.ok (.f,.tup ((w++[m]).map D.str)):=by
 rw[y2,Qa (.inl (line_le (by rw[aZ,Ql,Rj];lia))),Qi];rfl
structure Found(am:List Fn)(N:List Nd):Prop where
 z:N[0]?=some (0,[])
 nd:(N.map (·.1)).Nodup
 le:N.length<=12
 bd:∀n∈N,0<=n.1/\n.1<12
 wl:∀n∈N,n.2.length<=12
 par:∀n∈N,n=(0,[])\/∃a∈am,∃m∈N,a.1=m.1/\n=(a.2.2,m.2++[a.2.1])
 clo:∀n∈N,∀a∈am,a.1=n.1->∃m∈N,m.1=a.2.2/\m.2.length<=n.2.length+1
theorem Bfs.wlen{am:List Fn}{i:Nat}{pre:List Fn}{N:List Nd}{T:List Fn}(b:Bfs am i pre N T):∀(j:Nat) (n:Nd),N[j]?=some n->n.2.length<=j:=by
 intro j;induction j using Nat.strongRecOn with
 |_ j ih=>
  intro n hn;cases j with
  |zero=>
   rw[b.z]at hn;cases hn;exact P9 _
  |succ j=>
   have FH:=(iX hn).1;have hl:=b.len;obtain⟨_,k,m,hk,hm,_,J3⟩:=b.tr j T[j] (fA (by lia));rw[hn]at J3;cases J3;have:=ih k (by lia) m hm;show(m.2++[_]).length<=_;rw[j0,Ql,Rj];lia
theorem Bfs.found{am:List Fn}{N:List Nd}{T:List Fn}(b:Bfs am N.length [] N T):Found am N:=by
 refine⟨b.z,b.nd,b.le12,b.bd,fun n hn=>?_,fun n hn=>?_,fun n hn a ha e=>?_⟩
 ·obtain⟨j,hj⟩:=Qt.mp hn;have:=b.wlen j n hj;have:=(iX hj).1;have:=b.le12;lia
 ·obtain⟨j,hj⟩:=Qt.mp hn;cases j with
  |zero=>
   rw[b.z]at hj;cases hj;exact .inl rfl
  |succ j=>
   have FH:=(iX hj).1;have hl:=b.len;obtain⟨ha,k,m,hk,hm,e,J3⟩:=b.tr j T[j] (fA (by lia));rw[hj]at J3;cases J3;exact .inr ⟨_,ha,m,Qj hm,e,rfl⟩
 ·obtain⟨j,hj⟩:=Qt.mp hn;exact b.clo j (iX hj).1 n hj a ha e
def ba(N:List Nd)(s:Int):Fq:=((N.find? fun n=>n.1==s).map (·.2)).getD []
theorem pU{N:List Nd}(nd:(N.map (·.1)).Nodup){n:Nd}(h:n∈N):ba N n.1=n.2:=by
 unfold ba;induction N with
 |nil=>cases h
 |cons m N ih=>
  rw[dH,Qw]at nd;rcases Qh.mp h with rfl|h
  ·rw[List.find?_cons_of_pos (by exact QZ _)];rfl
  ·have IA:m.1≠n.1:=fun e=>nd.1 (by rw[e];exact QD.mpr ⟨n,h,rfl⟩)
   rw[List.find?_cons_of_neg (by simpa using IA)];exact ih nd.2 h
theorem tR(nZ:Fq)(am:List Fn)(hl:am.length<=1000)(hb:∀a∈am,0<=a.2.2/\a.2.2<12)(all:∀N,Found am N->∀s:Int,0<=s->s<aX am->s∈N.map (·.1))(hs:0<=aX am/\aX am<=100):
  ∃N T,Bfs am N.length [] N T/\Run am N.length T/\cw [.lst (am.map eA)]=.ok (.l .f,.lst (T.map eA))/\b0 [Fv nZ am]=.ok (.l .f,.lst ((List.range (aX am).toNat).map fun(s:Nat)=>.tup ((ba N (s:Int)).map D.str))):=by
 obtain⟨N,T,b,HW,et⟩:=tL am hl hb;refine⟨N,T,b,HW,et,?_⟩;have F:=b.found;unfold b0 m7;rw[bo (h:=by rfl)];rw[ay (env':=[some (.f,Fv nZ am),some (.d,.dct false [.int 0] [.tup []]),none,none,none]) (by simp only[pv,↓reduceIte,Nat.reduceAdd,Nat.reduceLT,Nat.reduceLeDiff,Nat.reduceEqDiff,op])];have hlen:=b.len;have Mt:=F.le;obtain⟨env',ef,t2,t3,t4,rfl⟩:=for_list (a:=gm 3 (aB (au 2) (aB (au 3) (aB (au 4) cq)))) (g:=fJ) (e:=eA) T (fun j env=>∃t2 t3 t4,env=[some (.f,Fv nZ am),some (.d,.dct false ((N.take (j+1)).map fun n=>D.int n.1) ((N.take (j+1)).map pT)),t2,t3,t4]) (by
  rintro j a env hj ⟨t2,t3,t4,rfl⟩;refine⟨[some (.f,Fv nZ am),some (.d,.dct false ((N.take (j+1)).map fun n=>D.int n.1) ((N.take (j+1)).map pT)),some (.f,.int a.1),some (.f,.str a.2.1),some (.f,.int a.2.2)],rfl,_,?_,some (.f,.int a.1),some (.f,.str a.2.1),some (.f,.int a.2.2),rfl⟩;obtain⟨_,k,n,hk,hn,e,J3⟩:=b.tr j a hj;have ht:N.take (j+1+1)=N.take (j+1)++[(a.2.2,n.2++[a.2.1])]:=by rw[Rt,J3];rfl
  have ndt:((N.take (j+1)).map (·.1)).Nodup:=by rw[So];exact F.nd.take
  have Oa:(N.take (j+1))[k]?=some n:=by rw[List.getElem?_take_of_lt (by lia)];exact hn
  have hg:=oQ (N.take (j+1)) k n ndt Oa;have KS:a.2.2∉(N.take (j+1)).map (·.1):=by
   have PJ:((N.take (j+1+1)).map (·.1)).Nodup:=by rw[So];exact F.nd.take
   rw[ht,Qi,QF]at PJ;intro hm;exact PJ.2.2 _ hm a.2.2 (by simp) rfl
  have hp:=y7 (N.take (j+1)) (a.2.2,n.2++[a.2.1]) KS;have hw:=F.wl n (Qj hn);have ha:=Ei n.2 a.2.1 (by lia);have hd:KU (.dct false ((N.take (j+1)).map fun n=>D.int n.1) ((N.take (j+1)).map pT)) (.int a.1)=.ok (.f,.tup (n.2.map D.str)):=by
   unfold KU;dsimp only;rw[Qa (show d8 false (.int a.1)=true from rfl),e,hg];rfl
  have hz:(decide (((N.take (j+1)).map fun n=>D.int n.1).length<sizeLine))=true:=Q9 (gv (by rw[aZ,Qy];lia));unfold pT at hp;dsimp only at hp;have ew:(fun n:Nd=>D.tup (n.2.map D.str))=pT:=rfl;rw[ew]at hp;rw[ht];unfold fJ;simp only[pv,↓reduceIte,Nat.reduceAdd,Nat.reduceLT,Nat.reduceLeDiff,Nat.reduceEqDiff,op,hd,ha,hz,SK,hp]) _ ⟨none,none,none,rfl⟩
 rw[show N.take (T.length+1)=N by rw[<-hlen];exact RA]at ef;have h0:N.take (0+1)=[(0,[])]:=by rw[Rt,F.z];rfl
 rw[h0]at ef;rw[ay (env':=_) (by
  unfold jN;unfold Fv at ef ⊢;simp only[pv,↓reduceIte,Nat.reduceAdd,Nat.reduceLT,Nat.reduceLeDiff,Nat.reduceEqDiff,op,et,tP];exact ef)]
 clear ef;unfold iQ;have JU:=oP nZ am (by lia);have hc:bX (au 0) cW (aE KU (aq 1) (aq 0)) ((List.range (aX am).toNat).map fun(k:Nat)=>D.int (k:Int)) [none,some (.f,.dct false (N.map fun n=>D.int n.1) (N.map pT))]=.ok ((List.range (aX am).toNat).map fun(s:Nat)=>.tup ((ba N (s:Int)).map D.str)):=by
  refine aW (r:=fun s:Nat=>D.tup ((ba N (s:Int)).map D.str)) (fun env=>∃t1,env=[t1,some (.f,.dct false (N.map fun n=>D.int n.1) (N.map pT))]) (List.range (aX am).toNat) ?_ _ ⟨_,rfl⟩;rintro s hs2 env ⟨t1,rfl⟩;rw[QC]at hs2;obtain⟨n,hn,en⟩:=lS (all N F (s:Int) (by lia) (by lia));obtain⟨k,hk⟩:=Qt.mp hn;have hd:KU (.dct false (N.map fun n=>D.int n.1) (N.map pT)) (.int (s:Int))=.ok (.f,.tup ((ba N (s:Int)).map D.str)):=by
   unfold KU;dsimp only;rw[Qa (show d8 false (.int (s:Int))=true from rfl),<-en,oQ N k n F.nd hk,pU F.nd hn];rfl
  refine⟨[some (.f,.int (s:Int)),some (.f,.dct false (N.map fun n=>D.int n.1) (N.map pT))],rfl,?_⟩;simp only[pv,↓reduceIte,Nat.reduceAdd,Nat.reduceLT,Nat.reduceLeDiff,Nat.reduceEqDiff,op,hd];exact⟨_,_,rfl,_,rfl⟩
 have hf:flatDs ((List.range (aX am).toNat).map fun(s:Nat)=>D.tup ((ba N (s:Int)).map D.str))=true:=by
  rw[bh,Rf,Qp];intro s _;show flatD (.tup _)=true;rw[cA,PV.flat_strs]
 unfold Fv at JU;simp only[pv,↓reduceIte,Nat.reduceAdd,Nat.reduceLT,Nat.reduceLeDiff,Nat.reduceEqDiff,op,JU];rw[Qa (by lia)];simp only[pv,↓reduceIte,Nat.reduceAdd,Nat.reduceLT,Nat.reduceLeDiff,Nat.reduceEqDiff,op,hc];rw[Qa (aM (by rw[aZ,Qr];lia)),hf];simp only[pv,↓reduceIte,Nat.reduceAdd,Nat.reduceLT,Nat.reduceLeDiff,Nat.reduceEqDiff,op]
def ak(a:Fn):List Key:=[.inl a.1,.inr (S a.2.1),.inl a.2.2]
def dj(a b:Fn):Bool:=dJ (ak a) (ak b)
theorem S_inj{a b:List Nat}(h:S a=S b):a=b:=by
 have:=Rg (fun s:Str=>s.cps.toList) h;simpa only[dC] using this
theorem DL(a:Fn):kT (ak a)=eA a:=by
 unfold kT ak eA;simp only[dH,QV,kD,dC]
theorem tS{α β:Type}(f:α->β)(lt:β->β->Bool)(x:α):∀l:List α,ins lt (f x) (l.map f)=(ins (fun a b=>lt (f a) (f b)) x l).map f
 |[]=>rfl
 |y::ys=>by
  rw[dH,ins,ins];cases lt (f y) (f x) with
  |true=>rw[Qa rfl,Qa rfl,tS f lt x ys,dH]
  |false=>rw[Qf Qb,Qf Qb,dH,dH]
theorem nE{α β:Type}(f:α->β)(lt:β->β->Bool):∀l:List α,bI lt (l.map f)=(bI (fun a b=>lt (f a) (f b)) l).map f
 |[]=>rfl
 |x::l=>by
  show ins lt (f x) (bI lt (l.map f))=_;rw[nE f lt l,tS];rfl
theorem tU(as:List Fn):as.map eA=(as.map ak).map kT:=by
 rw[Qe];exact QK fun a _=>(DL a).symm
theorem BV(a b:Fn):Fj (eA a) (eA b)=decide (a=b):=by
 obtain⟨x,y,z⟩:=a;obtain⟨x',y',z'⟩:=b;unfold eA;simp only[Fj,iq];rw[Qv];simp
theorem fV:∀(l:List Int) (b:Int),b<=l.foldl max b/\(∀x∈l,x<=l.foldl max b)/\(l.foldl max b=b\/l.foldl max b∈l)
 |[],b=>⟨VM _,fun _ h=>(nomatch h),.inl rfl⟩
 |a::l,b=>by
  obtain⟨h1,h2,h3⟩:=fV l (max b a);rw[R9];refine⟨by lia,fun x hx=>?_,?_⟩
  ·rcases Qh.mp hx with rfl|hx
   ·lia
   ·exact h2 x hx
  ·rcases h3 with h3|h3
   ·rw[h3];by_cases h:b<=a
    ·exact .inr (by rw[Int.max_eq_right h];exact P8)
    ·exact .inl (Int.max_eq_left (by lia))
   ·exact .inr (Qg _ h3)
theorem pV{ns:List Int}{x:Int}(h:x∈ns):x<=mx ns:=(fV ns _).2.1 x h
theorem vU{ns:List Int}(h:ns≠[]):mx ns∈ns:=by
 cases ns with
 |nil=>exact absurd rfl h
 |cons a l=>
  rcases(fV (a::l) a).2.2 with e|e
  ·show List.foldl max a (a::l)∈a::l;rw[e];exact P8
  ·exact e
theorem y9{ns:List Int}{d x:Int}(h:x∈ns):x<=NX.maxD ns d:=by
 unfold NX.maxD;rw[Qf (SM h)];exact pV h
theorem tV(ns:List Int)(d:Int):(ns=[]/\NX.maxD ns d=d)\/NX.maxD ns d∈ns:=by
 unfold NX.maxD;by_cases h:ns=[]
 ·exact .inl ⟨h,Qa h⟩
 ·rw[Qf h];exact .inr (vU h)
theorem oR(a:Fn):a.1<=pS a/\a.2.2<=pS a/\(pS a=a.1\/pS a=a.2.2):=by
 unfold pS;split
 ·exact⟨by lia,by lia,.inr rfl⟩
 ·exact⟨by lia,by lia,.inl rfl⟩
theorem tW{am:List Fn}{a:Fn}(h:a∈am):a.1<aX am/\a.2.2<aX am:=by
 have h1:=y9 (d:=0) (QD.mpr ⟨a,h,rfl⟩:pS a∈am.map pS);obtain⟨h2,h3,_⟩:=oR a;unfold aX;lia
theorem qH{am:List Fn}(h:∀a∈am,0<=a.1/\0<=a.2.2):1<=aX am:=by
 unfold aX;rcases tV (am.map pS) 0 with⟨_,e⟩|e
 ·lia
 ·obtain⟨a,ha,e2⟩:=lS e;have:=h a ha;obtain⟨h1,h2,_⟩:=oR a;lia
theorem j6{α:Type}(lt:α->α->Bool){l:List α}{a:α}:a∈bI lt l<->a∈l:=(du lt l).mem_iff
theorem Found.zero{am:List Fn}{N:List Nd}(F:Found am N):(0:Int)∈N.map (·.1):=QD.mpr ⟨(0,[]),Qj F.z,rfl⟩
structure Ch(nZ:Fq)(am:List Fn):Prop where
 al:am.length<=60
 bd:∀a∈am,(0<=a.1/\a.1<12)/\0<=a.2.2/\a.2.2<12
 nm:∀a∈am,a.2.1∈nZ
 st:1<=aX am/\aX am<=12
 all:∀N,Found am N->∀s:Int,0<=s->s<aX am->s∈N.map (·.1)
structure Ra(nZ:Fq)(as:List Fn)(many:Nat):Prop where
 mm:1<=many/\many<=12
 len:as.length<=60
 bd:∀a∈as,(0<=a.1/\a.1<(many:Int))/\0<=a.2.2/\a.2.2<(many:Int)
 nm:∀a∈as,a.2.1∈nZ
 rc:∀j:Nat,1<=j->j<many->∃a∈as,a.2.2=(j:Int)/\∃b:Nat,b<j/\a.1=(b:Int)
theorem nF{am:List Fn}{many:Nat}(hm:1<=many)(h:∀a∈am,(0<=a.1/\a.1<(many:Int))/\0<=a.2.2/\a.2.2<(many:Int)):1<=aX am/\aX am<=(many:Int):=by
 refine⟨qH fun a ha=>?_,?_⟩
 ·have:=h a ha;lia
 ·unfold aX;rcases tV (am.map pS) 0 with⟨_,e⟩|e
  ·lia
  ·obtain⟨a,ha,e2⟩:=lS e;have:=h a ha;obtain⟨h1,h2,h3⟩:=oR a;lia
theorem Ra.sort{nZ:Fq}{as:List Fn}{many:Nat}(r:Ra nZ as many):Ra nZ (bI dj as) many:=by
 have mem:∀{a:Fn},a∈bI dj as<->a∈as:=j6 dj;refine⟨r.mm,by rw[j3];exact r.len,fun a ha=>r.bd a (mem.mp ha),fun a ha=>r.nm a (mem.mp ha),fun j h1 h2=>?_⟩;obtain⟨a,ha,q⟩:=r.rc j h1 h2;exact⟨a,mem.mpr ha,q⟩
theorem Ra.ch{nZ:Fq}{as:List Fn}{many:Nat}(r:Ra nZ as many):Ch nZ as:=by
 have hm:=r.mm;have JU:=nF hm.1 r.bd;refine⟨r.len,fun a ha=>?_,r.nm,by lia,fun N F s h0 h1=>?_⟩
 ·have:=r.bd a ha;lia
 ·have key:∀j:Nat,j<many->(j:Int)∈N.map (·.1):=by
   intro j;induction j using Nat.strongRecOn with
   |_ j ih=>
    intro hj;cases j with
    |zero=>exact F.zero
    |succ j=>
     obtain⟨a,ha,e1,b,hbj,e2⟩:=r.rc (j+1) (by lia) hj;obtain⟨n,hn,en⟩:=lS (ih b hbj (by lia));obtain⟨m,hm,em,_⟩:=F.clo n hn a ha (by rw[e2,en]);exact QD.mpr ⟨m,hm,by rw[em,e1]⟩
  obtain⟨k,rfl⟩:=Q7 h0;exact key k (by lia)
theorem za(as:List Fn)(h:as.length<64):fG [.lst (as.map eA)]=.ok (.l .f,.lst ((bI dj as).map eA)):=by
 have key:jD (as.map eA)=some ((bI dj as).map eA):=by
  cases as with
  |nil=>rfl
  |cons a as=>
   have e1:iL ((a::as).map eA)=some ((a::as).map ak):=by rw[tU,ir]
   have e2:sameKinds (ak a) (as.map ak)=true:=by
    unfold sameKinds;rw[Rf,Qo,Qp];exact⟨rfl,fun b _=>rfl⟩
   unfold jD;rw[e1,dH,dH];dsimp only[eA,cv,d7];rw[Qa e2,<-dH,nE ak dJ,tU];rfl
 unfold fG;dsimp only;rw[Qa (by rw[aZ];exact h),key]
def cell(ns:List Int)(k:Nat):Int:=ns.getD k 0
theorem nG(ns:List Int)(k:Nat):aJ [.lst (ns.map D.int),.int (k:Int)]=.ok (.f,.int (cell ns k)):=by
 unfold aJ gA cell;rw[bo (h:=by rfl)];simp only[pv,seval,op,aZ];by_cases h:k<ns.length
 ·have h1:(k:Int)<(ns.length:Int):=by lia
  simp only[h1,Sm,pv,seval,kN h]
 ·have h1:¬ (k:Int)<(ns.length:Int):=by lia
  simp only[h1,R5,pv,seval,kg,List.getD_eq_getElem?_getD,List.getElem?_eq_none (Nat.le_of_not_lt h),T8]
theorem BW(x y:Int)(h:b9 x=true):yx (.int x) (.int y)=.ok (.f,.int (x*y)):=by rw[tq,h,Bool.true_or,Qa rfl]
theorem CC(x y:Int)(h:b9 y=true):yx (.int x) (.int y)=.ok (.f,.int (x*y)):=by rw[tq,h,Bool.or_true,Qa rfl]
theorem pW(x:Int)(h:0<=x)(h2:x<=4294967296):b9 x=true:=by
 unfold b9;rw[Qm];lia
def vV(c k:Int):Int:=((((c%2147483647+48271*(k+1))*(c%2147483647+48271*(k+1))+69621*k)%2147483647)*(((c%2147483647+48271*(k+1))*(c%2147483647+48271*(k+1))+69621*k)%2147483647)+16807*k+1)%2147483647
theorem oS(c k:Int)(hk:0<=k)(Oa:k<=1000):aT [.int c,.int k]=.ok (.f,.int (vV c k)):=by
 have b1:=gu c 2147483647 (by decide);have b2:=gu ((c%2147483647+48271*(k+1))*(c%2147483647+48271*(k+1))+69621*k) 2147483647 (by decide);unfold aT iT vV;rw[bo (h:=by rfl)];rw[ay (env':=[some (.f,.int c),some (.f,.int k),some (.f,.int (c%2147483647+48271*(k+1)))]) (by simp only[pv,↓reduceIte,Nat.reduceAdd,Nat.reduceLT,Nat.reduceLeDiff,Nat.reduceEqDiff,op,kO _ 2147483647 (by decide),BW 48271 (k+1) (by decide)])];have hs:b9 (c%2147483647+48271*(k+1))=true:=pW _ (by lia) (by lia);generalize c%2147483647+48271*(k+1)=x at *;rw[ay (env':=[some (.f,.int c),some (.f,.int k),some (.f,.int ((x*x+69621*k)%2147483647))]) (by simp only[pv,↓reduceIte,Nat.reduceAdd,Nat.reduceLT,Nat.reduceLeDiff,Nat.reduceEqDiff,op,kO _ 2147483647 (by decide),BW x x hs,BW 69621 k (by decide)])];generalize (x*x+69621*k)%2147483647=y at *;have hs:b9 y=true:=pW _ (by lia) (by lia);simp only[pv,↓reduceIte,Nat.reduceAdd,Nat.reduceLT,Nat.reduceLeDiff,Nat.reduceEqDiff,op,kO _ 2147483647 (by decide),BW y y hs,BW 16807 k (by decide)]
theorem pX:∀l:List Nat,joinL [] (l.map fun c=>[c])=l
 |[]=>rfl
 |[c]=>rfl
 |c::d::l=>by
  have ih:=pX (d::l);show[c]++[]++joinL [] ((d::l).map fun c=>[c])=_;rw[ih];rfl
theorem tX:∀l:List Nat,((l.map fun c=>[c]).map List.length).sum=l.length
 |[]=>rfl
 |c::l=>by
  rw[dH,dH,TZ,tX l];show 1+l.length=l.length+1;lia
theorem zb(l:List Nat)(h:l.length<=1000):sQ [] [.lst ((l.map fun c=>[c]).map D.str)]=.ok (.f,.str l):=by
 unfold sQ;dsimp only;rw[dw];dsimp only;rw[Qa (by rw[tX,Rj,Nat.mul_zero];lia),pX]
theorem tY(a:List Nat)(l:Fq):JV (.str a) (.lst (l.map D.str))=.ok (.f,.bl (decide (a∈l))):=by
 unfold JV;dsimp only;rw[qF,vN,plainD];all_goals simp
def JX(base:List Int)(wd sp:Nat)(tk:Bool)(k:Nat):List Int:=if tk then base.take (k+1) else(base.take wd).set sp ((base.getD sp 0+(k:Int))%26)
def HX(base:List Int)(wd sp:Nat)(tk:Bool)(k:Nat):List Nat:=(JX base wd sp tk k).map fun j=>97+j.toNat
theorem zc(l:List Int)(hb:∀j∈l,0<=j/\j<26):bX (au 0) cW (aE FF (aq 1) (aq 0)) (l.map D.int) [none,some (.f,.str HV)]=.ok (((l.map fun j=>97+j.toNat).map fun c=>[c]).map D.str):=by
 rw[aW (r:=fun j:Int=>D.str [97+j.toNat]) (fun env=>∃t,env=[t,some (.f,.str HV)]) l ?_ _ ⟨none,rfl⟩]
 ·rw[Qe,Qe];rfl
 ·rintro j hj env ⟨t,rfl⟩;obtain⟨h0,h1⟩:=hb j hj;refine⟨[some (.f,.int j),some (.f,.str HV)],rfl,.f,[some (.f,.int j),some (.f,.str HV)],?_,_,rfl⟩;simp only[pv,seval,op,BR j h0 h1]
theorem DM(base:List Int)(hb:∀j∈base,0<=j/\j<26)(wd sp:Nat)(tk:Bool)(k:Nat):∀j∈JX base wd sp tk k,0<=j/\j<26:=by
 intro j hj;unfold JX at hj;split at hj
 ·exact hb j (Sr hj)
 ·rcases List.mem_or_eq_of_mem_set hj with h|h
  ·exact hb j (Sr h)
  ·rw[h];exact gu _ _ (by decide)
theorem tZ(base:List Int)(hl:base.length=8)(wd sp:Nat)(tk:Bool)(k:Nat):(JX base wd sp tk k).length<=8:=by
 unfold JX;split
 ·rw[Qy];lia
 ·rw[R8,Qy];lia
theorem BX(F9:Int)(base:List Int)(hl:base.length=8)(hb:∀j∈base,0<=j/\j<26)(wd sp:Nat)(hw:wd<=8)(hs:sp<wd)(tk:Bool)(Og:(F9 / 64%4==1)=tk)(l:Fq)(hll:l.length<=10)(k:Nat)(t7:Option R):
  ∃u7,cS [some (.f,.int F9),some (.f,.str HV),some (.l .f,.lst (base.map D.int)),some (.f,.int (wd:Int)),some (.f,.int (sp:Int)),some (.l .f,.lst (l.map D.str)),some (.f,.int (k:Int)),t7]=.ok (.nx [some (.f,.int F9),some (.f,.str HV),some (.l .f,.lst (base.map D.int)),some (.f,.int (wd:Int)),some (.f,.int (sp:Int)),some (.l .f,.lst ((l++[HX base wd sp tk k]).map D.str)),some (.f,.int (k:Int)),u7]):=by
 have Mu:gS (base.map D.int) none (some (wd:Int))=(base.take wd).map D.int:=by rw[lT,So]
 have JS:Gw ((base.take wd).map D.int) (sp:Int)=some (.int (base.getD sp 0)):=by
  rw[kN (by rw[Qy];lia)];congr 2
  rw[List.getD_eq_getElem?_getD,List.getD_eq_getElem?_getD,List.getElem?_take_of_lt hs]
 have Hj:ixN (base.take wd).length (sp:Int)=some sp:=tG _ _ (by rw[Qy];lia);have Mv:=tZ base hl wd sp tk k;have Lm:=zc (JX base wd sp tk k) (DM base hb wd sp tk k);have hj:=zb (HX base wd sp tk k) (by unfold HX;rw[aZ];lia);have hz:(l.map D.str).length<sizeLine:=gv (by rw[aZ];lia);have hzl:(((HX base wd sp tk k).map fun c=>[c]).map D.str).length<=sizeLine:=aM (by unfold HX;rw[aZ,aZ,aZ];lia);have IC:=PV.flat_strs ((HX base wd sp tk k).map fun c=>[c]);have Lm:bX (au 0) cW (aE FF (aq 1) (aq 0)) ((JX base wd sp tk k).map D.int) [none,some (.f,.str HV)]=.ok (((HX base wd sp tk k).map fun c=>[c]).map D.str):=Lm;unfold cS;rw[ay (env':=[some (.f,.int F9),some (.f,.str HV),some (.l .f,.lst (base.map D.int)),some (.f,.int (wd:Int)),some (.f,.int (sp:Int)),some (.l .f,.lst (l.map D.str)),some (.f,.int (k:Int)),some (.l .f,.lst ((base.take wd).map D.int))]) (by simp only[pv,seval,op,Mu])];rw[ay (env':=[some (.f,.int F9),some (.f,.str HV),some (.l .f,.lst (base.map D.int)),some (.f,.int (wd:Int)),some (.f,.int (sp:Int)),some (.l .f,.lst (l.map D.str)),some (.f,.int (k:Int)),some (.l .f,.lst (((base.take wd).set sp ((base.getD sp 0+(k:Int))%26)).map D.int))]) (by
  rw[List.map_set];simp only[pv,seval,op,JS,kO _ 26 (by decide),aZ,Hj])]
 rw[ay (env':=[some (.f,.int F9),some (.f,.str HV),some (.l .f,.lst (base.map D.int)),some (.f,.int (wd:Int)),some (.f,.int (sp:Int)),some (.l .f,.lst (l.map D.str)),some (.f,.int (k:Int)),some (.l .f,.lst ((JX base wd sp tk k).map D.int))]) (by
  unfold JX;cases tk with
  |true=>
   have NL:gS (base.map D.int) none (some ((k:Int)+1))=(base.take (k+1)).map D.int:=by rw[show(k:Int)+1=((k+1:Nat):Int) by lia,lT,So]
   simp only[pv,seval,op,i6 _ 64 (by decide) (by decide),kO _ 4 (by decide),Og,NL]
  |false=>simp only[pv,seval,op,i6 _ 64 (by decide) (by decide),kO _ 4 (by decide),Og,kg])]
 refine⟨some (.l .f,.lst ((JX base wd sp tk k).map D.int)),?_⟩;generalize JX base wd sp tk k=W at *;generalize HX base wd sp tk k=V at *;rw[Qi,dH,QV];generalize (aE FF (aq 1) (aq 0))=GG at Lm ⊢;simp only[pv,seval,op,Lm,hzl,IC,hj,hz]
theorem zd(base:List Int)(hl:base.length=8)(hb:∀j∈base,0<=j/\j<26)(wd sp:Nat)(hw:wd<=8)(hs:sp<wd)(tk:Bool)(k k':Nat)(hk:k<=5)(hk':k'<=5)(e:HX base wd sp tk k=HX base wd sp tk k'):k=k':=by
 unfold HX JX at e;cases tk with
 |true=>
  have:=Rg List.length e;simp only[SF,aZ,Qy]at this;lia
 |false=>
  have e2:=Rg (fun l=>l[sp]?) e;have FH:sp<(base.take wd).length:=by rw[Qy];lia
  simp only[kg,SS,List.getElem?_map,List.getElem?_set_self FH,Sn,TN]at e2;have b1:=gu (base.getD sp 0+(k:Int)) 26 (by decide);have b2:=gu (base.getD sp 0+(k':Int)) 26 (by decide);generalize base.getD sp 0=z at *;lia
theorem ze(F9:Int):∃l:Fq,l.length=5/\l.Nodup/\l.Pairwise (fun a b=>JQ b a=false)/\cK [.int F9]=.ok (.l .f,.lst (l.map D.str)):=by
 unfold cK iU;rw[bo (h:=by rfl)];rw[ay (env':=[some (.f,.int F9),some (.f,.str HV),none,none,none,none,none,none]) (by simp only[pv,seval,op];rfl)];have hc:bX (au 0) cW (aE iK (ar (c6 aT (ag (aq 1) (ag (aq 0) az)))) (ar (aP (.int 26)))) ((List.range 8).map fun(k:Nat)=>D.int (k:Int)) [none,some (.f,.int F9)]=.ok (((List.range 8).map fun(k:Nat)=>vV F9 (k:Int)%26).map D.int):=by
  rw[aW (r:=fun k:Nat=>D.int (vV F9 (k:Int)%26)) (fun env=>∃t,env=[t,some (.f,.int F9)]) (List.range 8) ?_ _ ⟨none,rfl⟩]
  ·rw[Qe];rfl
  ·rintro k hk env ⟨t,rfl⟩;have hk:=QC.mp hk;refine⟨[some (.f,.int (k:Int)),some (.f,.int F9)],rfl,.f,[some (.f,.int (k:Int)),some (.f,.int F9)],?_,_,rfl⟩;simp only[pv,seval,op,oS F9 (k:Int) (by lia) (by lia),kO _ 26 (by decide)]
 have MM:((List.range 8).map fun(k:Nat)=>vV F9 (k:Int)%26).length=8:=rfl;have MZ:∀j∈((List.range 8).map fun(k:Nat)=>vV F9 (k:Int)%26),0<=j/\j<26:=by
  intro j hj;obtain⟨k,_,rfl⟩:=lS hj;exact gu _ _ (by decide)
 generalize ((List.range 8).map fun(k:Nat)=>vV F9 (k:Int)%26)=base at hc MM MZ;have hlen:(base.map D.int).length<=sizeLine:=aM (by rw[aZ];lia);have hff:=Fi base;rw[ay (env':=[some (.f,.int F9),some (.f,.str HV),some (.l .f,.lst (base.map D.int)),none,none,none,none,none]) (by
  generalize (aE iK (ar (c6 aT (ag (aq 1) (ag (aq 0) az)))) (ar (aP (.int 26))))=GG at hc ⊢;simp only[pv,seval,op];rw[Qa (by decide)];simp only[pv,seval,op,show(8:Int).toNat=8 from rfl,hc,hlen,hff])]
 have m8:=gu F9 8 (by decide);obtain⟨wd,ew⟩:=Q7 (show 0<=1+F9%8 by lia);have msp:=gu (F9 / 8) (wd:Int) (by lia);obtain⟨sp,es⟩:=Q7 msp.1;rw[ay (env':=[some (.f,.int F9),some (.f,.str HV),some (.l .f,.lst (base.map D.int)),some (.f,.int (wd:Int)),none,none,none,none]) (by simp only[pv,seval,op,kO _ 8 (by decide),ew])];rw[ay (env':=[some (.f,.int F9),some (.f,.str HV),some (.l .f,.lst (base.map D.int)),some (.f,.int (wd:Int)),some (.f,.int (sp:Int)),none,none,none]) (by simp only[pv,seval,op,i6 _ 8 (by decide) (by decide),kO _ (wd:Int) (by lia),es])];rw[ay (env':=[some (.f,.int F9),some (.f,.str HV),some (.l .f,.lst (base.map D.int)),some (.f,.int (wd:Int)),some (.f,.int (sp:Int)),some (.l .f,.lst []),none,none]) (by simp only[pv,seval,op])];obtain⟨tk,Og⟩:∃tk,(F9 / 64%4==1)=tk:=⟨_,rfl⟩
 obtain⟨env',ef,t6,t7,rfl⟩:=jZ (a:=au 6) (g:=cS) (e:=fun k=>D.int (k:Int)) 5 (fun i env=>∃(t6 t7:Option R),env=[some (.f,.int F9),some (.f,.str HV),some (.l .f,.lst (base.map D.int)),some (.f,.int (wd:Int)),some (.f,.int (sp:Int)),some (.l .f,.lst (((List.range i).map (HX base wd sp tk)).map D.str)),t6,t7]) (by
  rintro k env hk ⟨t6,t7,rfl⟩;obtain⟨u7,e⟩:=BX F9 base MM MZ wd sp (by lia) (by lia) tk Og ((List.range k).map (HX base wd sp tk)) (by rw[aZ,Qr];lia) k t7;rw[show((List.range k).map (HX base wd sp tk))++[HX base wd sp tk k]=(List.range (k+1)).map (HX base wd sp tk) by rw[List.range_succ,Qi];rfl]at e;exact⟨_,rfl,_,e,_,_,rfl⟩) _ ⟨none,none,rfl⟩
 rw[List.range_zero,QV,QV]at ef;rw[ay (env':=_) (by
  unfold gB;simp only[pv,seval,op];rw[Qa (by decide)];simp only[pv,seval,op,show(5:Int).toNat=5 from rfl];exact ef)]
 unfold fL;have Kn:((List.range 5).map (HX base wd sp tk)).length=5:=by rw[aZ,Qr]
 have LY:((List.range 5).map (HX base wd sp tk)).Nodup:=j4 _ 5 fun i j hi hj e=>zd base MM MZ wd sp (by lia) (by lia) tk i j (by lia) (by lia) e
 have PL:∀n∈((List.range 5).map (HX base wd sp tk)),n.length<=8:=by
  intro n hn;obtain⟨k,_,rfl⟩:=lS hn;unfold HX;rw[aZ];exact tZ base MM wd sp tk k
 generalize ((List.range 5).map (HX base wd sp tk))=l at Kn LY PL;by_cases hm:[109,111,118,101,115]∈l
 ·have Hf:bX (au 0) cW (aE cU (ar (aP (.str [115]))) (aq 0)) (l.map D.str) [none]=.ok ((l.map fun n=>115::n).map D.str):=by
   rw[aW (r:=fun n:List Nat=>D.str (115::n)) (fun env=>∃t,env=[t]) l ?_ _ ⟨none,rfl⟩]
   ·rw[Qe];rfl
   ·rintro n hn env ⟨t,rfl⟩;have:=PL n hn;refine⟨[some (.f,.str n)],rfl,.f,[some (.f,.str n)],?_,_,rfl⟩;simp only[pv,seval,op,E5 [115] n (by rw[Qs];lia)]
  have O2:((l.map fun n=>115::n).map D.str).length<=sizeLine:=aM (by rw[aZ,aZ];lia);have hnd2:(l.map fun n=>115::n).Nodup:=by
   rw[Sq,SR];exact(Sq.mp LY).imp fun{a b} h e=>h (SH e).2
  have IC:=PV.flat_strs (l.map fun n=>115::n);rw[ay (env':=[some (.f,.int F9),some (.f,.str HV),some (.l .f,.lst (base.map D.int)),some (.f,.int (wd:Int)),some (.f,.int (sp:Int)),some (.l .f,.lst ((l.map fun n=>115::n).map D.str)),t6,t7]) (by
   generalize (aE cU (ar (aP (.str [115]))) (aq 0))=GG at Hf ⊢;simp only[pv,seval,op,tY,hm,Sm,Hf,O2,IC])]
  refine⟨bI JQ (l.map fun n=>115::n),by rw[j3,aZ];exact Kn,(du JQ _).nodup_iff.mpr hnd2,dN oq _,?_⟩;simp only[pv,seval,op,tw (l.map fun n=>115::n) (by rw[aZ];lia)]
 ·rw[ay (env':=[some (.f,.int F9),some (.f,.str HV),some (.l .f,.lst (base.map D.int)),some (.f,.int (wd:Int)),some (.f,.int (sp:Int)),some (.l .f,.lst (l.map D.str)),t6,t7]) (by simp only[pv,seval,op,tY,hm,R5,kg])];refine⟨bI JQ l,by rw[j3];exact Kn,(du JQ _).nodup_iff.mpr LY,dN oq _,?_⟩;simp only[pv,seval,op,tw l (by lia)]
theorem BY(env:PV.Env)(fo:FO)(fp Fm fq:FP):Dz fo fp Fm fq env=Res.bnd (fo env) (f:=⟨fun p=>Res.bnd (fp p.2) (f:=⟨fun q=>Res.bnd (Fm q.2) (f:=⟨fun t=>Res.bnd (fq t.2) (f:=⟨fun u=>Res.bnd (Gx u.2 p.1) (f:=⟨fun d=>Res.bnd (Bt d q.1 t.1 u.1) (f:=⟨fun r=>.ok (r,u.2)⟩)⟩)⟩)⟩)⟩)⟩):=id rfl
theorem zf(env:PV.Env)(fa fb fc:FX):yL fa fb fc env=Res.bnd (fa env) (f:=⟨fun p=>Res.bnd (fb p.2) (f:=⟨fun q=>Res.bnd (fc q.2) (f:=⟨fun t=>.ok ((.t [.f,q.1.1,t.1.1],.tup [p.1.2,q.1.2,t.1.2]),t.2)⟩)⟩)⟩):=id rfl
theorem vW{α β:Type}(f:α->β)(l:List α)(lo hi:Option Int)(c:Int):fH (l.map f) lo hi c=(fH l lo hi c).map f:=by
 unfold fH;rw[aZ,List.map_filterMap];congr 1
 funext i
 rw[List.getElem?_map]
theorem DN(ds:List D)(lo hi:Option Int):Bt (.lst ds) lo hi (some 6)=.ok (.l .f,.lst (fH ds lo hi 6)):=id rfl
theorem BZ(ns:List Int)(first k:Int)(hk:0<=k/\k<=1000):∃v:Int,de [.lst (ns.map D.int),.int first,.int k]=.ok (.f,.int v):=by
 unfold de jQ;rw[bo (h:=by rfl)];rw[ay (env':=[some (.f,.lst (ns.map D.int)),some (.f,.int first),some (.f,.int k),some (.f,.int (7+k)),none]) (by simp only[pv,↓reduceIte,Nat.reduceAdd,Nat.reduceLT,Nat.reduceLeDiff,Nat.reduceEqDiff,op])];obtain⟨env',ef,v,t4,rfl⟩:=for_list (a:=au 4) (g:=dW) (e:=D.int) (fH ns (some (first+k)) (some (first+84)) 6) (fun j env=>∃(v:Int) (t4:Option R),env=[some (.f,.lst (ns.map D.int)),some (.f,.int first),some (.f,.int k),some (.f,.int v),t4]) (by
  rintro j c env hj ⟨v,t4,rfl⟩;refine⟨_,rfl,_,?_,vV (c+v) k,some (.f,.int c),rfl⟩;unfold dW;simp only[pv,↓reduceIte,Nat.reduceAdd,Nat.reduceLT,Nat.reduceLeDiff,Nat.reduceEqDiff,op,oS (c+v) k hk.1 hk.2]) _ ⟨7+k,none,rfl⟩
 rw[ay (env':=_) (by
  unfold hU;simp only[pv,↓reduceIte,Nat.reduceAdd,Nat.reduceLT,Nat.reduceLeDiff,Nat.reduceEqDiff,op,BY,DN,vW];exact ef)]
 unfold gD;exact⟨v,by simp only[pv,↓reduceIte,Nat.reduceAdd,Nat.reduceLT,Nat.reduceLeDiff,Nat.reduceEqDiff,op]⟩
def Tk(l:List Int)(cnt:Nat):Prop:=l.length=cnt/\∀x∈l,0<=x/\x<=10
theorem Tk.app{l:List Int}{cnt:Nat}(h:Tk l cnt){x:Int}(hx:0<=x/\x<=10):Tk (l++[x]) (cnt+1):=by
 refine⟨by rw[j0,h.1];rfl,fun y hy=>?_⟩;rcases nt hy with hy|hy
 ·exact h.2 y hy
 ·rw[kq hy];exact hx
theorem zg(number:Int)(cnt:Nat)(hc:cnt<=10):∃(b:Int) (ts gs:List Int),(0<=b/\b<=10)/\Tk ts cnt/\Tk gs cnt/\cM [.int number,.int (cnt:Int)]=.ok (.t [.f,.l .f,.l .f],.tup [.int b,.lst (ts.map D.int),.lst (gs.map D.int)]):=by
 unfold cM iV;rw[bo (h:=by rfl)];rw[ay (env':=[some (.f,.int number),some (.f,.int (cnt:Int)),some (.l .f,.lst []),none,none,none,none,none]) (by simp only[pv,seval,op])];rw[ay (env':=[some (.f,.int number),some (.f,.int (cnt:Int)),some (.l .f,.lst []),some (.l .f,.lst []),none,none,none,none]) (by simp only[pv,seval,op])];obtain⟨env',ef,ts,gs,t4,t5,t6,t7,h1,h2,rfl⟩:=jZ (a:=au 4) (g:=dF) (e:=fun k=>D.int (k:Int)) cnt (fun i env=>∃(ts gs:List Int) (t4 t5 t6 t7:Option R),Tk ts i/\Tk gs i/\env=[some (.f,.int number),some (.f,.int (cnt:Int)),some (.l .f,.lst (ts.map D.int)),some (.l .f,.lst (gs.map D.int)),t4,t5,t6,t7]) (by
  rintro j env hj ⟨ts,gs,t4,t5,t6,t7,h1,h2,rfl⟩;have z1:(ts.map D.int).length<sizeLine:=gv (by rw[aZ,h1.1];lia);have z2:(gs.map D.int).length<sizeLine:=gv (by rw[aZ,h2.1];lia);have PM:=oS number (j:Int) (by lia) (by lia);generalize vV number (j:Int)=x at PM;have b1:=gu x 5 (by decide);have b2:=gu (x / 8) 4 (by decide);refine⟨[some (.f,.int number),some (.f,.int (cnt:Int)),some (.l .f,.lst (ts.map D.int)),some (.l .f,.lst (gs.map D.int)),some (.f,.int (j:Int)),t5,t6,t7],rfl,_,?_,ts++[(if 0<0-(x%5-2) then 0-(x%5-2) else 0)+x / 8%4 / 3],gs++[(if 0<x%5-2 then x%5-2 else 0)+x / 8%4 / 3],some (.f,.int (j:Int)),some (.f,.int x),some (.f,.int (x%5-2)),some (.f,.int (x / 8%4 / 3)),h1.app ?_,h2.app ?_,rfl⟩
  ·unfold dF;rw[ay (env':=[some (.f,.int number),some (.f,.int (cnt:Int)),some (.l .f,.lst (ts.map D.int)),some (.l .f,.lst (gs.map D.int)),some (.f,.int (j:Int)),some (.f,.int x),t6,t7]) (by simp only[pv,seval,op,PM])];rw[ay (env':=[some (.f,.int number),some (.f,.int (cnt:Int)),some (.l .f,.lst (ts.map D.int)),some (.l .f,.lst (gs.map D.int)),some (.f,.int (j:Int)),some (.f,.int x),some (.f,.int (x%5-2)),t7]) (by simp only[pv,seval,op,kO _ 5 (by decide)])];generalize x%5-2=y;rw[ay (env':=[some (.f,.int number),some (.f,.int (cnt:Int)),some (.l .f,.lst (ts.map D.int)),some (.l .f,.lst (gs.map D.int)),some (.f,.int (j:Int)),some (.f,.int x),some (.f,.int y),some (.f,.int (x / 8%4 / 3))]) (by simp only[pv,seval,op,kO _ 4 (by decide),i6 _ 8 (by decide) (by decide),i6 _ 3 (by decide) (by decide)])];generalize x / 8%4 / 3=z;rw[Qi,Qi,dH,dH,QV];rw[ay (env':=[some (.f,.int number),some (.f,.int (cnt:Int)),some (.l .f,.lst (ts.map D.int++[.int ((if 0<0-y then 0-y else 0)+z)])),some (.l .f,.lst (gs.map D.int)),some (.f,.int (j:Int)),some (.f,.int x),some (.f,.int y),some (.f,.int z)]) (by simp only[pv,seval,op,z1])];simp only[pv,seval,op,z2]
  ·split <;> lia
  ·split <;> lia) _ ⟨[],[],none,none,none,none,⟨rfl,(fun _ h=>nomatch h)⟩,⟨rfl,(fun _ h=>nomatch h)⟩,rfl⟩
 rw[QV]at ef;rw[ay (env':=_) (by
  unfold gE;simp only[pv,seval,op];rw[Qa (by lia)];simp only[pv,seval,op,QL];exact ef)]
 unfold fN;have b:=gu (number / 16) 4 (by decide);exact⟨number / 16%4,ts,gs,by lia,h1,h2,by simp only[pv,seval,op,zf,i6 _ 16 (by decide) (by decide),kO _ 4 (by decide)]⟩
abbrev Pl:=Int×List Int×List Int
def eP(p:Pl):D:=.tup [.int p.1,.tup (p.2.1.map D.int),.tup (p.2.2.map D.int)]
def Gj(p:Pl)(cnt:Nat):Prop:=p.2.1.length=cnt/\p.2.2.length=cnt
theorem B0(f:Int)(l:List Int)(h:∀x∈l,0<=x/\x<=10):bX (au 0) cW (aE je (aq 1) (aq 0)) (l.map D.int) [none,some (.f,.int f)]=.ok ((l.map fun x=>f*x).map D.int):=by
 rw[aW (r:=fun x:Int=>D.int (f*x)) (fun env=>∃t,env=[t,some (.f,.int f)]) l ?_ _ ⟨none,rfl⟩]
 ·rw[Qe];rfl
 ·rintro x hx env ⟨t,rfl⟩;have:=h x hx;refine⟨[some (.f,.int x),some (.f,.int f)],rfl,.f,[some (.f,.int x),some (.f,.int f)],?_,_,rfl⟩;simp only[pv,seval,op,CC f x (j5 x (by lia) (by lia))]
theorem pY(b:Int)(hb:0<=b/\b<=10)(ts gs:List Int)(cnt:Nat)(hc:cnt<=10)(h1:Tk ts cnt)(h2:Tk gs cnt)(F9:Int):∃p:Pl,Gj p cnt/\bQ [.tup [.int b,.lst (ts.map D.int),.lst (gs.map D.int)],.int F9]=.ok (.f,eP p):=by
 have p50:zJ (.int 10) (.int 50)=.ok (.f,.int (10 ^ 50)):=E4 50 (by decide);have m50:=gu F9 (10 ^ 50) (by decide);unfold bQ hV;rw[bo (h:=by rfl)];rw[ay (env':=[some (.f,.tup [.int b,.lst (ts.map D.int),.lst (gs.map D.int)]),some (.f,.int F9),some (.f,.int (1+F9%10 ^ 50)),none,none,none]) (by simp only[pv,↓reduceIte,Nat.reduceAdd,Nat.reduceLT,Nat.reduceLeDiff,Nat.reduceEqDiff,op,p50,kO _ (10 ^ 50) (by decide)])];have hf:0<1+F9%10 ^ 50:=by
  generalize F9%10 ^ 50=q at m50;lia
 generalize 1+F9%10 ^ 50=f at hf;rw[ay (env':=[some (.f,.tup [.int b,.lst (ts.map D.int),.lst (gs.map D.int)]),some (.f,.int F9),some (.f,.int f),some (.f,.int b),some (.f,.lst (ts.map D.int)),some (.f,.lst (gs.map D.int))]) (by simp only[pv,↓reduceIte,Nat.reduceAdd,Nat.reduceLT,Nat.reduceLeDiff,Nat.reduceEqDiff,op])];have c1:=B0 f ts h1.2;have c2:=B0 f gs h2.2;have l1:((ts.map fun x=>f*x).map D.int).length<=sizeLine:=aM (by rw[aZ,aZ,h1.1];lia);have l2:((gs.map fun x=>f*x).map D.int).length<=sizeLine:=aM (by rw[aZ,aZ,h2.1];lia);have f1:=Fi (ts.map fun x=>f*x);have f2:=Fi (gs.map fun x=>f*x);refine⟨(f*b+F9 / 7%f,ts.map fun x=>f*x,gs.map fun x=>f*x),⟨by rw[aZ];exact h1.1,by rw[aZ];exact h2.1⟩,?_⟩;unfold eP;dsimp only;generalize (ts.map fun x=>f*x).map D.int=T1 at *;generalize (gs.map fun x=>f*x).map D.int=T2 at *;have PQ:=CC f b (j5 b (by lia) (by lia));have NM:=kO (F9 / 7) f hf;have hdiv:=i6 F9 7 (by decide) (by decide);generalize f*b=fb at PQ ⊢;generalize (F9 / 7)%f=cf at NM ⊢;rw[ay (env':=[some (.f,.tup [.int b,.lst (ts.map D.int),.lst (gs.map D.int)]),some (.f,.int F9),some (.f,.int f),some (.f,.int b),some (.f,.tup T1),some (.f,.lst (gs.map D.int))]) (by
  generalize (aE je (aq 1) (aq 0))=GG at c1 ⊢;simp only[pv,↓reduceIte,Nat.reduceAdd,Nat.reduceLT,Nat.reduceLeDiff,Nat.reduceEqDiff,op,c1,l1,f1])]
 have PR:∀GG,GG=(aE je (aq 1) (aq 0))->bX (au 0) cW GG (gs.map D.int) [none,some (.f,.int f)]=.ok T2:=fun GG h=>by rw[h];exact c2
 rw[show(e8 (jb (aF (aE cU (ar (aE je (aq 2) (aq 3))) (ar (aE iK (ar (aE gq (aq 1) (ar (aP (.int 7))))) (aq 2)))) (aF (aK 4) (aF (bq cu (ag (ar (cB (Ga (gr 5) (Ga (fm (aK 5)) (fw (aK 5)))) [none,some 2] (au 0) cW (aE je (aq 1) (aq 0)))) az)) bG)))))=(fun GG=>e8 (jb (aF (aE cU (ar (aE je (aq 2) (aq 3))) (ar (aE iK (ar (aE gq (aq 1) (ar (aP (.int 7))))) (aq 2)))) (aF (aK 4) (aF (bq cu (ag (ar (cB (Ga (gr 5) (Ga (fm (aK 5)) (fw (aK 5)))) [none,some 2] (au 0) cW GG)) az)) bG))))) (aE je (aq 1) (aq 0)) from rfl];generalize eGG:(aE je (aq 1) (aq 0))=GG;have c2:=PR GG eGG.symm;clear eGG PR;simp only[pv,↓reduceIte,Nat.reduceAdd,Nat.reduceLT,Nat.reduceLeDiff,Nat.reduceEqDiff,op,PQ,NM,hdiv,c2,l2,f2]
theorem vX(ns:List Int)(first:Nat)(cnt:Nat)(hc:cnt<=10)(ps:List Pl)(PU:∀p∈ps,Gj p cnt)(hl:ps.length<=100)(k:Nat)(hk:k<=100)(t5 t6 t7:Option R):
  ∃(ID:List Pl) (u5 u6 u7:Option R),(∀p∈ID,Gj p cnt)/\ps.length+1<=ID.length/\ID.length<=ps.length+2/\cz [some (.f,.lst (ns.map D.int)),some (.f,.int (first:Int)),some (.f,.int (cnt:Int)),some (.l .f,.lst (ps.map eP)),some (.f,.int (k:Int)),t5,t6,t7]=.ok (.nx [some (.f,.lst (ns.map D.int)),some (.f,.int (first:Int)),some (.f,.int (cnt:Int)),some (.l .f,.lst (ID.map eP)),some (.f,.int (k:Int)),u5,u6,u7]):=by
 obtain⟨v,ev⟩:=BZ ns (first:Int) (k:Int) (by lia);obtain⟨b,ts,gs,hb,h1,h2,ep⟩:=zg v cnt hc;have c1:=nG ns (first+k);rw[show((first+k:Nat):Int)=(first:Int)+(k:Int) by lia]at c1;have c2:=nG ns (first+6+k);rw[show((first+6+k:Nat):Int)=(first:Int)+6+(k:Int) by lia]at c2;obtain⟨p1,PX,e1⟩:=pY b hb ts gs cnt hc h1 h2 (cell ns (first+k));have m4:=gu (v / 256) 4 (by decide);obtain⟨p2,M8,e2⟩:=pY (v / 256%4) (by lia) gs ts cnt hc h2 h1 (cell ns (first+6+k));have LP:bu (.t [.f,.l .f,.l .f]) (.tup [.int b,.lst (ts.map D.int),.lst (gs.map D.int)])=true:=by
  have f1:=Fi ts;have f2:=Fi gs;simp only[bu,mG,flatD];rw[<-bh,<-bh,f1,f2];rfl
 have MN:∀p:Pl,flatD (eP p)=true:=fun p=>by
  unfold eP;rw[cA];simp only[flatDs,cA,Fi,jg];rfl
 have O3:(ps.map eP).length<sizeLine:=gv (by rw[aZ];lia);have Ky:(ps.map eP++[eP p1]).length<sizeLine:=gv (by rw[j0,aZ,Qs];lia);unfold cz;rw[ay (env':=[some (.f,.lst (ns.map D.int)),some (.f,.int (first:Int)),some (.f,.int (cnt:Int)),some (.l .f,.lst (ps.map eP)),some (.f,.int (k:Int)),some (.f,.int v),t6,t7]) (by simp only[pv,↓reduceIte,Nat.reduceAdd,Nat.reduceLT,Nat.reduceLeDiff,Nat.reduceEqDiff,op,ev])];rw[ay (env':=[some (.f,.lst (ns.map D.int)),some (.f,.int (first:Int)),some (.f,.int (cnt:Int)),some (.l .f,.lst (ps.map eP)),some (.f,.int (k:Int)),some (.f,.int v),some (.t [.f,.l .f,.l .f],.tup [.int b,.lst (ts.map D.int),.lst (gs.map D.int)]),t7]) (by simp only[pv,↓reduceIte,Nat.reduceAdd,Nat.reduceLT,Nat.reduceLeDiff,Nat.reduceEqDiff,op,ep,LP])];rw[ay (env':=[some (.f,.lst (ns.map D.int)),some (.f,.int (first:Int)),some (.f,.int (cnt:Int)),some (.l .f,.lst (ps.map eP++[eP p1])),some (.f,.int (k:Int)),some (.f,.int v),some (.t [.f,.l .f,.l .f],.tup [.int b,.lst (ts.map D.int),.lst (gs.map D.int)]),t7]) (by simp only[pv,↓reduceIte,Nat.reduceAdd,Nat.reduceLT,Nat.reduceLeDiff,Nat.reduceEqDiff,op,c1,e1,MN,O3])];by_cases h3:0<v / 64%3
 ·refine⟨ps++[p1,p2],some (.f,.int v),some (.f,.tup [.int b,.lst (ts.map D.int),.lst (gs.map D.int)]),some (.f,.tup [.int (v / 256%4),.lst (gs.map D.int),.lst (ts.map D.int)]),fun p hp=>?_,by rw[j0];simp,by rw[j0];simp,?_⟩
  ·rcases nt hp with hp|hp
   ·exact PU p hp
   ·rcases Qh.mp hp with rfl|hp
    ·exact PX
    ·rw[kq hp];exact M8
  ·rw[Qi,dH,dH,QV,show ps.map eP++[eP p1,eP p2]=(ps.map eP++[eP p1])++[eP p2] by rw[Q5];rfl];simp only[pv,↓reduceIte,Nat.reduceAdd,Nat.reduceLT,Nat.reduceLeDiff,Nat.reduceEqDiff,op,i6 _ 64 (by decide) (by decide),i6 _ 256 (by decide) (by decide),kO _ 3 (by decide),kO _ 4 (by decide),gt_iff_lt,h3,Sm,at2,c2,e2,MN,Ky]
 ·refine⟨ps++[p1],some (.f,.int v),some (.t [.f,.l .f,.l .f],.tup [.int b,.lst (ts.map D.int),.lst (gs.map D.int)]),t7,fun p hp=>?_,by rw[j0];simp,by rw[j0];simp,?_⟩
  ·rcases nt hp with hp|hp
   ·exact PU p hp
   ·rw[kq hp];exact PX
  ·rw[Qi,dH,QV];simp only[pv,↓reduceIte,Nat.reduceAdd,Nat.reduceLT,Nat.reduceLeDiff,Nat.reduceEqDiff,op,i6 _ 64 (by decide) (by decide),kO _ 3 (by decide),gt_iff_lt,h3,R5,kg]
theorem vY(ns:List Int)(first:Nat)(cnt:Nat)(hc:cnt<=10):∃ps:List Pl,(∀p∈ps,Gj p cnt)/\ps≠[]/\ps.length<=8/\b8 [.lst (ns.map D.int),.int (first:Int),.int (cnt:Int)]=.ok (.l .f,.lst (ps.map eP)):=by
 have c1:aJ [.lst (ns.map D.int),.int 1]=.ok (.f,.int (cell ns 1)):=nG ns 1;have m4:=gu (cell ns 1 / 4) 4 (by decide);unfold b8 hW;rw[bo (h:=by rfl)];rw[ay (env':=[some (.f,.lst (ns.map D.int)),some (.f,.int (first:Int)),some (.f,.int (cnt:Int)),some (.l .f,.lst []),none,none,none,none]) (by simp only[pv,seval,op])];obtain⟨env',ef,ps,t4,t5,t6,t7,h1,h2,h3,rfl⟩:=jZ (a:=au 4) (g:=cz) (e:=fun k=>D.int (k:Int)) (1+cell ns 1 / 4%4).toNat (fun i env=>∃(ps:List Pl) (t4 t5 t6 t7:Option R),(∀p∈ps,Gj p cnt)/\i<=ps.length/\ps.length<=2*i/\env=[some (.f,.lst (ns.map D.int)),some (.f,.int (first:Int)),some (.f,.int (cnt:Int)),some (.l .f,.lst (ps.map eP)),t4,t5,t6,t7]) (by
  rintro k env hk ⟨ps,t4,t5,t6,t7,h1,h2,h3,rfl⟩;obtain⟨ID,u5,u6,u7,h1',OK,h3',e⟩:=vX ns first cnt hc ps h1 (by lia) k (by lia) t5 t6 t7
  exact⟨_,rfl,_,e,ID,_,_,_,_,h1',by lia,by lia,rfl⟩) _ ⟨[],none,none,none,none,(fun _ h=>nomatch h),P9 _,P9 _,rfl⟩
 rw[QV]at ef;rw[ay (env':=_) (by
  unfold fP;simp only[pv,seval,op,c1,i6 _ 4 (by decide) (by decide),kO _ 4 (by decide)];rw[Qa (by lia)];simp only[pv,seval,op];exact ef)]
 unfold e9;refine⟨ps,h1,?_,by lia,by simp only[pv,seval,op]⟩;intro h;rw[h,Rj]at h2;lia
theorem B1{α:Type}{l:List α}(h:l.Nodup)(lo hi:Option Int):(gS l lo hi).Nodup:=by
 unfold gS;exact(h.sublist (List.drop_sublist _ _)).sublist (Tt _ _)
theorem B2{α:Type}{l:List α}{r:α->α->Prop}(h:l.Pairwise r)(lo hi:Option Int):(gS l lo hi).Pairwise r:=by
 unfold gS;exact(h.sublist (List.drop_sublist _ _)).sublist (Tt _ _)
theorem zh(ns:List Int):∃nZ:Fq,nZ≠[]/\nZ.length<=3/\nZ.Nodup/\nZ.Pairwise (fun a b=>JQ b a=false)/\cN [.lst (ns.map D.int)]=.ok (.f,.tup (nZ.map D.str)):=by
 have c0:aJ [.lst (ns.map D.int),.int 0]=.ok (.f,.int (cell ns 0)):=nG ns 0;have c1:aJ [.lst (ns.map D.int),.int 1]=.ok (.f,.int (cell ns 1)):=nG ns 1;obtain⟨l,hl,LY,hpw,en⟩:=ze (cell ns 0);have m3:=gu (cell ns 1) 3 (by decide);unfold cN iW;rw[bo (h:=by rfl)];rw[ay (env':=[some (.f,.lst (ns.map D.int)),some (.l .f,.lst (l.map D.str)),none,none,none]) (by simp only[pv,seval,op,c0,en])];rw[ay (env':=[some (.f,.lst (ns.map D.int)),some (.l .f,.lst (l.map D.str)),some (.f,.int (cell ns 1)),none,none]) (by simp only[pv,seval,op,c1])];rw[ay (env':=[some (.f,.lst (ns.map D.int)),some (.l .f,.lst (l.map D.str)),some (.f,.int (cell ns 1)),some (.f,.int (1+cell ns 1%3)),none]) (by simp only[pv,seval,op,kO _ 3 (by decide)])];obtain⟨cnt,ec⟩:=Q7 (show 0<=1+cell ns 1%3 by lia);rw[ec];have ms:=gu (cell ns 1 / 32) (6-(cnt:Int)) (by lia);obtain⟨st,es⟩:=Q7 ms.1;rw[ay (env':=[some (.f,.lst (ns.map D.int)),some (.l .f,.lst (l.map D.str)),some (.f,.int (cell ns 1)),some (.f,.int (cnt:Int)),some (.f,.int (st:Int))]) (by simp only[pv,seval,op,i6 _ 32 (by decide) (by decide),kO _ (6-(cnt:Int)) (by lia),es])];have Mu:=y3 l st (st+cnt) (by lia) (by lia);have hlen:(gS l (some (st:Int)) (some ((st+cnt:Nat):Int))).length=cnt:=by
  rw[Mu,Qy,RX];lia
 rw[show((st+cnt:Nat):Int)=(st:Int)+(cnt:Int) by lia]at hlen;refine⟨gS l (some (st:Int)) (some ((st:Int)+(cnt:Int))),?_,by lia,B1 LY _ _,B2 hpw _ _,?_⟩
 ·intro h;rw[h,Rj]at hlen;lia
 ·simp only[pv,seval,op,y4]
def cF(k:Nat):List (Int×Pl)->Option (List Int)
 |[]=>some []
 |z::zs=>if z.1<z.2.2.1.getD k 0 then none else(cF k zs).map fun r=>(z.1-z.2.2.1.getD k 0+z.2.2.2.getD k 0)::r
theorem nH(k:Nat):∀{zs:List (Int×Pl)}{r:List Int},cF k zs=some r->r.length=zs.length
 |[],r,h=>by cases h;rfl
 |z::zs,r,h=>by
  rw[cF]at h;split at h
  ·cases h
  ·rw[QA]at h;obtain⟨r',h1,rfl⟩:=h;rw[Ql,Ql,nH k h1]
theorem jh(k:Nat):∀{zs:List (Int×Pl)}{r:List Int}{j:Nat}{z:Int×Pl},cF k zs=some r->zs[j]?=some z->¬ z.1<z.2.2.1.getD k 0/\r[j]?=some (z.1-z.2.2.1.getD k 0+z.2.2.2.getD k 0)
 |[],r,j,z,h,e=>by cases e
 |y::zs,r,j,z,h,e=>by
  rw[cF]at h;split at h
  ·cases h
  ·rename_i hn;rw[QA]at h;obtain⟨r',h1,rfl⟩:=h;cases j with
   |zero=>
    rw[List.getElem?_cons_zero]at e;cases e;exact⟨hn,rfl⟩
   |succ j=>
    rw[List.getElem?_cons_succ]at e ⊢;exact jh k h1 e
theorem B3(A0 A1 A2:Option R)(k cnt:Nat)(hk:k<cnt)(acc:List Int)(hl:acc.length<=1000)(z:Int×Pl)(hz:Gj z.2 cnt):cy [A0,A1,A2,some (.f,.int (k:Int)),some (.l .f,.lst (acc.map D.int)),some (.f,.int z.1),some (.f,eP z.2)]=if z.1<z.2.2.1.getD k 0 then .ok (.rt (.f,.non)) else .ok (.nx [A0,A1,A2,some (.f,.int (k:Int)),some (.l .f,.lst ((acc++[z.1-z.2.2.1.getD k 0+z.2.2.2.getD k 0]).map D.int)),some (.f,.int z.1),some (.f,eP z.2)]):=by
 have h1:Gw (z.2.2.1.map D.int) (k:Int)=some (.int (z.2.2.1.getD k 0)):=kN (by rw[hz.1];exact hk);have h2:Gw (z.2.2.2.map D.int) (k:Int)=some (.int (z.2.2.2.getD k 0)):=kN (by rw[hz.2];exact hk);have O2:(acc.map D.int).length<sizeLine:=gv (by rw[aZ];lia);unfold cy eP;by_cases h:z.1<z.2.2.1.getD k 0
 ·rw[Qa h];simp only[pv,↓reduceIte,Nat.reduceAdd,Nat.reduceLT,Nat.reduceLeDiff,Nat.reduceEqDiff,op,h1,h,Sm]
 ·rw[Qf h,Qi,dH,QV];simp only[pv,↓reduceIte,Nat.reduceAdd,Nat.reduceLT,Nat.reduceLeDiff,Nat.reduceEqDiff,op,h1,h2,at2,h,R5,kg,O2]
theorem nI(A0 A1 A2:Option R)(k cnt:Nat)(hk:k<cnt):∀(zs:List (Int×Pl)) (acc:List Int) (t5 t6:Option R),acc.length+zs.length<=1000->(∀z∈zs,Gj z.2 cnt)->
  (cF k zs=none/\gR (gm 2 (aB (au 5) (aB (au 6) cq))) cy (zs.map fun z:Int×Pl=>D.tup [D.int z.1,eP z.2]) [A0,A1,A2,some (.f,.int (k:Int)),some (.l .f,.lst (acc.map D.int)),t5,t6]=.ok (.rt (.f,.non)))\/
  ∃r u5 u6,cF k zs=some r/\gR (gm 2 (aB (au 5) (aB (au 6) cq))) cy (zs.map fun z:Int×Pl=>D.tup [D.int z.1,eP z.2]) [A0,A1,A2,some (.f,.int (k:Int)),some (.l .f,.lst (acc.map D.int)),t5,t6]=.ok (.nx [A0,A1,A2,some (.f,.int (k:Int)),some (.l .f,.lst ((acc++r).map D.int)),u5,u6])
 |[],acc,t5,t6,_,_=>.inr ⟨[],t5,t6,rfl,by rw[QR];rfl⟩
 |z::zs,acc,t5,t6,hl,hp=>by
  have h1:=B3 A0 A1 A2 k cnt hk acc (by rw[Ql]at hl;lia) z (hp z P8);have ha:gm 2 (aB (au 5) (aB (au 6) cq)) (D.tup [D.int z.1,eP z.2]) [A0,A1,A2,some (.f,.int (k:Int)),some (.l .f,.lst (acc.map D.int)),t5,t6]=.ok [A0,A1,A2,some (.f,.int (k:Int)),some (.l .f,.lst (acc.map D.int)),some (.f,.int z.1),some (.f,eP z.2)]:=by simp only[pv,↓reduceIte,Nat.reduceAdd,Nat.reduceLT,Nat.reduceLeDiff,Nat.reduceEqDiff]
  rw[dH,jY,ha,Gh,h1,cF];by_cases h:z.1<z.2.2.1.getD k 0
  ·left;rw[Qa h,Qa h];exact⟨rfl,by rw[Gh]⟩
  ·rw[Qf h,Qf h,Gh];rcases nI A0 A1 A2 k cnt hk zs (acc++[z.1-z.2.2.1.getD k 0+z.2.2.2.getD k 0]) (some (.f,.int z.1)) (some (.f,eP z.2)) (by rw[Ql]at hl;rw[j0,Qs];lia) (fun y hy=>hp y (Qg _ hy)) with⟨e1,e2⟩|⟨r,u5,u6,e1,e2⟩
   ·left;exact⟨by rw[e1];rfl,e2⟩
   ·right;refine⟨_,u5,u6,by rw[e1];rfl,?_⟩;rw[Q5]at e2;exact e2
def eN(nZ:Fq)(ps:List Pl):D:=.tup [.tup (nZ.map D.str),.lst (ps.map eP)]
def eM(m:List Int):D:=.tup (m.map D.int)
theorem zi {nZ : Fq} {m : List Nat} (h : m ∈ nZ) : qx (nZ.map D.str) [.str m] = .ok (.f, .int ((nZ.idxOf m : Nat) : Int)) := by
  first
    | (unfold qx
       dsimp only
       rw [dw]
       dsimp only
       rw [Qa h])
    | (unfold qx
       simp only [dw, h, SF])
theorem ia{α β:Type}(f:α->D)(g:β->D)(xs:List α)(ys:List β):((xs.map f).zip (ys.map g)).map (fun z=>D.tup [z.1,z.2])=(xs.zip ys).map fun z=>D.tup [f z.1,g z.2]:=by
 rw[List.zip_map,Qe];rfl
theorem B4(nZ:Fq)(ps:List Pl)(hl:ps.length<=100)(hp:∀p∈ps,Gj p nZ.length)(m:List Int)(mv:List Nat)(hm:mv∈nZ):
  (cF (nZ.idxOf mv) (m.zip ps)=none/\cD [eN nZ ps,eM m,.str mv]=.ok (.f,.non))\/∃r,cF (nZ.idxOf mv) (m.zip ps)=some r/\cD [eN nZ ps,eM m,.str mv]=.ok (.f,eM r):=by
 have Hj:=zi hm;have hk:=Q6 hm;generalize nZ.idxOf mv=k at Hj hk;unfold cD jP eN eM;rw[bo (h:=by rfl)];rw[ay (env':=[some (.f,.tup [.tup (nZ.map D.str),.lst (ps.map eP)]),some (.f,.tup (m.map D.int)),some (.f,.str mv),some (.f,.int (k:Int)),none,none,none]) (by simp only[pv,seval,op,Hj])];rw[ay (env':=[some (.f,.tup [.tup (nZ.map D.str),.lst (ps.map eP)]),some (.f,.tup (m.map D.int)),some (.f,.str mv),some (.f,.int (k:Int)),some (.l .f,.lst []),none,none]) (by simp only[pv,seval,op])];rcases nI (some (.f,.tup [.tup (nZ.map D.str),.lst (ps.map eP)])) (some (.f,.tup (m.map D.int))) (some (.f,.str mv)) k nZ.length hk (m.zip ps) [] none none (by rw[Rj,Sb];lia) (fun z hz=>hp _ (SD (show(z.1,z.2)∈m.zip ps from hz)).2) with⟨e1,e2⟩|⟨r,u5,u6,e1,e2⟩
 ·left;refine⟨e1,?_⟩;rw[QV]at e2;unfold eR;simp only[pv,seval,op,ia,e2]
 ·right;refine⟨r,e1,?_⟩;rw[QV,Uy]at e2;unfold eR gC;simp only[pv,seval,op,ia,e2]
theorem eqDs_ints:∀a b:List Int,iq (a.map D.int) (b.map D.int)=decide (a=b)
 |[],[]=>rfl
 |[],_::_=>rfl
 |_::_,[]=>rfl
 |x::a,y::b=>by
  rw[dH,dH,iq,eqDs_ints a b,Fj,Qv];simp
theorem zj(a b:List Int):Fj (eM a) (eM b)=decide (a=b):=by
 unfold eM;rw[Fj,eqDs_ints]
theorem lU(a:List Int):plainD 40 (eM a)=true:=vS a
theorem lV(l:List (List Int)):plainDs 40 (l.map eM)=true:=by
 induction l with
 |nil=>rfl
 |cons a l ih=>
  rw[dH,plainDs,ih,S7];exact lU a
theorem j7{α:Type}[DecidableEq α](a:α):∀l:List α,a∉l->((l++[a]).findIdx fun x=>decide (x=a))=l.length
 |[],_=>by simp
 |x::l,h=>by
  rw[Qh,not_or]at h;rw[List.cons_append,TQ,j7 a l h.2,QB (fun e=>h.1 e.symm)];rfl
theorem DO{α:Type}[DecidableEq α]{e:α->D}(he:∀a b,Fj (e a) (e b)=decide (a=b))(hp:∀l:List α,plainDs 40 (l.map e)=true)(hq:∀a,plainD 40 (e a)=true)(l:List α)(a:α)(h:a∉l):oz (l.map e++[e a]) [e a]=.ok (.f,.int (l.length:Int)):=by
 have e0:l.map e++[e a]=(l++[a]).map e:=by rw[Qi];rfl
 have e1:((l++[a]).map e).any (fun d=>Fj d (e a))=true:=by
  rw[RN,Q8];exact⟨a,P7 _ (Qx.mpr rfl),by show Fj (e a) (e a)=true;rw[he,Q9 rfl]⟩
 have e2:((l++[a]).map e).findIdx (fun d=>Fj d (e a))=l.length:=by
  rw[List.findIdx_map];rw[<-j7 a l h];congr 1
  funext x
  exact he x a
 unfold oz;dsimp only;rw[e0,hq,hp,e1,e2];rfl
theorem E6{α:Type}[DecidableEq α]{e:α->D}(he:∀a b,Fj (e a) (e b)=decide (a=b))(hp:∀l:List α,plainDs 40 (l.map e)=true)(hq:∀a,plainD 40 (e a)=true)(l:List α)(a:α):uA (e a) (.lst (l.map e))=.ok (.f,.bl (!decide (a∈l))):=by
 have e1:qN (e a) (l.map e)=decide (a∈l):=by
  unfold qN;rw[RN,Qv,Q8,Qm];constructor
  ·rintro⟨x,hx,e1⟩;have e1:Fj (e x) (e a)=true:=e1;rw[he,Qm]at e1;rw[<-e1];exact hx
  ·intro h;refine⟨a,h,?_⟩;show Fj (e a) (e a)=true;rw[he,Qm]
 unfold uA JV;dsimp only;rw[hq,hp,SK,Qa rfl,e1];rfl
structure Rm(nZ:Fq)(ps:List Pl)(S:List (List Int))(A:List Fn)(m:Nat):Prop where
 nd:S.Nodup
 z:S[0]?=some (ps.map (·.1))
 ln:∀s∈S,s.length=ps.length
 le:S.length<=8
 ab:∀a∈A,a.2.1∈nZ/\∃i j:Nat,i<m/\a.1=(i:Int)/\a.2.2=(j:Int)/\∃s t,S[i]?=some s/\S[j]?=some t/\cF (nZ.idxOf a.2.1) (s.zip ps)=some t
 rc:∀j:Nat,1<=j->j<S.length->∃a∈A,a.2.2=(j:Int)/\∃b:Nat,b<j/\a.1=(b:Int)
theorem Rm.more{nZ:Fq}{ps:List Pl}{S:List (List Int)}{A:List Fn}{m m':Nat}(r:Rm nZ ps S A m)(h:m<=m'):Rm nZ ps S A m':=⟨r.nd,r.z,r.ln,r.le,fun a ha=>by
 obtain⟨h1,i,j,h2,h3⟩:=r.ab a ha;exact⟨h1,i,j,by lia,h3⟩,r.rc⟩
theorem Rm.old{nZ:Fq}{ps:List Pl}{S:List (List Int)}{A:List Fn}{d:Nat}(r:Rm nZ ps S A (d+1)){mv:List Nat}(hn:mv∈nZ){s t:List Int}(hs:S[d]?=some s){i:Nat}(ht:S[i]?=some t)(hf:cF (nZ.idxOf mv) (s.zip ps)=some t):Rm nZ ps S (A++[((d:Int),mv,(i:Int))]) (d+1):=by
 refine⟨r.nd,r.z,r.ln,r.le,fun a ha=>?_,fun j j1 j2=>?_⟩
 ·rcases nt ha with ha|ha
  ·exact r.ab a ha
  ·rw[kq ha];exact⟨hn,d,i,by lia,rfl,rfl,s,t,hs,ht,hf⟩
 ·obtain⟨a,ha,q⟩:=r.rc j j1 j2;exact⟨a,Qd _ ha,q⟩
theorem Rm.new{nZ:Fq}{ps:List Pl}{S:List (List Int)}{A:List Fn}{d:Nat}(r:Rm nZ ps S A (d+1)){mv:List Nat}(hn:mv∈nZ){s t:List Int}(hs:S[d]?=some s)(ht:t∉S)(hf:cF (nZ.idxOf mv) (s.zip ps)=some t)(h8:S.length<8):Rm nZ ps (S++[t]) (A++[((d:Int),mv,(S.length:Int))]) (d+1):=by
 have hd:=(iX hs).1;have hl:(S++[t]).length=S.length+1:=by rw[j0];rfl
 have up:∀{i:Nat}{x:List Int},S[i]?=some x->(S++[t])[i]?=some x:=fun{i x} h=>by
  rw[List.getElem?_append_left (iX h).1];exact h
 refine⟨QF.mpr ⟨r.nd,Qw.mpr ⟨Q0,RM⟩,fun x hx y hy=>?_⟩,up r.z,fun x hx=>?_,by lia,fun a ha=>?_,fun j j1 j2=>?_⟩
 ·rw[kq hy];rintro rfl;exact ht hx
 ·rcases nt hx with hx|hx
  ·exact r.ln x hx
  ·rw[kq hx,nH _ hf,Sb,r.ln s (Qj hs),Vn]
 ·rcases nt ha with ha|ha
  ·obtain⟨h1,i,j,h2,h3,h4,x,y,h5,h6,h7⟩:=r.ab a ha;exact⟨h1,i,j,h2,h3,h4,x,y,up h5,up h6,h7⟩
  ·rw[kq ha];exact⟨hn,d,S.length,by lia,rfl,rfl,s,t,up hs,by rw[List.getElem?_append_right (P9 _),Tp];rfl,hf⟩
 ·by_cases e:j=S.length
  ·subst e;exact⟨_,P7 _ (Qx.mpr rfl),rfl,d,hd,rfl⟩
  ·obtain⟨a,ha,q⟩:=r.rc j j1 (by lia);exact⟨a,Qd _ ha,q⟩
theorem xf(t:List Int):flatD (eM t)=true:=by
 unfold eM;rw[cA,Fi]
def Fu(nZ:Fq)(ps:List Pl)(S:List (List Int))(A:List Fn)(d j:Nat):Prop:=∀i k:Nat,(i<d\/(i=d/\k<j))->∀mv,nZ[k]?=some mv->∀s t,S[i]?=some s->cF (nZ.idxOf mv) (s.zip ps)=some t->∃m:Nat,S[m]?=some t/\((i:Int),mv,(m:Int))∈A
theorem Fu.next{nZ:Fq}{ps:List Pl}{S S':List (List Int)}{A A':List Fn}{d j:Nat}(fu:Fu nZ ps S A d j){s0:List Int}(hd:S[d]?=some s0)(up:∀(i:Nat) (x:List Int),S[i]?=some x->S'[i]?=some x)(ua:∀a∈A,a∈A'){mv:List Nat}(hj:nZ[j]?=some mv)(new:∀t,cF (nZ.idxOf mv) (s0.zip ps)=some t->∃m:Nat,S'[m]?=some t/\((d:Int),mv,(m:Int))∈A'):Fu nZ ps S' A' d (j+1):=by
 intro i k h mv' hk s t hs hf;have hdl:=(iX hd).1;have MJ:i<S.length:=by lia
 have O4:S[i]?=some s:=by
  have:=up i _ (fA MJ);rw[hs]at this;rw[fA MJ,this]
 by_cases h2:i<d\/(i=d/\k<j)
 ·obtain⟨m,h3,h4⟩:=fu i k h2 mv' hk s t O4 hf;exact⟨m,up _ _ h3,ua _ h4⟩
 ·have e1:i=d:=by lia
  have e2:k=j:=by lia
  subst e1 e2;rw[hj]at hk;cases hk;rw[hd]at O4;cases O4;exact new t hf
theorem Fu.row{nZ:Fq}{ps:List Pl}{S:List (List Int)}{A:List Fn}{d:Nat}(fu:Fu nZ ps S A d nZ.length):Fu nZ ps S A (d+1) 0:=fun i k h mv hk s t hs hf=>fu i k (by
 have:=(iX hk).1;lia) mv hk s t hs hf
abbrev Rn:=List (List Int)×List Fn
def pos(S:List (List Int))(t:List Int):Nat:=S.findIdx fun x=>decide (x=t)
noncomputable def gw(nZ:Fq)(ps:List Pl)(d:Nat)(mv:List Nat)(r:Rn):Option Rn:=match cF (nZ.idxOf mv) ((r.1.getD d []).zip ps) with
 |none=>some r
 |some t=>if t∈r.1 then some (r.1,r.2++[((d:Int),mv,(pos r.1 t:Int))]) else if r.1.length=8 then none else some (r.1++[t],r.2++[((d:Int),mv,(r.1.length:Int))])
def nQ(nZ:Fq)(ps:List Pl)(d:Nat):Fq->Rn->Option Rn
 |[],r=>some r
 |mv::l,r=>(gw nZ ps d mv r).bind (nQ nZ ps d l)
def qI(nZ:Fq)(ps:List Pl):Nat->Nat->Rn->Option Rn
 | 0,_,r=>some r
 |f+1,d,r=>if d<r.1.length then(nQ nZ ps d nZ r).bind (qI nZ ps f (d+1)) else some r
theorem E7{α:Type}[DecidableEq α]{e:α->D}(he:∀a b,Fj (e a) (e b)=decide (a=b))(hp:∀l:List α,plainDs 40 (l.map e)=true)(hq:∀a,plainD 40 (e a)=true)(l:List α)(a:α)(h:a∈l):oz (l.map e) [e a]=.ok (.f,.int ((l.findIdx fun x=>decide (x=a):Nat):Int)):=by
 have e1:(l.map e).any (fun d=>Fj d (e a))=true:=by
  rw[RN,Q8];exact⟨a,h,by show Fj (e a) (e a)=true;rw[he,Q9 rfl]⟩
 have e2:(l.map e).findIdx (fun d=>Fj d (e a))=l.findIdx fun x=>decide (x=a):=by
  rw[List.findIdx_map];congr 1
  funext x
  exact he x a
 unfold oz;dsimp only;rw[hq,hp,e1,e2];rfl
theorem B5{q:Nat}(hq:8<=q)(nZ:Fq)(ps:List Pl)(hl:ps.length<=100)(hp:∀p∈ps,Gj p nZ.length)(S:List (List Int))(A:List Fn)(hA:A.length<=1000)(hS:S.length<=8)(d:Nat)(hd:d<S.length)(mv:List Nat)(hn:mv∈nZ)(t6:Option R):
  match gw nZ ps d mv (S,A) with
  |some (S',A')=>∃u6,bP [some (.f,eN nZ ps),some (.f,.int ((q:Nat):Int)),some (.l .f,.lst (S.map eM)),some (.l .f,.lst (A.map eA)),some (.f,.int ((d:Nat):Int)),some (.f,.str mv),t6]=.ok (.nx [some (.f,eN nZ ps),some (.f,.int ((q:Nat):Int)),some (.l .f,.lst (S'.map eM)),some (.l .f,.lst (A'.map eA)),some (.f,.int ((d:Nat):Int)),some (.f,.str mv),u6])
  |none=>q=8->bP [some (.f,eN nZ ps),some (.f,.int ((q:Nat):Int)),some (.l .f,.lst (S.map eM)),some (.l .f,.lst (A.map eA)),some (.f,.int ((d:Nat):Int)),some (.f,.str mv),t6]=.ok (.rt (.f,.non)):=by
 have Ln:S[d]?=some S[d]:=fA hd;have NN:S.getD d []=S[d]:=by rw[List.getD_eq_getElem?_getD,Ln];rfl
 have JS:Gw (S.map eM) (d:Int)=some (eM S[d]):=dA (by rw[List.getElem?_map,Ln];rfl);have hzA:(A.map eA).length<sizeLine:=gv (by rw[aZ];lia);have hzS:(S.map eM).length<sizeLine:=gv (by rw[aZ];lia);have Oh:flatD .non=true:=rfl;unfold gw;dsimp only;rw[NN];unfold bP;rcases B4 nZ ps hl hp S[d] mv hn with⟨hf,e⟩|⟨t,hf,e⟩
 ·rw[hf];dsimp only;refine⟨some (.f,.non),?_⟩;rw[ay (env':=[some (.f,eN nZ ps),some (.f,.int ((q:Nat):Int)),some (.l .f,.lst (S.map eM)),some (.l .f,.lst (A.map eA)),some (.f,.int ((d:Nat):Int)),some (.f,.str mv),some (.f,.non)]) (by simp only[pv,↓reduceIte,Nat.reduceAdd,Nat.reduceLT,Nat.reduceLeDiff,Nat.reduceEqDiff,op,JS,e,Oh])];simp only[pv,↓reduceIte,Nat.reduceAdd,Nat.reduceLT,Nat.reduceLeDiff,Nat.reduceEqDiff,op,tH,kg]
 ·rw[hf];dsimp only;have hft:=xf t;have Mw:=E6 zj lV lU S t;have NO:isnO (eM t) .non=.ok (.f,.bl true):=id rfl;rw[ay (env':=[some (.f,eN nZ ps),some (.f,.int ((q:Nat):Int)),some (.l .f,.lst (S.map eM)),some (.l .f,.lst (A.map eA)),some (.f,.int ((d:Nat):Int)),some (.f,.str mv),some (.f,eM t)]) (by simp only[pv,↓reduceIte,Nat.reduceAdd,Nat.reduceLT,Nat.reduceLeDiff,Nat.reduceEqDiff,op,JS,e,hft])];by_cases hm:t∈S
  ·rw[Qa hm];have Hj:=E7 zj lV lU S t hm;dsimp only;refine⟨some (.f,eM t),?_⟩;unfold pos;rw[Qi];simp only[pv,↓reduceIte,Nat.reduceAdd,Nat.reduceLT,Nat.reduceLeDiff,Nat.reduceEqDiff,op,NO,Mw,hm,Sm,T6,kg,xc,Hj,hzA];rfl
  ·rw[Qf hm];by_cases h9:S.length=8
   ·rw[Qa h9];dsimp only;intro h8;have he:((S.length:Int)==((q:Nat):Int))=true:=by rw[h9,h8];rfl
    simp only[pv,↓reduceIte,Nat.reduceAdd,Nat.reduceLT,Nat.reduceLeDiff,Nat.reduceEqDiff,op,NO,Mw,hm,R5,Ts,aZ,he]
   ·rw[Qf h9];dsimp only;have he:((S.length:Int)==((q:Nat):Int))=false:=by
     rw[Rq];lia
    have Hj:=DO zj lV lU S t hm;refine⟨some (.f,eM t),?_⟩;rw[Qi,Qi,dH,QV];have hzS':S.length<sizeLine:=gv (by lia);have hzA':A.length<sizeLine:=gv (by lia);simp only[pv,↓reduceIte,Nat.reduceAdd,Nat.reduceLT,Nat.reduceLeDiff,Nat.reduceEqDiff,op,NO,Mw,hm,R5,Ts,kg,aZ,he,xc,Hj,hzA',hzS'];rfl
theorem pZ{nZ:Fq}{ps:List Pl}{d:Nat}{mv:List Nat}{r r':Rn}(h:gw nZ ps d mv r=some r')(h8:r.1.length<=8):r.1.length<=r'.1.length/\r'.1.length<=8/\r'.2.length<=r.2.length+1:=by
 unfold gw at h;split at h
 ·cases h;lia
 ·split at h
  ·cases h;refine⟨P9 _,h8,?_⟩;rw[j0];exact P9 _
  ·split at h
   ·cases h
   ·cases h;dsimp only;rw[j0,j0,Qs,Qs];lia
theorem vZ{nZ:Fq}{ps:List Pl}{d:Nat}:∀(l:Fq) {r r':Rn},nQ nZ ps d l r=some r'->r.1.length<=8->r.1.length<=r'.1.length/\r'.1.length<=8/\r'.2.length<=r.2.length+l.length
 |[],r,r',h,h8=>by
  cases h;exact⟨P9 _,h8,P9 _⟩
 |mv::l,r,r',h,h8=>by
  unfold nQ at h;obtain⟨r1,h1,h2⟩:=Qz.mp h;have b1:=pZ h1 h8;have b2:=vZ l h2 b1.2.1;rw[Ql];lia
theorem xg{q:Nat}(hq:8<=q)(nZ:Fq)(ps:List Pl)(hl:ps.length<=100)(hp:∀p∈ps,Gj p nZ.length)(d:Nat):∀(l:Fq),(∀mv∈l,mv∈nZ)->∀(r:Rn),r.2.length+l.length<=1000->r.1.length<=8->d<r.1.length->∀t5 t6:Option R,
  match nQ nZ ps d l r with
  |some r'=>∃u5 u6,gR (au 5) bP (l.map D.str) [some (.f,eN nZ ps),some (.f,.int ((q:Nat):Int)),some (.l .f,.lst (r.1.map eM)),some (.l .f,.lst (r.2.map eA)),some (.f,.int ((d:Nat):Int)),t5,t6]=.ok (.nx [some (.f,eN nZ ps),some (.f,.int ((q:Nat):Int)),some (.l .f,.lst (r'.1.map eM)),some (.l .f,.lst (r'.2.map eA)),some (.f,.int ((d:Nat):Int)),u5,u6])
  |none=>q=8->gR (au 5) bP (l.map D.str) [some (.f,eN nZ ps),some (.f,.int ((q:Nat):Int)),some (.l .f,.lst (r.1.map eM)),some (.l .f,.lst (r.2.map eA)),some (.f,.int ((d:Nat):Int)),t5,t6]=.ok (.rt (.f,.non))
 |[],_,r,_,_,_,t5,t6=>⟨t5,t6,rfl⟩
 |mv::l,hm,r,hA,h8,hd,t5,t6=>by
  have h1:=B5 hq nZ ps hl hp r.1 r.2 (by lia) h8 d hd mv (hm mv P8) t6;have ha:au 5 (.str mv) [some (.f,eN nZ ps),some (.f,.int ((q:Nat):Int)),some (.l .f,.lst (r.1.map eM)),some (.l .f,.lst (r.2.map eA)),some (.f,.int ((d:Nat):Int)),t5,t6]=.ok [some (.f,eN nZ ps),some (.f,.int ((q:Nat):Int)),some (.l .f,.lst (r.1.map eM)),some (.l .f,.lst (r.2.map eA)),some (.f,.int ((d:Nat):Int)),some (.f,.str mv),t6]:=rfl;unfold nQ;cases hs:gw nZ ps d mv r with
  |none=>
   have LO:gw nZ ps d mv (r.1,r.2)=none:=hs;rw[LO]at h1;dsimp only[Option.bind]at h1 ⊢;intro Mx;rw[dH,jY,ha,Gh,h1 Mx,Gh]
  |some r1=>
   have LO:gw nZ ps d mv (r.1,r.2)=some r1:=hs;have b:=pZ hs h8;rw[LO]at h1;obtain⟨u6,h1⟩:=h1;rw[Ql]at hA;have ih:=xg hq nZ ps hl hp d l (fun x hx=>hm x (Qg _ hx)) r1 (by lia) b.2.1 (by lia) (some (.f,.str mv)) u6;dsimp only[Option.bind];cases hr:nQ nZ ps d l r1 with
   |none=>
    rw[hr]at ih;dsimp only at ih ⊢;intro Mx;rw[dH,jY,ha,Gh,h1,Gh];exact ih Mx
   |some r2=>
    rw[hr]at ih;dsimp only at ih ⊢;obtain⟨v5,v6,ih⟩:=ih;refine⟨v5,v6,?_⟩;rw[dH,jY,ha,Gh,h1,Gh];exact ih
theorem B6{q:Nat}(hq:8<=q)(nZ:Fq)(hn:nZ.length<=3)(ps:List Pl)(hl:ps.length<=100)(hp:∀p∈ps,Gj p nZ.length):∀(f F d:Nat) (r:Rn),r.1.length<=8->d<=r.1.length->r.2.length<=3*d->9<=f+d->f<=F->∀t5 t6:Option R,
  match qI nZ ps f d r with
  |some r'=>r'.2.length<=24/\∃u4 u5 u6,dm (GL (aE JW (aq 4) (ar (bq nN (ag (aq 2) az))))) b7 F [some (.f,eN nZ ps),some (.f,.int ((q:Nat):Int)),some (.l .f,.lst (r.1.map eM)),some (.l .f,.lst (r.2.map eA)),some (.f,.int ((d:Nat):Int)),t5,t6]=.ok (.nx [some (.f,eN nZ ps),some (.f,.int ((q:Nat):Int)),some (.l .f,.lst (r'.1.map eM)),some (.l .f,.lst (r'.2.map eA)),u4,u5,u6])
  |none=>q=8->dm (GL (aE JW (aq 4) (ar (bq nN (ag (aq 2) az))))) b7 F [some (.f,eN nZ ps),some (.f,.int ((q:Nat):Int)),some (.l .f,.lst (r.1.map eM)),some (.l .f,.lst (r.2.map eA)),some (.f,.int ((d:Nat):Int)),t5,t6]=.ok (.rt (.f,.non))
 | 0,F,d,r,h8,hd,hA,hf,hF,t5,t6=>by lia
 |f+1,0,d,r,h8,hd,hA,hf,hF,t5,t6=>by lia
 |f+1,F+1,d,r,h8,hd,hA,hf,hF,t5,t6=>by
  unfold qI;by_cases FH:d<r.1.length
  ·rw[Qa FH];have h1:=xg hq nZ ps hl hp d nZ (fun _ h=>h) r (by lia) h8 FH t5 t6;have hc:(GL (aE JW (aq 4) (ar (bq nN (ag (aq 2) az))))) [some (.f,eN nZ ps),some (.f,.int ((q:Nat):Int)),some (.l .f,.lst (r.1.map eM)),some (.l .f,.lst (r.2.map eA)),some (.f,.int ((d:Nat):Int)),t5,t6]=.ok (true,[some (.f,eN nZ ps),some (.f,.int ((q:Nat):Int)),some (.l .f,.lst (r.1.map eM)),some (.l .f,.lst (r.2.map eA)),some (.f,.int ((d:Nat):Int)),t5,t6]):=by
    have:(d:Int)<(r.1.length:Int):=by lia
    simp only[pv,seval,op,aZ,this,Sm]
   have go:∀qq:Res Out,gR (au 5) bP (nZ.map D.str) [some (.f,eN nZ ps),some (.f,.int ((q:Nat):Int)),some (.l .f,.lst (r.1.map eM)),some (.l .f,.lst (r.2.map eA)),some (.f,.int ((d:Nat):Int)),t5,t6]=qq->fM [some (.f,eN nZ ps),some (.f,.int ((q:Nat):Int)),some (.l .f,.lst (r.1.map eM)),some (.l .f,.lst (r.2.map eA)),some (.f,.int ((d:Nat):Int)),t5,t6]=qq:=fun qq h=>by
    unfold fM;unfold eN at h ⊢;simp only[pv,seval,op];exact h
   cases hr:nQ nZ ps d nZ r with
   |none=>
    rw[hr]at h1;dsimp only[Option.bind]at h1 ⊢;intro Mx;rw[gf,hc,Gh];dsimp only;rw[Qa rfl];unfold b7;rw[Ir,go _ (h1 Mx),Gh];rfl
   |some r1=>
    rw[hr]at h1;dsimp only[Option.bind]at h1 ⊢;obtain⟨u5,u6,h1⟩:=h1;have b:=vZ nZ hr h8;have e2:b7 [some (.f,eN nZ ps),some (.f,.int ((q:Nat):Int)),some (.l .f,.lst (r.1.map eM)),some (.l .f,.lst (r.2.map eA)),some (.f,.int ((d:Nat):Int)),t5,t6]=.ok (.nx [some (.f,eN nZ ps),some (.f,.int ((q:Nat):Int)),some (.l .f,.lst (r1.1.map eM)),some (.l .f,.lst (r1.2.map eA)),some (.f,.int ((d+1:Nat):Int)),u5,u6]):=by
     unfold b7;rw[ay (go _ h1)];unfold hJ;simp only[pv,seval,op,Int.natCast_add,U7]
    have ih:=B6 hq nZ hn ps hl hp f F (d+1) r1 b.2.1 (by lia) (by lia) (by lia) (by lia) u5 u6;cases hqr:qI nZ ps f (d+1) r1 with
    |none=>
     rw[hqr]at ih;dsimp only at ih ⊢;intro Mx;rw[gf,hc,Gh];dsimp only;rw[Qa rfl,e2,Gh];exact ih Mx
    |some r2=>
     rw[hqr]at ih;dsimp only at ih ⊢;obtain⟨hb,v4,v5,v6,ih⟩:=ih;refine⟨hb,v4,v5,v6,?_⟩;rw[gf,hc,Gh];dsimp only;rw[Qa rfl,e2,Gh];exact ih
  ·rw[Qf FH];dsimp only;refine⟨by lia,some (.f,.int ((d:Nat):Int)),t5,t6,?_⟩;have hc:(GL (aE JW (aq 4) (ar (bq nN (ag (aq 2) az))))) [some (.f,eN nZ ps),some (.f,.int ((q:Nat):Int)),some (.l .f,.lst (r.1.map eM)),some (.l .f,.lst (r.2.map eA)),some (.f,.int ((d:Nat):Int)),t5,t6]=.ok (false,[some (.f,eN nZ ps),some (.f,.int ((q:Nat):Int)),some (.l .f,.lst (r.1.map eM)),some (.l .f,.lst (r.2.map eA)),some (.f,.int ((d:Nat):Int)),t5,t6]):=by
    have:¬ (d:Int)<(r.1.length:Int):=by lia
    simp only[pv,seval,op,aZ,this,R5]
   rw[gf,hc,Gh];rfl
abbrev bD(nZ:Fq)(ps:List Pl):Option Rn:=qI nZ ps 9 0 ([ps.map (·.1)],[])
theorem xh{q:Nat}(hq:8<=q)(nZ:Fq)(hn:nZ.length<=3)(ps:List Pl)(hl:ps.length<=100)(hp:∀p∈ps,Gj p nZ.length):
  match bD nZ ps with
   |some r=>aS [eN nZ ps,.int ((q:Nat):Int)]=.ok (.f,.tup [.lst ((bI dj r.2).map eA),.lst (r.1.map eM)])
   |none=>q=8->aS [eN nZ ps,.int ((q:Nat):Int)]=.ok (.f,.non):=by
 have hh:∀(r:R),sSeq dh eS [some (.f,eN nZ ps),some (.f,.int ((q:Nat):Int)),some (.l .f,.lst [eM (ps.map (·.1))]),some (.l .f,.lst []),some (.f,.int 0),none,none]=.ok (.rt r)->aS [eN nZ ps,.int ((q:Nat):Int)]=.ok r:=fun r hr=>by
  unfold aS kK;rw[bo (h:=by rfl)];have hc:bX (gm 3 (aB (au 0) (aB (au 1) (aB (au 2) cq)))) cW (aK 0) (ps.map eP) [none,none,none]=.ok ((ps.map (·.1)).map D.int):=by
   rw[aW (r:=fun p:Pl=>D.int p.1) (fun env=>∃t u w,env=[t,u,w]) ps ?_ _ ⟨none,none,none,rfl⟩]
   ·rw[Qe];rfl
   ·rintro p _ env ⟨t,u,w,rfl⟩;exact⟨[some (.f,.int p.1),some (.f,.tup (p.2.1.map D.int)),some (.f,.tup (p.2.2.map D.int))],by unfold eP;simp only[pv,↓reduceIte,Nat.reduceAdd,Nat.reduceLT,Nat.reduceLeDiff,Nat.reduceEqDiff],.f,_,rfl,_,_,_,rfl⟩
  have hlen:((ps.map (·.1)).map D.int).length<=sizeLine:=aM (by rw[aZ,aZ];lia);have IC:=Fi (ps.map (·.1));rw[ay (env':=[some (.f,eN nZ ps),some (.f,.int ((q:Nat):Int)),some (.l .f,.lst [eM (ps.map (·.1))]),none,none,none,none]) (by
   unfold eN eM;simp only[pv,↓reduceIte,Nat.reduceAdd,Nat.reduceLT,Nat.reduceLeDiff,Nat.reduceEqDiff,op,hc,hlen,IC])]
  rw[ay (env':=[some (.f,eN nZ ps),some (.f,.int ((q:Nat):Int)),some (.l .f,.lst [eM (ps.map (·.1))]),some (.l .f,.lst []),none,none,none]) (by simp only[pv,↓reduceIte,Nat.reduceAdd,Nat.reduceLT,Nat.reduceLeDiff,Nat.reduceEqDiff,op])];rw[ay (env':=[some (.f,eN nZ ps),some (.f,.int ((q:Nat):Int)),some (.l .f,.lst [eM (ps.map (·.1))]),some (.l .f,.lst []),some (.f,.int 0),none,none]) (by simp only[pv,↓reduceIte,Nat.reduceAdd,Nat.reduceLT,Nat.reduceLeDiff,Nat.reduceEqDiff,op])];rw[hr];rfl
 have w:=B6 hq nZ hn ps hl hp 9 100000 0 ([ps.map (·.1)],[]) (by show 1<=8;decide) (QJ _) (P9 _) (by decide) (by decide) none none;unfold bD;cases hr:qI nZ ps 9 0 ([ps.map (·.1)],[]) with
 |some r=>
  rw[hr]at w;obtain⟨hA,u4,u5,u6,w⟩:=w;refine hh _ ?_;rw[ay (env':=_) (by
   unfold dh;exact w)]
  unfold eS;simp only[pv,↓reduceIte,Nat.reduceAdd,Nat.reduceLT,Nat.reduceLeDiff,Nat.reduceEqDiff,op,za r.2 (by lia)]
 |none=>
  rw[hr]at w;intro h8;have w2:dh [some (.f,eN nZ ps),some (.f,.int ((q:Nat):Int)),some (.l .f,.lst [eM (ps.map (·.1))]),some (.l .f,.lst []),some (.f,.int 0),none,none]=.ok (.rt (.f,.non)):=by
   unfold dh;exact w h8
  refine hh _ ?_;rw[Ir,w2];rfl
theorem xi(nZ:Fq)(hn:nZ.length<=3)(ps:List Pl)(hl:ps.length<=100)(hp:∀p∈ps,Gj p nZ.length):
  aS [eN nZ ps,.int 8]=.ok (.f,match bD nZ ps with
   |some r=>.tup [.lst ((bI dj r.2).map eA),.lst (r.1.map eM)]
   |none=>.non):=by
 have h:=xh (q:=8) (P9 _) nZ hn ps hl hp;cases hr:bD nZ ps with
 |some r=>
  rw[hr]at h;exact h
 |none=>
  rw[hr]at h;exact h rfl
theorem ub(nZ:Fq)(hn:nZ.length<=3)(ps:List Pl)(hl:ps.length<=100)(hp:∀p∈ps,Gj p nZ.length){r:Rn}(hr:bD nZ ps=some r):aS [eN nZ ps,.int 12]=.ok (.f,.tup [.lst ((bI dj r.2).map eA),.lst (r.1.map eM)]):=by
 have h:=xh (q:=12) (by decide) nZ hn ps hl hp;rw[hr]at h;exact h
theorem xj{S:List (List Int)}{t:List Int}(h:t∈S):S[pos S t]?=some t:=by
 have h3:(S.findIdx fun x=>decide (x=t))<S.length:=List.findIdx_lt_length_of_exists ⟨t,h,Q9 rfl⟩;have h4:=UI (p:=fun x=>decide (x=t)) (xs:=S) (w:=h3);unfold pos;rw[fA h3];congr 1
 simpa using h4
def Zr(nZ:Fq)(ps:List Pl):Prop:=∃S A m,Rm nZ ps S A m/\S.length=8
section
variable{nZ:Fq}{ps:List Pl}
theorem zk{d j:Nat}{mv:List Nat}{r:Rn}(rm:Rm nZ ps r.1 r.2 (d+1))(hd:d<r.1.length)(hj:nZ[j]?=some mv)(fu:Fu nZ ps r.1 r.2 d j):
  match gw nZ ps d mv r with
  |some r'=>Rm nZ ps r'.1 r'.2 (d+1)/\Fu nZ ps r'.1 r'.2 d (j+1)
  |none=>Zr nZ ps:=by
 have hn:=Qj hj;have Ln:r.1[d]?=some r.1[d]:=fA hd;have NN:r.1.getD d []=r.1[d]:=by rw[List.getD_eq_getElem?_getD,Ln];rfl
 unfold gw;rw[NN];cases hf:cF (nZ.idxOf mv) (r.1[d].zip ps) with
 |none=>exact⟨rm,fu.next Ln (fun _ _ h=>h) (fun _ h=>h) hj fun t h=>by rw[hf]at h;cases h⟩
 |some t=>
  dsimp only;by_cases hm:t∈r.1
  ·rw[Qa hm];exact⟨rm.old hn Ln (xj hm) hf,fu.next Ln (fun _ _ h=>h) (fun _ h=>Qd _ h) hj fun t' h=>by rw[hf]at h;cases h;exact⟨_,xj hm,P7 _ (Qx.mpr rfl)⟩⟩
  ·rw[Qf hm];by_cases h9:r.1.length=8
   ·rw[Qa h9];exact⟨_,_,_,rm,h9⟩
   ·rw[Qf h9];have:=rm.le;exact⟨rm.new hn Ln hm hf (by lia),fu.next Ln (fun i x h=>by rw[List.getElem?_append_left (iX h).1];exact h) (fun _ h=>Qd _ h) hj fun t' h=>by rw[hf]at h;cases h;exact⟨r.1.length,by rw[List.getElem?_append_right (P9 _),Tp];rfl,P7 _ (Qx.mpr rfl)⟩⟩
theorem xk{d:Nat}:∀(l:Fq) (j:Nat) (r:Rn),nZ.drop j=l->Rm nZ ps r.1 r.2 (d+1)->d<r.1.length->Fu nZ ps r.1 r.2 d j->
  match nQ nZ ps d l r with
  |some r'=>Rm nZ ps r'.1 r'.2 (d+1)/\Fu nZ ps r'.1 r'.2 d (j+l.length)
  |none=>Zr nZ ps
 |[],j,r,_,rm,_,fu=>⟨rm,fu⟩
 |mv::l,j,r,hl,rm,hd,fu=>by
  have hj:nZ[j]?=some mv:=by
   have:(nZ.drop j)[0]?=some mv:=by rw[hl];rfl
   rw[List.getElem?_drop]at this;exact this
  have hl':nZ.drop (j+1)=l:=by
   rw[<-List.tail_drop,hl];rfl
  have h1:=zk rm hd hj fu;unfold nQ;cases hs:gw nZ ps d mv r with
  |none=>
   rw[hs]at h1;exact h1
  |some r1=>
   rw[hs]at h1;have b:=pZ hs rm.le;have ih:=xk l (j+1) r1 hl' h1.1 (by lia) h1.2;rw[Ql,show j+(l.length+1)=j+1+l.length by lia];exact ih
theorem xl(hn:nZ.length<=3):∀(f d:Nat) (r:Rn),Rm nZ ps r.1 r.2 d->d<=r.1.length->r.2.length<=3*d->Fu nZ ps r.1 r.2 d 0->9<=f+d->
  match qI nZ ps f d r with
  |some r'=>(∃m,Rm nZ ps r'.1 r'.2 m)/\Fu nZ ps r'.1 r'.2 r'.1.length 0/\r'.2.length<=24
  |none=>Zr nZ ps
 | 0,d,r,rm,hd,_,_,hf=>by
  have:=rm.le;lia
 |f+1,d,r,rm,hd,hA,fu,hf=>by
  have h8:=rm.le;unfold qI;by_cases FH:d<r.1.length
  ·rw[Qa FH];have h1:=xk nZ 0 r rfl (rm.more (Sg d)) FH fu;cases hs:nQ nZ ps d nZ r with
   |none=>
    rw[hs]at h1;exact h1
   |some r1=>
    rw[hs,SV]at h1;have b:=vZ nZ hs h8;exact xl hn f (d+1) r1 h1.1 (by lia) (by lia) h1.2.row (by lia)
  ·rw[Qf FH];have:d=r.1.length:=by lia
   exact⟨⟨d,rm⟩,this▸fu,by lia⟩
theorem rm0:Rm nZ ps [ps.map (·.1)] [] 0:=⟨Qw.mpr ⟨Q0,RM⟩,rfl,fun x hx=>by rw[kq hx,aZ],by simp,(fun _ h=>nomatch h),fun j j1 j2=>by rw[Qs]at j2;lia⟩
theorem j8(hn:nZ.length<=3):
  match bD nZ ps with
  |some r'=>(∃m,Rm nZ ps r'.1 r'.2 m)/\Fu nZ ps r'.1 r'.2 r'.1.length 0/\r'.2.length<=24
  |none=>Zr nZ ps:=xl hn 9 0 ([ps.map (·.1)],[]) rm0 (QJ _) (P9 _) (fun i k h=>by lia) (by decide)
theorem p3{d:Nat}{mv:List Nat}{r r':Rn}(h:gw nZ ps d mv r=some r'):∀m∈r.1,m∈r'.1:=by
 unfold gw at h;split at h
 ·cases h;exact fun _ h=>h
 ·split at h
  ·cases h;exact fun _ h=>h
  ·split at h
   ·cases h
   ·cases h;exact fun _ h=>Qd _ h
theorem oT{d:Nat}:∀(l:Fq) {r r':Rn},nQ nZ ps d l r=some r'->∀m∈r.1,m∈r'.1
 |[],r,r',h=>by cases h;exact fun _ h=>h
 |mv::l,r,r',h=>by
  unfold nQ at h;obtain⟨r1,h1,h2⟩:=Qz.mp h;exact fun m hm=>oT l h2 m (p3 h1 m hm)
theorem uc:∀(f d:Nat) {r r':Rn},qI nZ ps f d r=some r'->∀m∈r.1,m∈r'.1
 | 0,d,r,r',h=>by cases h;exact fun _ h=>h
 |f+1,d,r,r',h=>by
  unfold qI at h;split at h
  ·obtain⟨r1,h1,h2⟩:=Qz.mp h;exact fun m hm=>uc f (d+1) h2 m (oT nZ h1 m hm)
  ·cases h;exact fun _ h=>h
end
section
variable{nZ:Fq}{ps ID:List Pl}{h:List Int->List Int}{Sf:List (List Int)}
theorem B7(inj:∀m∈Sf,∀m'∈Sf,h m=h m'->m=m'){t:List Int}(ht:t∈Sf):∀{S:List (List Int)},(∀m∈S,m∈Sf)->pos (S.map h) (h t)=pos S t
 |[],_=>rfl
 |m::S,hS=>by
  have ih:=B7 inj ht (S:=S) fun x hx=>hS x (Qg _ hx)
  unfold pos at ih ⊢;rw[dH,TQ,TQ,ih];have:decide (h m=h t)=decide (m=t):=by
   rw[decide_eq_decide];exact⟨fun e=>inj m (hS m P8) t ht e,fun e=>by rw[e]⟩
  rw[this]
structure Sim(nZ:Fq)(ps ID:List Pl)(h:List Int->List Int)(Sf:List (List Int)):Prop where
 z:h (ps.map (·.1))=ID.map (·.1)
 fi:∀m∈Sf,∀mv∈nZ,cF (nZ.idxOf mv) ((h m).zip ID)=(cF (nZ.idxOf mv) (m.zip ps)).map h
 inj:∀m∈Sf,∀m'∈Sf,h m=h m'->m=m'
def hR(h:List Int->List Int)(r:Rn):Rn:=(r.1.map h,r.2)
theorem v7(s:Sim nZ ps ID h Sf){d:Nat}{mv:List Nat}(O5:mv∈nZ){r r':Rn}(hd:d<r.1.length)(hs:gw nZ ps d mv r=some r')(sub:∀m∈r'.1,m∈Sf):gw nZ ID d mv (hR h r)=some (hR h r'):=by
 have NN:r.1.getD d []=r.1[d]:=by rw[List.getD_eq_getElem?_getD,fA hd];rfl
 have hgu:(hR h r).1.getD d []=h r.1[d]:=by
  unfold hR;rw[List.getD_eq_getElem?_getD,List.getElem?_map,fA hd];rfl
 have Lo:∀m∈r.1,m∈Sf:=fun m hm=>sub m (p3 hs m hm)
 unfold gw at hs ⊢;rw[NN]at hs;rw[hgu,s.fi _ (Lo _ (RZ hd)) mv O5];cases hf:cF (nZ.idxOf mv) (r.1[d].zip ps) with
 |none=>
  rw[hf]at hs;cases hs;rfl
 |some t=>
  rw[hf]at hs;have e3:(hR h r).1.length=r.1.length:=aZ _;dsimp only[Option.map]at hs ⊢;rw[e3];by_cases hm:t∈r.1
  ·rw[Qa hm]at hs;cases hs;rw[Qa (show h t∈(hR h r).1 from QD.mpr ⟨t,hm,rfl⟩),show pos (hR h r).1 (h t)=pos r.1 t from B7 s.inj (Lo t hm) Lo];rfl
  ·rw[Qf hm]at hs;by_cases h8:r.1.length=8
   ·rw[Qa h8]at hs;cases hs
   ·rw[Qf h8]at hs;cases hs;have ht:t∈Sf:=sub t (P7 _ (Qx.mpr rfl));rw[Qf (fun q=>by
     obtain⟨m,MO,e⟩:=lS q;exact hm (s.inj m (Lo m MO) t ht e▸MO)),Qf h8]
    unfold hR;dsimp only;rw[Qi];rfl
theorem ud(s:Sim nZ ps ID h Sf){d:Nat}:∀(l:Fq),(∀mv∈l,mv∈nZ)->∀{r r':Rn},r.1.length<=8->d<r.1.length->nQ nZ ps d l r=some r'->(∀m∈r'.1,m∈Sf)->nQ nZ ID d l (hR h r)=some (hR h r')
 |[],_,r,r',_,_,e,_=>by cases e;rfl
 |mv::l,hl,r,r',h8,hd,e,sub=>by
  unfold nQ at e ⊢;obtain⟨r1,h1,h2⟩:=Qz.mp e;have b:=pZ h1 h8;rw[v7 s (hl mv P8) hd h1 fun m hm=>sub m (oT l h2 m hm)];exact ud s l (fun x hx=>hl x (Qg _ hx)) b.2.1 (by lia) h2 sub
theorem ue(s:Sim nZ ps ID h Sf):∀(f d:Nat) {r r':Rn},r.1.length<=8->qI nZ ps f d r=some r'->(∀m∈r'.1,m∈Sf)->qI nZ ID f d (hR h r)=some (hR h r')
 | 0,d,r,r',_,e,_=>by cases e;rfl
 |f+1,d,r,r',h8,e,sub=>by
  have e3:(hR h r).1.length=r.1.length:=aZ _;unfold qI at e ⊢;rw[e3];by_cases hd:d<r.1.length
  ·rw[Qa hd]at e ⊢;obtain⟨r1,h1,h2⟩:=Qz.mp e;rw[ud s nZ (fun _ h=>h) h8 hd h1 fun m hm=>sub m (uc f (d+1) h2 m hm)];exact ue s f (d+1) (vZ nZ h1 h8).2.1 h2 sub
  ·rw[Qf hd]at e ⊢;cases e;rfl
theorem iF{r:Rn}(e:bD nZ ps=some r)(s:Sim nZ ps ID h r.1):bD nZ ID=some (hR h r):=by
 have:=ue s 9 0 (r:=([ps.map (·.1)],[])) (by show 1<=8;decide) e fun _ h=>h
 unfold bD;rw[<-this];unfold hR;rw[dH,QV,s.z]
end
theorem flat_P(p:Pl):flatD (eP p)=true:=by
 unfold eP;rw[cA];simp only[flatDs,cA,Fi,jg];rfl
theorem zl(ps:List Pl):flatDs (ps.map eP)=true:=by
 rw[bh,Rf,Qp];exact fun p _=>flat_P p
theorem uf{α:Type}[DecidableEq α]:∀(l m:List α),l.Nodup->(∀x∈l,x∈m)->l.length<=m.length
 |[],m,_,_=>QJ _
 |a::l,m,nd,h=>by
  rw[Qw]at nd;have ha:=h a P8;have:=uf l (m.erase a) nd.2 fun x hx=>(List.mem_erase_of_ne (fun e=>nd.1 (by rw[<-e];exact hx))).mpr (h x (Qg _ hx))
  rw[TM ha]at this;have:=Ul ha;rw[Ql];lia
def lX(nZ:Fq)(b:Int):Pl:=(b,nZ.map fun _=>1,nZ.map fun _=>0)
theorem p4(nZ:Fq)(c:Int){k:Nat}(h:k<nZ.length):(nZ.map fun _=>c).getD k 0=c:=by
 rw[List.getD_eq_getElem?_getD,List.getElem?_map,fA h];rfl
theorem ug{nZ:Fq}{ps:List Pl}{b:Int}{k:Nat}(hk:k<nZ.length){s t:List Int}(hs:s.length=(ps++[lX nZ b]).length)(hf:cF k (s.zip (ps++[lX nZ b]))=some t):1<=s.getD ps.length 0/\t.getD ps.length 0=s.getD ps.length 0-1:=by
 rw[j0,Qs]at hs;have FH:ps.length<s.length:=by lia
 have e:(s.zip (ps++[lX nZ b]))[ps.length]?=some (s[ps.length],lX nZ b):=by
  rw[List.getElem?_zip_eq_some];exact⟨fA FH,by rw[List.getElem?_append_right (P9 _),Tp];rfl⟩
 obtain⟨h1,h2⟩:=jh k hf e;have e1:(lX nZ b).2.1.getD k 0=1:=p4 nZ 1 hk;have e2:(lX nZ b).2.2.getD k 0=0:=p4 nZ 0 hk;dsimp only at h1 h2;rw[e1]at h1;rw[e1,e2]at h2;have e3:s.getD ps.length 0=s[ps.length]:=by rw[List.getD_eq_getElem?_getD,fA FH];rfl
 rw[e3,List.getD_eq_getElem?_getD,h2];exact⟨by lia,by show _=_;simp⟩
theorem wa{nZ:Fq}{ps:List Pl}{S:List (List Int)}{A:List Fn}{m:Nat}(r:Rm nZ (ps++[lX nZ 1]) S A m):S.length<=1+nZ.length:=by
 have hz:=r.z;cases hS:S with
 |nil=>exact QJ _
 |cons s0 tl=>
  rw[hS,List.getElem?_cons_zero,TN]at hz;have h0:s0.getD ps.length 0=1:=by
   rw[hz,List.getD_eq_getElem?_getD,List.getElem?_map,List.getElem?_append_right (P9 _),Tp];rfl
  have key:∀j:Nat,1<=j->∀s,S[j]?=some s->s.getD ps.length 0=0/\∃mv∈nZ,cF (nZ.idxOf mv) (s0.zip (ps++[lX nZ 1]))=some s:=by
   intro j;induction j using Nat.strongRecOn with
   |_ j ih=>
    intro hj s hs;obtain⟨a,ha,e1,b,hb,e2⟩:=r.rc j hj (iX hs).1;obtain⟨hn,i',j',_,e3,e4,x,y,hx,hy,hf⟩:=r.ab a ha;have:i'=b:=by lia
    subst this;have:j'=j:=by lia
    subst this;rw[hs]at hy;cases hy;have hd:=ug (Q6 hn) (r.ln x (Qj hx)) hf;cases i' with
    |zero=>
     rw[hS,List.getElem?_cons_zero,TN]at hx;subst hx;exact⟨by lia,_,hn,hf⟩
    |succ i'=>
     have:=(ih (i'+1) hb (by lia) x hx).1;lia
  have nd:=r.nd;rw[hS]at nd;have:=uf tl (nZ.filterMap fun mv=>cF (nZ.idxOf mv) (s0.zip (ps++[lX nZ 1]))) (Qw.mp nd).2 fun s hs=>by
   obtain⟨i,hi⟩:=Qt.mp hs;obtain⟨_,mv,O5,hf⟩:=key (i+1) (by lia) s (by rw[hS,List.getElem?_cons_succ];exact hi);exact Ti.mpr ⟨mv,O5,hf⟩
  have h2:=List.length_filterMap_le (fun mv=>cF (nZ.idxOf mv) (s0.zip (ps++[lX nZ 1]))) nZ;rw[Ql];lia
theorem nJ(nZ:Fq)(c:Int):bX (au 0) cW (aP (.int c)) (nZ.map D.str) [none]=.ok ((nZ.map fun _=>c).map D.int):=by
 rw[aW (r:=fun _:List Nat=>D.int c) (fun env=>∃t,env=[t]) nZ ?_ _ ⟨none,rfl⟩]
 ·rw[Qe];rfl
 ·rintro n _ env ⟨t,rfl⟩;exact⟨[some (.f,.str n)],rfl,.f,_,rfl,_,rfl⟩
theorem Ej(ps:List Pl)(hl:ps.length<=100)(d:D):cU (.lst (ps.map eP)) (.lst [d])=.ok (.l .f,.lst (ps.map eP++[d])):=by
 rw[tu,Qa (line_le (by rw[aZ,Qs];lia))]
structure Nt(nZ:Fq)(ps:List Pl)(r:Rn):Prop where
 n0:nZ≠[]
 n3:nZ.length<=3
 nn:nZ.Nodup
 p0:ps≠[]
 p9:ps.length<=12
 po:∀p∈ps,Gj p nZ.length
 e:bD nZ ps=some r
theorem uh(nZ:Fq)(hn:nZ.length<=3)(ps:List Pl)(hl:ps.length<=100)(hp:∀p∈ps,Gj p nZ.length):
  (∃r,bD nZ ps=some r/\aS [eN nZ ps,.int 8]=.ok (.f,.tup [.lst ((bI dj r.2).map eA),.lst (r.1.map eM)]))\/(bD nZ ps=none/\aS [eN nZ ps,.int 8]=.ok (.f,.non)/\Zr nZ ps):=by
 have h:=xi nZ hn ps hl hp;have z:=j8 (ps:=ps) hn;cases e:bD nZ ps with
 |some r=>
  rw[e]at h;exact .inl ⟨r,rfl,h⟩
 |none=>
  rw[e]at h z;exact .inr ⟨rfl,h,z⟩
theorem DP(ns:List Int)(first:Nat):∃nZ ps r,Nt nZ ps r/\ps.length<=9/\df [.lst (ns.map D.int),.int (first:Int)]=.ok (.f,eN nZ ps):=by
 obtain⟨nZ,n0,n3,nn,nw,en⟩:=zh ns;obtain⟨ps,O6,hp0,hp8,ep⟩:=vY ns first nZ.length (by lia)
 have MN:=zl ps;have JH:flatD (.tup (nZ.map D.str))=true:=by rw[cA,PV.flat_strs]
 have Oh:flatD .non=true:=rfl;have Ko:∀(x y:List D),flatDs [.lst x,.lst y]=false:=fun _ _=>rfl
 unfold df kM;rw[bo (h:=by rfl)];rw[ay (env':=[some (.f,.lst (ns.map D.int)),some (.f,.int (first:Int)),some (.f,.tup (nZ.map D.str)),none,none,none,none]) (by simp only[pv,seval,op,en,JH])];rw[ay (env':=[some (.f,.lst (ns.map D.int)),some (.f,.int (first:Int)),some (.f,.tup (nZ.map D.str)),some (.f,.int (nZ.length:Int)),none,none,none]) (by simp only[pv,seval,op,aZ])];rw[ay (env':=[some (.f,.lst (ns.map D.int)),some (.f,.int (first:Int)),some (.f,.tup (nZ.map D.str)),some (.f,.int (nZ.length:Int)),some (.l .f,.lst (ps.map eP)),none,none]) (by simp only[pv,seval,op,ep,MN])];rcases uh nZ n3 ps (by lia) O6 with⟨r,e,er⟩|⟨_,er,_⟩
 ·refine⟨nZ,ps,r,⟨n0,n3,nn,hp0,by lia,O6,e⟩,by lia,?_⟩;unfold eN at er ⊢;simp only[pv,seval,op,er,Ko,kg,o_isnT,BU,CB]
 ·unfold eN at er;rw[ay (env':=[some (.f,.lst (ns.map D.int)),some (.f,.int (first:Int)),some (.f,.tup (nZ.map D.str)),some (.f,.int (nZ.length:Int)),some (.f,.lst (ps.map eP)),none,none]) (by simp only[pv,seval,op,er,Oh,tH,kg])];have c1:=nJ nZ 1;have c0:=nJ nZ 0;have l1:((nZ.map fun _=>(1:Int)).map D.int).length<=sizeLine:=aM (by rw[aZ,aZ];lia);have l0:((nZ.map fun _=>(0:Int)).map D.int).length<=sizeLine:=aM (by rw[aZ,aZ];lia);have f1:=Fi (nZ.map fun _=>(1:Int));have f0:=Fi (nZ.map fun _=>(0:Int));rw[ay (env':=[some (.f,.lst (ns.map D.int)),some (.f,.int (first:Int)),some (.f,.tup (nZ.map D.str)),some (.f,.int (nZ.length:Int)),some (.f,.lst (ps.map eP)),some (.f,.tup ((nZ.map fun _=>(1:Int)).map D.int)),none]) (by simp only[pv,seval,op,c1,l1,f1])];rw[ay (env':=[some (.f,.lst (ns.map D.int)),some (.f,.int (first:Int)),some (.f,.tup (nZ.map D.str)),some (.f,.int (nZ.length:Int)),some (.f,.lst (ps.map eP)),some (.f,.tup ((nZ.map fun _=>(1:Int)).map D.int)),some (.f,.tup ((nZ.map fun _=>(0:Int)).map D.int))]) (by simp only[pv,seval,op,c0,l0,f0])];have LB:∀b:Int,(ps++[lX nZ b]).map eP=ps.map eP++[.tup [.int b,.tup ((nZ.map fun _=>(1:Int)).map D.int),.tup ((nZ.map fun _=>(0:Int)).map D.int)]]:=fun b=>by
   rw[Qi];rfl
  have Lp:∀b:Int,∀p∈ps++[lX nZ b],Gj p nZ.length:=fun b p hp=>by
   rcases nt hp with hp|hp
   ·exact O6 p hp
   ·rw[kq hp];exact⟨aZ _,aZ _⟩
  have Ib:∀b:Int,(ps++[lX nZ b]).length<=9:=fun b=>by
   rw[j0,Qs];lia
  have NP:∀b:Int,ps++[lX nZ b]≠[]:=fun b h=>by simp at h
  have O7:=fun d=>Ej ps (by lia) d
  have lo:((ps.map eP).length)<=100:=by rw[aZ];lia
  rcases uh nZ n3 (ps++[lX nZ 2]) (by have:=Ib 2;lia) (Lp 2) with⟨r,e,er2⟩|⟨_,er2,_⟩
  ·refine⟨nZ,ps++[lX nZ 2],r,⟨n0,n3,nn,NP 2,by have:=Ib 2;lia,Lp 2,e⟩,Ib 2,?_⟩;unfold eN at er2 ⊢;rw[LB]at er2 ⊢;simp only[pv,seval,op,O7,er2,Ko,kg,o_isnT,BU,CB]
  ·rcases uh nZ n3 (ps++[lX nZ 1]) (by have:=Ib 1;lia) (Lp 1) with⟨r,e,er3⟩|⟨_,_,S,A,m,r,h8⟩
   ·refine⟨nZ,ps++[lX nZ 1],r,⟨n0,n3,nn,NP 1,by have:=Ib 1;lia,Lp 1,e⟩,Ib 1,?_⟩;unfold eN at er2 ⊢;rw[LB]at er2 ⊢;rw[ay (env':=[some (.f,.lst (ns.map D.int)),some (.f,.int (first:Int)),some (.f,.tup (nZ.map D.str)),some (.f,.int (nZ.length:Int)),some (.f,.lst (ps.map eP)),some (.f,.tup ((nZ.map fun _=>(1:Int)).map D.int)),some (.f,.tup ((nZ.map fun _=>(0:Int)).map D.int))]) (by simp only[pv,seval,op,O7,er2,Oh,tH,kg])];simp only[pv,seval,op,O7]
   ·have:=wa r;lia
theorem B8{nZ:Fq}{ps:List Pl}{r:Rn}(hn:nZ.length<=3)(e:bD nZ ps=some r):Ra nZ r.2 r.1.length:=by
 have h:=j8 (ps:=ps) hn;rw[e]at h;obtain⟨⟨m,rm⟩,_,HR⟩:=h;have h8:=rm.le;have h0:=(iX rm.z).1;refine⟨by lia,by lia,fun a ha=>?_,fun a ha=>(rm.ab a ha).1,rm.rc⟩;obtain⟨_,i,j,_,e1,e2,s,t,hs,ht,_⟩:=rm.ab a ha;have h1:=(iX hs).1;have h2:=(iX ht).1;lia
def wD(w:Fq):D:=.tup (w.map D.str)
theorem B9(w:Fq)(m:List Nat):zP (w.map D.str) [.str m]=.ok (.f,.int ((w.count m:Nat):Int)):=by
 unfold zP;dsimp only;rw[dw]
def row(nZ w:Fq):List Int:=nZ.map fun m=>((w.count m:Nat):Int)
theorem j9(nZ w:Fq)(hl:nZ.length<=1000):cx [.tup (nZ.map D.str),.tup (w.map D.str)]=.ok (.f,.tup ((row nZ w).map D.int)):=by
 unfold cx m9;rw[bo (h:=by rfl)];have hc:bX (au 0) cW (Bn zP (aq 1) (ag (aq 0) az)) (nZ.map D.str) [none,some (.f,.tup (w.map D.str))]=.ok ((row nZ w).map D.int):=by
  rw[aW (r:=fun m:List Nat=>D.int ((w.count m:Nat):Int)) (fun env=>∃t1,env=[t1,some (.f,.tup (w.map D.str))]) nZ ?_ _ ⟨_,rfl⟩]
  ·unfold row;rw[Qe];rfl
  ·rintro m _ env ⟨t1,rfl⟩;refine⟨[some (.f,.str m),some (.f,.tup (w.map D.str))],rfl,?_⟩;simp only[pv,↓reduceIte,Nat.reduceAdd,Nat.reduceLT,Nat.reduceLeDiff,Nat.reduceEqDiff,op,B9];exact⟨_,_,rfl,_,rfl⟩
 simp only[pv,↓reduceIte,Nat.reduceAdd,Nat.reduceLT,Nat.reduceLeDiff,Nat.reduceEqDiff,op,hc];rw[Qa (aM (by unfold row;rw[aZ,aZ];lia))];simp only[pv,↓reduceIte,Nat.reduceAdd,Nat.reduceLT,Nat.reduceLeDiff,Nat.reduceEqDiff,op]
theorem zm(ws:List (Fq)):flatDs (ws.map wD)=true:=by
 rw[bh,Rf,Qp];intro s _;show flatD (.tup _)=true;rw[cA,PV.flat_strs]
theorem Ca(l:List (Int×Int))(hl:l.length<=1000):jJ [.tup (l.map fun p=>.int p.1),.tup (l.map fun p=>.int p.2)]=.ok (.f,.tup ((l.map fun p=>p.1-p.2).map D.int)):=by
 unfold jJ xb;rw[bo (h:=by rfl)];have ez:((l.map fun p=>D.int p.1).zip (l.map fun p=>D.int p.2)).map (fun z=>D.tup [z.1,z.2])=l.map fun p=>D.tup [.int p.1,.int p.2]:=by
  rw[List.zip_map',Qe];rfl
 have hc:bX (gm 2 (aB (au 0) (aB (au 1) cq))) cW (aE oi (aq 0) (aq 1)) (l.map fun p=>D.tup [.int p.1,.int p.2]) [none,none]=.ok ((l.map fun p=>p.1-p.2).map D.int):=by
  rw[aW (r:=fun p:Int×Int=>D.int (p.1-p.2)) (fun env=>∃t1 t2,env=[t1,t2]) l ?_ _ ⟨_,_,rfl⟩]
  ·rw[Qe];rfl
  ·rintro p _ env ⟨t1,t2,rfl⟩;refine⟨_,oN _ _ t1 t2 [],?_⟩;simp only[pv,↓reduceIte,Nat.reduceAdd,Nat.reduceLT,Nat.reduceLeDiff,Nat.reduceEqDiff,op];exact⟨_,_,rfl,_,_,rfl⟩
 simp only[pv,↓reduceIte,Nat.reduceAdd,Nat.reduceLT,Nat.reduceLeDiff,Nat.reduceEqDiff,op,ez,hc];rw[Qa (aM (by rw[aZ,aZ];lia))];simp only[pv,↓reduceIte,Nat.reduceAdd,Nat.reduceLT,Nat.reduceLeDiff,Nat.reduceEqDiff,op]
def qO(nZ:Fq)(N:List Nd)(a:Fn):List Int:=(nZ.map fun m=>((((ba N a.1++[a.2.1]).count m:Nat):Int),(((ba N a.2.2).count m:Nat):Int))).map fun p=>p.1-p.2
theorem zo(nZ w w':Fq)(hl:nZ.length<=1000):jJ [.tup ((row nZ w).map D.int),.tup ((row nZ w').map D.int)]=.ok (.f,.tup (((nZ.map fun m=>(((w.count m:Nat):Int),((w'.count m:Nat):Int))).map fun p=>p.1-p.2).map D.int)):=by
 have h:=Ca (nZ.map fun m=>(((w.count m:Nat):Int),((w'.count m:Nat):Int))) (by rw[aZ];exact hl);rw[<-h];unfold row;rw[Qe,Qe,Qe,Qe];rfl
theorem uk{N:List Nd}{many:Nat}{s:Int}(h0:0<=s)(h:s<(many:Int)):Gw (((List.range many).map fun(s:Nat)=>ba N (s:Int)).map wD) s=some (.tup ((ba N s).map D.str)):=by
 obtain⟨k,rfl⟩:=Q7 h0;exact dA (by rw[List.getElem?_map,List.getElem?_map,List.getElem?_range (by lia)];rfl)
theorem iG(n:Nat)(am:List Fn):plainDs (n+3) (am.map eA)=true:=by
 induction am with
 |nil=>rfl
 |cons a l ih=>
  rw[dH,plainDs,ih];rfl
theorem wb(T:List Fn)(a:Fn):uA (eA a) (.lst (T.map eA))=.ok (.f,.bl (!decide (a∈T))):=by
 have e:qN (eA a) (T.map eA)=decide (a∈T):=by
  unfold qN;rw[RN,Qv,Q8,Qm];constructor
  ·rintro⟨x,hx,e⟩;have e:Fj (eA x) (eA a)=true:=e;rw[BV,Qm]at e;rw[<-e];exact hx
  ·intro h;refine⟨a,h,?_⟩;show Fj (eA a) (eA a)=true;rw[BV,Qm]
 unfold uA JV;dsimp only;rw[show plainD 40 (eA a)=true from rfl,iG 37 T,SK,Qa rfl,e];rfl
def HY(nZ:Fq)(N:List Nd)(T am:List Fn):List (List Int):=(am.filter fun a=>!decide (a∈T)).map (qO nZ N)
theorem zp(nZ:Fq)(N:List Nd)(T l:List Fn)(a:Fn):HY nZ N T (l++[a])=if a∈T then HY nZ N T l else HY nZ N T l++[qO nZ N a]:=by
 unfold HY;rw[List.filter_append,Qi];by_cases h:a∈T
 ·rw[Qa h,T5 (by simpa using h)];simp
 ·rw[Qf h,T4 (by simpa using h)];rfl
theorem um(nZ:Fq)(N:List Nd)(T l:List Fn):(HY nZ N T l).length<=l.length:=by
 unfold HY;rw[aZ];exact UA _ _
theorem qJ{nZ:Fq}{am:List Fn}{N:List Nd}{T:List Fn}{many:Nat}(ew:b0 [Fv nZ am]=.ok (.l .f,.lst (((List.range many).map fun(s:Nat)=>ba N (s:Int)).map wD)))(et:cw [.lst (am.map eA)]=.ok (.l .f,.lst (T.map eA)))
  (hb:∀a∈am,(0<=a.1/\a.1<(many:Int))/\0<=a.2.2/\a.2.2<(many:Int)) (hw:∀s:Int,(ba N s).length<=1000) (hn:nZ.length<=1000) (hl:am.length<=1000):c9 [Fv nZ am]=.ok (.l .f,.lst ((HY nZ N T am).map fun r=>D.tup (r.map D.int))):=by
 unfold c9 kG;rw[bo (h:=by rfl)];have hf:=zm ((List.range many).map fun(s:Nat)=>ba N (s:Int));rw[ay (env':=[some (.f,Fv nZ am),some (.l .f,.lst (((List.range many).map fun(s:Nat)=>ba N (s:Int)).map wD)),none,none,none]) (by simp only[pv,↓reduceIte,Nat.reduceAdd,Nat.reduceLT,Nat.reduceLeDiff,Nat.reduceEqDiff,op,ew,hf])];rw[ay (env':=[some (.f,Fv nZ am),some (.l .f,.lst (((List.range many).map fun(s:Nat)=>ba N (s:Int)).map wD)),some (.l .f,.lst (T.map eA)),none,none]) (by unfold Fv;simp only[pv,↓reduceIte,Nat.reduceAdd,Nat.reduceLT,Nat.reduceLeDiff,Nat.reduceEqDiff,op,et,tP])];rw[ay (env':=[some (.f,Fv nZ am),some (.l .f,.lst (((List.range many).map fun(s:Nat)=>ba N (s:Int)).map wD)),some (.l .f,.lst (T.map eA)),some (.l .f,.lst []),none]) (by simp only[pv,↓reduceIte,Nat.reduceAdd,Nat.reduceLT,Nat.reduceLeDiff,Nat.reduceEqDiff,op])];obtain⟨env',ef,t4,rfl⟩:=for_list (a:=au 4) (g:=eQ) (e:=eA) am (fun j env=>∃t4,env=[some (.f,Fv nZ am),some (.l .f,.lst (((List.range many).map fun(s:Nat)=>ba N (s:Int)).map wD)),some (.l .f,.lst (T.map eA)),some (.l .f,.lst ((HY nZ N T (am.take j)).map fun r=>D.tup (r.map D.int))),t4]) (by
  rintro j a env hj ⟨t4,rfl⟩;have Of:=Qj hj;have LC:=hb a Of;have ht:am.take (j+1)=am.take j++[a]:=by rw[Rt,hj];rfl
  refine⟨[some (.f,Fv nZ am),some (.l .f,.lst (((List.range many).map fun(s:Nat)=>ba N (s:Int)).map wD)),some (.l .f,.lst (T.map eA)),some (.l .f,.lst ((HY nZ N T (am.take j)).map fun r=>D.tup (r.map D.int))),some (.f,eA a)],rfl,_,?_,some (.f,eA a),rfl⟩;have Oi:=wb T a;rw[ht,zp];unfold eQ;by_cases h:a∈T
  ·rw[Qa h];simp only[pv,↓reduceIte,Nat.reduceAdd,Nat.reduceLT,Nat.reduceLeDiff,Nat.reduceEqDiff,op,Oi,h,Sm,T6,kg]
  ·rw[Qf h];have w1:=uk (N:=N) (many:=many) (s:=a.1) LC.1.1 LC.1.2;have w2:=uk (N:=N) (many:=many) (s:=a.2.2) LC.2.1 LC.2.2;have hz:((HY nZ N T (am.take j)).map fun r=>D.tup (r.map D.int)).length<sizeLine:=gv (by
    have:=um nZ N T (am.take j);rw[Qy]at this;rw[aZ];lia)
   have hr:=zo nZ (ba N a.1++[a.2.1]) (ba N a.2.2) hn;have O8:=j9 nZ (ba N a.1++[a.2.1]) hn;have Hf:=j9 nZ (ba N a.2.2) hn;have ha:=Ei (ba N a.1) a.2.1 (hw _);have hrr:((nZ.map fun m=>((((ba N a.1++[a.2.1]).count m:Nat):Int),(((ba N a.2.2).count m:Nat):Int))).map fun p=>p.1-p.2)=qO nZ N a:=rfl;rw[hrr]at hr;rw[Qi,dH,QV];generalize ((HY nZ N T (am.take j)).map fun r=>D.tup (r.map D.int))=RR at hz ⊢;generalize (((List.range many).map fun(s:Nat)=>ba N (s:Int)).map wD)=WW at w1 w2 ⊢;generalize ((ba N a.1++[a.2.1]).map D.str)=WA at ha O8;generalize (row nZ (ba N a.1++[a.2.1]))=R1 at hr O8;generalize (row nZ (ba N a.2.2))=R2 at hr Hf;generalize T.map eA=TT at Oi ⊢;unfold Fv;rw[show eA a=.tup [.int a.1,.str a.2.1,.int a.2.2] from rfl]at Oi ⊢;simp only[pv,↓reduceIte,Nat.reduceAdd,Nat.reduceLT,Nat.reduceLeDiff,Nat.reduceEqDiff,op,Oi,h,R5,Ts,w1,w2,at2,ha,O8,Hf,hr,hz]) _ ⟨none,rfl⟩
 rw[RA]at ef;rw[ay (env':=_) (by
  unfold iR;unfold Fv at ef ⊢;simp only[pv,↓reduceIte,Nat.reduceAdd,Nat.reduceLT,Nat.reduceLeDiff,Nat.reduceEqDiff,op];exact ef)]
 unfold g9;simp only[pv,↓reduceIte,Nat.reduceAdd,Nat.reduceLT,Nat.reduceLeDiff,Nat.reduceEqDiff,op]
theorem xm(nZ:Fq)(N:List Nd)(many:Nat):flatDs ((List.range many).map fun(s:Nat)=>D.tup ((row nZ (ba N (s:Int))).map D.int))=true:=by
 rw[bh,Rf,Qp];intro s _;show flatD (.tup _)=true;rw[cA,Fi]
theorem Cb(N:List Nd)(many:Nat):flatDs ((List.range many).map fun(s:Nat)=>D.tup ((ba N (s:Int)).map D.str))=true:=by
 rw[bh,Rf,Qp];intro s _;show flatD (.tup _)=true;rw[cA,PV.flat_strs]
theorem oU{nZ:Fq}{am:List Fn}{N:List Nd}{many:Nat}(hm:many<=12)(hl:nZ.length<=1000)(ew:b0 [Fv nZ am]=.ok (.l .f,.lst ((List.range many).map fun(s:Nat)=>D.tup ((ba N (s:Int)).map D.str)))):cC [Fv nZ am]=.ok (.l .f,.lst ((List.range many).map fun(s:Nat)=>D.tup ((row nZ (ba N (s:Int))).map D.int))):=by
 unfold cC jO;rw[bo (h:=by rfl)];have hc:bX (au 0) cW (c6 cx (ag (ar (aE FF (aq 1) (ar (aP (.int 0))))) (ag (aq 0) az))) ((List.range many).map fun(s:Nat)=>D.tup ((ba N (s:Int)).map D.str)) [none,some (.f,Fv nZ am)]=.ok ((List.range many).map fun(s:Nat)=>D.tup ((row nZ (ba N (s:Int))).map D.int)):=by
  refine aW (r:=fun s:Nat=>D.tup ((row nZ (ba N (s:Int))).map D.int)) (fun env=>∃t1,env=[t1,some (.f,Fv nZ am)]) (List.range many) ?_ _ ⟨_,rfl⟩;rintro s _ env ⟨t1,rfl⟩;refine⟨[some (.f,.tup ((ba N (s:Int)).map D.str)),some (.f,Fv nZ am)],rfl,?_⟩;unfold Fv;simp only[pv,↓reduceIte,Nat.reduceAdd,Nat.reduceLT,Nat.reduceLeDiff,Nat.reduceEqDiff,op,j9 nZ _ hl];exact⟨_,_,rfl,_,rfl⟩
 simp only[pv,↓reduceIte,Nat.reduceAdd,Nat.reduceLT,Nat.reduceLeDiff,Nat.reduceEqDiff,op,ew,Cb];rw[hc,Gh,Qa (aM (by rw[aZ,Qr];lia)),xm];simp only[pv,↓reduceIte,Nat.reduceAdd,Nat.reduceLT,Nat.reduceLeDiff,Nat.reduceEqDiff,op]
def pr(x y:List Int):Int:=((x.zip y).map fun p=>p.1*p.2).sum
theorem nK(x y:List Int)(hl:y.length<=1000)(hs:∀v∈y,b9 v=true):bU [.tup (x.map D.int),.tup (y.map D.int)]=.ok (.f,.int (pr x y)):=by
 unfold bU m5;rw[bo (h:=by rfl)];have hc:bX (gm 2 (aB (au 0) (aB (au 1) cq))) cW (aE je (aq 0) (aq 1)) ((x.zip y).map fun z=>D.tup [D.int z.1,D.int z.2]) [none,none]=.ok (((x.zip y).map fun p=>p.1*p.2).map D.int):=by
  rw[aW (r:=fun z:Int×Int=>D.int (z.1*z.2)) (fun env=>∃t u,env=[t,u]) (x.zip y) ?_ _ ⟨none,none,rfl⟩]
  ·rw[Qe];rfl
  ·rintro z hz env ⟨t,u,rfl⟩;have O3:=(SD (show(z.1,z.2)∈x.zip y from hz)).2;refine⟨[some (.f,.int z.1),some (.f,.int z.2)],rfl,.f,[some (.f,.int z.1),some (.f,.int z.2)],?_,_,_,rfl⟩;simp only[pv,↓reduceIte,Nat.reduceAdd,Nat.reduceLT,Nat.reduceLeDiff,Nat.reduceEqDiff,op,CC z.1 z.2 (hs _ O3)]
 have hlen:(((x.zip y).map fun p=>p.1*p.2).map D.int).length<=sizeLine:=aM (by
  rw[aZ,aZ,Sb];lia)
 have IC:=Fi ((x.zip y).map fun p=>p.1*p.2);simp only[pv,↓reduceIte,Nat.reduceAdd,Nat.reduceLT,Nat.reduceLeDiff,Nat.reduceEqDiff,op,ia,hc,hlen,IC,BS];rfl
theorem pr_cons(a b:Int)(r s:List Int):pr (a::r) (b::s)=a*b+pr r s:=by
 unfold pr;rw[Rz,dH,TZ]
theorem uo(w:Fq)(m:List Nat):∀(nZ:Fq) (uZ:List Int),nZ.Nodup->uZ.length=nZ.length->m∈nZ->pr uZ (row nZ (w++[m]))=pr uZ (row nZ w)+uZ.getD (nZ.idxOf m) 0
 |[],_,_,_,h=>nomatch h
 |x::nZ,[],_,h,_=>by simp at h
 |x::nZ,b::uZ,nd,hl,hm=>by
  have nd:=Qw.mp nd;have e1:∀v:Fq,row (x::nZ) v=((v.count x:Nat):Int)::row nZ v:=fun v=>rfl
  rw[e1,e1,pr_cons,pr_cons];by_cases hx:x=m
  ·subst hx;have e2:row nZ (w++[x])=row nZ w:=by
    unfold row;refine QK fun y hy=>?_
    have IA:y≠x:=fun h=>nd.1 (h▸hy)
    rw[TR,UB (fun h=>IA h.symm),List.count_nil,Vl]
   rw[e2,TR,List.count_singleton_self,List.idxOf_cons_self,List.getD_cons_zero];have:(((w.count x+1:Nat)):Int)=(w.count x:Int)+1:=by lia
   rw[this,Int.mul_add];lia
  ·have hm:=(Qh.mp hm).resolve_left fun h=>hx h.symm
   have ih:=uo w m nZ uZ nd.2 (by simpa using hl) hm;rw[ih,TR,UB (fun h=>hx h.symm),List.count_nil,Vl,Uz,beq_false_of_ne hx,cond_false,List.getD_cons_succ];lia
theorem xn:∀(uZ:List Int) (l:List (Int×Int)),pr uZ (l.map fun p=>p.1-p.2)=pr uZ (l.map fun p=>p.1)-pr uZ (l.map fun p=>p.2)
 |[],l=>rfl
 |b::uZ,[]=>rfl
 |b::uZ,p::l=>by
  rw[dH,dH,dH,pr_cons,pr_cons,pr_cons,xn uZ l,Int.mul_sub];lia
theorem zq(nZ:Fq)(N:List Nd)(a:Fn)(uZ:List Int)(nd:nZ.Nodup)(hl:uZ.length=nZ.length)(hm:a.2.1∈nZ):pr uZ (qO nZ N a)=pr uZ (row nZ (ba N a.1))+uZ.getD (nZ.idxOf a.2.1) 0-pr uZ (row nZ (ba N a.2.2)):=by
 rw[<-uo _ _ nZ uZ nd hl hm];unfold qO;rw[xn,Qe,Qe];rfl
theorem pr_nil:∀(nZ:Fq) (uZ:List Int),pr uZ (row nZ [])=0
 |[],uZ=>by
  unfold pr row;rw[QV,List.zip_nil_right];rfl
 |x::nZ,[]=>rfl
 |x::nZ,b::uZ=>by
  show pr (b::uZ) (((0:Nat):Int)::row nZ [])=0;rw[pr_cons,pr_nil nZ uZ];simp
structure Ck(nZ:Fq)(am:List Fn)(many:Nat)(N:List Nd)(T:List Fn):Prop where
 m1:1<=many/\many<=12
 nn:nZ.Nodup
 n3:nZ.length<=1000
 al:am.length<=60
 nm:∀a∈am,a.2.1∈nZ
 hb:∀a∈am,(0<=a.1/\a.1<(many:Int))/\0<=a.2.2/\a.2.2<(many:Int)
 hw:∀s:Int,(ba N s).length<=1000
 F:Found am N
 all:∀s:Int,0<=s->s<(many:Int)->s∈N.map (·.1)
 er:c9 [Fv nZ am]=.ok (.l .f,.lst ((HY nZ N T am).map fun r=>D.tup (r.map D.int)))
 ec:cC [Fv nZ am]=.ok (.l .f,.lst ((List.range many).map fun(s:Nat)=>D.tup ((row nZ (ba N (s:Int))).map D.int)))
theorem Ra.states{nZ:Fq}{as:List Fn}{many:Nat}(r:Ra nZ as many):aX as=(many:Int):=by
 have hm:=r.mm;have h1:=nF hm.1 r.bd;by_cases h:many=1
 ·lia
 ·obtain⟨a,ha,e,_⟩:=r.rc (many-1) (by lia) (by lia);have:=tW ha;lia
theorem Ra.ck{nZ:Fq}{as:List Fn}{many:Nat}(r:Ra nZ as many)(nn:nZ.Nodup)(n3:nZ.length<=1000):∃N T,Ck nZ as many N T:=by
 have C:=r.ch;have JU:=r.states;have HR:=C.al;have hm:=r.mm;obtain⟨N,T,b,HW,et,O9⟩:=tR nZ as (by lia) (fun a ha=>(C.bd a ha).2) C.all (by lia);have F:=b.found;have ME:∀s:Int,(ba N s).length<=1000:=by
  intro s;unfold ba;cases hf:(N.find? fun n=>n.1==s) with
  |none=>exact QJ _
  |some n=>
   have:=F.wl n (List.mem_of_find?_eq_some hf);show n.2.length<=1000;lia
 have em:(aX as).toNat=many:=by lia
 rw[em]at O9;have e2:=oU (by lia) n3 O9;have eww2:b0 [Fv nZ as]=.ok (.l .f,.lst (((List.range many).map fun(s:Nat)=>ba N (s:Int)).map wD)):=by
  rw[O9,Qe];rfl
 have e1:=qJ eww2 et r.bd ME n3 (by lia);exact⟨N,T,hm,nn,n3,HR,r.nm,r.bd,ME,F,fun s h0 h1=>C.all N F s h0 (by lia),e1,e2⟩
theorem qK(nZ:Fq)(N:List Nd)(a:Fn)(hw:∀s:Int,(ba N s).length<=1000):∀x∈qO nZ N a,b9 x=true:=by
 intro x hx;unfold qO at hx;obtain⟨p,hp,rfl⟩:=lS hx;obtain⟨m,_,rfl⟩:=lS hp;have h1:=S3 (a:=m) (l:=ba N a.1++[a.2.1]);have h2:=S3 (a:=m) (l:=ba N a.2.2);have h3:=hw a.1;have h4:=hw a.2.2;rw[j0,Qs]at h1;refine j5 _ ?_ ?_ <;> dsimp only <;> lia
theorem uq(nZ w:Fq)(hw:w.length<=1000):∀x∈row nZ w,b9 x=true:=by
 intro x hx;unfold row at hx;obtain⟨m,_,rfl⟩:=lS hx;have h1:=S3 (a:=m) (l:=w);exact tF _ (by lia)
theorem ur(rows:List (List Int)):flatDs (rows.map fun r=>D.tup (r.map D.int))=true:=by
 rw[bh,Rf,Qp];intro s _;show flatD (.tup _)=true;rw[cA,Fi]
def th(nZ:Fq)(N:List Nd)(uZ:List Int)(s:Int):Int:=pr uZ (row nZ (ba N s))
theorem xo(bs:List Bool):zL [.lst (bs.map D.bl)]=.ok (.f,.bl (bs.any id)):=by
 unfold zL;show(match km (bs.map D.bl) with|some bs=>_|none=>_)=_;rw[mK]
section
variable{nZ:Fq}{am:List Fn}{many:Nat}{N:List Nd}{T:List Fn}
theorem Ck.has_arcs(c:Ck nZ am many N T)(m:List Nat):cI [Fv nZ am,.str m]=.ok (.f,.bl (am.any fun a=>a.2.1==m)):=by
 have HR:=c.al;unfold cI kH;rw[bo (h:=by rfl)];have hc:bX (gm 3 (aB (au 0) (aB (au 1) (aB (au 2) cq)))) cW (cn IB (aq 1) (aq 3)) (am.map eA) [none,none,none,some (.f,.str m)]=.ok ((am.map fun a=>a.2.1==m).map D.bl):=by
  rw[aW (r:=fun a:Fn=>D.bl (a.2.1==m)) (fun env=>∃t u v,env=[t,u,v,some (.f,.str m)]) am ?_ _ ⟨none,none,none,rfl⟩]
  ·rw[Qe];rfl
  ·rintro a _ env ⟨t,u,v,rfl⟩;refine⟨[some (.f,.int a.1),some (.f,.str a.2.1),some (.f,.int a.2.2),some (.f,.str m)],by unfold eA;simp only[pv,seval],.f,[some (.f,.int a.1),some (.f,.str a.2.1),some (.f,.int a.2.2),some (.f,.str m)],?_,_,_,_,rfl⟩;simp only[pv,seval,op]
 have hlen:((am.map fun a=>a.2.1==m).map D.bl).length<=sizeLine:=aM (by rw[aZ,aZ];lia);have IC:=lR (am.map fun a=>a.2.1==m);unfold Fv;generalize (cn IB (aq 1) (aq 3))=GG at hc ⊢;simp only[pv,seval,op,hc,hlen,IC,xo,RN];rfl
theorem Ck.stretch(c:Ck nZ am many N T)(uZ:List Int)(h1:∀a∈am,pr uZ (qO nZ N a)=0)(h2:∀z∈nZ.zip uZ,z.2=0\/∃a∈am,a.2.1=z.1):bM [Fv nZ am,.tup (uZ.map D.int)]=.ok (.f,.bl true):=by
 have HR:=c.al;have NQ:=c.n3;have hrl:=um nZ N T am;have Ko:=ur (HY nZ N T am);have er:=c.er;unfold bM iS;rw[bo (h:=by rfl)];have hc:bX (au 0) cW (cn JP (ar (c6 bU (ag (aq 1) (ag (aq 0) az)))) (ar (aP (.int 0)))) ((HY nZ N T am).map fun r=>D.tup (r.map D.int)) [none,some (.f,.tup (uZ.map D.int))]=.ok (((HY nZ N T am).map fun _=>false).map D.bl):=by
  rw[aW (e:=fun r:List Int=>D.tup (r.map D.int)) (r:=fun _:List Int=>D.bl false) (fun env=>∃t,env=[t,some (.f,.tup (uZ.map D.int))]) (HY nZ N T am) ?_ _ ⟨none,rfl⟩]
  ·rw[Qe];rfl
  ·rintro r hr env ⟨t,rfl⟩;obtain⟨a,ha,rfl⟩:=lS hr;have ha:=(Sj.mp ha).1;have hp:=nK uZ (qO nZ N a) (by unfold qO;rw[aZ,aZ];exact NQ) (qK nZ N a c.hw);rw[h1 a ha]at hp;refine⟨[some (.f,.tup ((qO nZ N a).map D.int)),some (.f,.tup (uZ.map D.int))],rfl,.f,[some (.f,.tup ((qO nZ N a).map D.int)),some (.f,.tup (uZ.map D.int))],?_,_,rfl⟩;simp only[pv,seval,op,hp];rfl
 have hlen:(((HY nZ N T am).map fun _=>false).map D.bl).length<=sizeLine:=aM (by rw[aZ,aZ];lia);have IC:=lR ((HY nZ N T am).map fun _=>false);have KR:((HY nZ N T am).map fun _=>false).any id=false:=by
  rw[RN,List.any_eq_false];intro x _;exact Qb
 rw[ay (env':=[some (.f,Fv nZ am),some (.f,.tup (uZ.map D.int))]) (by
  generalize (cn JP (ar (c6 bU (ag (aq 1) (ag (aq 0) az)))) (ar (aP (.int 0))))=GG at hc ⊢;generalize ((HY nZ N T am).map fun r=>D.tup (r.map D.int))=RR at er hc Ko;generalize ((HY nZ N T am).map fun _=>false)=BB at hc hlen IC KR;simp only[pv,seval,op,er,Ko,hc,hlen,IC,xo,KR,kg])]
 have Hf:bX (gm 2 (aB (au 0) (aB (au 1) cq))) cW (Nf (cn IB (aq 1) (ar (aP (.int 0)))) (c6 cI (ag (aq 2) (ag (aq 0) az)))) ((nZ.zip uZ).map fun z=>D.tup [D.str z.1,D.int z.2]) [none,none,some (.f,Fv nZ am)]=.ok (((nZ.zip uZ).map fun _=>true).map D.bl):=by
  rw[aW (e:=fun z:List Nat×Int=>D.tup [D.str z.1,D.int z.2]) (r:=fun _:List Nat×Int=>D.bl true) (fun env=>∃t u,env=[t,u,some (.f,Fv nZ am)]) (nZ.zip uZ) ?_ _ ⟨none,none,rfl⟩]
  ·rw[Qe];rfl
  ·rintro z hz env ⟨t,u,rfl⟩;have hh:=c.has_arcs z.1;refine⟨[some (.f,.str z.1),some (.f,.int z.2),some (.f,Fv nZ am)],rfl,.f,[some (.f,.str z.1),some (.f,.int z.2),some (.f,Fv nZ am)],?_,_,_,rfl⟩;by_cases h0:z.2=0
   ·have e0:(z.2==0)=true:=QM.mpr h0;simp only[pv,seval,op,e0]
   ·have e0:(z.2==0)=false:=Rq.mpr h0;obtain⟨a,ha,e⟩:=(h2 z hz).resolve_left h0;have e1:(am.any fun a=>a.2.1==z.1)=true:=Q8.mpr ⟨a,ha,QM.mpr e⟩;rw[e1]at hh;simp only[pv,seval,op,e0,hh]
 have Ic:(((nZ.zip uZ).map fun _=>true).map D.bl).length<=sizeLine:=aM (by rw[aZ,aZ,Sb];lia);have JT:=lR ((nZ.zip uZ).map fun _=>true);have GQ:((nZ.zip uZ).map fun _=>true).all id=true:=by
  rw[Rf,Qp];exact fun _ _=>rfl
 generalize ((nZ.zip uZ).map fun _=>true)=BB at Hf Ic JT GQ;unfold Fv at Hf ⊢;generalize (Nf (cn IB (aq 1) (ar (aP (.int 0)))) (c6 cI (ag (aq 2) (ag (aq 0) az))))=GG at Hf ⊢;simp only[pv,seval,op,ia,Hf,Ic,JT,GQ]
theorem fW:∀(l:List Int) (b:Int),l.foldl min b<=b/\(∀x∈l,l.foldl min b<=x)/\(l.foldl min b=b\/l.foldl min b∈l)
 |[],b=>⟨VM _,(fun _ h=>nomatch h),.inl rfl⟩
 |a::l,b=>by
  obtain⟨h1,h2,h3⟩:=fW l (min b a);rw[R9];refine⟨by lia,fun x hx=>?_,?_⟩
  ·rcases Qh.mp hx with rfl|hx
   ·lia
   ·exact h2 x hx
  ·rcases h3 with h3|h3
   ·by_cases LC:b<=a
    ·left;rw[h3];lia
    ·right;rw[h3];exact Qh.mpr (.inl (by lia))
   ·exact .inr (Qg _ h3)
theorem wc{ns:List Int}{x:Int}(h:x∈ns):eD ns<=x:=(fW ns _).2.1 x h
theorem we{ns:List Int}(h:ns≠[]):eD ns∈ns:=by
 unfold eD;rcases(fW ns (ns.headD 0)).2.2 with e|e
 ·rw[e];cases ns with
  |nil=>exact absurd rfl h
  |cons a l=>exact P8
 ·exact e
theorem Cc{l:List Int}(h:l≠[]):yB [.lst (l.map D.int)]=.ok (.f,.int (eD l)):=by
 unfold yB;dsimp only;rw[tM];cases l with
 |nil=>exact absurd rfl h
 |cons a l=>rfl
theorem Cd{l:List Int}(h:l≠[]):maxD [.lst (l.map D.int)]=.ok (.f,.int (mx l)):=by
 unfold PV.maxD;dsimp only;rw[tM];cases l with
 |nil=>exact absurd rfl h
 |cons a l=>rfl
def IT(nZ:Fq)(N:List Nd)(uZ:List Int)(many:Nat):List Int:=(List.range many).map fun(s:Nat)=>th nZ N uZ (s:Int)
def Oj(nZ:Fq)(N:List Nd)(uZ:List Int)(many:Nat):List Int:=(IT nZ N uZ many).map fun h=>h-eD (IT nZ N uZ many)
theorem Ck.beads(c:Ck nZ am many N T)(uZ:List Int)(hs:bM [Fv nZ am,.tup (uZ.map D.int)]=.ok (.f,.bl true)):bL [Fv nZ am,.tup (uZ.map D.int)]=.ok (.l .f,.lst ((Oj nZ N uZ many).map D.int)):=by
 have hm:=c.m1;have NQ:=c.n3;have ec:=c.ec;have PY:=xm nZ N many;unfold bL kI;rw[bo (h:=by rfl)];rw[ay (env':=[some (.f,Fv nZ am),some (.f,.tup (uZ.map D.int)),none]) (by simp only[pv,seval,op,hs,T6,kg])];have hc:bX (au 0) cW (c6 bU (ag (aq 1) (ag (aq 0) az))) ((List.range many).map fun(s:Nat)=>D.tup ((row nZ (ba N (s:Int))).map D.int)) [none,some (.f,.tup (uZ.map D.int))]=.ok ((IT nZ N uZ many).map D.int):=by
  rw[aW (r:=fun s:Nat=>D.int (th nZ N uZ (s:Int))) (fun env=>∃t,env=[t,some (.f,.tup (uZ.map D.int))]) (List.range many) ?_ _ ⟨none,rfl⟩]
  ·unfold IT;rw[Qe];rfl
  ·rintro s _ env ⟨t,rfl⟩;have hp:=nK uZ (row nZ (ba N (s:Int))) (by unfold row;rw[aZ];exact NQ) (uq nZ _ (c.hw _));refine⟨[some (.f,.tup ((row nZ (ba N (s:Int))).map D.int)),some (.f,.tup (uZ.map D.int))],rfl,.f,[some (.f,.tup ((row nZ (ba N (s:Int))).map D.int)),some (.f,.tup (uZ.map D.int))],?_,_,rfl⟩;simp only[pv,seval,op,hp];rfl
 have hhl:(IT nZ N uZ many).length=many:=by unfold IT;rw[aZ,Qr]
 have hlen:((IT nZ N uZ many).map D.int).length<=sizeLine:=aM (by rw[aZ];lia);have IA:IT nZ N uZ many≠[]:=fun h=>by rw[h,Rj]at hhl;lia
 have IC:=Fi (IT nZ N uZ many);rw[ay (env':=[some (.f,Fv nZ am),some (.f,.tup (uZ.map D.int)),some (.l .f,.lst ((IT nZ N uZ many).map D.int))]) (by
  generalize (c6 bU (ag (aq 1) (ag (aq 0) az)))=GG at hc ⊢;generalize ((List.range many).map fun(s:Nat)=>D.tup ((row nZ (ba N (s:Int))).map D.int))=RR at ec hc PY;simp only[pv,seval,op,ec,PY,hc,hlen,IC])]
 unfold Oj;generalize IT nZ N uZ many=hh at *;have hmin:=Cc IA;have Hf:bX (au 0) cW (aE oi (aq 0) (ar (bq yB (ag (aq 1) az)))) (hh.map D.int) [none,some (.f,.lst (hh.map D.int))]=.ok ((hh.map fun h=>h-eD hh).map D.int):=by
  rw[aW (r:=fun h:Int=>D.int (h-eD hh)) (fun env=>∃t,env=[t,some (.f,.lst (hh.map D.int))]) hh ?_ _ ⟨none,rfl⟩]
  ·rw[Qe];rfl
  ·rintro x _ env ⟨t,rfl⟩;refine⟨[some (.f,.int x),some (.f,.lst (hh.map D.int))],rfl,.f,[some (.f,.int x),some (.f,.lst (hh.map D.int))],?_,_,rfl⟩;simp only[pv,seval,op,hmin]
 have Ic:((hh.map fun h=>h-eD hh).map D.int).length<=sizeLine:=aM (by rw[aZ,aZ];lia);have JT:=Fi (hh.map fun h=>h-eD hh);generalize (aE oi (aq 0) (ar (bq yB (ag (aq 1) az))))=GG at Hf ⊢;simp only[pv,seval,op,Hf,Ic,JT]
def hv(B:Int->Int)(am:List Fn)(m:List Nat):List Int:=(am.filter fun a=>a.2.1==m).map fun a=>B a.1
def tk(B:Int->Int)(am:List Fn)(bs:List Int)(m:List Nat):Int:=NX.minD (hv B am m) (mx bs+1)
theorem Ck.taken(c:Ck nZ am many N T)(B:Int->Int)(bs:List Int)(NR:bs=(List.range many).map fun(s:Nat)=>B (s:Int))(m:List Nat):fK [Fv nZ am,.lst (bs.map D.int),.str m]=.ok (.f,.int (tk B am bs m)):=by
 have hm:=c.m1;have HR:=c.al;have MM:bs.length=many:=by rw[NR,aZ,Qr]
 have IA:bs≠[]:=fun h=>by rw[h,Rj]at MM;lia
 have hmax:=Cd IA;have JS:∀s:Int,0<=s->s<(many:Int)->Gw (bs.map D.int) s=some (.int (B s)):=fun s h0 h1=>by
  obtain⟨k,rfl⟩:=Q7 h0;exact dA (by rw[NR,List.getElem?_map,List.getElem?_map,List.getElem?_range (by lia)];rfl)
 unfold fK sW;rw[bo (h:=by rfl)];have hc:bX (gm 3 (aB (au 0) (aB (au 1) (aB (au 2) cq)))) (GL (cn IB (aq 1) (aq 4))) (aE FF (aq 3) (aq 0)) (am.map eA) [none,none,none,some (.f,.lst (bs.map D.int)),some (.f,.str m)]=.ok ((hv B am m).map D.int):=by
  unfold hv;rw[Qe];refine vO (e:=eA) (p:=fun a=>a.2.1==m) (r:=fun a=>D.int (B a.1)) (fun env=>∃t u v,env=[t,u,v,some (.f,.lst (bs.map D.int)),some (.f,.str m)]) am ?_ _ ⟨none,none,none,rfl⟩;rintro a ha env ⟨t,u,v,rfl⟩;have LC:=(c.hb a ha).1;refine⟨[some (.f,.int a.1),some (.f,.str a.2.1),some (.f,.int a.2.2),some (.f,.lst (bs.map D.int)),some (.f,.str m)],by unfold eA;simp only[pv,seval],[some (.f,.int a.1),some (.f,.str a.2.1),some (.f,.int a.2.2),some (.f,.lst (bs.map D.int)),some (.f,.str m)],?_,?_⟩
  ·simp only[pv,seval,op]
  ·split
   ·refine⟨.f,[some (.f,.int a.1),some (.f,.str a.2.1),some (.f,.int a.2.2),some (.f,.lst (bs.map D.int)),some (.f,.str m)],?_,_,_,_,rfl⟩;simp only[pv,seval,op,JS a.1 LC.1 LC.2]
   ·exact⟨_,_,_,rfl⟩
 have hlen:((hv B am m).map D.int).length<=sizeLine:=aM (by
  unfold hv;rw[aZ,aZ];have:=UA (fun a:Fn=>a.2.1==m) am;lia)
 have IC:=Fi (hv B am m);rw[ay (env':=[some (.f,Fv nZ am),some (.f,.lst (bs.map D.int)),some (.f,.str m),some (.l .f,.lst ((hv B am m).map D.int))]) (by
  unfold Fv;generalize (GL (cn IB (aq 1) (aq 4)))=G1 at hc ⊢;generalize (aE FF (aq 3) (aq 0))=G2 at hc ⊢;simp only[pv,seval,op,hc,hlen,IC])]
 unfold tk;generalize hv B am m=hh;simp only[pv,seval,op,y6,hmax,Option.bind_some,il]
theorem Ck.place(c:Ck nZ am many N T)(uZ:List Int)(B:Int->Int)(bs:List Int)(NR:bs=(List.range many).map fun(s:Nat)=>B (s:Int))(JG:bL [Fv nZ am,.tup (uZ.map D.int)]=.ok (.l .f,.lst (bs.map D.int))):cJ [Fv nZ am,.tup (uZ.map D.int)]=.ok (.f,.tup [.int (B 0),.tup ((nZ.map (tk B am bs)).map D.int),.tup ((((nZ.map (tk B am bs)).zip uZ).map fun p=>p.1+p.2).map D.int)]):=by
 have hm:=c.m1;have NQ:=c.n3;have NS:=Fi bs;have h0:Gw (bs.map D.int) 0=some (.int (B 0)):=by
  exact dA (j:=0) (by rw[NR,List.getElem?_map,List.getElem?_map,List.getElem?_range (by lia)];rfl)
 unfold cJ kJ;rw[bo (h:=by rfl)];rw[ay (env':=[some (.f,Fv nZ am),some (.f,.tup (uZ.map D.int)),some (.l .f,.lst (bs.map D.int)),none]) (by simp only[pv,seval,op,JG,NS])];have hc:bX (au 0) cW (c6 fK (ag (aq 1) (ag (aq 2) (ag (aq 0) az)))) (nZ.map D.str) [none,some (.f,Fv nZ am),some (.f,.lst (bs.map D.int))]=.ok ((nZ.map (tk B am bs)).map D.int):=by
  rw[aW (r:=fun m:List Nat=>D.int (tk B am bs m)) (fun env=>∃t,env=[t,some (.f,Fv nZ am),some (.f,.lst (bs.map D.int))]) nZ ?_ _ ⟨none,rfl⟩]
  ·rw[Qe];rfl
  ·rintro m _ env ⟨t,rfl⟩;have ht:=c.taken B bs NR m;refine⟨[some (.f,.str m),some (.f,Fv nZ am),some (.f,.lst (bs.map D.int))],rfl,.f,[some (.f,.str m),some (.f,Fv nZ am),some (.f,.lst (bs.map D.int))],?_,_,rfl⟩;simp only[pv,seval,op,ht]
 have Ol:(nZ.map (tk B am bs)).length=nZ.length:=aZ _;generalize nZ.map (tk B am bs)=ts at *;have hlen:(ts.map D.int).length<=sizeLine:=aM (by rw[aZ];lia);have IC:=Fi ts;rw[ay (env':=[some (.f,Fv nZ am),some (.f,.tup (uZ.map D.int)),some (.l .f,.lst (bs.map D.int)),some (.f,.tup (ts.map D.int))]) (by
  unfold Fv at hc ⊢;generalize (c6 fK (ag (aq 1) (ag (aq 2) (ag (aq 0) az))))=GG at hc ⊢;simp only[pv,seval,op,hc,hlen,IC])]
 have Hf:bX (gm 2 (aB (au 0) (aB (au 1) cq))) cW (aE cU (aq 0) (aq 1)) ((ts.zip uZ).map fun z=>D.tup [D.int z.1,D.int z.2]) [none,none]=.ok (((ts.zip uZ).map fun p=>p.1+p.2).map D.int):=by
  rw[aW (r:=fun z:Int×Int=>D.int (z.1+z.2)) (fun env=>∃t u,env=[t,u]) (ts.zip uZ) ?_ _ ⟨none,none,rfl⟩]
  ·rw[Qe];rfl
  ·rintro z hz env ⟨t,u,rfl⟩;refine⟨[some (.f,.int z.1),some (.f,.int z.2)],rfl,.f,[some (.f,.int z.1),some (.f,.int z.2)],?_,_,_,rfl⟩;simp only[pv,seval,op]
 have Ic:(((ts.zip uZ).map fun p=>p.1+p.2).map D.int).length<=sizeLine:=aM (by rw[aZ,aZ,Sb];lia);have JT:=Fi ((ts.zip uZ).map fun p=>p.1+p.2);generalize (aE cU (aq 0) (aq 1))=GG at Hf ⊢;simp only[pv,seval,op,h0,ia,Hf,Ic,JT]
end
section
variable{nZ:Fq}{am:List Fn}{many:Nat}{N:List Nd}{T:List Fn}
theorem Ck.pot(c:Ck nZ am many N T)(uZ:List Int)(hl:uZ.length=nZ.length)(f:Int->Int)(hf:∀a∈am,f a.2.2=f a.1+uZ.getD (nZ.idxOf a.2.1) 0):∀s:Int,0<=s->s<(many:Int)->th nZ N uZ s=f s-f 0:=by
 have key:∀(k:Nat) (n:Nd),n∈N->n.2.length=k->pr uZ (row nZ n.2)=f n.1-f 0:=by
  intro k;induction k using Nat.strongRecOn with
  |_ k ih=>
   intro n hn hk;rcases c.F.par n hn with rfl|⟨a,ha,m,hm,e1,rfl⟩
   ·show pr uZ (row nZ [])=f 0-f 0;rw[pr_nil];lia
   ·have:=ih m.2.length (by rw[<-hk];show _<(m.2++[a.2.1]).length;rw[j0,Qs];lia) m hm rfl;show pr uZ (row nZ (m.2++[a.2.1]))=f a.2.2-f 0;rw[uo _ _ nZ uZ c.nn hl (c.nm a ha),this,hf a ha,e1];lia
 intro s h0 h1;obtain⟨n,hn,rfl⟩:=lS (c.all s h0 h1);unfold th;rw[pU c.F.nd hn];exact key _ n hn rfl
def PZ(b:Int)(ts gs:List Int):D:=.tup [.int b,.tup (ts.map D.int),.tup (gs.map D.int)]
end
theorem getD_of{α:Type}{l:List α}{i:Nat}{x d:α}(h:l[i]?=some x):l.getD i d=x:=by
 rw[List.getD_eq_getElem?_getD,h];rfl
def fO(S:List (List Int))(j:Nat)(s:Int):Int:=(S.getD s.toNat []).getD j 0
def Gu(nZ:Fq)(am:List Fn)(p:Pl):List Int:=(List.range nZ.length).map fun k=>(p.2.2.getD k 0-p.2.1.getD k 0)*(if decide (nZ.getD k []∈am.map (·.2.1))=true then 1 else 0)
theorem Ce{nZ:Fq}{m:List Nat}(h:m∈nZ):nZ.getD (nZ.idxOf m) []=m:=by
 rw[List.getD_eq_getElem?_getD,fA (Q6 h),To];rfl
theorem ka(nZ:Fq)(am:List Fn)(p:Pl):(Gu nZ am p).length=nZ.length:=by
 unfold Gu;rw[aZ,Qr]
theorem xp(nZ:Fq)(am:List Fn)(p:Pl){k:Nat}(h:k<nZ.length):(Gu nZ am p).getD k 0=(p.2.2.getD k 0-p.2.1.getD k 0)*(if decide (nZ.getD k []∈am.map (·.2.1))=true then 1 else 0):=by
 unfold Gu;rw[List.getD_eq_getElem?_getD,List.getElem?_map,List.getElem?_range h];rfl
structure Ok(nZ:Fq)(am:List Fn)(many:Nat)(f:Int->Int)(p:Pl):Prop where
 po:Gj p nZ.length
 fire:∀a∈am,¬ f a.1<p.2.1.getD (nZ.idxOf a.2.1) 0/\f a.2.2=f a.1-p.2.1.getD (nZ.idxOf a.2.1) 0+p.2.2.getD (nZ.idxOf a.2.1) 0
theorem Rm.ok{nZ:Fq}{ps:List Pl}{S:List (List Int)}{A:List Fn}{m:Nat}(r:Rm nZ ps S A m)(po:∀p∈ps,Gj p nZ.length){j:Nat}{p:Pl}(hj:ps[j]?=some p):Ok nZ (bI dj A) S.length (fO S j) p:=by
 refine⟨po p (Qj hj),fun a ha=>?_⟩;obtain⟨_,i,i',_,e1,e2,s,t,hs,ht,hf⟩:=r.ab a ((j6 dj).mp ha);have FH:j<s.length:=by
  rw[r.ln s (Qj hs)];exact(iX hj).1
 obtain⟨h1,h2⟩:=jh _ hf (show(s.zip ps)[j]?=some (s[j],p) from List.getElem?_zip_eq_some.mpr ⟨fA FH,hj⟩);have f1:fO S j a.1=s[j]:=by
  unfold fO;rw[e1,QL,getD_of hs,getD_of (fA FH)]
 have f2:fO S j a.2.2=s[j]-p.2.1.getD (nZ.idxOf a.2.1) 0+p.2.2.getD (nZ.idxOf a.2.1) 0:=by
  unfold fO;rw[e2,QL,getD_of ht,getD_of h2]
 rw[f1,f2];exact⟨h1,rfl⟩
section
variable{nZ:Fq}{am:List Fn}{many:Nat}{N:List Nd}{T:List Fn}{f:Int->Int}{p:Pl}
theorem Ok.step(o:Ok nZ am many f p)(c:Ck nZ am many N T){a:Fn}(ha:a∈am):f a.2.2=f a.1+(Gu nZ am p).getD (nZ.idxOf a.2.1) 0:=by
 have hm:=c.nm a ha;rw[xp nZ am p (Q6 hm),Ce hm,Q9 (QD.mpr ⟨a,ha,rfl⟩),Qa rfl,(o.fire a ha).2];lia
theorem Ok.pot(o:Ok nZ am many f p)(c:Ck nZ am many N T):∀s:Int,0<=s->s<(many:Int)->th nZ N (Gu nZ am p) s=f s-f 0:=c.pot _ (ka nZ am p) f fun a ha=>o.step c ha
theorem Ok.stretch(o:Ok nZ am many f p)(c:Ck nZ am many N T):bM [Fv nZ am,.tup ((Gu nZ am p).map D.int)]=.ok (.f,.bl true):=by
 refine c.stretch _ (fun a ha=>?_) fun z hz=>?_
 ·rw[zq nZ N a _ c.nn (ka nZ am p) (c.nm a ha)];have hb:=c.hb a ha;have h1:=o.pot c a.1 hb.1.1 hb.1.2;have h2:=o.pot c a.2.2 hb.2.1 hb.2.2;have h3:=o.step c ha;unfold th at h1 h2;lia
 ·obtain⟨k,hk⟩:=Qt.mp hz;obtain⟨k1,k2⟩:=List.getElem?_zip_eq_some.mp (show(nZ.zip (Gu nZ am p))[k]?=some (z.1,z.2) from hk);have FH:=(iX k1).1;have e:=xp nZ am p FH;rw[List.getD_eq_getElem?_getD,k2,SW,List.getD_eq_getElem?_getD (l:=nZ),k1,SW]at e;by_cases hu:z.1∈am.map (·.2.1)
  ·obtain⟨a,ha,e⟩:=lS hu;exact .inr ⟨a,ha,e⟩
  ·left;rw[e,QB hu,Qf Qb,Int.mul_zero]
def bB(nZ:Fq)(am:List Fn)(N:List Nd)(many:Nat)(p:Pl)(s:Int):Int:=th nZ N (Gu nZ am p) s-eD (IT nZ N (Gu nZ am p) many)
theorem Cf:Oj nZ N (Gu nZ am p) many=(List.range many).map fun(s:Nat)=>bB nZ am N many p (s:Int):=by
 unfold Oj;rw[show IT nZ N (Gu nZ am p) many=(List.range many).map fun(s:Nat)=>th nZ N (Gu nZ am p) (s:Int) from rfl,Qe];rfl
theorem Cg{k:Nat}(h:k<nZ.length):(nZ.map (tk (bB nZ am N many p) am ((List.range many).map fun(s:Nat)=>bB nZ am N many p (s:Int)))).getD k 0=tk (bB nZ am N many p) am ((List.range many).map fun(s:Nat)=>bB nZ am N many p (s:Int)) (nZ.getD k []):=by
 rw[List.getD_eq_getElem?_getD,List.getElem?_map,List.getD_eq_getElem?_getD,fA h];rfl
theorem DQ{k:Nat}(h:k<nZ.length):(((nZ.map (tk (bB nZ am N many p) am ((List.range many).map fun(s:Nat)=>bB nZ am N many p (s:Int)))).zip (Gu nZ am p)).map fun q=>q.1+q.2).getD k 0=(nZ.map (tk (bB nZ am N many p) am ((List.range many).map fun(s:Nat)=>bB nZ am N many p (s:Int)))).getD k 0+(Gu nZ am p).getD k 0:=by
 have h1:k<(nZ.map (tk (bB nZ am N many p) am ((List.range many).map fun(s:Nat)=>bB nZ am N many p (s:Int)))).length:=by rw[aZ];exact h
 have h2:k<(Gu nZ am p).length:=by rw[ka];exact h
 generalize nZ.map (tk (bB nZ am N many p) am ((List.range many).map fun(s:Nat)=>bB nZ am N many p (s:Int)))=ts at h1 ⊢;generalize Gu nZ am p=nu at h2 ⊢;have e:(ts.zip nu)[k]?=some (ts[k],nu[k]):=List.getElem?_zip_eq_some.mpr ⟨fA h1,fA h2⟩;rw[getD_of (fA h1),getD_of (fA h2)];exact getD_of (by rw[List.getElem?_map,e];rfl)
theorem DR{B:Int->Int}{bs:List Int}{a:Fn}(ha:a∈am):tk B am bs a.2.1<=B a.1:=by
 have hm:B a.1∈hv B am a.2.1:=QD.mpr ⟨a,Sj.mpr ⟨ha,QZ _⟩,rfl⟩;unfold tk NX.minD;rw[Qf (SM hm)];exact wc hm
theorem zr{B:Int->Int}{bs:List Int}{m:List Nat}(hu:m∈am.map (·.2.1)):∃a∈am,a.2.1=m/\tk B am bs m=B a.1:=by
 obtain⟨a0,ha0,e0⟩:=lS hu;have hm:B a0.1∈hv B am m:=QD.mpr ⟨a0,Sj.mpr ⟨ha0,QM.mpr e0⟩,rfl⟩;unfold tk NX.minD;rw[Qf (SM hm)];obtain⟨a,ha,e⟩:=lS (we (SM hm));obtain⟨ha,e2⟩:=Sj.mp ha;exact⟨a,ha,QM.mp e2,e.symm⟩
theorem zt{B:Int->Int}{bs:List Int}{m:List Nat}(hu:m∉am.map (·.2.1)){x:Int}(hx:x∈bs):x<tk B am bs m:=by
 have LZ:hv B am m=[]:=by
  unfold hv;rw[List.filter_eq_nil_iff.mpr fun a ha e=>hu (QD.mpr ⟨a,ha,QM.mp e⟩)];rfl
 unfold tk NX.minD;rw[Qa LZ];have:=pV hx;lia
theorem Ci:(nZ.map (tk (bB nZ am N many p) am ((List.range many).map fun(s:Nat)=>bB nZ am N many p (s:Int)))).length=nZ.length:=aZ _
theorem Cj:(((nZ.map (tk (bB nZ am N many p) am ((List.range many).map fun(s:Nat)=>bB nZ am N many p (s:Int)))).zip (Gu nZ am p)).map fun q=>q.1+q.2).length=nZ.length:=by
 rw[aZ,Sb,aZ,ka,Vn]
theorem Ok.stop(o:Ok nZ am many f p)(c:Ck nZ am many N T){x k:Nat}(hx:x<many)(hk:k<nZ.length)(FH:f (x:Int)<p.2.1.getD k 0):bB nZ am N many p (x:Int)<(nZ.map (tk (bB nZ am N many p) am ((List.range many).map fun(s:Nat)=>bB nZ am N many p (s:Int)))).getD k 0:=by
 rw[Cg hk];by_cases hu:nZ.getD k []∈am.map (·.2.1)
 ·obtain⟨a,ha,e1,e2⟩:=zr (B:=bB nZ am N many p) (bs:=(List.range many).map fun(s:Nat)=>bB nZ am N many p (s:Int)) hu;have hik:nZ.idxOf a.2.1=k:=by
   rw[e1,List.getD_eq_getElem?_getD,fA hk];exact vQ c.nn hk
  have hf:=(o.fire a ha).1;rw[hik]at hf;have hb:=(c.hb a ha).1;have p1:=o.pot c (x:Int) (by lia) (by lia);have p2:=o.pot c a.1 hb.1 hb.2;rw[e2];unfold bB;lia
 ·exact zt hu (QD.mpr ⟨x,QC.mpr hx,rfl⟩)
theorem Ok.beads(o:Ok nZ am many f p)(c:Ck nZ am many N T):bL [Fv nZ am,.tup ((Gu nZ am p).map D.int)]=.ok (.l .f,.lst (((List.range many).map fun(s:Nat)=>bB nZ am N many p (s:Int)).map D.int)):=by
 rw[c.beads _ (o.stretch c),Cf]
theorem Ok.place(o:Ok nZ am many f p)(c:Ck nZ am many N T):cJ [Fv nZ am,.tup ((Gu nZ am p).map D.int)]=.ok (.f,PZ (bB nZ am N many p 0) (nZ.map (tk (bB nZ am N many p) am ((List.range many).map fun(s:Nat)=>bB nZ am N many p (s:Int)))) (((nZ.map (tk (bB nZ am N many p) am ((List.range many).map fun(s:Nat)=>bB nZ am N many p (s:Int)))).zip (Gu nZ am p)).map fun q=>q.1+q.2)):=by
 have h:=c.place (Gu nZ am p) (bB nZ am N many p) ((List.range many).map fun(s:Nat)=>bB nZ am N many p (s:Int)) rfl (o.beads c);unfold PZ
 with_reducible exact h
end
def tkA(k:Nat)(p:Pl):Int:=p.2.1.getD k 0
def NT(k:Nat)(p:Pl):Int:=p.2.2.getD k 0
def Cm(k:Nat)(zs:List (Int×Pl)):Bool:=zs.all fun z=>decide (tkA k z.2<=z.1)
theorem lW(k:Nat):∀zs:List (Int×Pl),cF k zs=if Cm k zs then some (zs.map fun z=>z.1-tkA k z.2+NT k z.2) else none
 |[]=>rfl
 |z::zs=>by
  rw[cF,lW k zs];unfold Cm;rw[S6];by_cases h:z.1<z.2.2.1.getD k 0
  ·have h2:decide (tkA k z.2<=z.1)=false:=QB (by unfold tkA;lia);rw[Qa h,h2,Bool.false_and,Qf Qb]
  ·have h2:decide (tkA k z.2<=z.1)=true:=Q9 (by unfold tkA;lia);rw[Qf h,h2,Bool.true_and];cases(zs.all fun z=>decide (tkA k z.2<=z.1)) with
   |true=>rw[Qa rfl,Qa rfl];rfl
   |false=>rw[Qf Qb,Qf Qb];rfl
abbrev Zp:=Pl×(List Int->Int)
structure Ft(nZ:Fq)(ps:List Pl)(S:List (List Int))(z:Zp):Prop where
 z0:z.2 (ps.map (·.1))=z.1.1
 go:∀m∈S,∀mv∈nZ,∀m',cF (nZ.idxOf mv) (m.zip ps)=some m'->tkA (nZ.idxOf mv) z.1<=z.2 m/\z.2 m'=z.2 m-tkA (nZ.idxOf mv) z.1+NT (nZ.idxOf mv) z.1
abbrev hZ(F:List Zp)(m:List Int):List Int:=F.map fun z=>z.2 m
theorem zu(F:List Zp)(k:Nat)(m:List Int):cF k ((hZ F m).zip (F.map (·.1)))=if F.all (fun z=>decide (tkA k z.1<=z.2 m)) then some (F.map fun z=>z.2 m-tkA k z.1+NT k z.1) else none:=by
 have e:(hZ F m).zip (F.map (·.1))=F.map fun z=>(z.2 m,z.1):=by
  unfold hZ;induction F with
  |nil=>rfl
  |cons z F ih=>rw[dH,dH,Rz,ih,dH]
 rw[e,lW];unfold Cm;rw[Rf,Qe];rfl
theorem Cn{nZ:Fq}{ps:List Pl}{S:List (List Int)}{F:List Zp}(ft:∀z∈F,Ft nZ ps S z)(st:∀m∈S,∀mv∈nZ,cF (nZ.idxOf mv) (m.zip ps)=none->∃z∈F,z.2 m<tkA (nZ.idxOf mv) z.1)
  (ap:∀m∈S,∀m'∈S,(∀z∈F,z.2 m=z.2 m')->m=m'):Sim nZ ps (F.map (·.1)) (hZ F) S:=by
 refine⟨(QK fun z hz=>(ft z hz).z0).trans (Qe ..).symm,fun m hm mv hv=>?_,fun m hm m' MO e=>ap m hm m' MO (List.map_inj_left.mp e)⟩;rw[zu];cases hf:cF (nZ.idxOf mv) (m.zip ps) with
 |some m'=>
  rw[Qa (by
   rw[Qp];exact fun z hz=>Q9 ((ft z hz).go m hm mv hv m' hf).1)]
  exact Rg some (QK fun z hz=>((ft z hz).go m hm mv hv m' hf).2.symm)
 |none=>
  obtain⟨z,hz,FH⟩:=st m hm mv hv hf;rw[Qf (fun h=>by
   rw[Qp]at h;have:=Sa (h z hz);lia)]
  rfl
noncomputable def nP(nZ:Fq)(am:List Fn)(N:List Nd)(many:Nat)(p:Pl):Pl:=(bB nZ am N many p 0,nZ.map (tk (bB nZ am N many p) am ((List.range many).map fun(s:Nat)=>bB nZ am N many p (s:Int))),((nZ.map (tk (bB nZ am N many p) am ((List.range many).map fun(s:Nat)=>bB nZ am N many p (s:Int)))).zip (Gu nZ am p)).map fun q=>q.1+q.2)
def zO(j:Nat)(p:Pl):Zp:=(p,fun m=>m.getD j 0)
def zN(nZ:Fq)(am:List Fn)(N:List Nd)(many:Nat)(S:List (List Int))(j:Nat)(p:Pl):Zp:=(nP nZ am N many p,fun m=>m.getD j 0-(fO S j 0+eD (IT nZ N (Gu nZ am p) many)))
section
variable{nZ:Fq}{ps:List Pl}{S:List (List Int)}{A am:List Fn}{N:List Nd}{T:List Fn}{m0:Nat}
theorem Co{m:List Int}{j:Nat}{p:Pl}(hj:ps[j]?=some p)(hl:m.length=ps.length):(m.zip ps)[j]?=some (m.getD j 0,p):=by
 have FH:j<m.length:=by
  rw[hl];exact(iX hj).1
 refine List.getElem?_zip_eq_some.mpr ⟨?_,hj⟩;rw[fA FH,getD_of (fA FH)]
theorem DS(r:Rm nZ ps S A m0){j:Nat}{p:Pl}(hj:ps[j]?=some p):Ft nZ ps S (zO j p):=by
 refine⟨?_,fun m hm mv hv m' hf=>?_⟩
 ·show(ps.map (·.1)).getD j 0=p.1;exact getD_of (by rw[List.getElem?_map,hj];rfl)
 ·obtain⟨h1,h2⟩:=jh _ hf (Co hj (r.ln m hm));have e:m'.getD j 0=m.getD j 0-tkA (nZ.idxOf mv) p+NT (nZ.idxOf mv) p:=getD_of h2;refine⟨?_,e⟩;show tkA (nZ.idxOf mv) p<=m.getD j 0;unfold tkA;dsimp only at h1;lia
theorem uu(r:Rm nZ ps S A m0)(po:∀p∈ps,Gj p nZ.length)(ea:am=bI dj A)(c:Ck nZ am S.length N T){j:Nat}{p:Pl}(hj:ps[j]?=some p){i:Nat}{m:List Int}(hi:S[i]?=some m):
  (zN nZ am N S.length S j p).2 m=bB nZ am N S.length p (i:Int):=by
 have o:=r.ok po hj;rw[<-ea]at o;have FH:=(iX hi).1;have h:=o.pot c (i:Int) (by lia) (by lia);have e:fO S j (i:Int)=m.getD j 0:=by
  unfold fO;rw[QL,getD_of hi]
 show m.getD j 0-(fO S j 0+eD (IT nZ N (Gu nZ am p) S.length))=_;unfold bB;lia
theorem DT(r:Rm nZ ps S A m0)(fu:Fu nZ ps S A S.length 0)(po:∀p∈ps,Gj p nZ.length)(ea:am=bI dj A)(c:Ck nZ am S.length N T){j:Nat}{p:Pl}(hj:ps[j]?=some p):Ft nZ ps S (zN nZ am N S.length S j p):=by
 have o:=r.ok po hj;rw[<-ea]at o;refine⟨?_,fun m hm mv hv m' hf=>?_⟩
 ·exact uu r po ea c hj r.z
 ·obtain⟨i,hi⟩:=Qt.mp hm;have MJ:=(iX hi).1;have hk:=Q6 hv;obtain⟨t,ht,ha⟩:=fu i (nZ.idxOf mv) (.inl MJ) mv (by rw[fA hk,To]) m m' hi hf;have ha:((i:Int),mv,(t:Int))∈am:=by
   rw[ea];exact(j6 dj).mpr ha
  have e1:=uu r po ea c hj hi;have e2:=uu r po ea c hj ht;have h1:=Cg (am:=am) (N:=N) (many:=S.length) (p:=p) hk;have h2:=DQ (am:=am) (N:=N) (many:=S.length) (p:=p) hk;rw[Ce hv]at h1;have h3:=DR (B:=bB nZ am N S.length p) (bs:=(List.range S.length).map fun(s:Nat)=>bB nZ am N S.length p (s:Int)) ha;have h4:=o.step c ha;have Ol:=(iX ht).1;have p1:=o.pot c (i:Int) (by lia) (by lia);have p2:=o.pot c (t:Int) (by lia) (by lia);have g1:tkA (nZ.idxOf mv) (zN nZ am N S.length S j p).1=(nZ.map (tk (bB nZ am N S.length p) am ((List.range S.length).map fun(s:Nat)=>bB nZ am N S.length p (s:Int)))).getD (nZ.idxOf mv) 0:=rfl;have g2:NT (nZ.idxOf mv) (zN nZ am N S.length S j p).1=(((nZ.map (tk (bB nZ am N S.length p) am ((List.range S.length).map fun(s:Nat)=>bB nZ am N S.length p (s:Int)))).zip (Gu nZ am p)).map fun q=>q.1+q.2).getD (nZ.idxOf mv) 0:=rfl;rw[e1,e2,g1,g2,h2,h1];dsimp only at h3 h4;refine⟨h3,?_⟩;have b1:bB nZ am N S.length p (i:Int)=th nZ N (Gu nZ am p) (i:Int)-eD (IT nZ N (Gu nZ am p) S.length):=rfl;have b2:bB nZ am N S.length p (t:Int)=th nZ N (Gu nZ am p) (t:Int)-eD (IT nZ N (Gu nZ am p) S.length):=rfl;lia
theorem DU(r:Rm nZ ps S A m0){m:List Int}(hm:m∈S){k:Nat}(hf:cF k (m.zip ps)=none):∃j p,ps[j]?=some p/\m.getD j 0<tkA k p:=by
 rw[lW]at hf;cases hc:Cm k (m.zip ps) with
 |true=>rw[hc,Qa rfl]at hf;cases hf
 |false=>
  unfold Cm at hc;obtain⟨z,hz,h⟩:=List.all_eq_false.mp hc;rw[Qm]at h;obtain⟨j,hj⟩:=Qt.mp hz;obtain⟨h1,h2⟩:=List.getElem?_zip_eq_some.mp (show(m.zip ps)[j]?=some (z.1,z.2) from hj);exact⟨j,z.2,h2,by rw[getD_of h1];lia⟩
theorem uv(r:Rm nZ ps S A m0)(fu:Fu nZ ps S A S.length 0)(po:∀p∈ps,Gj p nZ.length)(ea:am=bI dj A)(c:Ck nZ am S.length N T){F:List Zp}
  (f1:∀z∈F,∃j p,ps[j]?=some p/\(z=zO j p\/z=zN nZ am N S.length S j p)) (f2:∀j p,ps[j]?=some p->zO j p∈F\/zN nZ am N S.length S j p∈F):Sim nZ ps (F.map (·.1)) (hZ F) S:=by
 refine Cn (fun z hz=>?_) (fun m hm mv hv hf=>?_) fun m hm m' MO e=>?_
 ·obtain⟨j,p,hj,rfl|rfl⟩:=f1 z hz
  ·exact DS r hj
  ·exact DT r fu po ea c hj
 ·obtain⟨j,p,hj,FH⟩:=DU r hm hf;rcases f2 j p hj with h|h
  ·exact⟨_,h,FH⟩
  ·refine⟨_,h,?_⟩;obtain⟨i,hi⟩:=Qt.mp hm;have o:=r.ok po hj;rw[<-ea]at o;have e:fO S j (i:Int)=m.getD j 0:=by
    unfold fO;rw[QL,getD_of hi]
   rw[uu r po ea c hj hi];exact o.stop c (iX hi).1 (Q6 hv) (by rw[e];exact FH)
 ·refine Rc fun j=>?_
  have l1:=r.ln m hm;have l2:=r.ln m' MO;by_cases hj:j<ps.length
  ·have hp:ps[j]?=some ps[j]:=fA hj;have e1:m.getD j 0=m'.getD j 0:=by
    rcases f2 j _ hp with h|h
    ·exact e _ h
    ·have:=e _ h;dsimp only[zN]at this;lia
   rw[List.getD_eq_getElem?_getD,List.getD_eq_getElem?_getD,fA (by lia),fA (by lia)]at e1;rw[fA (by lia),fA (by lia)];exact Rg some e1
  ·rw[List.getElem?_eq_none (by lia),List.getElem?_eq_none (by lia)]
end
section
variable{nZ:Fq}{ps:List Pl}{S:List (List Int)}{A am:List Fn}{N:List Nd}{T:List Fn}{m0:Nat}
abbrev JY(nZ:Fq)(am:List Fn)(N:List Nd)(S:List (List Int))(ps:List Pl):List Zp:=ps.zipIdx.map fun z=>zN nZ am N S.length S z.2 z.1
theorem uw(j:Nat):(JY nZ am N S ps)[j]?=(ps[j]?).map fun p=>zN nZ am N S.length S j p:=by
 rw[List.getElem?_map,List.getElem?_zipIdx,Option.map_map];cases ps[j]? with
 |none=>rfl
 |some p=>rw[Sn,Sn];simp only[Function.comp,SV]
theorem ux:(JY nZ am N S ps).map (·.1)=ps.map (nP nZ am N S.length):=by
 refine Rc fun j=>?_
 rw[List.getElem?_map,uw,List.getElem?_map];cases ps[j]? <;> rfl
theorem p5{z:Zp}(h:z∈JY nZ am N S ps):∃j p,ps[j]?=some p/\(z=zO j p\/z=zN nZ am N S.length S j p):=by
 obtain⟨j,hj⟩:=Qt.mp h;rw[uw]at hj;cases hp:ps[j]? with
 |none=>rw[hp]at hj;cases hj
 |some p=>
  rw[hp]at hj;cases hj;exact⟨j,p,hp,.inr rfl⟩
theorem Cp{j:Nat}{p:Pl}(h:ps[j]?=some p):zN nZ am N S.length S j p∈JY nZ am N S ps:=Qj (by rw[uw,h];rfl)
theorem zv(e:bD nZ ps=some (S,A))(r:Rm nZ ps S A m0)(fu:Fu nZ ps S A S.length 0)(po:∀p∈ps,Gj p nZ.length)(ea:am=bI dj A)(c:Ck nZ am S.length N T):
  bD nZ (ps.map (nP nZ am N S.length))=some (S.map (hZ (JY nZ am N S ps)),A):=by
 have s:=uv r fu po ea c (F:=JY nZ am N S ps) (fun z hz=>p5 hz) fun j p h=>.inr (Cp h)
 rw[ux]at s;exact iF e s
theorem wg(e:bD nZ ps=some (S,A))(r:Rm nZ ps S A m0)(fu:Fu nZ ps S A S.length 0)(po:∀p∈ps,Gj p nZ.length)(ea:am=bI dj A)(c:Ck nZ am S.length N T){k:Nat}{p:Pl}(hk:ps[k]?=some p):
  ∃S',bD nZ (ps.map (nP nZ am N S.length)++[p])=some (S',A):=by
 have s:=uv r fu po ea c (F:=JY nZ am N S ps++[zO k p]) (fun z hz=>by
  rcases nt hz with h|h
  ·exact p5 h
  ·exact⟨k,p,hk,.inl (kq h)⟩) fun j p h=>.inr (Qd _ (Cp h))
 rw[Qi,ux]at s;exact⟨_,iF e s⟩
theorem wj(e:bD nZ ps=some (S,A))(r:Rm nZ ps S A m0)(fu:Fu nZ ps S A S.length 0)(po:∀p∈ps,Gj p nZ.length)(ea:am=bI dj A)(c:Ck nZ am S.length N T){k:Nat}{p:Pl}(hk:ps[k]?=some p):
  ∃S',bD nZ ((ps.map (nP nZ am N S.length)).take k++[p]++(ps.map (nP nZ am N S.length)).drop (k+1))=some (S',A):=by
 have s:=uv r fu po ea c (F:=(JY nZ am N S ps).take k++[zO k p]++(JY nZ am N S ps).drop (k+1)) (fun z hz=>by
  rcases nt hz with h|h
  ·rcases nt h with h|h
   ·exact p5 (Sr h)
   ·exact⟨k,p,hk,.inl (kq h)⟩
  ·exact p5 (UJ h)) fun j q h=>by
  have hq:(JY nZ am N S ps)[j]?=some (zN nZ am N S.length S j q):=by rw[uw,h];rfl
  rcases Nat.lt_trichotomy j k with hl|hl|hl
  ·exact .inr (Qd _ (Qd _ (Qj (i:=j) (by rw[List.getElem?_take,Qa hl];exact hq))))
  ·subst hl;rw[hk]at h;cases h;exact .inl (Qd _ (P7 _ (Qx.mpr rfl)))
  ·exact .inr (P7 _ (Qj (i:=j-(k+1)) (by rw[List.getElem?_drop,show k+1+(j-(k+1))=j by lia];exact hq)))
 rw[Qi,Qi,So,U6,ux]at s;exact⟨_,iF e s⟩
theorem DV(p:Pl):Gj (nP nZ am N S.length p) nZ.length:=⟨Ci,Cj⟩
theorem DW(r:Rm nZ ps S A m0)(po:∀p∈ps,Gj p nZ.length)(ea:am=bI dj A)(c:Ck nZ am S.length N T):S.map (hZ (JY nZ am N S ps))=(List.range S.length).map fun(s:Nat)=>ps.map fun p=>bB nZ am N S.length p (s:Int):=by
 refine Rc fun i=>?_
 rw[List.getElem?_map,List.getElem?_map];by_cases hi:i<S.length
 ·rw[fA hi,List.getElem?_range hi,Sn,Sn];refine Rg some (Rc fun j=>?_);show((JY nZ am N S ps).map fun z=>z.2 S[i])[j]?=_;rw[List.getElem?_map,uw,List.getElem?_map];cases hj:ps[j]? with
  |none=>rfl
  |some p=>exact Rg some (uu r po ea c hj (fA hi))
 ·rw[List.getElem?_eq_none (by lia),List.getElem?_eq_none (by rw[Qr];lia)];rfl
end
end LW
namespace PV
open PySem L2 NX
theorem wm{fs:FOs}{env:PV.Env}:mZ fs env=Res.bnd (fs env) (f:=⟨fun p=>match p.1 with
 |[.val d]=>(match d with | .lst a=>.ok (uB a,p.2) | .tup a=>.ok (uB a,p.2)|_=>.bad)
 |_=>.bad⟩):=by
 unfold mZ Ga pK;cases fs env with
 |ok p=>
  obtain⟨os,e⟩:=p;match os with
  |[]=>rfl
  |[.val d]=>cases d <;> rfl
  |[.var _]=>rfl
  | .val _::_::_=>rfl
  | .var _::_::_=>rfl
 |_=>rfl
end PV
namespace LW
open PySem L2 NX PV
theorem wo(fi:FI)(ix:List (Option Nat))(a:FG)(c:FT)(f:FX)(env:PV.Env):pM fi ix a c f env=Res.bnd (fi env) (f:=⟨fun p=>Res.bnd (compLO a c f p.1 (cj ix p.2)) (f:=⟨fun ds=>if ds.length<=sizeLine then .ok ((.l (.l .f),.lst ds),if ds.all (bu (.l .f)) then p.2 else p.2.map frz) else .bad⟩)⟩):=id rfl
theorem kP:∀(l:List D) (t:Option R),compLO (au 0) cW (kc bG) l [t]=.ok (l.map fun _=>.lst [])
 |[],_=>rfl
 |d::l,t=>by
  have ih:=kP l (some (.f,d));show(compLO (au 0) cW (kc bG) l [some (.f,d)]).bind (fun rs=>Res.ok (D.lst []::rs))=_;rw[ih];rfl
def tb(L:Nat->List D)(many:Nat):List D:=(List.range many).map fun s=>D.lst (L s)
theorem kQ(L:Nat->List D)(many:Nat):(tb L many).length=many:=by
 unfold tb;rw[aZ,Qr]
theorem wq{L:Nat->List D}{many s:Nat}(h:s<many):(tb L many)[s]?=some (.lst (L s)):=by
 unfold tb;rw[List.getElem?_map,List.getElem?_range h];rfl
theorem Cq(L:Nat->List D)(many i:Nat)(x:List D):(tb L many).set i (.lst x)=tb (fun s=>if s=i then x else L s) many:=by
 refine Rc fun s=>?_
 by_cases hs:s<many
 ·rw[wq hs];by_cases e:s=i
  ·subst e;rw[List.getElem?_set_self (by rw[kQ];exact hs),Qa rfl]
  ·rw[List.getElem?_set_ne (Rv e),wq hs,Qf e]
 ·rw[List.getElem?_eq_none (by rw[R8,kQ];lia),List.getElem?_eq_none (by rw[kQ];lia)]
theorem wt{L L':Nat->List D}{many:Nat}(h:∀s,s<many->L s=L' s):tb L many=tb L' many:=by
 unfold tb;refine QK fun s hs=>?_
 rw[h s (QC.mp hs)]
theorem DX(A0 A1 A2 A3 A4 A5 A6 t8 t9 GK Ha GP:Option R)(L:Nat->List D)(many s:Nat)(hs:s<many)(d:D)(hl:(L s).length<=100):
  hX [A0,A1,A2,A3,A4,A5,A6,some (.l (.l .f),.lst (tb L many)),t8,t9,some (.f,.int (s:Int)),some (.f,d),GK,Ha,GP] =
  .ok (.nx [A0,A1,A2,A3,A4,A5,A6,some (.l (.l .f),.lst (tb (fun x=>if x=s then L s++[d] else L x) many)),t8,t9,some (.f,.int (s:Int)),some (.f,d),GK,Ha,GP]):=by
 have h1:ixN (tb L many).length (s:Int)=some s:=tG _ _ (by rw[kQ];exact hs);have h2:=wq (L:=L) hs;have h3:(L s).length<sizeLine:=gv (by lia);have h4:=Cq L many s (L s++[d]);have e:pN 7 10 11 [A0,A1,A2,A3,A4,A5,A6,some (.l (.l .f),.lst (tb L many)),t8,t9,some (.f,.int (s:Int)),some (.f,d),GK,Ha,GP]=.ok ((.f,.non),[A0,A1,A2,A3,A4,A5,A6,some (.l (.l .f),.lst (tb (fun x=>if x=s then L s++[d] else L x) many)),t8,t9,some (.f,.int (s:Int)),some (.f,d),GK,Ha,GP]):=by
  rw[<-h4];generalize tb L many=TB at h1 h2 ⊢;show(match ixN TB.length (s:Int) with
  |some m=>(match TB[m]? with
   |some (.lst es)=>if es.length<sizeLine then Res.ok (((.f,.non):R),([A0,A1,A2,A3,A4,A5,A6,some (.l (.l .f),.lst (TB.set m (.lst (es++[d])))),t8,t9,some (.f,.int (s:Int)),some (.f,d),GK,Ha,GP]:PV.Env)) else .bad
   |_=>.bad)
  |none=>.bad)=_
  rw[h1];dsimp only;rw[h2];dsimp only;rw[Qa h3]
 unfold hX;rw[JE,e,Gh]
theorem zw(B:Nat->D)(many:Nat):uB ((List.range many).map B)=(List.range many).map fun(s:Nat)=>D.tup [.int (s:Int),B s]:=by
 unfold uB;refine Rc fun i=>?_
 rw[List.getElem?_map,List.getElem?_zipIdx,List.getElem?_map,List.getElem?_map];by_cases hi:i<many
 ·rw[List.getElem?_range hi];simp only[Sn,SV]
 ·rw[List.getElem?_eq_none (by rw[Qr];lia)];rfl
theorem zx(A0 A1 A2 A3 A4 A5 A6 t8 t9 GK Ha GP:Option R)(L:Nat->List D)(many:Nat)(B:Nat->D)(hl:∀s,s<many->(L s).length<=100)(Hg Gz:Option R):
  ∃Hb F1,gR (gm 2 (aB (au 10) (aB (au 11) cq))) hX (uB ((List.range many).map B)) [A0,A1,A2,A3,A4,A5,A6,some (.l (.l .f),.lst (tb L many)),t8,t9,Hg,Gz,GK,Ha,GP] =
   .ok (.nx [A0,A1,A2,A3,A4,A5,A6,some (.l (.l .f),.lst (tb (fun s=>L s++[B s]) many)),t8,t9,Hb,F1,GK,Ha,GP]):=by
 rw[zw];obtain⟨env',ef,Hb,F1,rfl⟩:=jZ (a:=gm 2 (aB (au 10) (aB (au 11) cq))) (g:=hX) (e:=fun(s:Nat)=>D.tup [.int (s:Int),B s]) many
  (fun i env=>∃Hb F1,env=[A0,A1,A2,A3,A4,A5,A6,some (.l (.l .f),.lst (tb (fun s=>L s++if s<i then[B s] else[]) many)),t8,t9,Hb,F1,GK,Ha,GP]) (by
  rintro s env hs ⟨Hb,F1,rfl⟩;refine⟨[A0,A1,A2,A3,A4,A5,A6,some (.l (.l .f),.lst (tb (fun x=>L x++if x<s then[B x] else[]) many)),t8,t9,some (.f,.int (s:Int)),some (.f,B s),GK,Ha,GP],by simp only[pv,seval],_,DX A0 A1 A2 A3 A4 A5 A6 t8 t9 GK Ha GP _ many s hs (B s) (by
   rw[Qf (RF s),QR];exact hl s hs),some (.f,.int (s:Int)),some (.f,B s),?_⟩
  rw[wt (L':=fun x=>L x++if x<s+1 then[B x] else[]) fun x hx=>?_];by_cases e:x=s
  ·subst e;rw[Qa rfl,Qf (RF x),QR,Qa (RY x)]
  ·rw[Qf e];by_cases h:x<s
   ·rw[Qa h,Qa (by lia)]
   ·rw[Qf h,Qf (by lia)]) _ ⟨Hg,Gz,by
  rw[wt (L':=L) fun x hx=>?_];rw[Qf (Tf x),QR]⟩
 refine⟨Hb,F1,?_⟩;rw[ef,wt (L':=fun s=>L s++[B s]) fun x hx=>?_];rw[Qa hx]
section
variable{nZ:Fq}{am:List Fn}{N:List Nd}{T:List Fn}{f:Int->Int}{p:Pl}
theorem wu(ps:List Pl)(hp:Gj p nZ.length):bX (au 0) cW (aE je (ar (aE oi (ar (aE FF (ar (aE FF (aq 1) (ar (aP (.int 2))))) (aq 0))) (ar (aE FF (ar (aE FF (aq 1) (ar (aP (.int 1))))) (aq 0))))) (ar (bq zM (ag (ar (cn L8 (ar (aE FF (ar (aE FF (aq 2) (ar (aP (.int 0))))) (aq 0))) (aq 3))) az)))) ((List.range nZ.length).map fun(k:Nat)=>D.int (k:Int)) [none,some (.f,eP p),some (.f,eN nZ ps),some (.f,.lst ((am.map (·.2.1)).map D.str))]=.ok ((Gu nZ am p).map D.int):=by
 rw[aW (r:=fun k:Nat=>D.int ((p.2.2.getD k 0-p.2.1.getD k 0)*(if decide (nZ.getD k []∈am.map (·.2.1))=true then 1 else 0))) (fun env=>∃t,env=[t,some (.f,eP p),some (.f,eN nZ ps),some (.f,.lst ((am.map (·.2.1)).map D.str))]) (List.range nZ.length) ?_ _ ⟨none,rfl⟩]
 ·unfold Gu;rw[Qe];rfl
 ·rintro k hk env ⟨t,rfl⟩;have hk:=QC.mp hk;have q1:Gw (p.2.1.map D.int) (k:Int)=some (.int (p.2.1.getD k 0)):=kN (by rw[hp.1];exact hk);have q2:Gw (p.2.2.map D.int) (k:Int)=some (.int (p.2.2.getD k 0)):=kN (by rw[hp.2];exact hk);have hnk:Gw (nZ.map D.str) (k:Int)=some (.str (nZ.getD k [])):=by
   rw[BP hk,getD_of (fA hk)]
  refine⟨[some (.f,.int (k:Int)),some (.f,eP p),some (.f,eN nZ ps),some (.f,.lst ((am.map (·.2.1)).map D.str))],rfl,.f,[some (.f,.int (k:Int)),some (.f,eP p),some (.f,eN nZ ps),some (.f,.lst ((am.map (·.2.1)).map D.str))],?_,_,rfl⟩;have ML:=tY (nZ.getD k []) (am.map (·.2.1));generalize decide (nZ.getD k []∈am.map (·.2.1))=bb at ML;have hsm:b9 (if bb=true then 1 else 0)=true:=by cases bb <;> rfl
  have hmu:=CC (p.2.2.getD k 0-p.2.1.getD k 0) (if bb=true then 1 else 0) hsm;unfold eP eN;simp only[pv,seval,op,q1,q2,at2,hnk,ML,hmu]
theorem DY(ns:List Int)(ps:List Pl)(S:List (List Int))(NQ:nZ.length<=3)(hS:S.length<=8)(c:Ck nZ am S.length N T)(o:Ok nZ am S.length f p)(Q:List Pl)(hQ:Q.length<=100)(L:Nat->List D)(hL:∀s,s<S.length->(L s).length<=100)(t9 Hg Gz GK Ha GP:Option R):
  ∃u9 Hb F1,dP [some (.f,.lst (ns.map D.int)),some (.f,eN nZ ps),some (.f,.lst (am.map eA)),some (.f,.lst (S.map eM)),some (.f,Fv nZ am),some (.l .f,.lst ((am.map (·.2.1)).map D.str)),some (.l .f,.lst (Q.map eP)),some (.l (.l .f),.lst (tb L S.length)),some (.f,eP p),t9,Hg,Gz,GK,Ha,GP] =
   .ok (.nx [some (.f,.lst (ns.map D.int)),some (.f,eN nZ ps),some (.f,.lst (am.map eA)),some (.f,.lst (S.map eM)),some (.f,Fv nZ am),some (.l .f,.lst ((am.map (·.2.1)).map D.str)),some (.l .f,.lst (Q.map eP++[eP (nP nZ am N S.length p)])),some (.l (.l .f),.lst (tb (fun s=>L s++[D.int (bB nZ am N S.length p (s:Int))]) S.length)),some (.f,eP p),u9,Hb,F1,GK,Ha,GP]):=by
 have JG:=o.beads c;have Hh:cJ [Fv nZ am,.tup ((Gu nZ am p).map D.int)]=.ok (.f,eP (nP nZ am N S.length p)):=o.place c;have My:=wu (am:=am) ps o.po;have Mv:=ka nZ am p;have hlen:((Gu nZ am p).map D.int).length<=sizeLine:=aM (by rw[aZ];lia);have JH:=Fi (Gu nZ am p);have NS:=Fi ((List.range S.length).map fun(s:Nat)=>bB nZ am N S.length p (s:Int));have MN:=flat_P (nP nZ am N S.length p);have P0:Q.length<sizeLine:=gv (by lia);have GQ:=zx (some (.f,.lst (ns.map D.int))) (some (.f,eN nZ ps)) (some (.f,.lst (am.map eA))) (some (.f,.lst (S.map eM))) (some (.f,Fv nZ am)) (some (.l .f,.lst ((am.map (·.2.1)).map D.str))) (some (.l .f,.lst (Q.map eP++[eP (nP nZ am N S.length p)]))) (some (.f,eP p)) (some (.f,.tup ((Gu nZ am p).map D.int))) GK Ha GP L S.length (fun s=>D.int (bB nZ am N S.length p (s:Int))) hL Hg Gz;have hbm:((List.range S.length).map fun(s:Nat)=>bB nZ am N S.length p (s:Int)).map D.int=(List.range S.length).map fun(s:Nat)=>D.int (bB nZ am N S.length p (s:Int)):=by rw[Qe];rfl
 rw[hbm]at JG NS;obtain⟨Hb,F1,GQ⟩:=GQ;refine⟨some (.f,.tup ((Gu nZ am p).map D.int)),Hb,F1,?_⟩;generalize (List.range S.length).map (fun(s:Nat)=>D.int (bB nZ am N S.length p (s:Int)))=BB at JG NS GQ;generalize tb (fun s=>L s++[D.int (bB nZ am N S.length p (s:Int))]) S.length=T2 at GQ ⊢;generalize tb L S.length=T1 at GQ ⊢;have hlm:(Q.map eP).length=Q.length:=aZ _;generalize eP (nP nZ am N S.length p)=Pa at *;generalize Q.map eP=QQ at *;rw[<-hlm]at P0;generalize (Gu nZ am p).map D.int=NU at *;unfold dP;rw[ay (env':=[some (.f,.lst (ns.map D.int)),some (.f,eN nZ ps),some (.f,.lst (am.map eA)),some (.f,.lst (S.map eM)),some (.f,Fv nZ am),some (.l .f,.lst ((am.map (·.2.1)).map D.str)),some (.l .f,.lst QQ),some (.l (.l .f),.lst T1),some (.f,eP p),some (.f,.tup NU),Hg,Gz,GK,Ha,GP]) (by
  unfold eN at My ⊢;generalize (aE je (ar (aE oi (ar (aE FF (ar (aE FF (aq 1) (ar (aP (.int 2))))) (aq 0))) (ar (aE FF (ar (aE FF (aq 1) (ar (aP (.int 1))))) (aq 0))))) (ar (bq zM (ag (ar (cn L8 (ar (aE FF (ar (aE FF (aq 2) (ar (aP (.int 0))))) (aq 0))) (aq 3))) az))))=GG at My ⊢;simp only[pv,seval,op,aZ];rw[Qa (by lia)];simp only[pv,seval,op,QL,My,hlen,JH])]
 rw[ay (env':=[some (.f,.lst (ns.map D.int)),some (.f,eN nZ ps),some (.f,.lst (am.map eA)),some (.f,.lst (S.map eM)),some (.f,Fv nZ am),some (.l .f,.lst ((am.map (·.2.1)).map D.str)),some (.l .f,.lst (QQ++[Pa])),some (.l (.l .f),.lst T1),some (.f,eP p),some (.f,.tup NU),Hg,Gz,GK,Ha,GP]) (by simp only[pv,seval,op,Hh,MN,P0])];unfold sZ;rw[HK];have hi:mZ (ag (ar (c6 bL (ag (aq 4) (ag (aq 9) az)))) az) [some (.f,.lst (ns.map D.int)),some (.f,eN nZ ps),some (.f,.lst (am.map eA)),some (.f,.lst (S.map eM)),some (.f,Fv nZ am),some (.l .f,.lst ((am.map (·.2.1)).map D.str)),some (.l .f,.lst (QQ++[Pa])),some (.l (.l .f),.lst T1),some (.f,eP p),some (.f,.tup NU),Hg,Gz,GK,Ha,GP]=.ok (uB BB,[some (.f,.lst (ns.map D.int)),some (.f,eN nZ ps),some (.f,.lst (am.map eA)),some (.f,.lst (S.map eM)),some (.f,Fv nZ am),some (.l .f,.lst ((am.map (·.2.1)).map D.str)),some (.l .f,.lst (QQ++[Pa])),some (.l (.l .f),.lst T1),some (.f,eP p),some (.f,.tup NU),Hg,Gz,GK,Ha,GP]):=by
  rw[wm];simp only[pv,seval,op,JG,NS]
 rw[hi,Gh];exact GQ
end
end LW
set_option maxHeartbeats 400000
namespace LW
open PySem L2 NX PV
theorem wx(n:Nat)(l:List (List Int)):plainDs (n+1) (l.map eM)=true:=by
 induction l with
 |nil=>rfl
 |cons a l ih=>
  rw[dH,plainDs,ih,S7];unfold eM;rw[plainD,iE]
theorem Cr(as:List Fn)(ms:List (List Int)):JP (.tup [.lst (as.map eA),.lst (ms.map eM)]) (.tup [.lst (as.map eA),.lst (ms.map eM)])=.ok (.f,.bl false):=by
 refine nv _ ?_;show plainDs 39 [.lst (as.map eA),.lst (ms.map eM)]=true;rw[plainDs,plainDs,plainDs,S7,Qo];exact⟨iG 35 as,wx 37 ms⟩
theorem zy(as:List Fn):JP (.lst (as.map eA)) (.lst (as.map eA))=.ok (.f,.bl false):=nv _ (iG 36 as)
section
variable{nZ:Fq}{am:List Fn}{N:List Nd}{T:List Fn}
theorem DZ(ns:List Int)(ps:List Pl)(S:List (List Int))(TB:D)(PN P:List Pl)(hn:nZ.length<=3)(hl:P.length<=100)(hp:∀p∈P,Gj p nZ.length){r:Rn}(hr:bD nZ P=some r)(ea:am=bI dj r.2)(t8 t9 Hg Gz GK GP:Option R):
  eU [some (.f,.lst (ns.map D.int)),some (.f,eN nZ ps),some (.f,.lst (am.map eA)),some (.f,.lst (S.map eM)),some (.f,Fv nZ am),some (.f,.lst ((am.map (·.2.1)).map D.str)),some (.f,.lst (PN.map eP)),some (.f,TB),t8,t9,Hg,Gz,GK,some (.f,.lst (P.map eP)),GP]=.ok (.nx [some (.f,.lst (ns.map D.int)),some (.f,eN nZ ps),some (.f,.lst (am.map eA)),some (.f,.lst (S.map eM)),some (.f,Fv nZ am),some (.f,.lst ((am.map (·.2.1)).map D.str)),some (.f,.lst (PN.map eP)),some (.f,TB),frz t8,frz t9,frz Hg,frz Gz,frz GK,some (.f,.lst (P.map eP)),some (.f,.tup [.lst (am.map eA),.lst (r.1.map eM)])]):=by
 have e:=ub nZ hn P hl hp hr;rw[<-ea]at e;have Ko:∀(x y:List D),flatDs [.lst x,.lst y]=false:=fun _ _=>rfl
 have NO:MK (.tup [.lst (am.map eA),.lst (r.1.map eM)]) .non=.ok (.f,.bl false):=id rfl;have IA:=zy am;unfold eU;rw[ay (env':=[some (.f,.lst (ns.map D.int)),some (.f,eN nZ ps),some (.f,.lst (am.map eA)),some (.f,.lst (S.map eM)),some (.f,Fv nZ am),some (.f,.lst ((am.map (·.2.1)).map D.str)),some (.f,.lst (PN.map eP)),some (.f,TB),frz t8,frz t9,frz Hg,frz Gz,frz GK,some (.f,.lst (P.map eP)),some (.f,.tup [.lst (am.map eA),.lst (r.1.map eM)])]) (by
  unfold eN at e ⊢;simp only[pv,seval,op,e,Ko,kg,BU])]
 simp only[pv,seval,op,NO,IA,kg]
theorem Cs(PN:List Pl)(p:Pl)(hl:PN.length<=50):cU (.lst (PN.map eP)) (.lst [eP p])=.ok (.l .f,.lst ((PN++[p]).map eP)):=by
 rw[Ej PN (by lia),Qi];rfl
theorem D0(PN:List Pl)(p:Pl)(hl:PN.length<=50)(k:Nat):cU (.lst (gS (PN.map eP) none (some (k:Int)))) (.lst [eP p])=.ok (.l .f,.lst ((PN.take k++[p]).map eP)):=by
 rw[lT,<-So];exact Cs (PN.take k) p (by rw[Qy];lia)
theorem D1(PN:List Pl)(p:Pl)(hl:PN.length<=50)(k:Nat):cU (.lst ((PN.take k++[p]).map eP)) (.lst (gS (PN.map eP) (some ((k:Int)+1)) none))=.ok (.l .f,.lst ((PN.take k++[p]++PN.drop (k+1)).map eP)):=by
 have FH:(PN.take k).length<=PN.length:=by rw[Qy];lia
 have hld:(PN.drop (k+1)).length<=PN.length:=by rw[RX];lia
 have e:gS (PN.map eP) (some ((k:Int)+1)) none=(PN.drop (k+1)).map eP:=by
  have h:=vR (PN.map eP) (k+1);rw[<-U6]at h;exact h
 have h2:((PN.take k++[p]).map eP).length+((PN.drop (k+1)).map eP).length<=16777216:=by
  rw[aZ,aZ,j0,Qs];lia
 rw[e,tu,Qa (line_le h2),Qi (l₁:=PN.take k++[p])]
theorem D2(PN:List Pl)(p:Pl)(hl:PN.length<=50)(k:Nat)(Kp:∀p∈PN,Gj p nZ.length)(hp:Gj p nZ.length){A:List Fn}(r2:∃S',bD nZ (PN++[p])=some (S',A))(r3:∃S',bD nZ (PN.take k++[p]++PN.drop (k+1))=some (S',A)):
  ∀P∈[PN++[p],PN.take k++[p]++PN.drop (k+1)],P.length<=100/\(∀q∈P,Gj q nZ.length)/\∃S',bD nZ P=some (S',A):=by
 intro P hP;rcases Qh.mp hP with e|hP
 ·rw[e];refine⟨by rw[j0,Qs];lia,fun q hq=>?_,r2⟩;rcases nt hq with h|h
  ·exact Kp q h
  ·rw[kq h];exact hp
 ·rw[kq hP];have FH:(PN.take k).length<=PN.length:=by rw[Qy];lia
  refine⟨by rw[j0,j0,Qs,RX];lia,fun q hq=>?_,r3⟩;rcases nt hq with h|h
  ·rcases nt h with h|h
   ·exact Kp q (Sr h)
   ·rw[kq h];exact hp
  ·exact Kp q (UJ h)
theorem D3(ns:List Int)(ps:List Pl)(S:List (List Int))(TB:D)(PN:List Pl)(hn:nZ.length<=3){A:List Fn}(ea:am=bI dj A)(k:Nat)(Ps:List (List Pl))(l2:∀P∈Ps,P.length<=100/\(∀q∈P,Gj q nZ.length)/\∃S',bD nZ P=some (S',A))(t8 t9 Gz GK Ha GP:Option R):
  ∃u8 u9 F1 Hw HL Hz,gR (au 13) eU (Ps.map fun P:List Pl=>D.lst (P.map eP)) [some (.f,.lst (ns.map D.int)),some (.f,eN nZ ps),some (.f,.lst (am.map eA)),some (.f,.lst (S.map eM)),some (.f,Fv nZ am),some (.f,.lst ((am.map (·.2.1)).map D.str)),some (.f,.lst (PN.map eP)),some (.f,TB),t8,t9,some (.f,.int (k:Int)),Gz,GK,Ha,GP]=.ok (.nx [some (.f,.lst (ns.map D.int)),some (.f,eN nZ ps),some (.f,.lst (am.map eA)),some (.f,.lst (S.map eM)),some (.f,Fv nZ am),some (.f,.lst ((am.map (·.2.1)).map D.str)),some (.f,.lst (PN.map eP)),some (.f,TB),u8,u9,some (.f,.int (k:Int)),F1,Hw,HL,Hz]):=by
 have st:∀(i:Nat) (P:List Pl) (env:PV.Env),Ps[i]?=some P->(∃u8 u9 F1 Hw HL Hz,env=[some (.f,.lst (ns.map D.int)),some (.f,eN nZ ps),some (.f,.lst (am.map eA)),some (.f,.lst (S.map eM)),some (.f,Fv nZ am),some (.f,.lst ((am.map (·.2.1)).map D.str)),some (.f,.lst (PN.map eP)),some (.f,TB),u8,u9,some (.f,.int (k:Int)),F1,Hw,HL,Hz])->∃Fd,au 13 (D.lst (P.map eP)) env=.ok Fd/\∃Fl,eU Fd=.ok (.nx Fl)/\∃u8 u9 F1 Hw HL Hz,Fl=[some (.f,.lst (ns.map D.int)),some (.f,eN nZ ps),some (.f,.lst (am.map eA)),some (.f,.lst (S.map eM)),some (.f,Fv nZ am),some (.f,.lst ((am.map (·.2.1)).map D.str)),some (.f,.lst (PN.map eP)),some (.f,TB),u8,u9,some (.f,.int (k:Int)),F1,Hw,HL,Hz]:=by
  rintro i P env hi ⟨u8,u9,F1,Hw,HL,Hz,e⟩;obtain⟨h1,h2,S',h3⟩:=l2 P (Qj hi);have h:=DZ ns ps S TB PN P hn h1 h2 h3 ea u8 u9 (some (.f,.int (k:Int))) F1 Hw Hz;have ha:au 13 (D.lst (P.map eP)) env=.ok [some (.f,.lst (ns.map D.int)),some (.f,eN nZ ps),some (.f,.lst (am.map eA)),some (.f,.lst (S.map eM)),some (.f,Fv nZ am),some (.f,.lst ((am.map (·.2.1)).map D.str)),some (.f,.lst (PN.map eP)),some (.f,TB),u8,u9,some (.f,.int (k:Int)),F1,Hw,some (.f,.lst (P.map eP)),Hz]:=by
   rw[e];simp only[pv,seval]
  exact⟨_,ha,_,h,frz u8,frz u9,frz F1,frz Hw,some (.f,.lst (P.map eP)),_,rfl⟩
 obtain⟨env',ef,hh⟩:=for_list (a:=au 13) (g:=eU) (e:=fun P:List Pl=>D.lst (P.map eP)) Ps (fun _ env=>∃u8 u9 F1 Hw HL Hz,env=[some (.f,.lst (ns.map D.int)),some (.f,eN nZ ps),some (.f,.lst (am.map eA)),some (.f,.lst (S.map eM)),some (.f,Fv nZ am),some (.f,.lst ((am.map (·.2.1)).map D.str)),some (.f,.lst (PN.map eP)),some (.f,TB),u8,u9,some (.f,.int (k:Int)),F1,Hw,HL,Hz]) st [some (.f,.lst (ns.map D.int)),some (.f,eN nZ ps),some (.f,.lst (am.map eA)),some (.f,.lst (S.map eM)),some (.f,Fv nZ am),some (.f,.lst ((am.map (·.2.1)).map D.str)),some (.f,.lst (PN.map eP)),some (.f,TB),t8,t9,some (.f,.int (k:Int)),Gz,GK,Ha,GP] ⟨t8,t9,Gz,GK,Ha,GP,rfl⟩;obtain⟨u8,u9,F1,Hw,HL,Hz,e⟩:=hh;rw[e]at ef;exact⟨u8,u9,F1,Hw,HL,Hz,ef⟩
theorem D4(ns:List Int)(ps:List Pl)(S:List (List Int))(TB:D)(PN:List Pl)(hn:nZ.length<=3)(hl:PN.length<=50)(Kp:∀p∈PN,Gj p nZ.length){A:List Fn}(ea:am=bI dj A)(k:Nat)(p:Pl)(hk:ps[k]?=some p)(hp:Gj p nZ.length)
  (r2:∃S',bD nZ (PN++[p])=some (S',A)) (r3:∃S',bD nZ (PN.take k++[p]++PN.drop (k+1))=some (S',A)) (t8 t9 Gz GK Ha GP:Option R):
  ∃u8 u9 F1 Hw HL Hz,eV [some (.f,.lst (ns.map D.int)),some (.f,eN nZ ps),some (.f,.lst (am.map eA)),some (.f,.lst (S.map eM)),some (.f,Fv nZ am),some (.f,.lst ((am.map (·.2.1)).map D.str)),some (.f,.lst (PN.map eP)),some (.f,TB),t8,t9,some (.f,.int (k:Int)),Gz,GK,Ha,GP]=.ok (.nx [some (.f,.lst (ns.map D.int)),some (.f,eN nZ ps),some (.f,.lst (am.map eA)),some (.f,.lst (S.map eM)),some (.f,Fv nZ am),some (.f,.lst ((am.map (·.2.1)).map D.str)),some (.f,.lst (PN.map eP)),some (.f,TB),u8,u9,some (.f,.int (k:Int)),F1,Hw,HL,Hz]):=by
 have KL:=Cs PN p hl;have Pb:=D0 PN p hl k;have Om:=D1 PN p hl k;have JS:Gw (ps.map eP) (k:Int)=some (eP p):=dA (by rw[List.getElem?_map,hk];rfl);obtain⟨u8,u9,F1,Hw,HL,Hz,ef⟩:=D3 ns ps S TB PN hn ea k _ (D2 PN p hl k Kp hp r2 r3) t8 t9 Gz GK Ha GP;refine⟨u8,u9,F1,Hw,HL,Hz,?_⟩;unfold eV sX;rw[HK];rw[dH,dH,QV]at ef;clear r2 r3 Kp hp hk ea;generalize (PN++[p]).map eP=Q2 at KL ef;generalize (PN.take k++[p]++PN.drop (k+1)).map eP=Q4 at Om ef;generalize (PN.take k++[p]).map eP=Q3 at Pb Om;generalize PN.map eP=QN at KL Pb Om ef ⊢;unfold eN at ef ⊢;generalize ps.map eP=PP at JS ef ⊢;generalize gR (au 13) eU=FL at ef ⊢;simp only[pv,↓reduceIte,Nat.reduceAdd,Nat.reduceLT,Nat.reduceLeDiff,Nat.reduceEqDiff,op,JS,KL,Pb,Om];exact ef
end
end LW
set_option maxHeartbeats 1000000
namespace LW
open PySem L2 NX PV
theorem uy{α:Type}{l:List α}{k:Nat}{x:α}(h:l[k]?=some x):l.take (k+1)=l.take k++[x]:=by
 rw[Rt,h];rfl
theorem zH(l:List (List Int)):flatDs (l.map eM)=true:=by
 induction l with
 |nil=>rfl
 |cons a l ih=>rw[dH,flatDs,ih,xf];rfl
theorem wy(L:Nat->List D)(many:Nat):bX (au 0) cW (bq cu (ag (aq 0) az)) (tb L many) [none]=.ok ((List.range many).map fun s=>D.tup (L s)):=by
 unfold tb;refine aW (r:=fun s:Nat=>D.tup (L s)) (fun env=>∃t,env=[t]) (List.range many) ?_ _ ⟨none,rfl⟩;rintro s _ env ⟨t,rfl⟩;exact⟨[some (.f,.lst (L s))],rfl,.f,[some (.f,.lst (L s))],by simp only[pv,seval,op],_,rfl⟩
theorem Cu(l:List (List Int)):(l.map eM).map (fun _=>D.lst [])=tb (fun _=>[]) l.length:=by
 refine Rc fun i=>?_
 rw[List.getElem?_map,List.getElem?_map];by_cases hi:i<l.length
 ·rw[wq hi,fA hi];rfl
 ·rw[List.getElem?_eq_none (by lia),List.getElem?_eq_none (l:=tb _ _) (by rw[kQ];lia)];rfl
theorem uz(many:Nat):(tb (fun _=>[]) many).all (bu (.l .f))=true:=by
 rw[Qp];intro d hd;unfold tb at hd;obtain⟨s,_,rfl⟩:=lS hd;rfl
section
variable{nZ:Fq}{ps:List Pl}{S:List (List Int)}{A am:List Fn}{N:List Nd}{T:List Fn}{m0:Nat}
abbrev tN(nZ:Fq)(am:List Fn)(N:List Nd)(S:List (List Int))(P:List Pl):List D:=tb (fun s=>P.map fun p=>D.int (bB nZ am N S.length p (s:Int))) S.length
theorem D5(ns:List Int)(n3:nZ.length<=3)(p9:ps.length<=12)(po:∀p∈ps,Gj p nZ.length)(r:Rm nZ ps S A m0)(ea:am=bI dj A)(c:Ck nZ am S.length N T)(t8 t9 Hg Gz:Option R):
  ∃u8 u9 Hb F1,gR (au 8) dP (ps.map eP) [some (.f,.lst (ns.map D.int)),some (.f,eN nZ ps),some (.f,.lst (am.map eA)),some (.f,.lst (S.map eM)),some (.f,Fv nZ am),some (.l .f,.lst ((am.map (·.2.1)).map D.str)),some (.l .f,.lst []),some (.l (.l .f),.lst (tb (fun _=>[]) S.length)),t8,t9,Hg,Gz,none,none,none] =
   .ok (.nx [some (.f,.lst (ns.map D.int)),some (.f,eN nZ ps),some (.f,.lst (am.map eA)),some (.f,.lst (S.map eM)),some (.f,Fv nZ am),some (.l .f,.lst ((am.map (·.2.1)).map D.str)),some (.l .f,.lst ((ps.map (nP nZ am N S.length)).map eP)),some (.l (.l .f),.lst (tN nZ am N S ps)),u8,u9,Hb,F1,none,none,none]):=by
 have st:∀(k:Nat) (p:Pl) (env:PV.Env),ps[k]?=some p->(∃u8 u9 Hb F1,env=[some (.f,.lst (ns.map D.int)),some (.f,eN nZ ps),some (.f,.lst (am.map eA)),some (.f,.lst (S.map eM)),some (.f,Fv nZ am),some (.l .f,.lst ((am.map (·.2.1)).map D.str)),some (.l .f,.lst (((ps.take k).map (nP nZ am N S.length)).map eP)),some (.l (.l .f),.lst (tN nZ am N S (ps.take k))),u8,u9,Hb,F1,none,none,none])->
   ∃Fd,au 8 (eP p) env=.ok Fd/\∃Fl,dP Fd=.ok (.nx Fl)/\∃u8 u9 Hb F1,Fl=[some (.f,.lst (ns.map D.int)),some (.f,eN nZ ps),some (.f,.lst (am.map eA)),some (.f,.lst (S.map eM)),some (.f,Fv nZ am),some (.l .f,.lst ((am.map (·.2.1)).map D.str)),some (.l .f,.lst (((ps.take (k+1)).map (nP nZ am N S.length)).map eP)),some (.l (.l .f),.lst (tN nZ am N S (ps.take (k+1)))),u8,u9,Hb,F1,none,none,none]:=by
  rintro k p env hk ⟨u8,u9,Hb,F1,e⟩;have o:=r.ok po hk;rw[<-ea]at o;have FH:(ps.take k).length<=ps.length:=by rw[Qy];lia
  obtain⟨v9,v10,v11,h⟩:=DY ns ps S n3 r.le c o ((ps.take k).map (nP nZ am N S.length)) (by rw[aZ];lia) (fun s=>(ps.take k).map fun p=>D.int (bB nZ am N S.length p (s:Int))) (fun s _=>by rw[aZ];lia) u9 Hb F1 none none none;have ha:au 8 (eP p) env=.ok [some (.f,.lst (ns.map D.int)),some (.f,eN nZ ps),some (.f,.lst (am.map eA)),some (.f,.lst (S.map eM)),some (.f,Fv nZ am),some (.l .f,.lst ((am.map (·.2.1)).map D.str)),some (.l .f,.lst (((ps.take k).map (nP nZ am N S.length)).map eP)),some (.l (.l .f),.lst (tN nZ am N S (ps.take k))),some (.f,eP p),u9,Hb,F1,none,none,none]:=by
   rw[e];simp only[pv,↓reduceIte,Nat.reduceAdd,Nat.reduceLT,Nat.reduceLeDiff,Nat.reduceEqDiff]
  refine⟨_,ha,_,h,some (.f,eP p),v9,v10,v11,?_⟩;have e1:(((ps.take (k+1)).map (nP nZ am N S.length)).map eP)=((ps.take k).map (nP nZ am N S.length)).map eP++[eP (nP nZ am N S.length p)]:=by
   rw[uy hk,Qi,Qi];rfl
  have e2:tN nZ am N S (ps.take (k+1))=tb (fun s=>(ps.take k).map (fun p=>D.int (bB nZ am N S.length p (s:Int)))++[D.int (bB nZ am N S.length p (s:Int))]) S.length:=by
   refine wt fun s _=>?_
   rw[uy hk,Qi];rfl
  rw[e1,e2]
 obtain⟨env',ef,hh⟩:=for_list (a:=au 8) (g:=dP) (e:=eP) ps (fun k env=>∃u8 u9 Hb F1,env=[some (.f,.lst (ns.map D.int)),some (.f,eN nZ ps),some (.f,.lst (am.map eA)),some (.f,.lst (S.map eM)),some (.f,Fv nZ am),some (.l .f,.lst ((am.map (·.2.1)).map D.str)),some (.l .f,.lst (((ps.take k).map (nP nZ am N S.length)).map eP)),some (.l (.l .f),.lst (tN nZ am N S (ps.take k))),u8,u9,Hb,F1,none,none,none]) st
  [some (.f,.lst (ns.map D.int)),some (.f,eN nZ ps),some (.f,.lst (am.map eA)),some (.f,.lst (S.map eM)),some (.f,Fv nZ am),some (.l .f,.lst ((am.map (·.2.1)).map D.str)),some (.l .f,.lst []),some (.l (.l .f),.lst (tb (fun _=>[]) S.length)),t8,t9,Hg,Gz,none,none,none] ⟨t8,t9,Hg,Gz,rfl⟩
 obtain⟨u8,u9,Hb,F1,e⟩:=hh;rw[e,RA]at ef;exact⟨u8,u9,Hb,F1,ef⟩
theorem D6(ns:List Int)(TB:D)(PN:List Pl)(n3:nZ.length<=3)(hl:PN.length<=50)(Kp:∀p∈PN,Gj p nZ.length)(po:∀p∈ps,Gj p nZ.length)(ea:am=bI dj A)(hlp:PN.length=ps.length)
  (rr:∀k p,ps[k]?=some p->(∃S',bD nZ (PN++[p])=some (S',A))/\∃S',bD nZ (PN.take k++[p]++PN.drop (k+1))=some (S',A)) (t8 t9 Hg Gz GK Ha GP:Option R):
  ∃env',gR (au 10) eV ((List.range PN.length).map fun(k:Nat)=>D.int (k:Int)) [some (.f,.lst (ns.map D.int)),some (.f,eN nZ ps),some (.f,.lst (am.map eA)),some (.f,.lst (S.map eM)),some (.f,Fv nZ am),some (.f,.lst ((am.map (·.2.1)).map D.str)),some (.f,.lst (PN.map eP)),some (.f,TB),t8,t9,Hg,Gz,GK,Ha,GP]=.ok (.nx env'):=by
 have st:∀(k:Nat) (env:PV.Env),k<PN.length->(∃u8 u9 Hb F1 Hw HL Hz,env=[some (.f,.lst (ns.map D.int)),some (.f,eN nZ ps),some (.f,.lst (am.map eA)),some (.f,.lst (S.map eM)),some (.f,Fv nZ am),some (.f,.lst ((am.map (·.2.1)).map D.str)),some (.f,.lst (PN.map eP)),some (.f,TB),u8,u9,Hb,F1,Hw,HL,Hz])->∃Fd,au 10 (D.int (k:Int)) env=.ok Fd/\∃Fl,eV Fd=.ok (.nx Fl)/\∃u8 u9 Hb F1 Hw HL Hz,Fl=[some (.f,.lst (ns.map D.int)),some (.f,eN nZ ps),some (.f,.lst (am.map eA)),some (.f,.lst (S.map eM)),some (.f,Fv nZ am),some (.f,.lst ((am.map (·.2.1)).map D.str)),some (.f,.lst (PN.map eP)),some (.f,TB),u8,u9,Hb,F1,Hw,HL,Hz]:=by
  rintro k env hk ⟨u8,u9,Hb,F1,Hw,HL,Hz,e⟩;have hp:ps[k]?=some (ps[k]'(by lia)):=fA (by lia);obtain⟨r2,r3⟩:=rr k _ hp;obtain⟨v8,v9,v11,v12,v13,v14,h⟩:=D4 ns ps S TB PN n3 hl Kp ea k _ hp (po _ (Qj hp)) r2 r3 u8 u9 F1 Hw HL Hz;have ha:au 10 (D.int (k:Int)) env=.ok [some (.f,.lst (ns.map D.int)),some (.f,eN nZ ps),some (.f,.lst (am.map eA)),some (.f,.lst (S.map eM)),some (.f,Fv nZ am),some (.f,.lst ((am.map (·.2.1)).map D.str)),some (.f,.lst (PN.map eP)),some (.f,TB),u8,u9,some (.f,.int (k:Int)),F1,Hw,HL,Hz]:=by
   rw[e];simp only[pv,seval]
  exact⟨_,ha,_,h,v8,v9,some (.f,.int (k:Int)),v11,v12,v13,v14,rfl⟩
 obtain⟨env',ef,_⟩:=jZ (a:=au 10) (g:=eV) (e:=fun(k:Nat)=>D.int (k:Int)) PN.length (fun _ env=>∃u8 u9 Hb F1 Hw HL Hz,env=[some (.f,.lst (ns.map D.int)),some (.f,eN nZ ps),some (.f,.lst (am.map eA)),some (.f,.lst (S.map eM)),some (.f,Fv nZ am),some (.f,.lst ((am.map (·.2.1)).map D.str)),some (.f,.lst (PN.map eP)),some (.f,TB),u8,u9,Hb,F1,Hw,HL,Hz]) st [some (.f,.lst (ns.map D.int)),some (.f,eN nZ ps),some (.f,.lst (am.map eA)),some (.f,.lst (S.map eM)),some (.f,Fv nZ am),some (.f,.lst ((am.map (·.2.1)).map D.str)),some (.f,.lst (PN.map eP)),some (.f,TB),t8,t9,Hg,Gz,GK,Ha,GP] ⟨t8,t9,Hg,Gz,GK,Ha,GP,rfl⟩;exact⟨env',ef⟩
theorem D7(ns:List Int)(n3:nZ.length<=3)(p9:ps.length<=12)(po:∀p∈ps,Gj p nZ.length)(e:bD nZ ps=some (S,A))(r:Rm nZ ps S A m0)(fu:Fu nZ ps S A S.length 0)(ea:am=bI dj A)(c:Ck nZ am S.length N T)(t8 t9 Hg Gz:Option R):
  lH [some (.f,.lst (ns.map D.int)),some (.f,eN nZ ps),some (.f,.lst (am.map eA)),some (.f,.lst (S.map eM)),some (.f,Fv nZ am),some (.l .f,.lst ((am.map (·.2.1)).map D.str)),some (.l .f,.lst ((ps.map (nP nZ am N S.length)).map eP)),some (.l (.l .f),.lst (tN nZ am N S ps)),t8,t9,Hg,Gz,none,none,none]=.ok (.rt (.f,.bl true)):=by
 have Kp:∀p∈ps.map (nP nZ am N S.length),Gj p nZ.length:=fun p hp=>by
  obtain⟨q,_,rfl⟩:=lS hp;exact DV q
 have Mv:(ps.map (nP nZ am N S.length)).length=ps.length:=aZ _;have HW:=zv e r fu po ea c;rw[DW r po ea c]at HW;have Mt:=ub nZ n3 (ps.map (nP nZ am N S.length)) (by lia) Kp HW;rw[<-ea]at Mt;have Pc:bX (au 0) cW (bq cu (ag (aq 0) az)) (tN nZ am N S ps) [none]=_:=wy (fun s=>ps.map fun p=>D.int (bB nZ am N S.length p (s:Int))) S.length;have hdm:(List.range S.length).map (fun(s:Nat)=>D.tup (ps.map fun p=>D.int (bB nZ am N S.length p (s:Int))))=((List.range S.length).map fun(s:Nat)=>ps.map fun p=>bB nZ am N S.length p (s:Int)).map eM:=by
  rw[Qe];refine QK fun s _=>?_
  show _=D.tup ((ps.map fun p=>bB nZ am N S.length p (s:Int)).map D.int);rw[Qe];rfl
 rw[hdm]at Pc;have NV:=D6 ns (.lst (tN nZ am N S ps)) (ps.map (nP nZ am N S.length)) n3 (by lia) Kp po ea Mv (fun k p hk=>⟨wg e r fu po ea c hk,wj e r fu po ea c hk⟩) (S:=S);have hml:(((List.range S.length).map fun(s:Nat)=>ps.map fun p=>bB nZ am N S.length p (s:Int)).map eM).length<=sizeLine:=aM (by
  have:=r.le;rw[aZ,aZ,Qr];lia)
 dsimp only at Mt;generalize ((List.range S.length).map fun(s:Nat)=>ps.map fun p=>bB nZ am N S.length p (s:Int))=MS at *;have IA:=Cr am MS;have hfm:=zH MS;generalize tN nZ am N S ps=TT at *;generalize ps.map (nP nZ am N S.length)=PN at *;have Ko:∀(x y:List D),flatDs [.lst x,.lst y]=false:=fun _ _=>rfl
 obtain⟨env',ef⟩:=NV (frz t8) (frz t9) (frz Hg) (frz Gz) (some (.f,.lst (MS.map eM))) none none;unfold lH;rw[ay (env':=[some (.f,.lst (ns.map D.int)),some (.f,eN nZ ps),some (.f,.lst (am.map eA)),some (.f,.lst (S.map eM)),some (.f,Fv nZ am),some (.l .f,.lst ((am.map (·.2.1)).map D.str)),some (.l .f,.lst (PN.map eP)),some (.l (.l .f),.lst TT),t8,t9,Hg,Gz,some (.l .f,.lst (MS.map eM)),none,none]) (by
  generalize (bq cu (ag (aq 0) az))=GG at Pc ⊢;simp only[pv,↓reduceIte,Nat.reduceAdd,Nat.reduceLT,Nat.reduceLeDiff,Nat.reduceEqDiff,op,Pc,hml,hfm])]
 rw[ay (env':=[some (.f,.lst (ns.map D.int)),some (.f,eN nZ ps),some (.f,.lst (am.map eA)),some (.f,.lst (S.map eM)),some (.f,Fv nZ am),some (.f,.lst ((am.map (·.2.1)).map D.str)),some (.f,.lst (PN.map eP)),some (.f,.lst TT),frz t8,frz t9,frz Hg,frz Gz,some (.f,.lst (MS.map eM)),none,none]) (by
  unfold eN at Mt ⊢;simp only[pv,↓reduceIte,Nat.reduceAdd,Nat.reduceLT,Nat.reduceLeDiff,Nat.reduceEqDiff,op,Mt,Ko,kg,BU,CB,IA])]
 rw[ay (env':=env') (by
  unfold sY;rw[HK];generalize gR (au 10) eV=FL at ef ⊢;simp only[pv,↓reduceIte,Nat.reduceAdd,Nat.reduceLT,Nat.reduceLeDiff,Nat.reduceEqDiff,op,aZ];rw[Qa (by lia)];simp only[pv,↓reduceIte,Nat.reduceAdd,Nat.reduceLT,Nat.reduceLeDiff,Nat.reduceEqDiff,op,QL];exact ef)]
 unfold pO;simp only[pv,↓reduceIte,Nat.reduceAdd,Nat.reduceLT,Nat.reduceLeDiff,Nat.reduceEqDiff,op]
end
theorem law_plain:∀ns:List Int,ns.length<=63->∃o,m_law [.lst (ns.map D.int)]=.ok (o,.bl true):=by
 intro ns _;obtain⟨nZ,ps,⟨S,A⟩,n,hp9,en⟩:=DP ns 2;have en:df [.lst (ns.map D.int),.int 2]=.ok (.f,eN nZ ps):=en;have n3:=n.n3;have h:=j8 (ps:=ps) n3;rw[n.e]at h;obtain⟨⟨m0,r⟩,fu,_⟩:=h;have er:=xi nZ n3 ps (by lia) n.po;rw[n.e]at er;obtain⟨N,T,c⟩:=(B8 n3 n.e).sort.ck n.nn (by lia);dsimp only at r fu er c;obtain⟨am,ea⟩:∃am,am=bI dj A:=⟨_,rfl⟩
 rw[<-ea]at c er;have HR:=c.al;have h8:=r.le;have Ko:∀(x y:List D),flatDs [.lst x,.lst y]=false:=fun _ _=>rfl
 have hus:bX (gm 3 (aB (au 0) (aB (au 1) (aB (au 2) cq)))) cW (aK 1) (am.map eA) [none,none,none]=.ok ((am.map (·.2.1)).map D.str):=by
  rw[aW (r:=fun a:Fn=>D.str a.2.1) (fun env=>∃t u v,env=[t,u,v]) am ?_ _ ⟨none,none,none,rfl⟩]
  ·rw[Qe];rfl
  ·rintro a _ env ⟨t,u,v,rfl⟩;exact⟨[some (.f,.int a.1),some (.f,.str a.2.1),some (.f,.int a.2.2)],by unfold eA;simp only[pv,↓reduceIte,Nat.reduceAdd,Nat.reduceLT,Nat.reduceLeDiff,Nat.reduceEqDiff],.f,_,rfl,_,_,_,rfl⟩
 have hul:((am.map (·.2.1)).map D.str).length<=sizeLine:=aM (by rw[aZ,aZ];lia);have huf:=PV.flat_strs (am.map (·.2.1));have Mv:=kP (S.map eM) none;rw[Cu]at Mv;have Ol:(tb (fun _=>[]) S.length).length<=sizeLine:=aM (by rw[kQ];lia);have P1:=uz S.length;obtain⟨t8,t9,Hg,Gz,ef⟩:=D5 ns n3 n.p9 n.po r ea c none none none none;have et:=D7 ns n3 n.p9 n.po n.e r fu ea c t8 t9 Hg Gz;unfold m_law Bw;rw[bo (h:=by rfl)];rw[ay (env':=[some (.f,.lst (ns.map D.int)),some (.f,eN nZ ps),none,none,none,none,none,none,none,none,none,none,none,none,none]) (by
  simp only[pv,↓reduceIte,Nat.reduceAdd,Nat.reduceLT,Nat.reduceLeDiff,Nat.reduceEqDiff,op,en];cases flatD (eN nZ ps) <;> rfl)]
 rw[ay (env':=[some (.f,.lst (ns.map D.int)),some (.f,eN nZ ps),some (.f,.lst (am.map eA)),some (.f,.lst (S.map eM)),none,none,none,none,none,none,none,none,none,none,none]) (by
  simp only[pv,↓reduceIte,Nat.reduceAdd,Nat.reduceLT,Nat.reduceLeDiff,Nat.reduceEqDiff,op,er,Ko,kg,BU,CB])]
 rw[ay (env':=[some (.f,.lst (ns.map D.int)),some (.f,eN nZ ps),some (.f,.lst (am.map eA)),some (.f,.lst (S.map eM)),some (.f,Fv nZ am),none,none,none,none,none,none,none,none,none,none]) (by
  unfold eN Fv;simp only[pv,↓reduceIte,Nat.reduceAdd,Nat.reduceLT,Nat.reduceLeDiff,Nat.reduceEqDiff,op])]
 rw[ay (env':=[some (.f,.lst (ns.map D.int)),some (.f,eN nZ ps),some (.f,.lst (am.map eA)),some (.f,.lst (S.map eM)),some (.f,Fv nZ am),some (.l .f,.lst ((am.map (·.2.1)).map D.str)),none,none,none,none,none,none,none,none,none]) (by
  simp only[pv,↓reduceIte,Nat.reduceAdd,Nat.reduceLT,Nat.reduceLeDiff,Nat.reduceEqDiff,op,hus,hul,huf])]
 rw[ay (env':=[some (.f,.lst (ns.map D.int)),some (.f,eN nZ ps),some (.f,.lst (am.map eA)),some (.f,.lst (S.map eM)),some (.f,Fv nZ am),some (.l .f,.lst ((am.map (·.2.1)).map D.str)),some (.l .f,.lst []),none,none,none,none,none,none,none,none]) (by simp only[pv,↓reduceIte,Nat.reduceAdd,Nat.reduceLT,Nat.reduceLeDiff,Nat.reduceEqDiff,op])];rw[ay (env':=[some (.f,.lst (ns.map D.int)),some (.f,eN nZ ps),some (.f,.lst (am.map eA)),some (.f,.lst (S.map eM)),some (.f,Fv nZ am),some (.l .f,.lst ((am.map (·.2.1)).map D.str)),some (.l .f,.lst []),some (.l (.l .f),.lst (tb (fun _=>[]) S.length)),none,none,none,none,none,none,none]) (by
  generalize tb (fun _=>[]) S.length=TT at Mv Ol P1 ⊢;simp only[pv,↓reduceIte,Nat.reduceAdd,Nat.reduceLT,Nat.reduceLeDiff,Nat.reduceEqDiff,op,wo,Mv,Ol,P1])]
 have go:∀q:Res Out,gR (au 8) dP (ps.map eP) [some (.f,.lst (ns.map D.int)),some (.f,eN nZ ps),some (.f,.lst (am.map eA)),some (.f,.lst (S.map eM)),some (.f,Fv nZ am),some (.l .f,.lst ((am.map (·.2.1)).map D.str)),some (.l .f,.lst []),some (.l (.l .f),.lst (tb (fun _=>[]) S.length)),none,none,none,none,none,none,none]=q->oB [some (.f,.lst (ns.map D.int)),some (.f,eN nZ ps),some (.f,.lst (am.map eA)),some (.f,.lst (S.map eM)),some (.f,Fv nZ am),some (.l .f,.lst ((am.map (·.2.1)).map D.str)),some (.l .f,.lst []),some (.l (.l .f),.lst (tb (fun _=>[]) S.length)),none,none,none,none,none,none,none]=q:=fun q hq=>by
  unfold oB;rw[HK];generalize gR (au 8) dP=FL at hq ⊢;unfold eN at hq ⊢;simp only[pv,↓reduceIte,Nat.reduceAdd,Nat.reduceLT,Nat.reduceLeDiff,Nat.reduceEqDiff,op];exact hq
 rw[ay (go _ ef),et];exact⟨.f,rfl⟩
end LW
namespace FIN
open PySem PySem.Spec PyProof.Rows L2 NX PV LW
theorem Cv{l:PySem.W.OpenLaw}{w:World}{K:W.Frag}{h:Heap}{mg:Str->Option Value}{fa f:Addr}{od an:Option Addr}{sl:Array (Option Value)}{oc kV dc pm cd ct:Value}(X:K.In h)(G:h.Ns mainGlobals mg)(hfa:mg "law" = some (.ref fa))
  (aL:PySem.W.nsIn K mainGlobals "law" = some (some (.ref f))) (lL:K.lookup f=some ⟨oc,od,.func (PySem.W.fnOf "law" "law" (fB lP) (dB lP) (defScope lP) .none kV dc pm an cd ct),sl⟩) (cL:PySem.W.codeIn K cd "law" = true) (kL:PySem.W.keepIn K (.ref f)=true)
  (Hs:Def K mg "product" jR) (Ju:Def K mg "less" tf) (GA:Def K mg "states_of" gL) (Ht:Def K mg "tree_of" jS) (Hu:Def K mg "ways_of" jT) (Hv:Def K mg "counted" jU) (GC:Def K mg "counts_of" gM) (GS:Def K mg "rings_of" iu) (GU:Def K mg "has_arcs" iw) (Gm:Def K mg "is_stretch" fQ) (GV:Def K mg "beads_of" iy) (Iu:Def K mg "taken" oG) (GW:Def K mg "place_of" iz) (F6:Def K mg "_law_cell_at" dX) (Gn:Def K mg "_law_mixed" fR) (Gp:Def K mg "_law_names" fS) (GD:Def K mg "_law_step" gO) (GX:Def K mg "_law_run" iA) (GF:Def K mg "_law_fold" gP) (Gq:Def K mg "_law_place" fT) (Gb:Def K mg "_law_scaled" eX) (Gd:Def K mg "_law_places" eY) (Gr:Def K mg "_law_moves" fU) (GY:Def K mg "_law_net" iC)
  (IL:PySem.W.nsIn K mainGlobals "all" = some none) (HI:PySem.W.nsIn K mainGlobals "any" = some none) (FZ:PySem.W.nsIn K mainGlobals "enumerate" = some none) (IS:PySem.W.nsIn K mainGlobals "int" = some none) (F4:PySem.W.nsIn K mainGlobals "len" = some none) (Gy:PySem.W.nsIn K mainGlobals "max" = some none) (HJ:PySem.W.nsIn K mainGlobals "min" = some none) (FD:PySem.W.nsIn K mainGlobals "range" = some none) (F5:PySem.W.nsIn K mainGlobals "sorted" = some none) (IJ:PySem.W.nsIn K mainGlobals "sum" = some none) (Fp:PySem.W.nsIn K mainGlobals "tuple" = some none) (Gg:PySem.W.nsIn K mainGlobals "zip" = some none):
  ∃fd:FuncData,(∀(s:Shared) (v:Value),BindsTo s fd ⟨[v],[]⟩ [("_law_script",v)])/\∀base:Heap,K.In base->base.Ns mainGlobals mg->FnOk l.prog w K mg base J4 7 fa fd ["_law_script"] (vC K):=by
 have e:=hfa.symm.trans (PySem.W.mg_of X G aL);cases e;have F:=wG (st:=lP) lL cL kL;have NW:=QY X G IL;have LD:=QY X G HI;have IU:=QY X G FZ;have NY:=QY X G IS;have IV:=QY X G F4;have Kq:=QY X G Gy;have LF:=QY X G HJ;have Hd:=QY X G FD;have IW:=QY X G F5;have NZ:=QY X G IJ;have F2:=QY X G Fp;have IX:=QY X G Gg;refine⟨PySem.W.fnOf "law" "law" (fB lP) (dB lP) (defScope lP) .none kV dc pm an cd ct,fun s v=>.of_eq rfl,fun base KB GB=>?_⟩;have Ie:Ct l.prog w K mg base "product" 1 (spF K bU):=qA Hs NZ IX;have Mz:Ct l.prog w K mg base "less" 1 (spF K jJ):=yR Ju F2 IX;have IY:Ct l.prog w K mg base "states_of" 1 (spF K c8):=nh GA Kq;have Ig:Ct l.prog w K mg base "tree_of" 1 (spF K cw):=qB Ht IV;have Ih:Ct l.prog w K mg base "ways_of" 2 (spF K b0):=qC Hu IY Ig Hd;have Ii:Ct l.prog w K mg base "counted" 1 (spF K cx):=qE Hv F2;have IZ:Ct l.prog w K mg base "counts_of" 3 (spF K cC):=nj GC Ii Ih;have Jv:Ct l.prog w K mg base "rings_of" 3 (spF K c9):=oC GS Ii Mz Ig Ih;have Jw:Ct l.prog w K mg base "has_arcs" 1 (spF K cI):=oE GU LD;have Iv:Ct l.prog w K mg base "is_stretch" 4 (spF K bM):=lJ Gm Jw Ie Jv NW LD IX;have HM:Ct l.prog w K mg base "beads_of" 5 (spF K bL):=oF GV IZ Iv Ie LF;have Lq:Ct l.prog w K mg base "taken" 1 (spF K fK):=vJ Iu Kq LF;have Jx:Ct l.prog w K mg base "place_of" 6 (spF K cJ):=oH GW HM Lq F2 IX;have GH:Ct l.prog w K mg base "_law_cell_at" 1 (spF K aJ):=jX F6 IV;have Gs:Ct l.prog w K mg base "_law_mixed" 1 (spF K aT):=lK Gn;have Iw:Ct l.prog w K mg base "_law_names" 2 (spF K cK):=lM Gp Gs Hd IW;have I0:Ct l.prog w K mg base "_law_step" 1 (spF K cD):=nq GD F2 IX;have HN:Ct l.prog w K mg base "_law_run" 2 (spF K aS):=oI GX I0 IV IW F2;have Ja:Ct l.prog w K mg base "_law_fold" 2 (spF K de):=nr GF Gs;have Iy:Ct l.prog w K mg base "_law_place" 2 (spF K cM):=lN Gq Gs Kq Hd;have HZ:Ct l.prog w K mg base "_law_scaled" 1 (spF K bQ):=kn Gb F2;have H0:Ct l.prog w K mg base "_law_places" 3 (spF K b8):=ko Gd GH Ja Iy HZ Hd;have Iz:Ct l.prog w K mg base "_law_moves" 3 (spF K cN):=lO Gr GH Iw F2;have Jy:Ct l.prog w K mg base "_law_net" 4 (spF K df):=oJ GY Iz H0 HN IV F2;exact(Bx F Jy HN HM Jx IU NY IV Hd F2).imp (Bf law_plain)
end FIN
def PySem.W.Fast.tw5287097785032191768:=0
def PySem.W.Fast.tw8270795693000543884:=0
def PySem.W.Fast.tw17763220697156999101:=0
def PySem.W.Fast.tw12970310128098086597:=0
def PySem.W.Fast.tw11802999789119735772:=0
def PySem.W.Fast.tw11697570012698231105:=0
def PySem.W.Fast.tw2859082924769402472:=0
def PySem.W.Fast.tw3670536050825287726:=0
def PySem.W.Fast.tw17743402714449185058:=0
def PySem.W.Fast.tw9806147222805434098:=0
def PySem.W.Fast.tw1892705247217137384:=0
def PySem.W.Fast.tw3691842979739131438:=0
def PySem.W.Fast.tw5454444262451703049:=0
def PySem.W.Fast.tw6253194529096699773:=0
def PySem.W.Fast.tw3974068281291743850:=0
def PySem.W.Fast.tw5024553625606700307:=0
def PySem.W.Fast.tw6576716156718361631:=0
def PySem.W.Fast.tw13363626517802200136:=0
def PySem.W.Fast.tw18416191300327230940:=0
def PySem.W.Fast.tw8263071612690476195:=0
def PySem.W.Fast.tw17277948715618324605:=0
def PySem.W.Fast.tw16757472808121467310:=0
def PySem.W.Fast.tw12278229985264213387:=0
def PySem.W.Fast.tw11790193525508991200:=0
def PySem.W.Fast.tw2979461130881271429:=0
def PySem.W.Fast.tw12036212531413477045:=0
def PySem.W.Fast.tw15217376563126076928:=0
open PySem PySem.W PyProof.Rows
set_option maxRecDepth 100000 in
set_option maxHeartbeats 0 in
theorem PySem.Challenge.cw_netfinder_k55_whole_nets_of_stretches_holds : PySem.Challenge.rw_netfinder_k55_whole_nets_of_stretches.Holds := by
  w_on; o_law; k_head; (case hw => w_witness2)
  k_fill
  refine PV.EW (l := PySem.Challenge.rw_netfinder_k55_whole_nets_of_stretches) (k := 7) (x := "_law_script") rfl rfl ⟨rfl, by decide, by decide⟩ (fun w h Y => PySem.W.kIn_of Y) ?F
  case F =>
    intro w mg fa h KX G MY
    refine' FIN.Cv KX G MY ?aL ?lL ?cL ?kL ?Hs ?Ju ?GA ?Ht ?Hu ?Hv ?GC ?GS ?GU ?Gm ?GV ?Iu ?GW ?F6 ?Gn ?Gp ?GD ?GX ?GF ?Gq ?Gb ?Gd ?Gr ?GY ?IL ?HI ?FZ ?IS ?F4 ?Gy ?HJ ?FD ?F5 ?IJ ?Fp ?Gg
    (case aL => k_is); (case lL => k_is); (case cL => k_is); (case kL => k_is)
    (case Hs => (refine' PV.bY KX G ?a ?l ?c ?k; (case a => k_is); (case l => k_is); (case c => k_is); (case k => k_is)))
    (case Ju => (refine' PV.bY KX G ?a ?l ?c ?k; (case a => k_is); (case l => k_is); (case c => k_is); (case k => k_is)))
    (case GA => (refine' PV.bY KX G ?a ?l ?c ?k; (case a => k_is); (case l => k_is); (case c => k_is); (case k => k_is)))
    (case Ht => (refine' PV.bY KX G ?a ?l ?c ?k; (case a => k_is); (case l => k_is); (case c => k_is); (case k => k_is)))
    (case Hu => (refine' PV.bY KX G ?a ?l ?c ?k; (case a => k_is); (case l => k_is); (case c => k_is); (case k => k_is)))
    (case Hv => (refine' PV.bY KX G ?a ?l ?c ?k; (case a => k_is); (case l => k_is); (case c => k_is); (case k => k_is)))
    (case GC => (refine' PV.bY KX G ?a ?l ?c ?k; (case a => k_is); (case l => k_is); (case c => k_is); (case k => k_is)))
    (case GS => (refine' PV.bY KX G ?a ?l ?c ?k; (case a => k_is); (case l => k_is); (case c => k_is); (case k => k_is)))
    (case GU => (refine' PV.bY KX G ?a ?l ?c ?k; (case a => k_is); (case l => k_is); (case c => k_is); (case k => k_is)))
    (case Gm => (refine' PV.bY KX G ?a ?l ?c ?k; (case a => k_is); (case l => k_is); (case c => k_is); (case k => k_is)))
    (case GV => (refine' PV.bY KX G ?a ?l ?c ?k; (case a => k_is); (case l => k_is); (case c => k_is); (case k => k_is)))
    (case Iu => (refine' PV.bY KX G ?a ?l ?c ?k; (case a => k_is); (case l => k_is); (case c => k_is); (case k => k_is)))
    (case GW => (refine' PV.bY KX G ?a ?l ?c ?k; (case a => k_is); (case l => k_is); (case c => k_is); (case k => k_is)))
    (case F6 => (refine' PV.bY KX G ?a ?l ?c ?k; (case a => k_is); (case l => k_is); (case c => k_is); (case k => k_is)))
    (case Gn => (refine' PV.bY KX G ?a ?l ?c ?k; (case a => k_is); (case l => k_is); (case c => k_is); (case k => k_is)))
    (case Gp => (refine' PV.bY KX G ?a ?l ?c ?k; (case a => k_is); (case l => k_is); (case c => k_is); (case k => k_is)))
    (case GD => (refine' PV.bY KX G ?a ?l ?c ?k; (case a => k_is); (case l => k_is); (case c => k_is); (case k => k_is)))
    (case GX => (refine' PV.bY KX G ?a ?l ?c ?k; (case a => k_is); (case l => k_is); (case c => k_is); (case k => k_is)))
    (case GF => (refine' PV.bY KX G ?a ?l ?c ?k; (case a => k_is); (case l => k_is); (case c => k_is); (case k => k_is)))
    (case Gq => (refine' PV.bY KX G ?a ?l ?c ?k; (case a => k_is); (case l => k_is); (case c => k_is); (case k => k_is)))
    (case Gb => (refine' PV.bY KX G ?a ?l ?c ?k; (case a => k_is); (case l => k_is); (case c => k_is); (case k => k_is)))
    (case Gd => (refine' PV.bY KX G ?a ?l ?c ?k; (case a => k_is); (case l => k_is); (case c => k_is); (case k => k_is)))
    (case Gr => (refine' PV.bY KX G ?a ?l ?c ?k; (case a => k_is); (case l => k_is); (case c => k_is); (case k => k_is)))
    (case GY => (refine' PV.bY KX G ?a ?l ?c ?k; (case a => k_is); (case l => k_is); (case c => k_is); (case k => k_is)))
    (case IL => k_is)
    (case HI => k_is)
    (case FZ => k_is)
    (case IS => k_is)
    (case F4 => k_is)
    (case Gy => k_is)
    (case HJ => k_is)
    (case FD => k_is)
    (case F5 => k_is)
    (case IJ => k_is)
    (case Fp => k_is)
    (case Gg => k_is)
