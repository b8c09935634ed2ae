import PyProof.Rows.All
import Wide.All
import OpenK.AllK
import Wide.FinOn
import Lean
import PyProof.EqAt
import PyProof.EqKinds
import PyProof.TupleCall
import PySem.Challenge.RW_netfinder_k04_charts_read_and_shown
set_option Elab.async false
set_option linter.all false
set_option maxRecDepth 100000
set_option compiler.extract_closed false
set_option bootstrap.genMatcherCode false
noncomputable section
theorem Zz{a b:Prop}(x:a)(y:b):a∧b:=⟨x,y⟩
def Oj:=@PySem.wpAny_bind
def Ol:=@List.mem_cons_self
def Om:=@List.length_map
def Oo:=@List.mem_append_right
def Oq:=@PySem.wpAny_pure
def Ot:=@List.mem_cons_of_mem
def Ou:=@Nat.le_refl
def Ov:=@List.size_toArray
def Ow:=@if_pos
def Ox:=@List.mem_append_left
def Oy:=@Bool.false_ne_true
def Oz:=@List.mem_cons
def OA:=@PySem.Heap.lt_size
def OB:=@if_neg
def OC:=@List.length_cons
def OD:=@List.append_assoc
def OE:=@decide_eq_true_eq
def OF:=@Nat.lt_of_lt_of_le
def OG:=@Bool.and_eq_true
def OH:=@decide_eq_false
def OI:=@List.map_cons
def OJ:=@List.length_range
def OK:=@List.mem_append
def OL:=@List.append_nil
def OM:=@List.all_eq_true
def ON:=@Option.map_eq_some_iff
def OO:=@Nat.ne_of_lt
def OP:=@decide_eq_true
def OQ:=@Bool.eq_iff_iff
def OR:=@Int.eq_ofNat_of_zero_le
def OS:=@Bool.not_true
def OT:=@List.map_append
def OU:=@List.map_map
def OV:=@List.nodup_append
def OW:=@List.length_append
def OX:=@Bool.false_eq_true
def OY:=@Option.some.inj
def OZ:=@PySem.PassesOwn.never
def O0:=@PySem.W.mg_none_of
def O1:=@beq_eq_false_iff_ne
def O2:=@List.mem_of_getElem?
def O3:=@List.length_take
def O4:=@beq_self_eq_true
def O5:=@List.nodup_cons
def O6:=@beq_iff_eq
def O7:=@Bool.true_and
def O8:=@Nat.lt_succ_self
def O9:=@PySem.wpAny_newObj_type
def Pa:=@decide_true
def Pb:=@List.mem_singleton
def Pc:=@Nat.le_trans
def Pd:=@Nat.zero_le
def Pe:=@List.length_singleton
def Pf:=@decide_false
def Pg:=@Bool.false_and
def Ph:=@PySem.wpAny_call_entry
def Pj:=@Bool.not_false
def Pk:=@decide_eq_false_iff_not
def Pl:=@Int.emod_lt_of_pos
def Pm:=@List.take_of_length_le
def Pn:=@List.mem_range
def Po:=@List.eq_nil_of_length_eq_zero
def Pp:=@List.lookup_cons
def Pq:=@PySem.sizeLine_eq
def Pr:=@List.length_pos_iff
def Pt:=@PySem.wpAny_truthy_bool
def Pu:=@PySem.wpAny_seqItems
def Pw:=@PySem.wpAny_field
def Px:=@List.length_drop
def Py:=@List.mem_map
def Pz:=@Array.length_toList
def PB:=@PyProof.Rows.slot_tuple_getitem
def PD:=@List.map_congr_left
def PF:=@congrArg
def PH:=@List.mem_iff_getElem?
def PJ:=@List.all_map
def PL:=@Int.emod_nonneg
def PM:=@List.pairwise_cons
def PN:=@List.getElem_mem
def PQ:=@List.not_mem_nil
def PR:=@PySem.wpAny_typeNameOfWhole_keyiter
def PU:=@PySem.F.slot_dict_keyiterator_next
def PX:=@PySem.F.plainAttrs_list
def PY:=@Option.bind_eq_some_iff
def PZ:=@List.map_nil
def P0:=@List.nodup_nil
def P1:=@Ne.symm
def P2:=@PyProof.Rows.callWith_type1
def P4:=@PySem.mem_of_lookup
def P5:=@PyProof.Rows.KeyOrd.kle_refl
def P6:=@PySem.W.kia_one
def P7:=@PySem.F.slot_tuple_iterator_next
def P8:=@PySem.F.plain_max_loop
def P9:=@List.cons_append
def Qa:=@Nat.lt_irrefl
def Qb:=@PySem.wpAny_pyIter_tuple
def Qc:=@PySem.wpAny_holding
def Qd:=@PySem.wpAny_setField_rec
def Qe:=@PySem.wpAny_passesOwn
def Qf:=@PySem.wpAny_pyIter_list
def Qg:=@List.flatten_cons
def Qh:=@PySem.F.slot_list_append
def Qi:=@PySem.F.type_list_append
def Qj:=@List.flatMap_cons
def Qk:=@List.cons.inj
def Ql:=@PySem.Heap.size_push
def Qm:=@PySem.wpAny_Call_Name_kw
def Qn:=@List.zip_cons_cons
def Qo:=@List.getElem_range
def Qp:=@Nat.le_succ
def Qq:=@List.length_set
def Qr:=@Int.toNat_natCast
def Qs:=@PySem.Calls.call_function_entry
def Qt:=@List.drop_eq_getElem_cons
def Qu:=@List.any_eq_true
def Qv:=@PySem.wpAny_letGo
def Qw:=@PySem.Heap.SameBut.update
def Qx:=@Option.isSome_iff_exists
def Qy:=@PySem.wpAny_typeOf
def Qz:=@List.set_set
def QA:=@List.foldl_cons
def QB:=@PySem.Obj.data_mapFields
def QC:=@of_decide_eq_true
def QD:=@PyProof.Rows.KeyOrd.kle_of_klt
def QF:=@List.ext_getElem?
def QH:=@PySem.wpAny_dictEntries
def QK:=@PySem.wpAny_tryCatch
def QL:=@PySem.F.args_dict_keyiterator_next_1
def QM:=@PySem.F.slot_str_join
def QN:=@PySem.F.type_str_join
def QR:=@if_true
def QU:=@List.take_length
def QV:=@PyProof.Rows.KeyOrd.kle_trans
def QX:=@PySem.F.entry_dict_keyiterator_next
def QY:=@PySem.Around.under_plainId
def QZ:=@PySem.wpAny_updateSeq_pair
def Q0:=@PySem.Paired.length
def Q1:=@PySem.F.args_tuple_iterator_next_1
def Q2:=@List.all_cons
def Q3:=@Bool.and_self
def Q4:=@List.filterMap_cons
def Q5:=@PySem.wpAny_execs_nil
def Q6:=@List.toList_toArray
def Q7:=@PySem.F.entry_tuple_iterator_next
def Q8:=@PySem.F.slot_zip_next
def Q9:=@List.length_nil
def Ra:=@Array.getD_eq_getD_getElem?
def Rb:=@List.nil_append
def Rc:=@Nat.min_eq_left
def Rf:=@PySem.Calls.Name_function_global
def Rg:=@if_false
def Rh:=@Nat.sub_self
def Ri:=@PySem.wpAny_setField
def Rj:=@PySem.F.args_tuple_add_2
def Rk:=@PySem.typeIs_str
def Rl:=@List.take_add_one
def Rm:=@bne_self_eq_false
def Rn:=@Nat.lt_succ_of_lt
def Ro:=@PySem.AutoSeq1.sub_tuple_tuple
def Rp:=@List.pairwise_map
def Rq:=@List.filterMap_cons_none
def Rr:=@List.filterMap_cons_some
def Rt:=@List.length_erase_of_mem
def Ru:=@PySem.F.entry_tuple_add
def Rv:=@PySem.plainId_quiet
def Rw:=@PySem.wpAny_onRaise
def Rx:=@PySem.wpAny_attempt
def Ry:=@List.not_lt
def Rz:=@Option.getD_none
def RA:=@PySem.F.entry_max_loop
def RB:=@List.flatten_nil
def RC:=@PySem.W.cellsFrom_some
def RD:=@PySem.F.slot_tuple_add
def RG:=@List.Perm.append_right
def RH:=@PySem.F.slot_str_index
def RJ:=@List.length_pos_of_mem
def RK:=@List.drop_eq_nil_of_le
def RL:=@Nat.le_of_lt
def RN:=@List.of_mem_zip
def RO:=@Nat.le_of_eq
def RP:=@List.forIn_cons
def RQ:=@Bool.or_eq_true
def RS:=@PySem.codeAny_builtin
def RT:=@PySem.wpAny_updateSeq
def RV:=@PySem.wpAny_dictEpoch
def RY:=@List.Perm.append_left
def RZ:=@List.perm_append_comm
def R0:=@List.any_map
def R1:=@Nat.not_lt_zero
def R3:=@List.take_append_drop
def R4:=@PySem.wpAny_mono
def R5:=@PySem.wpAny_rule
def R6:=@List.mem_of_mem_take
def R7:=@List.drop_zero
def R8:=@List.take_zero
def R9:=@Bool.and_false
def Sd:=@List.take_succ_cons
def Se:=@List.drop_succ_cons
def Sh:=@List.mem_filterMap
def Sj:=@Nat.lt_of_le_of_lt
def Sl:=@PySem.wpAny_newList
def Sm:=@of_decide_eq_false
def Sn:=@List.any_cons
def So:=@PySem.call_int_int
def Sq:=@PySem.W.mg_of
def Sr:=@List.sum_cons
def Ss:=@List.take_nil
def Su:=@List.map_drop
def SE:=@Nat.ne_of_gt
def SI:=@Bool.or_true
def S4:=@or_false
def Td:=@Int.le_refl
def TN:=@bne_iff_ne
namespace L2
open PySem PySem.Spec PyProof.Rows
def IsTupN(h:Heap)(a:Addr)(items:Array Value):Prop:=∃o,h.get? a=some o/\o.cls=.type "tuple"/\(∃n,o.data=.seq items n)/\o.dict=none
theorem IsTupN.tup{h:Heap}{a:Addr}{items:Array Value}(p:IsTupN h a items):IsTup h a items:=by
 obtain⟨o,e,c,n,_⟩:=p;exact⟨o,e,c,n⟩
theorem IsTupN.new(h:Heap)(items:Array Value):IsTupN (h.push {cls:=.type "tuple",data:=.seq items}) h.objs.size items:=⟨_,Heap.get?_push_size _ rfl,rfl,⟨_,rfl⟩,rfl⟩
abbrev Key:=Sum Int Str
def qg:Key->Value->Bool
 | .inl k,v=>Value.isInt k v
 | .inr x,v=>Value.isStrOf x v
def Dp(w:World):Key->Int
 | .inl k=>hashInt k
 | .inr x=>hashStr w x
theorem bO:∀{k:Key}{v:Value},qg k v=true->(∃i t,k=Sum.inl i/\v=Value.int i t)\/(∃x t,k=Sum.inr x/\v=Value.str x t)
 | .inl i,v,h=>by
  obtain⟨t,e⟩:=Value.isInt_shape (k:=i) (v:=v) h;exact .inl ⟨i,t,rfl,e⟩
 | .inr x,v,h=>by
  obtain⟨t,e⟩:=Value.isStrOf_shape (x:=x) (v:=v) h;exact .inr ⟨x,t,rfl,e⟩
theorem ri(i:Int)(t:Tok):qg (.inl i) (.int i t)=true:=by simp[qg,Value.isInt]
theorem rj(x:Str)(t:Tok):qg (.inr x) (.str x t)=true:=by simp[qg,Value.isStrOf]
theorem zd(a b:Int):decide ((Sum.inl a:Key)=Sum.inl b)=(a==b):=by
 by_cases e:a=b
 ·subst e;simp
 ·have h:¬ (Sum.inl a:Key)=Sum.inl b:=fun q=>e (Sum.inl.inj q)
  rw[OH h];exact(O1.mpr e).symm
theorem ze(a b:Str):decide ((Sum.inr a:Key)=Sum.inr b)=decide (a=b):=by
 by_cases e:a=b
 ·subst e;simp
 ·have h:¬ (Sum.inr a:Key)=Sum.inr b:=fun q=>e (Sum.inr.inj q)
  rw[OH h,OH e]
theorem zf(a:Int)(b:Str):decide ((Sum.inl a:Key)=Sum.inr b)=false:=OH (fun q=>nomatch q)
theorem zg(a:Str)(b:Int):decide ((Sum.inr a:Key)=Sum.inl b)=false:=OH (fun q=>nomatch q)
noncomputable def mixKind(prog:Program)(w:World):PySem.KeyKind prog w Key where
 is:=qg
 hash:=Dp w
 inj:=fun v a b ha hb=>by
  rcases bO ha with⟨i,t,rfl,rfl⟩|⟨x,t,rfl,rfl⟩
  ·rcases bO hb with⟨j,u,rfl,e⟩|⟨y,u,rfl,e⟩
   ·injection e with e1 _;rw[e1]
   ·exact nomatch e
  ·rcases bO hb with⟨j,u,rfl,e⟩|⟨y,u,rfl,e⟩
   ·exact nomatch e
   ·injection e with e1 _;rw[e1]
 byValue:=fun k v h=>by
  rcases bO h with⟨i,t,rfl,rfl⟩|⟨x,t,rfl,rfl⟩ <;> rfl
 pyHash:=fun hv h=>by
  rcases bO hv with⟨i,t,rfl,rfl⟩|⟨x,t,rfl,rfl⟩
  ·exact wpAny_pyHash_int h
  ·exact wpAny_pyHash_str h
 eqBool:=fun hu hv h=>by
  rcases bO hu with⟨i,t,rfl,rfl⟩|⟨x,t,rfl,rfl⟩
  ·rcases bO hv with⟨j,u,rfl,rfl⟩|⟨y,u,rfl,rfl⟩
   ·rw[zd]at h;exact wpAny_eqBool_int h
   ·rw[zf]at h;exact SeqAt.EqAt.int_str i t y u _ _ _ _ h
  ·rcases bO hv with⟨j,u,rfl,rfl⟩|⟨y,u,rfl,rfl⟩
   ·rw[zg]at h;exact SeqAt.EqAt.str_int x t j u _ _ _ _ h
   ·rw[ze]at h;exact wpAny_eqBool_str h
 «strs»:=fun k x t v h=>by
  rcases bO h with⟨i,u,rfl,e⟩|⟨y,u,rfl,e⟩
  ·exact nomatch e
  ·injection e with e1 _;subst e1;cases v <;> rfl
theorem nS(prog:Program)(w:World)(i:Int)(t:Tok):(mixKind prog w).is (.inl i) (.int i t)=true:=ri i t
theorem nU(prog:Program)(w:World)(x:Str)(t:Tok):(mixKind prog w).is (.inr x) (.str x t)=true:=rj x t
inductive V where
 |non|bl (b:Bool)|int (i:Int)|str (x:Str)|byt (b:Array UInt8)|flt (b:UInt64)|ref (a:Addr)|ty (n:String)
 deriving DecidableEq
noncomputable def RelV:V->Value->Prop
 | .non,u=>u=Value.none
 | .bl b,u=>u=Value.bool b
 | .int i,u=>∃t,u=Value.int i t
 | .str x,u=>∃t,u=Value.str x t
 | .byt b,u=>∃t,u=Value.bytes b t
 | .flt b,u=>∃t,u=Value.float b t
 | .ref a,u=>u=Value.ref a
 | .ty n,u=>u=Value.type n
abbrev Vals:List V->List Value->Prop:=Paired RelV
theorem Vals.length{xs:List V}{us:List Value}(r:Vals xs us):xs.length=us.length:=Q0 r
theorem Vals.get:∀{xs:List V}{us:List Value}{i:Nat}{x:V},Vals xs us->xs[i]?=some x->∃u,us[i]?=some u/\RelV x u
 |_,_,_,_,.nil,e=>by simp at e
 |_,_,0,_,.cons r _,e=>by simp at e;subst e;exact⟨_,rfl,r⟩
 |_,_,i+1,x,.cons _ t,e=>by
  obtain⟨u,h1,h2⟩:=Vals.get (i:=i) (x:=x) t (by simpa using e);exact⟨u,by simpa using h1,h2⟩
theorem Vals.append:∀{xs ys:List V}{us ws:List Value},Vals xs us->Vals ys ws->Vals (xs++ys) (us++ws)
 |_,_,_,_,.nil,s=>s
 |_,_,_,_,.cons r t,s=>.cons r (Vals.append t s)
theorem Vals.take:∀{xs:List V}{us:List Value}(n:Nat),Vals xs us->Vals (xs.take n) (us.take n)
 |_,_,0,_=>.nil
 |_,_,_+1,.nil=>.nil
 |_,_,n+1,.cons r t=>.cons r (Vals.take n t)
theorem Vals.drop:∀{xs:List V}{us:List Value}(n:Nat),Vals xs us->Vals (xs.drop n) (us.drop n)
 |_,_,0,r=>r
 |_,_,_+1,.nil=>.nil
 |_,_,n+1,.cons _ t=>Vals.drop n t
theorem Vals.none_of:∀{xs:List V}{us:List Value}{i:Nat},Vals xs us->xs[i]?=none->us[i]?=none:=fun{xs us i} r e=>by
 have h1:=r.length;have h2:xs.length<=i:=List.getElem?_eq_none_iff.mp e;exact List.getElem?_eq_none_iff.mpr (by lia)
def RelO:Option V->Option Value->Prop
 |some v,some u=>RelV v u
 |none,none=>True
 |_,_=>False
def KV{κ:Type}:List (κ×V)->List (κ×Value)->Prop:=Paired fun(p:κ×V) (q:κ×Value)=>p.1=q.1/\RelV p.2 q.2
def kV:Key->V
 | .inl i=>.int i
 | .inr x=>.str x
inductive HO where
 |lst (xs:List V)
 |tup (xs:List V)
 |dK (Ef:List (Key×V))|dT (Ef:List (List Key×V))
 |set (S:Int->Bool) (n:Nat)
 |ins (C dx:Addr) (fs:List (Str×V))
 |own (x:Addr)
 |xd (fs:List (Str×V))
 |met (f x:Addr)
 |rng (lo hi:Int)
 |frz (o:Obj) (u:HO)
 |tbl (ps:Array Value)
 |ext (φ:Heap->Prop)
abbrev Hp:=Addr->Option HO
def upd(H:Hp)(a:Addr)(o:HO):Hp:=fun b=>if b=a then some o else H b
theorem br{H:Hp}{a:Addr}{o:HO}:upd H a o a=some o:=by unfold upd;rw[Ow rfl]
theorem aF{H:Hp}{a b:Addr}{o:HO}(h:b≠a):upd H a o b=H b:=by unfold upd;rw[OB h]
theorem BN{H:Hp}{a b:Addr}{o u:HO}(h:H a=some o)(h':H b=some u)(d:o≠u):a≠b:=by
 intro e;subst e;rw[h]at h';exact d (OY h')
theorem a7{H:Hp}{a b:Addr}{o:HO}(h:H a=some o)(h':H b=none):a≠b:=by
 intro e;subst e;rw[h]at h';cases h'
section
variable(P:Program)(w:World)
noncomputable def ObjOk(H:Hp)(h:Heap)(a:Addr):HO->Prop
 | .lst xs=>xs.length<=sizeLine/\∃(Eg:List Value) (n:Nat),Vals xs Eg/\h.get? a=some {cls:=.type "list",data:=.seq Eg.toArray n}
 | .tup xs=>xs.length<=sizeLine/\∃Eg:List Value,Vals xs Eg/\IsTupN h a Eg.toArray
 | .dK Ef=>Ef.length<=sizeLine/\(a==sysModules)=false/\∃vs,KV Ef vs/\h.DictOf (mixKind P w) a vs
 | .dT Ef=>Ef.length<=sizeLine/\(a==sysModules)=false/\∃xs:List (List Key×Addr×Value),
   Paired (fun(p:List Key×V) (q:List Key×Addr×Value)=>p.1=q.1/\H q.2.1=some (.tup (p.1.map kV))/\RelV p.2 q.2.2) Ef xs/\
   ∃o es ep,h.get? a=some o/\o.ExactDict/\o.data=.dict es ep/\es.toList=xs.map (entryOfKey (tupleKind (mixKind P w)))/\(xs.map (·.1)).Nodup
 | .set S n=>h.SetOf (intKind P w) a S n
 | .ins C dx fs=>H dx=some (.own a)/\fs.length<=1000/\dx≠a/\h.get? a=some (PySem.W.instObj C dx)/\
   ∃mA,h.Ns1 dx mA/\(∀f,RelO (fs.lookup f) (mA f))/\PySem.Within mA (fs.map (·.1))
 | .own _=>∃o,h.get? a=some o
 | .xd fs=>∃mA,h.Ns1 a mA/\∀f,RelO (fs.lookup f) (mA f)
 | .rng lo hi=>∃t u v,h.get? a=some {cls:=.type "range",data:=.fields #[.int lo t,.int hi u,.int 1 v]}
 | .frz o u=>h.get? a=some o/\ObjOk H h a u
 | .tbl ps=>h.get? a=some {cls:=.none,data:=.fields ps}
 | .met f x=>h.get? a=some (PySem.W.methodObj (.ref f) (.ref x))
 | .ext φ=>φ h/\(∃o,h.get? a=some o)/\∀h1 h2:Heap,φ h1->(∀o,h1.get? a=some o->h2.get? a=some o)->φ h2
def HOk(H:Hp)(h:Heap):Prop:=∀a o,H a=some o->ObjOk P w H h a o
end
section
variable{P:Program}{w:World}{H H':Hp}{h h':Heap}{a:Addr}{o:HO}
theorem ObjOk.lt(x:ObjOk P w H h a o):a<h.objs.size:=by
 cases o with
 |lst xs=>obtain⟨_,_,_,_,e⟩:=x;exact OA e
 |tup xs=>obtain⟨_,_,_,p⟩:=x;exact p.tup.lt
 |dK Ef=>obtain⟨_,_,_,_,o,_,_,e,_⟩:=x;exact OA e
 |dT Ef=>obtain⟨_,_,_,_,o,_,_,e,_⟩:=x;exact OA e
 |set S n=>obtain⟨o,_,_,_,e,_⟩:=x;exact OA e
 |ins C dx fs=>obtain⟨_,_,_,e,_⟩:=x;exact OA e
 |own y=>obtain⟨_,e⟩:=x;exact OA e
 |xd fs=>obtain⟨_,⟨_,_,_,e,_⟩,_⟩:=x;exact OA e
 |rng lo hi=>obtain⟨_,_,_,e⟩:=x;exact OA e
 |frz ob u=>obtain⟨e,_⟩:=x;exact OA e
 |tbl ps=>exact OA (show h.get? a=some _ from x)
 |met f y=>exact OA (show h.get? a=some _ from x)
 |ext φ=>obtain⟨_,⟨_,e⟩,_⟩:=x;exact OA e
theorem Paired.mapP{α β:Type}{F G:α->β->Prop}:∀{l₁:List α}{l₂:List β},Paired F l₁ l₂->(∀a b,F a b->G a b)->Paired G l₁ l₂
 |_,_,.nil,_=>.nil
 |_,_,.cons r t,f=>.cons (f _ _ r) (Paired.mapP t f)
theorem ObjOk.stay(x:ObjOk P w H h a o)(k:∀b u,(b=a\/H b=some (.own a))->h.get? b=some u->h'.get? b=some u)
  (ho:∀b,H b=some (.own a)->H' b=some (.own a)) (ht:∀b xs,H b=some (.tup xs)->H' b=some (.tup xs)):ObjOk P w H' h' a o:=by
 induction o with
 |lst xs=>obtain⟨z,Eg,n,r,e⟩:=x;exact⟨z,Eg,n,r,k _ _ (.inl rfl) e⟩
 |tup xs=>obtain⟨z,Eg,r,ob,e,c⟩:=x;exact⟨z,Eg,r,ob,k _ _ (.inl rfl) e,c⟩
 |dK Ef=>obtain⟨z,y,vs,r,ob,es,ep,e,c⟩:=x;exact⟨z,y,vs,r,ob,es,ep,k _ _ (.inl rfl) e,c⟩
 |dT Ef=>
  obtain⟨z,y,xs,r,ob,es,ep,e,c⟩:=x;exact⟨z,y,xs,Paired.mapP r fun p q z=>⟨z.1,ht _ _ z.2.1,z.2.2⟩,ob,es,ep,k _ _ (.inl rfl) e,c⟩
 |set S n=>obtain⟨ob,es,ep,t,e,c⟩:=x;exact⟨ob,es,ep,t,k _ _ (.inl rfl) e,c⟩
 |ins C dx fs=>
  obtain⟨d,z,ne,e,mA,⟨od,es,ep,e2,c⟩,r⟩:=x;exact⟨ho _ d,z,ne,k _ _ (.inl rfl) e,mA,⟨od,es,ep,k _ _ (.inr d) e2,c⟩,r⟩
 |own y=>obtain⟨ob,e⟩:=x;exact⟨ob,k _ _ (.inl rfl) e⟩
 |xd fs=>obtain⟨mA,⟨od,es,ep,e,c⟩,r⟩:=x;exact⟨mA,⟨od,es,ep,k _ _ (.inl rfl) e,c⟩,r⟩
 |rng lo hi=>obtain⟨t,u,v,e⟩:=x;exact⟨t,u,v,k _ _ (.inl rfl) e⟩
 |frz ob u ih=>obtain⟨e,q⟩:=x;exact⟨k _ _ (.inl rfl) e,ih q⟩
 |tbl ps=>
  have e:h.get? a=some {cls:=.none,data:=.fields ps}:=x;show h'.get? a=some {cls:=.none,data:=.fields ps};exact k a _ (.inl rfl) e
 |met f y=>
  have e:h.get? a=some (PySem.W.methodObj (.ref f) (.ref y)):=x;show h'.get? a=some (PySem.W.methodObj (.ref f) (.ref y));exact k a _ (.inl rfl) e
 |ext φ=>obtain⟨p,⟨o,e⟩,st⟩:=x;exact⟨st _ _ p fun o q=>k _ _ (.inl rfl) q,⟨o,k _ _ (.inl rfl) e⟩,st⟩
theorem HOk.lt(x:HOk P w H h)(e:H a=some o):a<h.objs.size:=(x a o e).lt
theorem HOk.fresh(x:HOk P w H h)(e:h.objs.size<=a):H a=none:=by
 cases q:H a with
 |none=>rfl
 |some u=>exact absurd (OF (x.lt q) e) (Qa _)
theorem HOk.kept(x:HOk P w H h)(k:∀b u,h.get? b=some u->h'.get? b=some u):HOk P w H h':=fun a o e=>
 (x a o e).stay (fun b u _ q=>k b u q) (fun _ q=>q) fun _ _ q=>q
theorem HOk.laid(x:HOk P w H h)(k:∀b u,h.get? b=some u->h'.get? b=some u)(hp:h.objs.size<=a)(new:ObjOk P w (upd H a o) h' a o):HOk P w (upd H a o) h':=fun b u e=>by
 have hn:=x.fresh hp;by_cases hb:b=a
 ·subst hb;rw[br]at e;cases e;exact new
 ·rw[aF hb]at e;exact(x b u e).stay (fun c v _ q=>k c v q) (fun c q=>by rw[aF (a7 q hn)];exact q) fun c xs q=>by rw[aF (a7 q hn)];exact q
end
def Rd(H:Hp)(a:Addr)(u:HO):Prop:=H a=some u\/∃o,H a=some (.frz o u)
theorem Rd.ok{P:Program}{w:World}{H:Hp}{h:Heap}{a:Addr}{u:HO}(r:Rd H a u)(x:HOk P w H h):ObjOk P w H h a u:=by
 rcases r with r|⟨o,r⟩
 ·exact x a u r
 ·obtain⟨_,q⟩:=x a _ r;exact q
def LF:Option HO->Prop
 |some (.lst _)=>True
 |some (.dK _)=>True
 |some (.dT _)=>True
 |some (.set _ _)=>True
 |some (.ins _ _ _)=>True
 |some (.ext _)=>True
 |_=>False
section
variable{P:Program}{w:World}{H:Hp}{h h':Heap}{x e:Addr}{o':HO}
theorem HOk.write(ok:HOk P w H h)(mu:LF (H x))(he:e=x\/H e=some (.own x))(k:∀b u,b≠e->h.get? b=some u->h'.get? b=some u)(Ln:∃u,h'.get? e=some u)
  (new:ObjOk P w (upd H x o') h' x o'):HOk P w (upd H x o') h':=fun b u q=>by
 have IE:∀c y,H c=some (.own y)->c≠x:=fun c y r z=>by subst z;rw[r]at mu;exact mu
 have ntup:∀c xs,H c=some (.tup xs)->c≠x:=fun c xs r z=>by subst z;rw[r]at mu;exact mu
 by_cases hb:b=x
 ·subst hb;rw[br]at q;cases q;exact new
 ·rw[aF hb]at q;by_cases hbe:b=e
  ·have q':H b=some (.own x):=by
    rcases he with z|z
    ·exact absurd (hbe.trans z) hb
    ·rw[hbe];exact z
   rw[q]at q';cases q';obtain⟨v,hv⟩:=Ln;exact⟨v,by rw[hbe];exact hv⟩
  ·refine(ok b u q).stay (fun c v hc r=>k c v ?_ r) (fun c r=>by rw[aF (IE c b r)];exact r) fun c xs r=>by rw[aF (ntup c xs r)];exact r
   rcases hc with rfl|hc
   ·exact hbe
   ·rintro rfl;rcases he with z|z
    ·exact IE c b hc z
    ·rw[hc]at z;cases z;exact hb rfl
end
structure Un(fs ex:List Addr)(H H':Hp)(h h':Heap):Prop where
 keep:∀b o,h.get? b=some o->H b=none->b∉fs->b∉ex->h'.get? b=some o
 slot:∀b o,h.get? b=some o->H b=none->b∈fs->b∉ex->∃sl,h'.get? b=some {o with slots:=sl}
 free:∀b o,h.get? b=some o->H b=none->b∉ex->H' b=none
 there:∀b o,h.get? b=some o->b∉ex->∃o',h'.get? b=some o'
 tups:∀b xs,H b=some (.tup xs)->H' b=some (.tup xs)
 frzs:∀b o u,H b=some (.frz o u)->H' b=some (.frz o u)
 tbls:∀b ps,H b=some (.tbl ps)->∃more,H' b=some (.tbl (ps++more))
section
variable{fs fs' ex ex':List Addr}{H H1 H2:Hp}{h h1 h2 h':Heap}{a x e:Addr}{o:HO}
theorem Un.any(u:Un fs ex H H1 h h1){b:Addr}{ob:Obj}(q:h.get? b=some ob)(n:H b=none)(hx:b∉ex):∃sl,h1.get? b=some {ob with slots:=sl}:=by
 by_cases hb:b∈fs
 ·exact u.slot b ob q n hb hx
 ·exact⟨ob.slots,u.keep b ob q n hb hx⟩
theorem Un.kept(k:∀b u,h.get? b=some u->h'.get? b=some u):Un fs ex H H h h':=
 ⟨fun b ob q _ _ _=>k b ob q,fun b ob q _ _ _=>⟨ob.slots,k b ob q⟩,fun _ _ _ n _=>n,fun b ob q _=>⟨ob,k b ob q⟩,fun _ _ q=>q,fun _ _ _ q=>q,fun _ ps q=>⟨#[],by rw[q];simp⟩⟩
theorem Un.refl:Un fs ex H H h h:=Un.kept fun _ _ q=>q
theorem Un.laid(k:∀b u,h.get? b=some u->h'.get? b=some u)(hp:h.objs.size<=a)(hn:H a=none):Un fs ex H (upd H a o) h h' where
 keep:=fun b u q _ _ _=>k b u q
 slot:=fun b u q _ _ _=>⟨u.slots,k b u q⟩
 free:=fun b u q n _=>by rw[aF (OO (OF (OA q) hp))];exact n
 there:=fun b u q _=>⟨u,k b u q⟩
 tups:=fun b xs q=>by rw[aF (a7 q hn)];exact q
 frzs:=fun b u xs q=>by rw[aF (a7 q hn)];exact q
 tbls:=fun b ps q=>⟨#[],by rw[aF (a7 q hn),q];simp⟩
theorem Un.write(mu:LF (H x))(he:e=x\/H e=some (.own x))(k:∀b u,b≠e->h.get? b=some u->h'.get? b=some u)(Ln:∃u,h'.get? e=some u):Un fs ex H (upd H x o) h h':=by
 have hx:∀b,H b=none->b≠x:=fun b n z=>by subst z;rw[n]at mu;exact mu
 have hb:∀b,H b=none->b≠e:=fun b n z=>by
  subst z;rcases he with r|r
  ·exact hx b n r
  ·rw[n]at r;cases r
 have hm:∀b u,H b=some u->¬ LF (some u)->b≠x:=fun b u q nm z=>by subst z;rw[q]at mu;exact nm mu
 refine⟨fun b u q n _ _=>k b u (hb b n) q,fun b u q n _ _=>⟨u.slots,k b u (hb b n) q⟩,fun b u q n _=>by rw[aF (hx b n)];exact n,fun b u q _=>?_,
  fun b xs q=>by rw[aF (hm b _ q fun z=>z)];exact q,fun b u xs q=>by rw[aF (hm b _ q fun z=>z)];exact q,fun b ps q=>⟨#[],by rw[aF (hm b _ q fun z=>z),q];simp⟩⟩
 by_cases hbe:b=e
 ·subst hbe;exact Ln
 ·exact⟨u,k b u hbe q⟩
end
def trk(h:Heap)(H:Hp):List Addr:=(List.range h.objs.size).filter fun a=>(H a).isSome
def uP(h:Heap)(H:Hp):Heap:=PySem.W.hideAll h (trk h H)
theorem rk(h:Heap)(H:Hp):(uP h H).objs.size=h.objs.size:=PySem.W.hideAll_size _ _
theorem uQ{h:Heap}{H:Hp}{b:Addr}{o:Obj}(e:h.get? b=some o)(n:H b=none):(uP h H).get? b=some o:=
 PySem.W.hideAll_get _ e fun hm=>by
  have q:(H b).isSome=true:=(List.mem_filter.mp hm).2;rw[n]at q;simp at q
theorem xm{h:Heap}{H:Hp}{b:Addr}{o:Obj}(e:(uP h H).get? b=some o):h.get? b=some o/\H b=none:=by
 have e':h.get? b=some o:=PySem.W.of_hideAll (trk h H) e;refine⟨e',?_⟩;cases q:H b with
 |none=>rfl
 |some x=>
  have hm:b∈trk h H:=List.mem_filter.mpr ⟨Pn.mpr (OA e'),by simp[q]⟩;have z:(uP h H).get? b=none:=PySem.W.hideAll_none (trk h H) hm;rw[z]at e;cases e
def xn(g h:Heap)(L:Addr):List (Addr×Obj):=(List.range h.objs.size).filterMap fun a=>if a=L\/(g.get? a).isSome=true then none else(h.get? a).map fun o=>(a,o)
def c9(g h:Heap)(L d:Addr):List (Addr×Obj):=(xn g h L).filter fun p=>decide (p.1≠d)
structure Mod(K:W.Frag)(mg:Str->Option Value)(base:Heap):Prop where
 kin:K.In base
 glob:base.Ns mainGlobals mg
 blt:∃mb,base.Ns builtinsNs mb/\∀x:Str,x≠"__name__"->mb x=bootBuiltins x
 nolimit:base.NoLimit
structure Cx where
 prog:Program
 w:World
 K:W.Frag
 mg:Str->Option Value
 base:Heap
 A:Around
 N:List Str
 s₀:Shared
 H₀:Hp
 env:Env
 outer:List Env
 stack:List Env
 ex:List Addr
 fn:Str->Bool
 calm:Bool
 pn:List (Addr×Obj)
 xe:Value->Shared->Prop
def Ip(l:List Env):List Addr:=l.filterMap (·.frame)
abbrev Cx.fs(X:Cx):List Addr:=Ip X.outer
def MU(sc:Scope)(x:Str):Prop:=sc.names.lookup x=some .local\/sc.names.lookup x=some .cell\/sc.names.lookup x=some .free
def Loc(sc:Scope)(x:Str):Prop:=sc.names.lookup x=some .local\/sc.names.lookup x=some .cell
def C4(sc:Scope)(x:Str):Bool:=match sc.names.lookup x with
 |some .local=>true
 |some .cell=>true
 |_=>false
theorem lo{sc:Scope}{x:Str}(h:C4 sc x=true):Loc sc x:=by
 unfold C4 at h;split at h
 ·exact .inl (by assumption)
 ·exact .inr (by assumption)
 ·cases h

def Dq(env:Env)(h:Heap)(m:Str->Option Value)(x:Str)(u:Value):Prop:=
 (env.kindOf x=some .local/\m x=some u)\/((env.kindOf x=some .cell\/env.kindOf x=some .free)/\∃c,env.cells.lookup x=some c/\h.IsCell c (some u))
structure Cx.Ok(X:Cx):Prop where
 mod:Mod X.K X.mg X.base
 kind:X.env.scope.kind=.function
 glob:X.env.globals=mainGlobals
 blt:X.env.builtins=builtinsNs
 above:X.s₀.heap.objs.size<=X.env.locals
 inj:∀x y c,X.env.cells.lookup x=some c->X.env.cells.lookup y=some c->x=y
 has:∀x,(X.env.kindOf x=some .cell\/X.env.kindOf x=some .free)->∃c,X.env.cells.lookup x=some c
 cab:∀x c,X.fn x=true->X.env.cells.lookup x=some c->X.s₀.heap.objs.size<=c
 hd:X.calm=true->X.A.handled=none
 frames:X.A.frames=some X.stack
 stk:X.stack=X.outer\/(X.stack=X.env::X.outer/\X.env.frame=some X.env.locals)
 exf:∀b∈X.ex,b≠X.env.locals/\∀x c,X.env.cells.lookup x=some c->c≠b
 bs:∀b o,X.base.get? b=some o->X.s₀.heap.get? b=some o/\X.H₀ b=none
 bsz:X.base.objs.size<=X.s₀.heap.objs.size
 noex:∀b o,X.base.get? b=some o->b∉X.ex
 exfs:∀b∈X.ex,b∉X.fs
 funs:X.s₀.heap.FunFrames X.base X.outer
 frf:∀b∈X.fs,X.H₀ b=none
structure Inv(X:Cx)(py:List (Addr×Obj))(σ:List (Option V))(H:Hp)(s:Shared):Prop where
 ok:X.Ok
 os:s.os=X.s₀.os
 bare:AllBare s.gens
 base:Un X.fs X.ex X.H₀ H X.s₀.heap s.heap
 loc:∃m,s.heap.Ns X.env.locals m/\∀(i:Nat) (x:Str) (v:V),X.N[i]?=some x->σ[i]?=some (some v)->MU X.env.scope x->∃u,RelV v u/\Dq X.env s.heap m x u
 cell:∀x c,X.env.cells.lookup x=some c->∃v,s.heap.IsCell c v
 free:H X.env.locals=none
 freeC:∀x c,X.env.cells.lookup x=some c->H c=none
 pin:∀p∈X.pn++py,s.heap.get? p.1=some p.2/\H p.1=none/\p.1≠X.env.locals/\p.1∉X.fs/\∀v,p.2.data≠.cell v
 hok:HOk X.prog X.w H s.heap
 len:σ.length=X.N.length
section
variable{X:Cx}{py:List (Addr×Obj)}{σ:List (Option V)}{H H':Hp}{s:Shared}{h':Heap}
theorem Cx.Ok.nofr(ok:X.Ok){b:Addr}{o:Obj}(e:X.base.get? b=some o):b∉X.fs:=fun hb=>by
 have:=(ok.funs.mem hb).1;rw[e]at this;cases this
theorem Inv.bs(I:Inv X py σ H s):∀b o,X.base.get? b=some o->s.heap.get? b=some o/\H b=none:=fun b o e=>
 ⟨I.base.keep b o (I.ok.bs b o e).1 (I.ok.bs b o e).2 (I.ok.nofr e) (I.ok.noex b o e),I.base.free b o (I.ok.bs b o e).1 (I.ok.bs b o e).2 (I.ok.noex b o e)⟩
theorem Inv.bk(I:Inv X py σ H s):∀b o,X.base.get? b=some o->s.heap.get? b=some o:=fun b o e=>(I.bs b o e).1
theorem Inv.mod(I:Inv X py σ H s):Mod X.K X.mg X.base:=I.ok.mod
theorem Inv.kIn(I:Inv X py σ H s):X.K.In s.heap:=I.ok.mod.kin.keeps I.bk
theorem Inv.lt(I:Inv X py σ H s):X.env.locals<s.heap.objs.size:=let⟨_,hn,_⟩:=I.loc;hn.lt
theorem Inv.sz(I:Inv X py σ H s):X.s₀.heap.objs.size<=s.heap.objs.size:=Pc I.ok.above (RL I.lt)
theorem Inv.nofs(I:Inv X py σ H s){a:Addr}(h:s.heap.objs.size<=a):a∉X.fs:=fun hb=>by
 obtain⟨_,o,ho,_⟩:=I.ok.funs.mem hb;exact absurd (OF (OA ho) (Pc I.sz h)) (Qa _)
theorem Inv.cne(I:Inv X py σ H s):∀x c,X.env.cells.lookup x=some c->c≠X.env.locals:=fun x c e z=>by
 obtain⟨v,o,ho,hd⟩:=I.cell x c e;obtain⟨m,⟨o',es,ep,Hv,LG,_⟩,_⟩:=I.loc;rw[z,Hv]at ho;cases ho;rw[LG]at hd;cases hd
theorem Inv.funs(I:Inv X py σ H s):s.heap.FunFrames X.base X.outer:=by
 have all:∀(l:List Env),(∀b∈Ip l,b∈X.fs)->X.s₀.heap.FunFrames X.base l->s.heap.FunFrames X.base l:=by
  intro l;induction l with
  |nil=>intro _ _;trivial
  |cons env r ih=>
   intro hs hl;obtain⟨hk,⟨L,o,hf,hn,ho,hd⟩,hr⟩:=hl;have hL:L∈X.fs:=hs L (by unfold Ip;rw[Q4,hf];exact Ol);obtain⟨sl,e⟩:=I.base.slot L o ho (I.ok.frf L hL) hL fun z=>I.ok.exfs L z hL
   exact⟨hk,⟨L,_,hf,hn,e,hd⟩,ih (fun b hb=>hs b (by unfold Ip;rw[Q4,hf];exact Ot _ hb)) hr⟩
 exact all X.outer (fun _ hb=>hb) I.ok.funs
theorem Inv.stack(I:Inv X py σ H s):s.heap.FunFrames X.base X.stack:=by
 rcases I.ok.stk with e|⟨e,hf⟩
 ·rw[e];exact I.funs
 ·rw[e];obtain⟨m,hn,_⟩:=I.loc;refine .cons (by rw[I.ok.kind];decide) hf hn ?_ I.funs;exact Heap.get?_none_of_le (Pc I.ok.bsz I.ok.above)
theorem Inv.stkSub(I:Inv X py σ H s):∀b∈Ip X.stack,b∈X.env.locals::X.fs:=fun b hb=>by
 rcases I.ok.stk with e|⟨e,hf⟩
 ·rw[e]at hb;exact Ot _ hb
 ·rw[e]at hb;unfold Ip at hb;rw[Q4,hf]at hb;exact hb
theorem Inv.stkFree(I:Inv X py σ H s):∀b∈Ip X.stack,H b=none:=fun b hb=>by
 rcases Oz.mp (I.stkSub b hb) with e|hb
 ·rw[e];exact I.free
 ·obtain⟨_,o,ho,_⟩:=I.ok.funs.mem hb;exact I.base.free b o ho (I.ok.frf b hb) fun z=>I.ok.exfs b z hb
theorem Inv.step{g':Array GenState}{t':Nat}{d':Drawn}{ch:List Addr}(I:Inv X py σ H s)
  (IT:∀b∈ch,(b∈X.ex\/X.s₀.heap.objs.size<=b)/\b≠X.env.locals/\(∀x c,X.env.cells.lookup x=some c->c≠b)/\∀p∈X.pn++py,p.1≠b)
  (keep:∀b o,b≠X.env.locals->b∉X.fs->b∉ch->s.heap.get? b=some o->H b=none->h'.get? b=some o)
  (slot:∀b o,b≠X.env.locals->b∈X.fs->b∉ch->s.heap.get? b=some o->H b=none->∃sl,h'.get? b=some {o with slots:=sl}) (free:∀b o,b∉ch->s.heap.get? b=some o->H b=none->H' b=none)
  (there:∀b o,b∉ch->s.heap.get? b=some o->∃o',h'.get? b=some o')
  (tups:∀b xs,H b=some (.tup xs)->H' b=some (.tup xs)) (frzs:∀b o u,H b=some (.frz o u)->H' b=some (.frz o u)) (tbls:∀b ps,H b=some (.tbl ps)->∃more,H' b=some (.tbl (ps++more)))
  (ns:∀m,s.heap.Ns X.env.locals m->h'.Ns X.env.locals m) (hok:HOk X.prog X.w H' h') (hg:AllBare g'):
  Inv X py σ H' {s with heap:=h',gens:=g',drawn:=d',toks:=t'}:=by
 have NC:∀b o,X.s₀.heap.get? b=some o->b≠X.env.locals:=fun b o e=>OO (OF (OA e) I.ok.above)
 have MA:∀b o,X.s₀.heap.get? b=some o->b∉X.ex->b∉ch:=fun b o e hx hb=>by
  rcases(IT b hb).1 with z|z
  ·exact hx z
  ·exact absurd (OF (OA e) z) (Qa _)
 have cellK:∀x c,X.env.cells.lookup x=some c->∀v,s.heap.IsCell c v->h'.IsCell c v:=fun x c e v Eo=>by
  obtain⟨o,ho,hd⟩:=Eo;have LH:c∉ch:=fun z=>(IT c z).2.2.1 x c e rfl
  by_cases hc:c∈X.fs
  ·obtain⟨sl,q⟩:=slot c o (I.cne x c e) hc LH ho (I.freeC x c e);exact⟨_,q,hd⟩
  ·exact⟨o,keep c o (I.cne x c e) hc LH ho (I.freeC x c e),hd⟩
 refine⟨I.ok,I.os,hg,⟨fun b o e n hb hx=>?_,fun b o e n hb hx=>?_,fun b o e n hx=>?_,fun b o e hx=>?_,fun b xs e=>tups b xs (I.base.tups b xs e),fun b o xs e=>frzs b o xs (I.base.frzs b o xs e),fun b ps e=>?_⟩,?_,fun x c e=>?_,?_,fun x c e=>?_,fun p hp=>?_,hok,I.len⟩
 ·exact keep b o (NC b o e) hb (MA b o e hx) (I.base.keep b o e n hb hx) (I.base.free b o e n hx)
 ·obtain⟨sl,e1⟩:=I.base.slot b o e n hb hx;obtain⟨sl',e2⟩:=slot b _ (NC b o e) hb (MA b o e hx) e1 (I.base.free b o e n hx);exact⟨sl',e2⟩
 ·obtain⟨o',e1⟩:=I.base.there b o e hx;exact free b o' (MA b o e hx) e1 (I.base.free b o e n hx)
 ·obtain⟨o',e1⟩:=I.base.there b o e hx;exact there b o' (MA b o e hx) e1
 ·obtain⟨m1,e1⟩:=I.base.tbls b ps e;obtain⟨m2,e2⟩:=tbls b _ e1;exact⟨m1++m2,by rw[e2,Array.append_assoc]⟩
 ·obtain⟨m,hn,hl⟩:=I.loc;refine⟨m,ns m hn,fun i x v e1 e2 e3=>?_⟩;obtain⟨u,r,l⟩:=hl i x v e1 e2 e3;refine⟨u,r,?_⟩;rcases l with l|⟨k,c,e,z⟩
  ·exact .inl l
  ·exact .inr ⟨k,c,e,cellK x c e _ z⟩
 ·obtain⟨v,z⟩:=I.cell x c e;exact⟨v,cellK x c e v z⟩
 ·obtain⟨m,⟨o,_,_,ho,_⟩,_⟩:=I.loc;exact free _ o (fun z=>(IT _ z).2.1 rfl) ho I.free
 ·obtain⟨v,o,ho,hd⟩:=I.cell x c e;exact free c o (fun z=>(IT c z).2.2.1 x c e rfl) ho (I.freeC x c e)
 ·obtain⟨e,n,ne,nf,d⟩:=I.pin p hp;have LH:p.1∉ch:=fun z=>(IT p.1 z).2.2.2 p hp rfl
  exact⟨keep p.1 p.2 ne nf LH e n,free p.1 p.2 LH e n,ne,nf,d⟩
theorem Inv.un{t':Nat}(I:Inv X py σ H s)(u:Un X.fs [] H H' s.heap h')(hok:HOk X.prog X.w H' h'):Inv X py σ H' {s with heap:=h',toks:=t'}:=by
 obtain⟨m,⟨o,es,ep,ho,r⟩,_⟩:=id I.loc;obtain⟨sl,hL⟩:=u.any ho I.free (by simp);exact I.step (g':=s.gens) (d':=s.drawn) (ch:=[]) (fun _ z=>nomatch z) (fun b o _ hb _ e n=>u.keep b o e n hb (by simp)) (fun b o _ hb _ e n=>u.slot b o e n hb (by simp)) (fun b o _ e n=>u.free b o e n (by simp)) (fun b o _ e=>u.there b o e (by simp)) u.tups u.frzs u.tbls (fun m' hm=>by
  obtain⟨o',GO,MV,Hv,r'⟩:=hm;rw[ho]at Hv;cases Hv;exact⟨_,GO,MV,hL,r'⟩) hok I.bare
theorem Inv.call{g':Array GenState}{t':Nat}{d':Drawn}{ch:List Addr}(I:Inv X py σ H s)(u:Un (Ip X.stack) ch H H' s.heap h')(hok:HOk X.prog X.w H' h')(hg:AllBare g')
  (IT:∀b∈ch,(b∈X.ex\/X.s₀.heap.objs.size<=b)/\b≠X.env.locals/\(∀x c,X.env.cells.lookup x=some c->c≠b)/\∀p∈X.pn++py,p.1≠b):
  Inv X py σ H' {s with heap:=h',gens:=g',drawn:=d',toks:=t'}:=by
 obtain⟨m,⟨o,es,ep,ho,r⟩,_⟩:=id I.loc;obtain⟨sl,hL⟩:=u.any ho I.free fun z=>(IT _ z).2.1 rfl
 exact I.step (ch:=ch) IT (fun b o hL hb hc e n=>u.keep b o e n (fun z=>(Oz.mp (I.stkSub b z)).elim hL hb) hc) (fun b o _ _ hc e n=>u.any e n hc) (fun b o hc e n=>u.free b o e n hc) (fun b o hc e=>u.there b o e hc) u.tups u.frzs u.tbls (fun m' hm=>by
  obtain⟨o',GO,MV,Hv,r'⟩:=hm;rw[ho]at Hv;cases Hv;exact⟨_,GO,MV,hL,r'⟩) hok hg
theorem Inv.turned{t':Nat}{it:Addr}(I:Inv X py σ H s)(k:∀b o,b≠it->s.heap.get? b=some o->h'.get? b=some o)(hn:H it=none)(hL:it≠X.env.locals)
  (h1:it∈X.ex\/X.s₀.heap.objs.size<=it) (h2:∀x c,X.env.cells.lookup x=some c->c≠it) (h3:∀p∈X.pn++py,p.1≠it):Inv X py σ H {s with heap:=h',toks:=t'}:=by
 have ND:∀b u,H b=some u->b≠it:=fun b u e z=>by rw[z,hn]at e;cases e
 refine I.step (g':=s.gens) (d':=s.drawn) (ch:=[it]) (fun b hb=>?_) (fun b o _ _ hc e _=>k b o (fun z=>hc (by simp[z])) e) (fun b o _ _ hc e _=>⟨o.slots,k b o (fun z=>hc (by simp[z])) e⟩) (fun _ _ _ _ n=>n)
  (fun b o hc e=>⟨o,k b o (fun z=>hc (by simp[z])) e⟩) (fun _ _ e=>e) (fun _ _ _ e=>e) (fun b ps e=>⟨#[],by rw[e];simp⟩) (fun m hm=>?_) (fun b u e=>?_) I.bare
 ·have e:b=it:=by simpa using hb
  subst e;exact⟨h1,hL,h2,h3⟩
 ·obtain⟨o,es,ep,ho,r⟩:=hm;exact⟨o,es,ep,k _ o (P1 hL) ho,r⟩
 ·refine(I.hok b u e).stay (fun c v hc q=>k c v ?_ q) (fun _ q=>q) fun _ _ q=>q
  rcases hc with z|z
  ·rw[z];exact ND b u e
  ·exact ND c _ z
theorem Inv.tok(I:Inv X py σ H s)(t:Nat):Inv X py σ H {s with toks:=t}:=I.un (h':=s.heap) (t':=t) Un.refl I.hok
theorem Inv.kept{t':Nat}(I:Inv X py σ H s)(k:∀b u,s.heap.get? b=some u->h'.get? b=some u):Inv X py σ H {s with heap:=h',toks:=t'}:=I.un (Un.kept k) (I.hok.kept k)
theorem Inv.laid{a:Addr}{o:HO}{t':Nat}(I:Inv X py σ H s)(k:∀b u,s.heap.get? b=some u->h'.get? b=some u)(hp:s.heap.objs.size<=a)(new:ObjOk X.prog X.w (upd H a o) h' a o):
  Inv X py σ (upd H a o) {s with heap:=h',toks:=t'}:=I.un (Un.laid k hp (I.hok.fresh hp)) (I.hok.laid k hp new)
theorem Inv.write{x e:Addr}{o:HO}{t':Nat}(I:Inv X py σ H s)(mu:LF (H x))(he:e=x\/H e=some (.own x))(k:∀b u,b≠e->s.heap.get? b=some u->h'.get? b=some u)(Ln:∃u,h'.get? e=some u)
  (new:ObjOk X.prog X.w (upd H x o) h' x o):Inv X py σ (upd H x o) {s with heap:=h',toks:=t'}:=I.un (Un.write mu he k Ln) (I.hok.write mu he k Ln new)
theorem Inv.pins_of{Km:List (Addr×Obj)}(I:Inv X py σ H s)(h:∀p∈Km,s.heap.get? p.1=some p.2/\H p.1=none/\p.1≠X.env.locals/\p.1∉X.fs/\∀v,p.2.data≠.cell v):Inv X Km σ H s:=
 ⟨I.ok,I.os,I.bare,I.base,I.loc,I.cell,I.free,I.freeC,fun p hp=>(OK.mp hp).elim (fun z=>I.pin p (Ox _ z)) (h p),I.hok,I.len⟩
theorem oW{N:List Str}(hN:N.Nodup){i j:Nat}{x:Str}(a:N[i]?=some x)(b:N[j]?=some x):i=j:=by
 obtain⟨h1,e1⟩:=List.getElem?_eq_some_iff.mp a;obtain⟨h2,e2⟩:=List.getElem?_eq_some_iff.mp b;exact(List.getElem_inj hN).mp (e1.trans e2.symm)
theorem rl{M:Model}{A:Around}{E:Value->Shared->Prop}{i:Nat}{x:Str}{v:V}{u:Value}{Q:Unit->Shared->Prop}(I:Inv X py σ H s)(hN:X.N.Nodup)(hi:X.N[i]?=some x)(hx:Loc X.env.scope x)(r:RelV v u)
  (h:∀s',Inv X py (σ.set i (some v)) H s'->(∃a,Heap.SameBut a s.heap s'.heap/\(a=X.env.locals\/X.env.cells.lookup x=some a))->Q () s') (hf:X.fn x=true\/X.env.scope.names.lookup x=some .local:=by first|exact .inl rfl|exact .inr rfl|assumption):wpAny M A (storeName X.env x u) Q E s:=by
 obtain⟨m,hn,hl⟩:=id I.loc;have hcls:(X.env.scope.kind==.class||(X.env.scope.kind==.module&&X.env.locals != X.env.globals))=false:=by rw[I.ok.kind];rfl
 have hiσ:i<σ.length:=by rw[I.len];exact(List.getElem?_eq_some_iff.mp hi).1
 have cne:=I.cne;have tracked:∀{a:Addr}{h':Heap},(∃o,s.heap.get? a=some o/\H a=none)->Heap.SameBut a s.heap h'->HOk X.prog X.w H h':=fun{a h'} ha hs b ob e=>by
  obtain⟨_,_,Kn⟩:=ha;refine(I.hok b ob e).stay (fun c w' hc q=>(hs.2 c ?_).trans q) (fun _ q=>q) fun _ _ q=>q
  rintro rfl;rcases hc with rfl|hc
  ·rw[Kn]at e;cases e
  ·rw[Kn]at hc;cases hc
 rcases hx with hk|hk
 ·refine wpAny_storeName_local hk hn (fun h' hn' hs=>?_) hcls;obtain⟨oL,_,_,hoL,_⟩:=id hn;refine h _ ⟨I.ok,I.os,I.bare,⟨fun b o e n hb hx=>?_,fun b o e n hb hx=>?_,I.base.free,fun b o e hx=>?_,I.base.tups,I.base.frzs,I.base.tbls⟩,⟨_,hn',fun j y v' e1 e2 e3=>?_⟩,fun y c e=>?_,I.free,I.freeC,fun p hp=>?_,tracked ⟨oL,hoL,I.free⟩ hs,by simpa using I.len⟩ ⟨_,hs,.inl rfl⟩
  ·exact(hs.2 b (OO (OF (OA e) I.ok.above))).trans (I.base.keep b o e n hb hx)
  ·obtain⟨sl,e1⟩:=I.base.slot b o e n hb hx;exact⟨sl,(hs.2 b (OO (OF (OA e) I.ok.above))).trans e1⟩
  ·obtain⟨o',e1⟩:=I.base.there b o e hx;exact⟨o',(hs.2 b (OO (OF (OA e) I.ok.above))).trans e1⟩
  ·by_cases hj:j=i
   ·subst hj;rw[hi]at e1;cases e1;rw[List.getElem?_set_self hiσ]at e2;cases e2;exact⟨u,r,.inl ⟨hk,by simp⟩⟩
   ·rw[List.getElem?_set_ne (P1 hj)]at e2;obtain⟨u',r',q⟩:=hl j y v' e1 e2 e3;refine⟨u',r',?_⟩;rcases q with⟨k,e⟩|⟨k,c,e,z⟩
    ·refine .inl ⟨k,?_⟩;have:y≠x:=fun e=>hj (oW hN e1 (e▸hi))
     simp[this,e]
    ·exact .inr ⟨k,c,e,z.sameBut hs (cne y c e)⟩
  ·obtain⟨w',z⟩:=I.cell y c e;exact⟨w',z.sameBut hs (cne y c e)⟩
  ·obtain⟨e,n,ne,nf,d⟩:=I.pin p hp;exact⟨(hs.2 p.1 ne).trans e,n,ne,nf,d⟩
 ·have Kw:X.fn x=true:=by
   rcases hf with z|z
   ·exact z
   ·rw[z]at hk;cases hk
  obtain⟨c,hc⟩:=I.ok.has x (.inl hk);obtain⟨w',z⟩:=I.cell x c hc;refine wpAny_storeName_cell I.ok.kind hk hc z (fun h' GI hs=>?_);obtain⟨oc,NF,hocd⟩:=id z;refine h {s with heap:=h'} ⟨I.ok,I.os,I.bare,⟨fun b o e n hb hx=>?_,fun b o e n hb hx=>?_,I.base.free,fun b o e hx=>?_,I.base.tups,I.base.frzs,I.base.tbls⟩,⟨m,hn.sameBut hs (P1 (cne x c hc)),fun j y v' e1 e2 e3=>?_⟩,fun y c' e=>?_,I.free,I.freeC,fun p hp=>?_,tracked ⟨oc,NF,I.freeC x c hc⟩ hs,by simpa using I.len⟩ ⟨c,hs,.inr hc⟩
  ·exact(hs.2 b (OO (OF (OA e) (I.ok.cab x c Kw hc)))).trans (I.base.keep b o e n hb hx)
  ·obtain⟨sl,e1⟩:=I.base.slot b o e n hb hx;exact⟨sl,(hs.2 b (OO (OF (OA e) (I.ok.cab x c Kw hc)))).trans e1⟩
  ·obtain⟨o',e1⟩:=I.base.there b o e hx;exact⟨o',(hs.2 b (OO (OF (OA e) (I.ok.cab x c Kw hc)))).trans e1⟩
  ·by_cases hj:j=i
   ·subst hj;rw[hi]at e1;cases e1;rw[List.getElem?_set_self hiσ]at e2;cases e2;exact⟨u,r,.inr ⟨.inl hk,c,hc,GI⟩⟩
   ·rw[List.getElem?_set_ne (P1 hj)]at e2;obtain⟨u',r',q⟩:=hl j y v' e1 e2 e3;refine⟨u',r',?_⟩;rcases q with q|⟨k,c',e,z'⟩
    ·exact .inl q
    ·refine .inr ⟨k,c',e,z'.sameBut hs ?_⟩;rintro rfl;exact hj (oW hN e1 (I.ok.inj _ _ _ e hc▸hi))
  ·by_cases hcc:c'=c
   ·subst hcc;exact⟨_,GI⟩
   ·obtain⟨w2,z2⟩:=I.cell y c' e;exact⟨w2,z2.sameBut hs hcc⟩
  ·obtain⟨e,n,ne,nf,d⟩:=I.pin p hp;refine⟨(hs.2 p.1 ?_).trans e,n,ne,nf,d⟩;intro q;rw[q,NF]at e;have q':oc=p.2:=OY e;exact d w' (by rw[<-q'];exact hocd)
theorem oX{M:Model}{A:Around}{E:Value->Shared->Prop}{i:Nat}{x:Str}{v:V}{u:Value}{Q:Unit->Shared->Prop}(I:Inv X py σ H s)(hN:X.N.Nodup)(hi:X.N[i]?=some x)(hx:Loc X.env.scope x)(r:RelV v u)
  (h:∀s',Inv X py (σ.set i (some v)) H s'->Q () s') (hf:X.fn x=true\/X.env.scope.names.lookup x=some .local:=by first|exact .inl rfl|exact .inr rfl|assumption):wpAny M A (storeName X.env x u) Q E s:=
 rl I hN hi hx r (fun s' I' _=>h s' I') hf
theorem Inv.call'{s':Shared}{ch:List Addr}(I:Inv X py σ H s)(ho:s'.os=s.os)(u:Un (Ip X.stack) ch H H' s.heap s'.heap)(hok:HOk X.prog X.w H' s'.heap)(hg:AllBare s'.gens)
  (IT:∀b∈ch,(b∈X.ex\/X.s₀.heap.objs.size<=b)/\b≠X.env.locals/\(∀x c,X.env.cells.lookup x=some c->c≠b)/\∀p∈X.pn++py,p.1≠b):Inv X py σ H' s':=by
 obtain⟨h',g',d',t',o'⟩:=s';have e:o'=s.os:=ho;subst e;exact I.call (g':=g') (t':=t') (d':=d') u hok hg IT
end
abbrev XK:=Value->Option Addr->Hp->Prop
abbrev St:=List (Option V)
abbrev VK:=V->Hp->Prop
abbrev TE:=St->Hp->VK->Prop
abbrev TT:=St->Hp->(Bool->Hp->Prop)->Prop
abbrev TA:=St->Hp->(List V->Hp->Prop)->Prop
structure Ends where
 nx:St->Hp->Prop
 rt:VK
 bk:St->Hp->Prop:=fun _ _=>False
 ct:St->Hp->Prop:=fun _ _=>False
abbrev TS:=Ends->St->Hp->Prop
def EP(X:Cx)(py:List (Addr×Obj))(σ:St)(Q:VK)(u:Value)(s':Shared):Prop:=∃v H',Inv X py σ H' s'/\RelV v u/\Q v H'
def TP(X:Cx)(py:List (Addr×Obj))(σ:St)(Q:Bool->Hp->Prop)(b:Bool)(s':Shared):Prop:=∃H',Inv X py σ H' s'/\Q b H'
def AP(X:Cx)(py:List (Addr×Obj))(σ:St)(Q:List V->Hp->Prop)(us:List Value)(s':Shared):Prop:=∃vs H',Inv X py σ H' s'/\Vals vs us/\Q vs H'
def SP(X:Cx)(py:List (Addr×Obj))(D:Ends)(f:Flow)(s':Shared):Prop:=
 match f with
 | .next=>∃σ' H',Inv X py σ' H' s'/\D.nx σ' H'
 | .brk=>∃σ' H',Inv X py σ' H' s'/\D.bk σ' H'
 | .cont=>∃σ' H',Inv X py σ' H' s'/\D.ct σ' H'
 | .ret u=>∃v σ' H',Inv X py σ' H' s'/\RelV v u/\D.rt v H'
def PE(X:Cx)(e:Expr)(t:TE):Prop:=
 ∀(py:List (Addr×Obj)) (s:Shared) (σ:St) (H:Hp) (Q:VK),Inv X py σ H s->t σ H Q->wpAny (model X.prog X.w) X.A (eval e X.env) (EP X py σ Q) X.xe s
def PT(X:Cx)(e:Expr)(t:TT):Prop:=
 ∀(py:List (Addr×Obj)) (s:Shared) (σ:St) (H:Hp) (Q:Bool->Hp->Prop),Inv X py σ H s->t σ H Q->wpAny (model X.prog X.w) X.A (isTrue e X.env (eval e X.env)) (TP X py σ Q) X.xe s
def PW(X:Cx)(e:Expr)(t:TT):Prop:=
 ∀(whole:Sem Value) (py:List (Addr×Obj)) (s:Shared) (σ:St) (H:Hp) (Q:Bool->Hp->Prop),Inv X py σ H s->t σ H Q->wpAny (model X.prog X.w) X.A (isTrue e X.env whole) (TP X py σ Q) X.xe s
theorem PW.pt{X:Cx}{e:Expr}{t:TT}(h:PW X e t):PT X e t:=h _
def PA(X:Cx)(es:List Expr)(t:TA):Prop:=
 ∀(pos:Pos) (py:List (Addr×Obj)) (s:Shared) (σ:St) (H:Hp) (Q:List V->Hp->Prop),Inv X py σ H s->t σ H Q->wpAny (model X.prog X.w) X.A (spliced (backTo pos (starEach es X.env))) (AP X py σ Q) X.xe s
def PS(X:Cx)(st:Stmt)(t:TS):Prop:=
 ∀(py:List (Addr×Obj)) (s:Shared) (σ:St) (H:Hp) (D:Ends),Inv X py σ H s->t D σ H->wpAny (model X.prog X.w) X.A (exec st X.env) (SP X py D) X.xe s
def PSs(X:Cx)(st:List Stmt)(t:TS):Prop:=
 ∀(py:List (Addr×Obj)) (s:Shared) (σ:St) (H:Hp) (D:Ends),Inv X py σ H s->t D σ H->wpAny (model X.prog X.w) X.A (execs st X.env) (SP X py D) X.xe s
theorem Ez{α:Type}{t:Sem α}{Q Q':α->Shared->Prop}{M:Model}{A:Around}{E:Value->Shared->Prop}{s:Shared}(h:wpAny M A t Q E s)(hQ:∀a s,Q a s->Q' a s):wpAny M A t Q' E s:=R4 h hQ fun _ _ x=>x
section
variable{X:Cx}
theorem bin{a b:Expr}{ta tb:TE}(ha:PE X a ta)(hb:PE X b tb){py:List (Addr×Obj)}{s:Shared}{σ:St}{H:Hp}{R:V->V->Hp->Prop}(I:Inv X py σ H s)(h:ta σ H fun x H1=>tb σ H1 fun y H2=>R x y H2)
  {α:Type}{Q:α->Shared->Prop}{f:Value->Value->Sem α}
  (hf:∀v u s2 x y H2,Inv X py σ H2 s2->RelV x v->RelV y u->R x y H2->wpAny (model X.prog X.w) X.A (f v u) Q X.xe s2):
  wpAny (model X.prog X.w) X.A (eval a X.env) (fun v s₁=>wpAny (model X.prog X.w) X.A (eval b X.env) (fun u s₂=>wpAny (model X.prog X.w) X.A (f v u) Q X.xe s₂) X.xe s₁) X.xe s:=by
 refine Ez (ha py s σ H _ I h) fun v s1 Ex=>?_
 obtain⟨x,H1,I1,r1,q1⟩:=Ex;refine Ez (hb py s1 σ H1 _ I1 q1) fun u s2 Ex=>?_
 obtain⟨y,H2,I2,r2,q2⟩:=Ex;exact hf v u s2 x y H2 I2 r1 r2 q2
def qh(i:Nat):TE:=fun σ H Q=>∃v,σ[i]?=some (some v)/\Q v H
def tC(v:V):TE:=fun _ H Q=>Q v H
theorem zh{i:Nat}{x:Str}{pos:Pos}(hN:X.N[i]?=some x)(hv:MU X.env.scope x)(hd:(x==("__debug__" : Str))=false:=by decide)(IY:(x==("__classdict__" : Str))=false:=by decide):PE X (.Name x pos) (qh i):=by
 intro py s σ H Q I h;obtain⟨v,e,h⟩:=h;obtain⟨m,hn,hl⟩:=I.loc;obtain⟨u,r,l⟩:=hl i x v hN e hv;have fin:EP X py σ Q u s:=⟨v,H,I,r,h⟩
 rcases l with⟨hk,hm⟩|⟨hk,c,hc,Fb⟩
 ·exact wpAny_Name (wpAny_loadName_local I.ok.kind hk hn hm fin) hd
 ·rcases hk with hk|hk
  ·exact wpAny_Name (wpAny_loadName_cell I.ok.kind hk hc Fb fin) hd
  ·exact wpAny_Name (wpAny_loadName_free I.ok.kind hk hc Fb fin IY) hd
theorem rm{i j pos}:PE X (.Constant (.int i) j pos) (tC (.int i)):=fun _ _ _ H _ I h=>wpAny_Constant_int ⟨.int i,H,I.tok _,⟨_,rfl⟩,h⟩
theorem BO{b j pos}:PE X (.Constant (.bool b) j pos) (tC (.bl b)):=fun _ _ _ H _ I h=>Constant_bool ⟨.bl b,H,I,rfl,h⟩
theorem zi{x j pos}:PE X (.Constant (.str x) j pos) (tC (.str x)):=fun _ _ _ H _ I h=>Calls.Constant_str ⟨.str x,H,I.tok _,⟨_,rfl⟩,h⟩
def Gl(X:Cx)(x:Str):Prop:=X.env.kindOf x=some .globalImplicit
theorem rp{E:Value->Shared->Prop}{py:List (Addr×Obj)}{s:Shared}{σ:St}{H:Hp}{x:Str}{u:Value}{pos:Pos}{Q:Value->Shared->Prop}(I:Inv X py σ H s)(hg:Gl X x)(hm:X.mg x=some u)(h:Q u s)
  (hd:(x==("__debug__" : Str))=false:=by decide):wpAny (model X.prog X.w) X.A (eval (.Name x pos) X.env) Q E s:=
 Rf I.ok.kind hg (Calls.loadGlobal_global (by rw[I.ok.glob];exact I.mod.glob.keeps I.bk) hm h) hd
theorem jt{E:Value->Shared->Prop}{py:List (Addr×Obj)}{s:Shared}{σ:St}{H:Hp}{x:Str}{u:Value}{pos:Pos}{Q:Value->Shared->Prop}(I:Inv X py σ H s)(hg:Gl X x)(hm:X.mg x=none)(hv:bootBuiltins x=some u)(h:Q u s)
  (hn:x≠"__name__":=by decide) (hd:(x==("__debug__" : Str))=false:=by decide):wpAny (model X.prog X.w) X.A (eval (.Name x pos) X.env) Q E s:=by
 obtain⟨mb,h1,h2⟩:=I.mod.blt;exact Rf I.ok.kind hg (Calls.loadGlobal_builtin (by rw[I.ok.glob];exact I.mod.glob.keeps I.bk) hm (by rw[I.ok.blt];exact h1.keeps I.bk) ((h2 x hn).trans hv) h) hd
theorem xo{x:Str}{v:V}{u:Value}{pos:Pos}(hg:Gl X x)(hm:X.mg x=some u)(r:RelV v u)(hd:(x==("__debug__" : Str))=false:=by decide):PE X (.Name x pos) (tC v):=
 fun _ _ _ H _ I h=>rp I hg hm ⟨v,H,I,r,h⟩ hd
theorem xp{x:Str}{v:V}{u:Value}{pos:Pos}(hg:Gl X x)(hm:X.mg x=none)(hv:bootBuiltins x=some u)(r:RelV v u)(hn:x≠"__name__":=by decide)(hd:(x==("__debug__" : Str))=false:=by decide):PE X (.Name x pos) (tC v):=
 fun _ _ _ H _ I h=>jt I hg hm hv ⟨v,H,I,r,h⟩ hn hd
variable{a b:Expr}{ta tb:TE}{pos:Pos}
def PC(X:Cx)(op:CmpOp)(a b:Expr)(t:TE):Prop:=
 ∀(py:List (Addr×Obj)) (s:Shared) (σ:St) (H:Hp) (Q:VK),Inv X py σ H s->t σ H Q->
  wpAny (model X.prog X.w) X.A (eval a X.env) (fun v s₁=>wpAny (model X.prog X.w) X.A (eval b X.env) (fun u s₂=>wpAny (model X.prog X.w) X.A (compareOp op v u) (EP X py σ Q) X.xe s₂) X.xe s₁) X.xe s
theorem uR(b:Expr){op:CmpOp}(h:op≠.In)(h2:op≠.NotIn):behindInMarks op b=false:=by
 have e1:(op==CmpOp.In)=false:=by cases op <;> first|rfl|exact absurd rfl h
 have e2:(op==CmpOp.NotIn)=false:=by cases op <;> first|rfl|exact absurd rfl h2
 cases b <;> simp[behindInMarks,e1,e2]
def tB(t:TE):TT:=fun σ H Q=>t σ H fun x H1=>∃c,x=.bl c/\Q c H1
theorem C5{op:CmpOp}{t:TE}(h:PC X op a b t)(h1:behindInMarks op b=false:=by first|exact uR _ (by decide) (by decide)|rfl):PT X (.Compare a [op] [b] pos) (tB t):=by
 intro py s σ H Q I hw;refine wpAny_isTrue_Compare1 (Ez (h py s σ H _ I hw) fun v s1 h1=>Ez h1 fun u s2 h2=>Ez h2 fun c s3 ⟨x,H1,I1,r1,q1⟩=>?_) h1;obtain⟨d,rfl,q⟩:=q1;cases r1;exact Pt ⟨H1,I1,q⟩
theorem zj{e:Expr}{t:TE}(h:PE X e t)(he:∀whole,isTrue e X.env whole=(do let v <-whole;standAt e.pos;holding [v] (truthy v)):=by intro _;rfl):PT X e (tB t):=by
 intro py s σ H Q I hw;refine isTrue_plain (Ez (h py s σ H _ I hw) fun v s1 ⟨x,H1,I1,r1,q1⟩=>?_) (he _);obtain⟨d,rfl,q⟩:=q1;cases r1;exact Pt ⟨H1,I1,q⟩
variable{tA MB:TT}{c9:List Expr}
def Dr(t u:TT):TT:=fun σ H Q=>t σ H fun c H1=>if c=true then u σ H1 Q else Q false H1
def tOr(t u:TT):TT:=fun σ H Q=>t σ H fun c H1=>if c=true then Q true H1 else u σ H1 Q
def Ds(t:TT):TT:=fun σ H Q=>t σ H fun c H1=>Q (!c) H1
theorem xq(ha:PT X a tA):PW X (.BoolOp .And [a] pos) tA:=by
 intro wh py s σ H Q I h;refine isTrue_and (Ez (ha py s σ H Q I h) fun c s1 e=>?_);cases c with
 |true=>exact isTrue_and_nil e
 |false=>exact e
theorem zk(ha:PT X a tA):PW X (.BoolOp .Or [a] pos) tA:=by
 intro wh py s σ H Q I h;refine isTrue_or (Ez (ha py s σ H Q I h) fun c s1 e=>?_);cases c with
 |false=>exact isTrue_or_nil e
 |true=>exact e
theorem zl(ha:PT X a tA)(hb:PW X (.BoolOp .And (b::c9) pos) MB):PW X (.BoolOp .And (a::b::c9) pos) (Dr tA MB):=by
 intro wh py s σ H Q I h;refine isTrue_and (Ez (ha py s σ H _ I h) fun c s1 Ex=>?_);obtain⟨H1,I1,q1⟩:=Ex;cases c with
 |true=>exact hb wh py s1 σ H1 Q I1 q1
 |false=>exact⟨H1,I1,q1⟩
theorem BP(ha:PT X a tA)(hb:PW X (.BoolOp .Or (b::c9) pos) MB):PW X (.BoolOp .Or (a::b::c9) pos) (tOr tA MB):=by
 intro wh py s σ H Q I h;refine isTrue_or (Ez (ha py s σ H _ I h) fun c s1 Ex=>?_);obtain⟨H1,I1,q1⟩:=Ex;cases c with
 |true=>exact⟨H1,I1,q1⟩
 |false=>exact hb wh py s1 σ H1 Q I1 q1
theorem zm(ha:PT X a tA):PT X (.UnaryOp .Not a pos) (Ds tA):=by
 intro py s σ H Q I h;exact isTrue_not (ha py s σ H (fun c H1=>Q (!c) H1) I h)
def BQ(ta tb:TE):TE:=fun σ H Q=>ta σ H fun x H1=>∃c,x=.bl c/\if c=true then tb σ H1 Q else Q (.bl false) H1
theorem zo{op}{t:TE}(h:PE X a t):PE X (.BoolOp op [a] pos) t:=fun py s σ H Q I hw=>BoolOp_one (h py s σ H Q I hw)
theorem zp(ha:PE X a ta)(hb:PE X (.BoolOp .And (b::c9) pos) tb):PE X (.BoolOp .And (a::b::c9) pos) (BQ ta tb):=by
 intro py s σ H Q I h;refine BoolOp_and (Ez (ha py s σ H _ I h) fun v s1 Ex=>?_);obtain⟨x,H1,I1,r1,q1⟩:=Ex;obtain⟨c,rfl,q1⟩:=q1;cases r1;refine Pt ?_;cases c with
 |true=>exact hb py s1 σ H1 Q I1 q1
 |false=>exact⟨.bl false,H1,I1,rfl,q1⟩
end
def SqL(K:W.Frag)(H:Hp)(a:Addr)(xs:List V):Prop:=
 Rd H a (.lst xs)\/
  ∃(o:Obj) (Eg:Array Value) (n:Nat),K.lookup a=some o/\o.cls=.type "list"/\o.dict=none/\o.data=.seq Eg n/\Eg.size<=sizeLine/\Vals xs Eg.toList
def SqT(K:W.Frag)(H:Hp)(a:Addr)(xs:List V):Prop:=
 Rd H a (.tup xs)\/
  ∃(o:Obj) (Eg:Array Value) (n:Nat),K.lookup a=some o/\o.cls=.type "tuple"/\o.dict=none/\o.data=.seq Eg n/\Eg.size<=sizeLine/\Vals xs Eg.toList
def Dt:Value->Option V
 | .none=>some .non
 | .bool b=>some (.bl b)
 | .int i _=>some (.int i)
 | .str x _=>some (.str x)
 | .bytes b _=>some (.byt b)
 | .float b _=>some (.flt b)
 | .ref a=>some (.ref a)
 | .type n=>some (.ty n)
 |_=>none
theorem RelV.abs{x:V}{u:Value}(r:RelV x u):Dt u=some x:=by
 cases x with
 |non=>cases r;rfl
 |bl _=>cases r;rfl
 |int _=>obtain⟨t,rfl⟩:=r;rfl
 |str _=>obtain⟨t,rfl⟩:=r;rfl
 |byt _=>obtain⟨t,rfl⟩:=r;rfl
 |flt _=>obtain⟨t,rfl⟩:=r;rfl
 |ref _=>cases r;rfl
 |ty _=>cases r;rfl
theorem RelV.inj{x y:V}{u:Value}(r:RelV x u)(q:RelV y u):x=y:=OY (r.abs.symm.trans q.abs)
theorem Vals.inj:∀{xs ys:List V}{us:List Value},Vals xs us->Vals ys us->xs=ys
 |_,_,_,.nil,.nil=>rfl
 |_,_,_,.cons r t,.cons r' t'=>by rw[r.inj r',Vals.inj t t']
section
variable{X:Cx}{py:List (Addr×Obj)}{σ:St}{H:Hp}{s:Shared}{a:Addr}{xs ys:List V}
theorem SqL.of{K:W.Frag}(h:H a=some (.lst xs)):SqL K H a xs:=.inl (.inl h)
theorem SqT.of{K:W.Frag}(h:H a=some (.tup xs)):SqT K H a xs:=.inl (.inl h)
theorem Inv.list(I:Inv X py σ H s)(h:SqL X.K H a xs):∃Eg:List Value,Vals xs Eg/\PlainL s.heap a Eg.toArray/\xs.length<=sizeLine:=by
 rcases h with h|⟨o,Eg,n,hk,hc,hd,hs,hz,r⟩
 ·obtain⟨z,Eg,n,r,e⟩:=h.ok I.hok;exact⟨Eg,r,⟨_,n,e,rfl,rfl,rfl⟩,z⟩
 ·refine⟨Eg.toList,r,⟨o,n,I.kIn a o hk,hc,hd,by simpa using hs⟩,?_⟩;have e:=r.length;simp only[Pz]at e;lia
theorem Inv.tupleN(I:Inv X py σ H s)(h:SqT X.K H a xs):∃Eg:List Value,Vals xs Eg/\IsTupN s.heap a Eg.toArray/\xs.length<=sizeLine:=by
 rcases h with h|⟨o,Eg,n,hk,hc,hdn,hs,hz,r⟩
 ·obtain⟨z,Eg,r,p⟩:=h.ok I.hok;exact⟨Eg,r,p,z⟩
 ·refine⟨Eg.toList,r,⟨o,I.kIn a o hk,hc,⟨n,by simpa using hs⟩,hdn⟩,?_⟩;have e:=r.length;simp only[Pz]at e;lia
theorem Inv.tuple(I:Inv X py σ H s)(h:SqT X.K H a xs):∃Eg:List Value,Vals xs Eg/\IsTup s.heap a Eg.toArray/\xs.length<=sizeLine:=by
 obtain⟨Eg,r,p,z⟩:=I.tupleN h;exact⟨Eg,r,p.tup,z⟩
theorem Inv.list_inj(I:Inv X py σ H s)(h:SqL X.K H a xs)(h':SqL X.K H a ys):xs=ys:=by
 obtain⟨Eg,r,⟨o,n,e,_,_,d⟩,_⟩:=I.list h;obtain⟨its',r',⟨o',n',e',_,_,d'⟩,_⟩:=I.list h';rw[e]at e';cases e';rw[d]at d';injection d' with d1 _;have:Eg=its':=by simpa using PF Array.toList d1
 subst this;exact r.inj r'
theorem Inv.tuple_inj(I:Inv X py σ H s)(h:SqT X.K H a xs)(h':SqT X.K H a ys):xs=ys:=by
 obtain⟨Eg,r,⟨o,e,_,n,d⟩,_⟩:=I.tuple h;obtain⟨its',r',⟨o',e',_,n',d'⟩,_⟩:=I.tuple h';rw[e]at e';cases e';rw[d]at d';injection d' with d1 _;have:Eg=its':=by simpa using PF Array.toList d1
 subst this;exact r.inj r'
end
abbrev Cx.wish(X:Cx)(E:Value->Shared->Prop):Cx:={X with xe:=E}
abbrev Cx.nox(X:Cx):Cx:=X.wish fun _ _=>False
theorem Cx.Ok.wish{X:Cx}(ok:X.Ok)(E:Value->Shared->Prop):(X.wish E).Ok:=
 ⟨ok.mod,ok.kind,ok.glob,ok.blt,ok.above,ok.inj,ok.has,ok.cab,ok.hd,ok.frames,ok.stk,ok.exf,ok.bs,ok.bsz,ok.noex,ok.exfs,ok.funs,ok.frf⟩
theorem Cx.Ok.unwish{X:Cx}{E:Value->Shared->Prop}(ok:(X.wish E).Ok):X.Ok:=
 ⟨ok.mod,ok.kind,ok.glob,ok.blt,ok.above,ok.inj,ok.has,ok.cab,ok.hd,ok.frames,ok.stk,ok.exf,ok.bs,ok.bsz,ok.noex,ok.exfs,ok.funs,ok.frf⟩
section
variable{X:Cx}{py:List (Addr×Obj)}{σ:St}{H:Hp}{s:Shared}{E:Value->Shared->Prop}
theorem Inv.wish(I:Inv X py σ H s)(E:Value->Shared->Prop):Inv (X.wish E) py σ H s:=⟨I.ok.wish E,I.os,I.bare,I.base,I.loc,I.cell,I.free,I.freeC,I.pin,I.hok,I.len⟩
theorem Inv.unwish(I:Inv (X.wish E) py σ H s):Inv X py σ H s:=⟨I.ok.unwish,I.os,I.bare,I.base,I.loc,I.cell,I.free,I.freeC,I.pin,I.hok,I.len⟩
theorem SP.unwish{D:Ends}{f:Flow}{s':Shared}(h:SP (X.wish E) py D f s'):SP X py D f s':=by
 cases f with
 |next=>obtain⟨σ',H',I,q⟩:=h;exact⟨σ',H',I.unwish,q⟩
 |brk=>obtain⟨σ',H',I,q⟩:=h;exact⟨σ',H',I.unwish,q⟩
 |cont=>obtain⟨σ',H',I,q⟩:=h;exact⟨σ',H',I.unwish,q⟩
 |ret u=>obtain⟨v,σ',H',I,r,q⟩:=h;exact⟨v,σ',H',I.unwish,r,q⟩
theorem PSs.nox{st:List Stmt}{t:TS}(h:PSs X.nox st t):PSs X st t:=fun py s σ H D I hw=>
 R4 (h py s σ H D (I.wish _) hw) (fun _ _ q=>q.unwish) fun _ _ z=>False.elim z
end
section
variable{X:Cx}{st:Stmt}{c9:List Stmt}{t u:TS}{e:Expr}{te:TE}{pos:Pos}
def BR:TS:=fun D σ H=>D.nx σ H
def Du(t u:TS):TS:=fun D σ H=>t {D with nx:=u D} σ H
theorem xr:PSs X [] BR:=fun _ _ σ H _ I h=>Q5 ⟨σ,H,I,h⟩
theorem uS(h1:PS X st t)(h2:PSs X c9 u):PSs X (st::c9) (Du t u):=by
 intro py s σ H D I h;refine wpAny_execs_cons (Ez (h1 py s σ H {D with nx:=u D} I h) fun f s1 q=>?_);cases f with
 |next=>
  obtain⟨σ',H',I',q⟩:=q;exact h2 py s1 σ' H' D I' q
 |ret v=>exact q
 |brk=>exact q
 |cont=>exact q
theorem xt(h1:PS X st t):PSs X [st] t:=by
 intro py s σ H D I h;refine wpAny_execs_cons (Ez (h1 py s σ H D I h) fun f s1 q=>?_);cases f with
 |next=>exact Q5 q
 |ret v=>exact q
 |brk=>exact q
 |cont=>exact q
theorem Inv.quiet{py:List (Addr×Obj)}{σ:St}{H:Hp}{s:Shared}(I:Inv X py σ H s):interactive X.env=false:=by simp[interactive,I.ok.kind]
def BS(te:TE):TS:=fun D σ H=>te σ H fun _ H1=>D.nx σ H1
theorem xu(he:PE X e te)(hs:swapsWith e none pos.line X.env=pure false:=by rfl):PS X (.Expr e pos) (BS te):=by
 intro py s σ H D I h;exact wpAny_Expr_any (Ez (he py s σ H _ I h) fun v s1 ⟨x,H1,I1,r1,q1⟩=>⟨σ,H1,I1,q1⟩) I.quiet hs
def Dv(te:TE):TS:=fun D σ H=>te σ H D.rt
theorem zq(he:PE X e te):PS X (.Return (some e) pos) (Dv te):=by
 intro py s σ H D I h;exact wpAny_Return_some (Ez (he py s σ H _ I h) fun v s1 ⟨x,H1,I1,r1,q1⟩=>⟨x,σ,H1,I1,r1,q1⟩)
def Dw(c:TT)(t u:TS):TS:=fun D σ H=>c σ H fun b H1=>if b=true then t D σ H1 else u D σ H1
theorem BU{c:Expr}{a b:List Stmt}{tc:TT}(hc:PT X c tc)(ha:PSs X a t)(hb:PSs X b u):PS X (.If c a b pos) (Dw tc t u):=by
 intro py s σ H D I h;refine wpAny_If (Ez (hc py s σ H _ I h) fun d s1 Ex=>?_);obtain⟨H1,I1,q1⟩:=Ex;cases d with
 |true=>exact ha py s1 σ H1 D I1 q1
 |false=>exact hb py s1 σ H1 D I1 q1
def zr:TS:=fun _ _ _=>False
theorem uT:PS X st zr:=fun _ _ _ _ _ _ h=>h.elim
end
abbrev TG:=V->St->Hp->(St->Hp->Prop)->Prop
abbrev Ko:=List V->St->Hp->(St->Hp->Prop)->Prop
def PG(X:Cx)(target:Expr)(t:TG):Prop:=
 ∀(py:List (Addr×Obj)) (s:Shared) (σ:St) (H:Hp) (v:V) (u:Value) (Q:St->Hp->Prop),Inv X py σ H s->RelV v u->t v σ H Q->
  wpAny (model X.prog X.w) X.A (assign target X.env u) (fun _ s'=>∃σ' H',Inv X py σ' H' s'/\Q σ' H') X.xe s
def Kx(X:Cx)(ts:List Expr)(t:Ko):Prop:=
 ∀(py:List (Addr×Obj)) (s:Shared) (σ:St) (H:Hp) (vs:List V) (us:List Value) (Q:St->Hp->Prop),Inv X py σ H s->Vals vs us->t vs σ H Q->
  wpAny (model X.prog X.w) X.A (assignInOrder ((assignEach ts X.env).map (·.2)) us) (fun _ s'=>∃σ' H',Inv X py σ' H' s'/\Q σ' H') X.xe s
section
variable{X:Cx}{pos:Pos}
def zt(i:Nat):TG:=fun v σ H Q=>Q (σ.set i (some v)) H
theorem xv{i:Nat}{x:Str}(hN:X.N.Nodup)(hi:X.N[i]?=some x)(hx:Loc X.env.scope x)(hf:X.fn x=true\/X.env.scope.names.lookup x=some .local:=by first|exact .inl rfl|exact .inr rfl|assumption):PG X (.Name x pos) (zt i):=by
 intro py s σ H v u Q I r h;exact wpAny_assign_Name (oX I hN hi hx r (fun s' I'=>⟨_,H,I',h⟩) hf)
def Dx:Ko:=fun vs σ H Q=>vs=[]/\Q σ H
def BV(t:TG)(u:Ko):Ko:=fun vs σ H Q=>∃v r,vs=v::r/\t v σ H fun σ' H'=>u r σ' H' Q
theorem xw:Kx X [] Dx:=by
 intro py s σ H vs us Q I r h;obtain⟨e,h⟩:=h;subst e;cases r;exact assignInOrder_nil ⟨σ,H,I,h⟩
theorem uU{e:Expr}{es:List Expr}{t:TG}{u:Ko}(h1:PG X e t)(h2:Kx X es u)
  (hs:(assignEach (e::es) X.env).map (·.2)=assign e X.env::(assignEach es X.env).map (·.2):=by rfl):Kx X (e::es) (BV t u):=by
 intro py s σ H vs us Q I r h;obtain⟨v,vr,e1,h⟩:=h;subst e1;cases r with
 |cons r rr=>
  rw[hs];refine assignInOrder_cons (Ez (h1 py s σ H _ _ _ I r h) fun _ s1 Ex=>?_);obtain⟨σ1,H1,I1,q1⟩:=Ex;exact h2 py s1 σ1 H1 _ _ Q I1 rr q1
def Dy(K:W.Frag)(n:Nat)(t:Ko):TG:=fun v σ H Q=>∃a xs,v=.ref a/\SqT K H a xs/\xs.length=n/\t xs σ H Q
theorem zu{es:List Expr}{k:Nat}{t:Ko}{n:Nat}(hc:X.calm=true)(h:Kx X es t)
  (hn:(assignEach es X.env).length=n:=by rfl) (Hw:(assignEach es X.env).findIdx? (·.1)=none:=by rfl):PG X (.Tuple es k pos) (Dy X.K n t):=by
 intro py s σ H v u Q I r hw;obtain⟨a,xs,e1,hq,hl,hw⟩:=hw;subst e1;cases r;obtain⟨Eg,rv,ht,hz⟩:=I.tuple hq;refine assign_Tuple_tuple (I.ok.hd hc) ht (by simp[hn,<-hl,rv.length]) Hw fun h' hx=>?_
 have I1:Inv X py σ H {s with heap:=h'}:=I.kept (t':=s.toks) fun b o e=>hx b o (OO (OA e)) e
 exact h py _ σ H xs _ Q I1 (by simpa using rv) hw
def Dz(te:TE)(g:TG):TS:=fun D σ H=>te σ H fun x H1=>g x σ H1 D.nx
theorem zv{i:Nat}{x:Str}{e:Expr}{te:TE}{pos':Pos}(hN:X.N.Nodup)(hi:X.N[i]?=some x)(hx:Loc X.env.scope x)(he:PE X e te)(hs:swapsWith e (some (.Name x pos')) pos.line X.env=pure false:=by rfl)(hf:X.fn x=true\/X.env.scope.names.lookup x=some .local:=by first|exact .inl rfl|exact .inr rfl|assumption):
  PS X (.Assign [.Name x pos'] e pos) (Dz te (zt i)):=by
 intro py s σ H D I h;refine wpAny_Assign_Name (Ez (he py s σ H _ I h) fun v s1 ⟨y,H1,I1,r1,q1⟩=>?_) hs;exact oX I1 hN hi hx r1 (fun s2 I2=>⟨_,H1,I2,q1⟩) hf
end
section
variable{X:Cx}{pos:Pos}
def zw(c:TT)(tb:TS):TS:=fun D σ H=>∃W:Nat->St->Hp->Prop,(∃m,W m σ H)/\∀m σ H,W m σ H->
 c σ H fun b H1=>if b=true then ∃N:St->Hp->Prop,(∀σ' H',N σ' H'->∃m',m'<m/\W m' σ' H')/\tb {D with nx:=N,ct:=N,bk:=D.nx} σ H1 else D.nx σ H1
theorem uV{c:Expr}{body:List Stmt}{tc:TT}{tb:TS}(hp:PassesOwn (model X.prog X.w) X.A X.env X.xe)(hc:PT X c tc)(hb:PSs X body tb):PS X (.While c body [] pos) (zw tc tb):=by
 intro py s σ H D I h;obtain⟨W,⟨m0,w0⟩,turn⟩:=h;refine wpAny_While (codeAny_whileLoop (fun n s'=>∃σ' H',Inv X py σ' H' s'/\W n σ' H') ?_ m0 ⟨σ,H,I,w0⟩);rintro n s1 ⟨σ1,H1,I1,w1⟩;refine Qe hp (Ez (hc py s1 σ1 H1 _ I1 (turn n σ1 H1 w1)) fun b s2 Ex=>?_);obtain⟨H2,I2,q2⟩:=Ex;cases b with
 |true=>
  obtain⟨N,hN,q2⟩:=q2;rw[Ow rfl];refine Qe hp (Ez (hb py s2 σ1 H2 _ I2 q2) fun f s3 q3=>?_);cases f with
  |next=>
   obtain⟨σ3,H3,I3,n3⟩:=q3;obtain⟨m',hm,w3⟩:=hN σ3 H3 n3;exact⟨m',hm,σ3,H3,I3,w3⟩
  |cont=>
   obtain⟨σ3,H3,I3,n3⟩:=q3;obtain⟨m',hm,w3⟩:=hN σ3 H3 n3;exact⟨m',hm,σ3,H3,I3,w3⟩
  |brk=>exact q3
  |ret v=>exact q3
 |false=>
  rw[OB Oy];exact Q5 ⟨σ1,H2,I2,q2⟩
end
structure It where
 go:Nat->Hp->Prop
 yld:Nat->Hp->V->Hp->Prop
 stop:Nat->Hp->Prop
def rg(X:Cx)(py:List (Addr×Obj))(H:Hp)(b:Addr):Prop:=
 H b=none/\b≠X.env.locals/\b∉X.fs/\(b∈X.ex\/X.s₀.heap.objs.size<=b)/\(∀x c,X.env.cells.lookup x=some c->c≠b)/\∀p∈X.pn++py,p.1≠b
theorem Inv.fpOk{X:Cx}{py:List (Addr×Obj)}{σ:St}{H H':Hp}{s:Shared}{b:Addr}(I:Inv X py σ H s)(hb:s.heap.objs.size<=b)(hn:H' b=none):rg X py H' b:=by
 refine⟨hn,SE (OF I.lt hb),I.nofs hb,.inr (Pc I.sz hb),fun x c e z=>?_,fun p hp z=>?_⟩
 ·obtain⟨v,q⟩:=I.cell x c e;exact absurd (OF q.lt (by rw[z];exact hb)) (Qa _)
 ·exact absurd (OF (OA (I.pin p hp).1) (by rw[z];exact hb)) (Qa _)
structure Turn(P:Program)(w:World)(K:W.Frag)(tg:Expr)(J:It)(fp:List Addr)(it:Addr)(tn:Nat->Heap->Prop):Prop where
 mem:it∈fp
 obj:∀i h,tn i h->∀b∈fp,∃o,h.get? b=some o/\∀v,o.data≠.cell v
 keep:∀i h h',tn i h->(∀b∈fp,∀o,h.get? b=some o->h'.get? b=some o)->tn i h'
 item:∀(X:Cx),X.prog=P->X.w=w->X.K=K->X.calm=true->∀(i:Nat) (py:List (Addr×Obj)) (s:Shared) (σ:St) (H:Hp) (E:Value->Shared->Prop),Inv X py σ H s->(∀b∈fp,rg X py H b)->tn i s.heap->J.go i H->
  wpAny (model P w) X.A (pyNext (.ref it)) (fun r s1=>∃u,r=some u/\
   wpAny (model P w) X.A (letOwnedTupleGo tg (.ref it) u) (fun _ s2=>∃x H',Inv X py σ H' s2/\RelV x u/\J.yld i H x H'/\tn (i+1) s2.heap/\∀b∈fp,H' b=none) E s1) E s
 done:∀(X:Cx),X.prog=P->X.w=w->X.K=K->X.calm=true->∀(i:Nat) (py:List (Addr×Obj)) (s:Shared) (σ:St) (H:Hp) (E:Value->Shared->Prop),Inv X py σ H s->(∀b∈fp,rg X py H b)->tn i s.heap->J.stop i H->
  wpAny (model P w) X.A (pyNext (.ref it)) (fun r s1=>r=none/\Inv X py σ H s1) E s
 self:∀(A:Around) (i:Nat) (s:Shared) (Q:Value->Shared->Prop) (E:Value->Shared->Prop),tn i s.heap->Q (.ref it) s->wpAny (model P w) A (pyIter (.ref it)) Q E s
abbrev TI:=St->Hp->(It->Hp->Prop)->Prop
def NG(X:Cx)(py:List (Addr×Obj))(σ:St)(tg:Expr)(R:It->Hp->Prop)(MX:Value)(s2:Shared):Prop:=
 ∃(it:Addr) (fp:List Addr) (tn:Nat->Heap->Prop) (J:It) (H':Hp),MX=.ref it/\Inv X py σ H' s2/\Turn X.prog X.w X.K tg J fp it tn/\tn 0 s2.heap/\(∀b∈fp,rg X py H' b)/\R J H'
def PI(X:Cx)(tg iter:Expr)(wi:TI):Prop:=
 ∀(py:List (Addr×Obj)) (s:Shared) (σ:St) (H:Hp) (R:It->Hp->Prop),Inv X py σ H s->wi σ H R->
  wpAny (model X.prog X.w) X.A (eval iter X.env) (fun v s1=>wpAny (model X.prog X.w) X.A (pyIter v) (NG X py σ tg R) X.xe s1) X.xe s
theorem uW {M : Model} {A : Around} {E : Value -> Shared -> Prop} {s : Shared} {tg : Expr} {it : Addr} {u : Value} {o : Obj} {n : String} {vs : Array Value} {Q : Unit -> Shared -> Prop} (ho : s.heap.get? it = some o) (hc : o.cls = .type n) (hd : o.data = .fields vs)
    (hn : ["enumerate", "zip", "dict_itemiterator", "dict_reverseitemiterator", "odict_iterator", "itertools.zip_longest", "itertools.pairwise"].contains n = false) (hQ : Q () s) : wpAny M A (letOwnedTupleGo tg (.ref it) u) Q E s := by
  unfold letOwnedTupleGo
  cases tg <;> first
    | exact Oq hQ
    | (cases u <;> first
        | exact Oq hQ
        | (refine Oj (wpAny_load ho ?_)
           rw [hc, hd]
           show wpAny M A (if (["enumerate", "zip", "dict_itemiterator", "dict_reverseitemiterator", "odict_iterator", "itertools.zip_longest", "itertools.pairwise"].contains n && vs[0]? == some (rawInt _)) = true then _ else _) Q E s
           rw [OB (by intro h; rw [hn, Pg] at h; cases h)]
           exact Oq hQ))
def Lo(K:W.Frag)(a:Addr):It:=
 ⟨fun i H=>∃xs x,SqL K H a xs/\xs[i]?=some x,fun i H x H'=>H'=H/\∀xs,SqL K H a xs->xs[i]?=some x,fun i H=>∃xs,SqL K H a xs/\xs.length<=i⟩
def MY(K:W.Frag)(a:Addr):It:=
 ⟨fun i H=>∃xs x,SqT K H a xs/\xs[i]?=some x,fun i H x H'=>H'=H/\∀xs,SqT K H a xs->xs[i]?=some x,fun i H=>∃xs,SqT K H a xs/\xs.length<=i⟩
def LI(lo:Int)(n:Nat):It:=⟨fun i _=>i<n,fun i H x H'=>H'=H/\x=.int (lo+i),fun i _=>n<=i⟩
theorem rq{P:Program}{w:World}{K:W.Frag}{tg:Expr}(a it:Addr):Turn P w K tg (Lo K a) [it] it (fun i h=>h.IsListIter it a i) where
 mem:=by simp
 obj:=fun i h st b hb=>by
  have e:b=it:=by simpa using hb
  subst e;obtain⟨o,e,c,d⟩:=st;exact⟨o,e,fun v z=>by rw[d]at z;cases z⟩
 keep:=fun i h h' st k=>st.at fun o e=>k it (by simp) o e
 item:=by
  intro X hP hw hK hc i py s σ H E I hf st hg;subst hP hw hK;obtain⟨xs,x,hq,hx⟩:=hg;obtain⟨Eg,rv,p,hz⟩:=I.list hq;obtain⟨u,hu,ru⟩:=rv.get hx;obtain⟨f0,f1,f2,f3,f4,f5⟩:=hf it (by simp);refine wpAny_pyNext_list_item st p.isList (x:=u) (by simpa using hu) fun h' Gd sb=>?_
  have I1:Inv X py σ H {s with heap:=h'}:=I.turned (t':=s.toks) (fun b o hb e=>(sb.2 b hb).trans e) f0 f1 f3 f4 f5;obtain⟨o,e,c,d⟩:=id Gd;exact⟨u,rfl,uW (s:={s with heap:=h'}) e c d (by decide) ⟨x,H,I1,ru,⟨rfl,fun ys hy=>by rw[I.list_inj hy hq];exact hx⟩,Gd,fun b hb=>(hf b hb).1⟩⟩
 done:=by
  intro X hP hw hK hc i py s σ H E I hf st hg;subst hP hw hK;obtain⟨xs,hq,hx⟩:=hg;obtain⟨Eg,rv,p,hz⟩:=I.list hq;obtain⟨f0,f1,f2,f3,f4,f5⟩:=hf it (by simp);have hl:=rv.length;exact wpAny_pyNext_list_end (I.ok.hd hc) st p.isList (by simp;lia) fun h' eb=>⟨rfl,I.turned (t':=s.toks) (fun b o hb e=>eb b o hb e) f0 f1 f3 f4 f5⟩
 self:=fun _ _ _ _ _ st h=>wpAny_pyIter_listiter st h
theorem qi{P:Program}{w:World}{K:W.Frag}{tg:Expr}(a it:Addr):Turn P w K tg (MY K a) [it] it (fun i h=>h.IsTupleIter it a i) where
 mem:=by simp
 obj:=fun i h st b hb=>by
  have e:b=it:=by simpa using hb
  subst e;obtain⟨o,e,c,d⟩:=st;exact⟨o,e,fun v z=>by rw[d]at z;cases z⟩
 keep:=fun i h h' st k=>st.at fun o e=>k it (by simp) o e
 item:=by
  intro X hP hw hK hc i py s σ H E I hf st hg;subst hP hw hK;obtain⟨xs,x,hq,hx⟩:=hg;obtain⟨Eg,rv,p,hz⟩:=I.tuple hq;obtain⟨u,hu,ru⟩:=rv.get hx;obtain⟨f0,f1,f2,f3,f4,f5⟩:=hf it (by simp);refine wpAny_pyNext_tuple_item st (show s.heap.IsTuple a Eg.toArray from p) (x:=u) (by simpa using hu) fun h' Gd sb=>?_
  have I1:Inv X py σ H {s with heap:=h'}:=I.turned (t':=s.toks) (fun b o hb e=>(sb.2 b hb).trans e) f0 f1 f3 f4 f5;obtain⟨o,e,c,d⟩:=id Gd;exact⟨u,rfl,uW (s:={s with heap:=h'}) e c d (by decide) ⟨x,H,I1,ru,⟨rfl,fun ys hy=>by rw[I.tuple_inj hy hq];exact hx⟩,Gd,fun b hb=>(hf b hb).1⟩⟩
 done:=by
  intro X hP hw hK hc i py s σ H E I hf st hg;subst hP hw hK;obtain⟨xs,hq,hx⟩:=hg;obtain⟨Eg,rv,p,hz⟩:=I.tuple hq;obtain⟨f0,f1,f2,f3,f4,f5⟩:=hf it (by simp);have hl:=rv.length;exact wpAny_pyNext_tuple_end (I.ok.hd hc) st (show s.heap.IsTuple a Eg.toArray from p) (by simp;lia) fun h' eb=>⟨rfl,I.turned (t':=s.toks) (fun b o hb e=>eb b o hb e) f0 f1 f3 f4 f5⟩
 self:=fun _ _ _ _ _ st h=>wpAny_pyIter_tupleiter st h
theorem qj{P:Program}{w:World}{K:W.Frag}{tg:Expr}(it:Addr)(lo:Int)(n:Nat):Turn P w K tg (LI lo n) [it] it (fun i h=>IsRangeIter h it (lo+(i:Nat)*1) ((n:Int)-(i:Nat)) 1) where
 mem:=by simp
 obj:=fun i h st b hb=>by
  have e:b=it:=by simpa using hb
  subst e;exact⟨_,st,fun v z=>by
   have z':Data.fields _=Data.cell v:=z;cases z'⟩
 keep:=fun i h h' st k=>k it (by simp) _ st
 item:=by
  intro X hP hw hK hc i py s σ H E I hf st hg;subst hP hw hK;obtain⟨f0,f1,f2,f3,f4,f5⟩:=hf it (by simp);have W:=Walks.range (prog:=X.prog) (w:=X.w) (I.ok.hd hc) it lo 1 n;refine W.item i s _ _ hg st fun v h' tk hv Gd kk=>?_
  obtain⟨t,rfl⟩:=hv;have I1:Inv X py σ H {s with heap:=h',toks:=tk}:=I.turned (fun b o hb e=>kk b o (by simpa using hb) e) f0 f1 f3 f4 f5;refine⟨_,rfl,uW (s:={s with heap:=h',toks:=tk}) (n:="range_iterator") Gd rfl rfl (by decide) ⟨.int (lo+i),H,I1,⟨t,?_⟩,⟨rfl,rfl⟩,Gd,fun b hb=>(hf b hb).1⟩⟩;rw[Int.mul_one]
 done:=by
  intro X hP hw hK hc i py s σ H E I hf st hg;subst hP hw hK;obtain⟨f0,f1,f2,f3,f4,f5⟩:=hf it (by simp);exact wpAny_pyNext_range_end (I.ok.hd hc) st (by have:n<=i:=hg;lia) fun h' eb=>⟨rfl,I.turned (t':=s.toks) (fun b o hb e=>eb b o hb e) f0 f1 f3 f4 f5⟩
 self:=fun _ _ _ _ _ st h=>wpAny_pyIter_rangeiter st h
section
variable{X:Cx}{tg:Expr}
def BW(K:W.Frag)(tl:TE):TI:=fun σ H R=>tl σ H fun x H1=>∃a,x=.ref a/\(∃xs,SqL K H1 a xs)/\R (Lo K a) H1
def DA(K:W.Frag)(tl:TE):TI:=fun σ H R=>tl σ H fun x H1=>∃a,x=.ref a/\(∃xs,SqT K H1 a xs)/\R (MY K a) H1
theorem rA{l:Expr}{tl:TE}(hl:PE X l tl):PI X tg l (BW X.K tl):=by
 intro py s σ H R I h;refine Ez (hl py s σ H _ I h) fun v s1 Ex=>?_
 obtain⟨x,H1,I1,r1,q1⟩:=Ex;obtain⟨a,e,⟨xs,hq⟩,q⟩:=q1;subst e;cases r1;obtain⟨Eg,rv,p,hz⟩:=I1.list hq;refine Qf p.isList ?_;refine⟨s1.heap.objs.size,[s1.heap.objs.size],_,_,H1,rfl,I1.kept (t':=s1.toks) fun b o e=>Heap.get?_push_of_some _ e,rq a _,⟨_,Heap.get?_push_size _ rfl,rfl,rfl⟩,fun b hb=>?_,q⟩;have e:b=s1.heap.objs.size:=by simpa using hb
 subst e;exact I1.fpOk (Ou _) (I1.hok.fresh (Ou _))
theorem zx{l:Expr}{tl:TE}(hl:PE X l tl):PI X tg l (DA X.K tl):=by
 intro py s σ H R I h;refine Ez (hl py s σ H _ I h) fun v s1 Ex=>?_
 obtain⟨x,H1,I1,r1,q1⟩:=Ex;obtain⟨a,e,⟨xs,hq⟩,q⟩:=q1;subst e;cases r1;obtain⟨Eg,rv,p,hz⟩:=I1.tuple hq;refine Qb (show s1.heap.IsTuple a Eg.toArray from p) ?_;refine⟨s1.heap.objs.size,[s1.heap.objs.size],_,_,H1,rfl,I1.kept (t':=s1.toks) fun b o e=>Heap.get?_push_of_some _ e,qi a _,⟨_,Heap.get?_push_size _ rfl,rfl,rfl⟩,fun b hb=>?_,q⟩;have e:b=s1.heap.objs.size:=by simpa using hb
 subst e;exact I1.fpOk (Ou _) (I1.hok.fresh (Ou _))
theorem oY{py:List (Addr×Obj)}{σ:St}{H:Hp}{s:Shared}{R:It->Hp->Prop}{E:Value->Shared->Prop}{lo hi:Int}{t u v:Tok}{tk:Nat}(I:Inv X py σ H s)(h1:-(2 ^ 62)<=lo)(h2:lo<2 ^ 62)(h3:-(2 ^ 62)<=hi)(h4:hi<2 ^ 62)
  (q:R (LI lo (hi-lo).toNat) H):wpAny (model X.prog X.w) X.A (pyIter (.ref s.heap.objs.size)) (NG X py σ tg R) E {s with heap:=s.heap.push {cls:=.type "range",data:=.fields #[.int lo t,.int hi u,.int 1 v]},toks:=tk}:=by
 refine wpAny_pyIter_range (IsRange.new ..) (small_one h1 h2 h3 h4) ?_;have I1:Inv X py σ H {s with heap:=s.heap.push {cls:=.type "range",data:=.fields #[.int lo t,.int hi u,.int 1 v]},toks:=tk}:=I.kept fun b o e=>Heap.get?_push_of_some _ e
 refine⟨(s.heap.push {cls:=.type "range",data:=.fields #[.int lo t,.int hi u,.int 1 v]}).objs.size,[(s.heap.push {cls:=.type "range",data:=.fields #[.int lo t,.int hi u,.int 1 v]}).objs.size],_,_,H,rfl,
  I1.kept (t':=tk) fun b o e=>Heap.get?_push_of_some _ e,qj _ lo (hi-lo).toNat,?_,fun b hb=>?_,q⟩
 ·have e1:lo+((0:Nat):Int)*1=lo:=by simp
  have e2:(((hi-lo).toNat:Nat):Int)-((0:Nat):Int)=Builtin.Range.rangeSize lo hi 1:=by rw[rangeSize_one];split <;> lia
  show IsRangeIter _ _ (lo+((0:Nat):Int)*1) ((((hi-lo).toNat:Nat):Int)-((0:Nat):Int)) 1;rw[e1,e2];exact Heap.get?_push_size _ rfl
 ·have e:b=(s.heap.push {cls:=.type "range",data:=.fields #[.int lo t,.int hi u,.int 1 v]}).objs.size:=by simpa using hb
  subst e;exact I1.fpOk (Ou _) (I1.hok.fresh (Ou _))
def BX(ta:TA):TI:=fun σ H R=>ta σ H fun vs H1=>∃j:Int,vs=[.int j]/\-(2 ^ 62)<=j/\j<2 ^ 62/\R (LI 0 j.toNat) H1
def BY(ta:TA):TI:=fun σ H R=>ta σ H fun vs H1=>∃i j:Int,vs=[.int i,.int j]/\(-(2 ^ 62)<=i/\i<2 ^ 62/\-(2 ^ 62)<=j/\j<2 ^ 62)/\R (LI i (j-i).toNat) H1
theorem rB{a:Expr}{ta:TA}{p pos:Pos}(hg:Gl X "range")(hm:X.mg "range" = none)(ha:PA X [a] ta)(hs:starEach [a] X.env=[(false,eval a X.env)]:=by rfl):PI X tg (.Call (.Name "range" p) [a] [] pos) (BX ta):=by
 intro py s σ H R I h;refine Call_ (jt I hg hm boot_range (P2 (Ez (ha pos py s σ H _ I h) fun us s1 ⟨vs,H1,I1,r1,q1⟩=>?_) hs rfl));obtain⟨j,e,q1,q2,q⟩:=q1;subst e;cases r1 with
 |cons r rr=>
  cases rr;obtain⟨t,rfl⟩:=r;exact call_range_1 (oY I1 (by lia) (by lia) q1 q2 (by simpa using q))
theorem rD{a b:Expr}{ta:TA}{p pos:Pos}(hg:Gl X "range")(hm:X.mg "range" = none)(ha:PA X [a,b] ta)(hs:starEach [a,b] X.env=[(false,eval a X.env),(false,eval b X.env)]:=by rfl)(IF:starEach [b] X.env=[(false,eval b X.env)]:=by rfl):
  PI X tg (.Call (.Name "range" p) [a,b] [] pos) (BY ta):=by
 intro py s σ H R I h;refine Call_ (jt I hg hm boot_range (P2 (Ez (ha pos py s σ H _ I h) fun us s1 ⟨vs,H1,I1,r1,q1⟩=>?_) (by rw[hs,IF]) (by rw[IF];rfl)));obtain⟨i,j,e,⟨q1,q2,q3,q4⟩,q⟩:=q1;subst e;cases r1 with
 |cons r rr=>
  cases rr with
  |cons r' rr=>
   cases rr;obtain⟨t,rfl⟩:=r;obtain⟨t',rfl⟩:=r';exact call_range_2 (oY I1 q1 q2 q3 q4 q)
noncomputable def DB(wi:TI)(g:TG)(tb:TS):TS:=fun D σ H=>wi σ H fun J H1=>∃W:Nat->Nat->St->Hp->Prop,(∃m,W 0 m σ H1)/\∀i m σ H,W i m σ H->
 (J.stop i H/\D.nx σ H)\/(J.go i H/\∃N:St->Hp->Prop,(∀σ' H',N σ' H'->∃m',m'<m/\W (i+1) m' σ' H')/\∀x H',J.yld i H x H'->g x σ H' fun σ2 H2=>tb {D with nx:=N,ct:=N,bk:=D.nx} σ2 H2)
def mq(fp:List Addr)(h:Heap):List (Addr×Obj):=fp.filterMap fun b=>(h.get? b).map fun o=>(b,o)
theorem fY{fp:List Addr}{h:Heap}{b:Addr}{o:Obj}(hb:b∈fp)(e:h.get? b=some o):(b,o)∈mq fp h:=Sh.mpr ⟨b,hb,by rw[e];rfl⟩
theorem rE{fp:List Addr}{h:Heap}{p:Addr×Obj}(hp:p∈mq fp h):p.1∈fp/\h.get? p.1=some p.2:=by
 obtain⟨b,hb,e⟩:=Sh.mp hp;cases q:h.get? b with
 |none=>rw[q]at e;cases e
 |some o=>
  rw[q]at e;have e':(b,o)=p:=OY e;subst e';exact⟨hb,q⟩
theorem Inv.pinned{py:List (Addr×Obj)}{σ:St}{H:Hp}{s:Shared}{fp:List Addr}(I:Inv X py σ H s)(hf:∀b∈fp,rg X py H b)(ho:∀b∈fp,∃o,s.heap.get? b=some o/\∀v,o.data≠.cell v):Inv X (py++mq fp s.heap) σ H s:=
 I.pins_of fun p hp=>(OK.mp hp).elim (fun z=>I.pin p (Oo _ z)) fun z=>by
  obtain⟨hb,e⟩:=rE z;obtain⟨f0,f1,f2,_⟩:=hf p.1 hb;obtain⟨o,e',d⟩:=ho p.1 hb;rw[e]at e';cases e';exact⟨e,f0,f1,f2,d⟩
theorem Inv.unpinned{py pl:List (Addr×Obj)}{σ:St}{H:Hp}{s:Shared}(I:Inv X (py++pl) σ H s):Inv X py σ H s:=I.pins_of fun p hp=>I.pin p (Oo _ (Ox _ hp))
theorem zy{iter:Expr}{body:List Stmt}{wi:TI}{g:TG}{tb:TS}{pos:Pos}(hp:PassesOwn (model X.prog X.w) X.A X.env X.xe)(hc:X.calm=true)(hi:PI X tg iter wi)(hg:PG X tg g)(hb:PSs X body tb)
  (hs:∀x,foldedSetIterable iter X.env x=pure x:=by intro _;rfl):PS X (.For tg iter body [] pos) (DB wi g tb):=by
 intro py s σ H D I h;refine wpAny_For (Ez (hi py s σ H _ I h) fun v s1 h1=>Ez h1 fun MX s2 h2=>?_) hs;obtain⟨it,fp,tn,J,H2,e,I2,T,El,f2,W,⟨m0,w0⟩,turn⟩:=h2;subst e;have HP:∀{H':Hp},(∀b∈fp,H' b=none)->∀b∈fp,rg X py H' b:=fun hn b hb=>⟨hn b hb,(f2 b hb).2⟩
 refine codeAny_forLoop_any (fun n s'=>∃i σ' H',Inv X py σ' H' s'/\tn i s'.heap/\(∀b∈fp,H' b=none)/\W i n σ' H') ?_ m0 ⟨0,σ,H2,I2,El,fun b hb=>(f2 b hb).1,w0⟩;rintro n s3 ⟨i,σ3,H3,I3,ET,LJ,w3⟩;rcases turn i n σ3 H3 w3 with⟨stop,qn⟩|⟨go,N,hN,step⟩
 ·refine Qe hp (Ez (T.done X rfl rfl rfl hc i py s3 σ3 H3 X.xe I3 (HP LJ) ET stop) fun r s4 Ex=>?_);obtain⟨hr,I4⟩:=Ex;subst hr;exact Q5 ⟨σ3,H3,I4,qn⟩
 ·refine Qe hp (Ez (T.item X rfl rfl rfl hc i py s3 σ3 H3 X.xe I3 (HP LJ) ET go) fun r s4 Ex=>?_);obtain⟨u,hr,h4⟩:=Ex;subst hr;refine Qe hp (Ez h4 fun _ s5 Ex=>?_);obtain⟨x,H5,I5,r5,y5,Gq,MZ⟩:=Ex;have M0:=I5.pinned (HP MZ) (T.obj _ _ Gq);refine Qe hp (Ez (hg _ s5 σ3 H5 x u _ M0 r5 (step x H5 y5)) fun _ s6 Ex=>?_);obtain⟨σ6,H6,I6,q6⟩:=Ex;refine Qe hp (Ez (hb _ s6 σ6 H6 _ I6 q6) fun f s7 q7=>?_);have again:∀{σ7:St}{H7:Hp},Inv X (py++mq fp s5.heap) σ7 H7 s7->N σ7 H7->∃m,m<n/\∃i σ' H',Inv X py σ' H' s7/\tn i s7.heap/\(∀b∈fp,H' b=none)/\W i m σ' H':=fun{σ7 H7} I7 n7=>by
   obtain⟨m',hm,w7⟩:=hN σ7 H7 n7;refine⟨m',hm,i+1,σ7,H7,I7.unpinned,T.keep _ _ _ Gq fun b hb o e=>(I7.pin (b,o) (Oo _ (Oo _ (fY hb e)))).1,fun b hb=>?_,w7⟩;obtain⟨o,e,d⟩:=T.obj _ _ Gq b hb;exact(I7.pin (b,o) (Oo _ (Oo _ (fY hb e)))).2.1
  cases f with
  |next=>obtain⟨σ7,H7,I7,n7⟩:=q7;exact again I7 n7
  |cont=>obtain⟨σ7,H7,I7,n7⟩:=q7;exact again I7 n7
  |brk=>obtain⟨σ7,H7,I7,q7⟩:=q7;exact⟨σ7,H7,I7.unpinned,q7⟩
  |ret v=>obtain⟨x7,σ7,H7,I7,r7,q7⟩:=q7;exact⟨x7,σ7,H7,I7.unpinned,r7,q7⟩
end
theorem for_list{K:W.Frag}{a:Addr}{xs:List V}{g:TG}{tb:TS}{D:Ends}{σ:St}{H:Hp}(Pv:Nat->St->Hp->Prop)(h0:Pv 0 σ H)(hl:∀i σ H,i<=xs.length->Pv i σ H->SqL K H a xs)
  (hs:∀i x σ H,xs[i]?=some x->Pv i σ H->g x σ H fun σ2 H2=>tb {D with nx:=Pv (i+1),ct:=Pv (i+1),bk:=D.nx} σ2 H2) (hd:∀σ H,Pv xs.length σ H->D.nx σ H):
  ∃W:Nat->Nat->St->Hp->Prop,(∃m,W 0 m σ H)/\∀i m σ H,W i m σ H->
   ((Lo K a).stop i H/\D.nx σ H)\/((Lo K a).go i H/\∃N:St->Hp->Prop,(∀σ' H',N σ' H'->∃m',m'<m/\W (i+1) m' σ' H')/\∀x H',(Lo K a).yld i H x H'->g x σ H' fun σ2 H2=>tb {D with nx:=N,ct:=N,bk:=D.nx} σ2 H2):=by
 refine⟨fun i m σ H=>m=xs.length-i/\i<=xs.length/\Pv i σ H,⟨xs.length,by simp,Pd _,h0⟩,?_⟩;rintro i m σ H ⟨rfl,hi,p⟩;have q:=hl i σ H hi p;by_cases E5:i<xs.length
 ·refine .inr ⟨⟨xs,xs[i],q,by simp[E5]⟩,Pv (i+1),fun σ' H' p'=>⟨xs.length-(i+1),by lia,rfl,E5,p'⟩,fun x H' y=>?_⟩;obtain⟨e,y⟩:=y;subst e;exact hs i x σ _ (y xs q) p
 ·have e:i=xs.length:=by lia
  subst e;exact .inl ⟨⟨xs,q,Ou _⟩,hd σ H p⟩
abbrev R2:=V->V->Hp->VK->Prop
def EK(X:Cx)(f:Value->Value->Sem Value)(r:R2):Prop:=
 ∀(py:List (Addr×Obj)) (s:Shared) (σ:St) (H:Hp) (x y:V) (v u:Value) (Q:VK),Inv X py σ H s->RelV x v->RelV y u->r x y H Q->
  wpAny (model X.prog X.w) X.A (f v u) (EP X py σ Q) X.xe s
def M1(X:Cx)(f:Value->Sem Value)(r:V->Hp->VK->Prop):Prop:=
 ∀(py:List (Addr×Obj)) (s:Shared) (σ:St) (H:Hp) (x:V) (v:Value) (Q:VK),Inv X py σ H s->RelV x v->r x H Q->
  wpAny (model X.prog X.w) X.A (f v) (EP X py σ Q) X.xe s
def c5(X:Cx)(f:Value)(r:List V->Hp->VK->Prop):Prop:=
 ∀(py:List (Addr×Obj)) (s:Shared) (σ:St) (H:Hp) (xs:List V) (us:List Value) (Q:VK),Inv X py σ H s->Vals xs us->r xs H Q->
  wpAny (model X.prog X.w) X.A (call f us) (EP X py σ Q) X.xe s
def Lp(r:R2)(ta tb:TE):TE:=fun σ H Q=>ta σ H fun x H1=>tb σ H1 fun y H2=>r x y H2 Q
def tUn(r:V->Hp->VK->Prop)(ta:TE):TE:=fun σ H Q=>ta σ H fun x H1=>r x H1 Q
def rI(C:Int->Int->Prop)(g:Int->Int->V):R2:=fun x y H Q=>∃i j,x=.int i/\y=.int j/\C i j/\Q (g i j) H
def Kp(g:Int->Int->V):R2:=fun x y H Q=>∃i j,x=.int i/\y=.int j/\Q (g i j) H
def rU(g:Int->V):V->Hp->VK->Prop:=fun x H Q=>∃i,x=.int i/\Q (g i) H
section
variable{X:Cx}{a b c:Expr}{ta tb tc:TE}{pos:Pos}
theorem BZ(ha:PE X a ta)(hb:PE X b tb){py:List (Addr×Obj)}{s:Shared}{σ:St}{H:Hp}{R:V->V->Hp->Prop}(I:Inv X py σ H s)
  (h:ta σ H fun x H1=>tb σ H1 fun y H2=>R x y H2) {Q:Value->Shared->Prop}{f:Value->Value->Sem Value}
  (hf:∀v u s2 x y H2,Inv X py σ H2 s2->RelV x v->RelV y u->R x y H2->wpAny (model X.prog X.w) X.A (f v u) Q X.xe s2):
  wpAny (model X.prog X.w) X.A (eval a X.env) (fun v s₁=>wpAny (model X.prog X.w) X.A (eval b X.env) (fun u s₂=>wpAny (model X.prog X.w) X.A (f v u) Q X.xe s₂) X.xe s₁) X.xe s:=by
 refine Ez (ha py s σ H _ I h) fun v s1 Ex=>?_
 obtain⟨x,H1,I1,r1,q1⟩:=Ex;refine Ez (hb py s1 σ H1 _ I1 q1) fun u s2 Ex=>?_
 obtain⟨y,H2,I2,r2,q2⟩:=Ex;exact hf v u s2 x y H2 I2 r1 r2 q2
theorem B0{op:Operator}{r:R2}(ho:EK X (binaryOp op) r)(ha:PE X a ta)(hb:PE X b tb):PE X (.BinOp a op b pos) (Lp r ta tb):=by
 intro py s σ H Q I h;exact wpAny_BinOp (BZ ha hb I h fun v u s2 x y H2 I2 rx ry q=>ho py s2 σ H2 x y v u Q I2 rx ry q)
theorem B1{op:UnaryOp}{r:V->Hp->VK->Prop}(ho:M1 X (unaryOp op) r)(ha:PE X a ta):PE X (.UnaryOp op a pos) (tUn r ta):=by
 intro py s σ H Q I h;exact UnaryOp_ (Ez (ha py s σ H _ I h) fun v s1 ⟨x,H1,I1,r1,q1⟩=>ho py s1 σ H1 x v Q I1 r1 q1)
theorem LK{f:Value->Value->Sem Value}{C:Int->Int->Prop}{g:Int->Int->Int}
  (rule:∀(i j:Int) (t u:Tok) (s:Shared) (Q:Value->Shared->Prop) (E:Value->Shared->Prop),C i j->Q (.int (g i j) s.toks) {s with toks:=s.toks+1}->wpAny (model X.prog X.w) X.A (f (.int i t) (.int j u)) Q E s):
  EK X f (rI C fun i j=>.int (g i j)):=by
 intro py s σ H x y v u Q I rx ry h;obtain⟨i,j,rfl,rfl,hc,q⟩:=h;obtain⟨t,rfl⟩:=rx;obtain⟨t',rfl⟩:=ry;exact rule i j t t' s _ _ hc ⟨.int (g i j),H,I.tok _,⟨_,rfl⟩,q⟩
theorem C6{f:Value->Value->Sem Value}{g:Int->Int->Int}
  (rule:∀(i j:Int) (t u:Tok) (s:Shared) (Q:Value->Shared->Prop) (E:Value->Shared->Prop),Q (.int (g i j) s.toks) {s with toks:=s.toks+1}->wpAny (model X.prog X.w) X.A (f (.int i t) (.int j u)) Q E s):
  EK X f (Kp fun i j=>.int (g i j)):=by
 intro py s σ H x y v u Q I rx ry h;obtain⟨i,j,rfl,rfl,q⟩:=h;obtain⟨t,rfl⟩:=rx;obtain⟨t',rfl⟩:=ry;exact rule i j t t' s _ _ ⟨.int (g i j),H,I.tok _,⟨_,rfl⟩,q⟩
theorem BH{f:Value->Value->Sem Value}{g:Int->Int->Bool}
  (rule:∀(i j:Int) (t u:Tok) (s:Shared) (Q:Value->Shared->Prop) (E:Value->Shared->Prop),Q (.bool (g i j)) s->wpAny (model X.prog X.w) X.A (f (.int i t) (.int j u)) Q E s):
  EK X f (Kp fun i j=>.bl (g i j)):=by
 intro py s σ H x y v u Q I rx ry h;obtain⟨i,j,rfl,rfl,q⟩:=h;obtain⟨t,rfl⟩:=rx;obtain⟨t',rfl⟩:=ry;exact rule i j t t' s _ _ ⟨.bl (g i j),H,I,rfl,q⟩
def DD(i j:Int):Prop:=0<j/\j<1073741824
def DE(i j:Int):Prop:=0<=j/\j<=1000000/\i.natAbs<2 ^ 64
def CMul(i j:Int):Prop:=(-(2 ^ 64)<i/\i<2 ^ 64)\/(-(2 ^ 64)<j/\j<2 ^ 64)
theorem CMul.ok{i j:Int}(h:CMul i j):IntMulOk i j:=by
 rcases h with⟨h1,h2⟩|⟨h1,h2⟩
 ·exact .of_left (intBits_le_64 h1 h2)
 ·exact .of_right (intBits_le_64 h1 h2)
theorem zH:EK X (binaryOp .Add) (Kp fun i j=>.int (i+j)):=C6 fun _ _ _ _ _ _ _ q=>add_int q
theorem zI:EK X (binaryOp .Sub) (Kp fun i j=>.int (i-j)):=C6 fun _ _ _ _ _ _ _ q=>sub_int q
theorem zJ:EK X (binaryOp .Mult) (rI CMul fun i j=>.int (i*j)):=LK fun _ _ _ _ _ _ _ hc q=>mul_int q hc.ok
theorem xx:EK X (binaryOp .FloorDiv) (rI DD fun i j=>.int (i / j)):=LK fun i j _ _ _ _ _ hc q=>by
 have h1:(0:Int)<j:=hc.1;have h2:j<1073741824:=hc.2;exact floordiv_int (by lia) (by rw[Int.fdiv_eq_ediv_of_nonneg i (by lia)];exact q) (.inl (PyProof.noPylong_small (by lia)))
theorem zL:EK X (binaryOp .Mod) (rI (fun _ j=>0<j) fun i j=>.int (i%j)):=LK fun i j _ _ _ _ _ hc q=>by
 have h1:(0:Int)<j:=hc;exact mod_int' (by lia) (by rw[Int.fmod_eq_emod_of_nonneg i (by lia)];exact q)
theorem zM:EK X (binaryOp .Pow) (rI DE fun i j=>.int (i ^ j.toNat)):=LK fun _ _ _ _ _ _ _ hc q=>pow_int_small hc.1 hc.2.1 hc.2.2 q
theorem unI{f:Value->Sem Value}{g:Int->Int}
  (rule:∀(i:Int) (t:Tok) (s:Shared) (Q:Value->Shared->Prop) (E:Value->Shared->Prop),Q (.int (g i) s.toks) {s with toks:=s.toks+1}->wpAny (model X.prog X.w) X.A (f (.int i t)) Q E s):
  M1 X f (rU fun i=>.int (g i)):=by
 intro py s σ H x v Q I rx h;obtain⟨i,rfl,q⟩:=h;obtain⟨t,rfl⟩:=rx;exact rule i t s _ _ ⟨.int (g i),H,I.tok _,⟨_,rfl⟩,q⟩
theorem zN:M1 X (unaryOp .USub) (rU fun i=>.int (-i)):=unI fun _ _ _ _ _ q=>neg_int q
end
section
variable{X:Cx}{a b c:Expr}{ta tb tc:TE}{pos:Pos}
theorem oZ{py:List (Addr×Obj)}{σ:St}{H:Hp}{s:Shared}{Q:VK}{k k':Bool}(I:Inv X py σ H s)(q:Q (.bl k) H)(e:k=k'):EP X py σ Q (.bool k') s:=by
 subst e;exact⟨.bl k,H,I,rfl,q⟩
theorem B2:EK X (compareOp .Lt) (Kp fun i j=>.bl (decide (i<j))):=BH fun _ _ _ _ _ _ _ q=>lt_int q
theorem B3:EK X (compareOp .LtE) (Kp fun i j=>.bl (decide (i<=j))):=BH fun _ _ _ _ _ _ _ q=>le_int q
theorem B4:EK X (compareOp .Gt) (Kp fun i j=>.bl (decide (j<i))):=BH fun _ _ _ _ _ _ _ q=>gt_int q
theorem B5:EK X (compareOp .GtE) (Kp fun i j=>.bl (decide (j<=i))):=BH fun _ _ _ _ _ _ _ q=>ge_int q
theorem rF:EK X (compareOp .Lt) (fun x y H Q=>∃i j,x=.str i/\y=.str j/\Q (.bl (decide (i.cps.toList<j.cps.toList))) H):=by
 intro py s σ H x y v u Q I rx ry h;obtain⟨i,j,rfl,rfl,q⟩:=h;obtain⟨t,rfl⟩:=rx;obtain⟨t',rfl⟩:=ry;exact lt_str (oZ I q rfl)
theorem rH:EK X (compareOp .In) (fun x y H Q=>∃i j,x=.str i/\y=.str j/\Q (.bl (!(Builtin.Str.occurrences j i 0 j.length 1).isEmpty)) H):=by
 intro py s σ H x y v u Q I rx ry h;obtain⟨i,j,rfl,rfl,q⟩:=h;obtain⟨t,rfl⟩:=rx;obtain⟨t',rfl⟩:=ry;exact in_str (oZ I q rfl)
theorem mr:EK X (compareOp .NotIn) (fun x y H Q=>∃i j,x=.str i/\y=.str j/\Q (.bl (!(!(Builtin.Str.occurrences j i 0 j.length 1).isEmpty))) H):=by
 intro py s σ H x y v u Q I rx ry h;obtain⟨i,j,rfl,rfl,q⟩:=h;obtain⟨t,rfl⟩:=rx;obtain⟨t',rfl⟩:=ry;exact notIn_str (oZ I q rfl)
theorem aY(b:Expr){op:CmpOp}(h:op≠.In:=by decide)(h2:op≠.NotIn:=by decide):behindInMarks op b=false:=by
 have e1:(op==CmpOp.In)=false:=by cases op <;> first|rfl|exact absurd rfl h
 have e2:(op==CmpOp.NotIn)=false:=by cases op <;> first|rfl|exact absurd rfl h2
 cases b <;> simp[behindInMarks,e1,e2]
theorem rJ{op:CmpOp}{r:R2}(ho:EK X (compareOp op) r)(ha:PE X a ta)(hb:PE X b tb)(hm:behindInMarks op b=false):PE X (.Compare a [op] [b] pos) (Lp r ta tb):=by
 intro py s σ H Q I h;exact wpAny_Compare1 (BZ ha hb I h fun v u s2 x y H2 I2 rx ry q=>ho py s2 σ H2 x y v u Q I2 rx ry q) hm
def zO(t:TE):TT:=fun σ H Q=>t σ H fun x H'=>∃k,x=.bl k/\Q k H'
theorem rK{op:CmpOp}{r:R2}(ho:EK X (compareOp op) r)(ha:PE X a ta)(hb:PE X b tb)(hm:behindInMarks op b=false):PT X (.Compare a [op] [b] pos) (zO (Lp r ta tb)):=by
 intro py s σ H Q I h;refine wpAny_isTrue_Compare1 (Ez (ha py s σ H _ I h) fun v s1 ⟨x,H1,I1,r1,q1⟩=>Ez (hb py s1 σ H1 _ I1 q1) fun u s2 ⟨y,H2,I2,r2,q2⟩=>
  Ez (ho py s2 σ H2 x y v u _ I2 r1 r2 q2) fun c s3 ⟨z,H3,I3,r3,k,e,q3⟩=>?_) hm
 subst e;cases r3;exact Pt ⟨H3,I3,q3⟩
def rL(r r':R2)(ta tb tc:TE):TE:=fun σ H Q=>ta σ H fun x H1=>tb σ H1 fun y H2=>r x y H2 fun z H3=>∃k,z=.bl k/\
 (if k=true then tc σ H3 fun w' H4=>r' y w' H4 Q else Q (.bl false) H3)
theorem uX{op Hq:CmpOp}{r r':R2}(ho:EK X (compareOp op) r)(Hv:EK X (compareOp Hq) r')(ha:PE X a ta)(hb:PE X b tb)(hc:PE X c tc)
  (hm:lastMarks [op,Hq] [b,c]=false:=by with_unfolding_all rfl):PE X (.Compare a [op,Hq] [b,c] pos) (rL r r' ta tb tc):=by
 intro py s σ H Q I h;refine Compare_chain (Ez (ha py s σ H _ I h) fun v s1 ⟨x,H1,I1,r1,q1⟩=>chain_link (Ez (hb py s1 σ H1 _ I1 q1) fun u s2 ⟨y,H2,I2,r2,q2⟩=>
  Ez (ho py s2 σ H2 x y v u _ I2 r1 r2 q2) fun d s3 ⟨z,H3,I3,r3,k,e,q3⟩=>?_)) hm
 subst e;cases r3;refine Pt ?_;cases k with
 |false=>exact ite_ff ⟨.bl false,H3,I3,rfl,q3⟩
 |true=>exact ite_tt (chain_last (Ez (hc py s3 σ H3 _ I3 q3) fun w' s4 ⟨z',H4,I4,r4,q4⟩=>Hv py s4 σ H4 y z' u w' Q I4 r2 r4 q4))
theorem uY{op Hq:CmpOp}{r r':R2}(ho:EK X (compareOp op) r)(Hv:EK X (compareOp Hq) r')(ha:PE X a ta)(hb:PE X b tb)(hc:PE X c tc)
  (hm:lastMarks [op,Hq] [b,c]=false:=by with_unfolding_all rfl):PT X (.Compare a [op,Hq] [b,c] pos) (zO (rL r r' ta tb tc)):=by
 intro py s σ H Q I h;refine isTrue_chain (Ez (ha py s σ H _ I h) fun v s1 ⟨x,H1,I1,r1,q1⟩=>test_link (Ez (hb py s1 σ H1 _ I1 q1) fun u s2 ⟨y,H2,I2,r2,q2⟩=>
  Ez (ho py s2 σ H2 x y v u _ I2 r1 r2 q2) fun d s3 ⟨z,H3,I3,r3,k,e,q3⟩=>?_)) hm
 subst e;cases r3;refine Pt ?_;cases k with
 |false=>
  obtain⟨k',e',q'⟩:=q3;cases e';exact ite_ff ⟨H3,I3,q'⟩
 |true=>
  refine ite_tt (test_last (Ez (hc py s3 σ H3 _ I3 q3) fun w' s4 ⟨z',H4,I4,r4,q4⟩=>Ez (Hv py s4 σ H4 y z' u w' _ I4 r2 r4 q4) fun d' s5 Ex=>?_));obtain⟨z2,H5,I5,r5,k2,e2,q5⟩:=Ex;subst e2;cases r5;exact Pt ⟨H5,I5,q5⟩
theorem mv:(sizeLine:Nat)<2 ^ 63:=by rw[Pq];decide
theorem qk:EK X (binaryOp .Add) (fun x y H Q=>∃i j,x=.str i/\y=.str j/\i.length+j.length<=sizeLine/\Q (.str (i++j)) H):=by
 intro py s σ H x y v u Q I rx ry h;obtain⟨i,j,rfl,rfl,hz,q⟩:=h;obtain⟨t,rfl⟩:=rx;obtain⟨t',rfl⟩:=ry;exact add_str (fun t' tk=>⟨.str (i++j),H,I.tok _,⟨_,rfl⟩,q⟩) hz
theorem eJ{x:V}{us:List Value}(r:Vals [x] us):∃u,us=[u]/\RelV x u:=by
 cases r with
 |cons r1 r2=>cases r2;exact⟨_,rfl,r1⟩
theorem xy{x y:V}{us:List Value}(r:Vals [x,y] us):∃u w',us=[u,w']/\RelV x u/\RelV y w':=by
 cases r with
 |cons r1 r2=>
  cases r2 with
  |cons r3 r4=>cases r4;exact⟨_,_,rfl,r1,r3⟩
end
section
variable{prog:Program}{w:World}{A:Around}{E:Value->Shared->Prop}{s:Shared}{K:W.Frag}{x dx C f:Addr}{mA:Str->Option Value}{name:Str}{v:Value}
end
theorem RelO.none_of{o:Option Value}(r:RelO none o):o=none:=by
 cases o with
 |none=>rfl
 |some u=>exact(show False from r).elim
section
variable{P:Program}{w:World}{H H':Hp}{h h':Heap}{a C dx:Addr}{fs fs':List (Str×V)}
end
structure Cls(K:W.Frag)(C:Addr):Prop where
 pg:PySem.W.plainGet K C Str.empty=true
 hd:PySem.W.hasDictIn K C=true
 po:PySem.W.plainOver K C=true
 sa:PySem.W.findIn K (.ref C) "__setattr__" = some (some (.builtin "object.__setattr__"))
theorem Cls.get{K:W.Frag}{C:Addr}(c:Cls K C)(f:Str):PySem.W.plainGet K C f=true:=c.pg
section
variable{X:Cx}{py:List (Addr×Obj)}{σ:St}{H:Hp}{s:Shared}{a C dx:Addr}{fs:List (Str×V)}{f:Str}{v:V}{A:Around}{E:Value->Shared->Prop}
end
section
variable{X:Cx}{o e value:Expr}{f:Str}{pos pos' Ky:Pos}{ta tv:TE}
end
section
variable{X:Cx}{py:List (Addr×Obj)}{σ:St}{H:Hp}{s:Shared}{A:Around}{E:Value->Shared->Prop}{Q:Value->Shared->Prop}{c:Value}{b:Bool}
end
structure Room(k:Nat)(A:Around):Prop where
 hd:A.handled=none
 dp:A.depth+3*k+5<recursionLimit
 un:A.units+16*k+200<cLine
theorem Room.mono{j k:Nat}{A:Around}(r:Room k A)(h:j<=k):Room j A:=⟨r.hd,by have:=r.dp;lia,by have:=r.un;lia⟩
theorem Room.m{j k:Nat}{A:Around}(r:Room k A)(h:j<=k:=by decide):Room j A:=r.mono h
theorem Room.deeper{k:Nat}{A:Around}(r:Room (k+1) A)(env:Env):Room k (A.deeper env):=
 ⟨r.hd,by have:=r.dp;show A.depth+1+3*k+5<_;lia,by have:=r.un;show A.units+3+16*k+200<_;lia⟩
theorem Room.depth{k:Nat}{A:Around}(r:Room k A):A.depth<recursionLimit:=by have:=r.dp;lia
theorem Room.units{k:Nat}{A:Around}(r:Room k A):A.units+64<cLine:=by have:=r.un;lia
theorem Room.units0{k:Nat}{A:Around}(r:Room k A):A.units<cLine:=by have:=r.un;lia
def BI:TA:=fun _ H Q=>Q [] H
def uZ(ta:TE)(tr:TA):TA:=fun σ H Q=>ta σ H fun x H1=>tr σ H1 fun xs H2=>Q (x::xs) H2
section
variable{X:Cx}{e:Expr}{es:List Expr}{te:TE}{t:TA}{pos:Pos}
theorem iG:PA X [] BI:=fun _ _ _ _ H Q I h=>Calls.spliced_nil ⟨[],H,I,.nil,h⟩
theorem dZ(ha:PE X e te)(hr:PA X es t)(hs:starEach (e::es) X.env=(false,eval e X.env)::starEach es X.env:=by rfl):PA X (e::es) (uZ te t):=by
 intro pos py s σ H Q I h;rw[hs];show wpAny _ _ (spliced ((false,eval e X.env)::backTo pos (starEach es X.env))) _ _ s;refine Calls.spliced_cons (Ez (ha py s σ H _ I h) fun u s1 Ex=>?_);obtain⟨x,H1,I1,r1,q1⟩:=Ex;exact Ez (hr pos py s1 σ H1 _ I1 q1) fun us s2 ⟨xs,H2,I2,r2,q2⟩=>⟨x::xs,H2,I2,.cons r1 r2,q2⟩
def DF(t:TA):TE:=fun σ H Q=>t σ H fun xs H1=>xs.length<=sizeLine/\∀p,H1 p=none->Q (.ref p) (upd H1 p (.tup xs))
def DH(t:TA):TE:=fun σ H Q=>t σ H fun xs H1=>xs.length<=sizeLine/\∀p,H1 p=none->Q (.ref p) (upd H1 p (.lst xs))
theorem wg{x1}(h:PA X es t):PE X (.Tuple es x1 pos) (DF t):=by
 intro py s σ H Q I hq;refine wpAny_Tuple_spliced (Ez (h pos py s σ H _ I hq) fun us s1 ⟨xs,H1,I1,r,z,q⟩=>⟨by rw[<-r.length];exact z,?_⟩);have hf:H1 s1.heap.objs.size=none:=I1.hok.fresh (Ou _);refine⟨.ref s1.heap.objs.size,upd H1 s1.heap.objs.size (.tup xs),I1.laid (t':=s1.toks) (fun b u e=>Heap.get?_push_of_some _ e) (Ou _) ?_,rfl,q _ hf⟩;exact⟨z,us,r,⟨_,Heap.get?_push_size _ rfl,rfl,⟨_,rfl⟩,rfl⟩⟩
theorem wj(h:PA X es t):PE X (.List es pos) (DH t):=by
 intro py s σ H Q I hq;refine wpAny_List_spliced (Ez (h pos py s σ H _ I hq) fun us s1 ⟨xs,H1,I1,r,z,q⟩=>⟨by rw[<-r.length];exact z,?_⟩);have hf:H1 s1.heap.objs.size=none:=I1.hok.fresh (Ou _);refine⟨.ref s1.heap.objs.size,upd H1 s1.heap.objs.size (.lst xs),I1.laid (t':=s1.toks) (fun b u e=>Heap.get?_push_of_some _ e) (Ou _) ?_,rfl,q _ hf⟩;exact⟨z,us,0,r,Heap.get?_push_size _ rfl⟩
end
abbrev Sp:=List V->Hp->VK->XK->Prop
abbrev CXT:=List Env->Hp->Shared->XK->Value->Shared->Prop
structure Env0(P:Program)(w:World)(K:W.Frag)(mg:Str->Option Value)(base:Heap)(A:Around)(outer:List Env)(s:Shared)(H:Hp):Prop where
 frames:A.frames=some outer
 mod:Mod K mg base
 bs:∀b o,base.get? b=some o->s.heap.get? b=some o/\H b=none
 bsz:base.objs.size<=s.heap.objs.size
 funs:s.heap.FunFrames base outer
 frf:∀b∈Ip outer,H b=none
 hok:HOk P w H s.heap
 bare:AllBare s.gens
def CE(outer:List Env)(P:Program)(w:World)(H:Hp)(s:Shared)(Q:VK)(u:Value)(s':Shared):Prop:=
 ∃v H',s'.os=s.os/\AllBare s'.gens/\Un (Ip outer) [] H H' s.heap s'.heap/\HOk P w H' s'.heap/\RelV v u/\Q v H'
def CR(CX:CXT)(outer:List Env)(P:Program)(w:World)(H:Hp)(s:Shared)(Q:VK)(E:XK)(r:Result)(s':Shared):Prop:=
 match r with
 | .ok (.ret u)=>CE outer P w H s Q u s'
 | .ok _=>False
 | .error e=>CX outer H s E e s'
structure FnOk(P:Program)(w:World)(K:W.Frag)(mg:Str->Option Value)(base:Heap)(CX:CXT)(k:Nat)(f:Addr)(fd:FuncData)(ps:List Str)(sp:Sp):Prop where
 len:∀vs H Q E,sp vs H Q E->vs.length=ps.length
 run:∀(A:Around) (outer:List Env) (s:Shared) (H:Hp) (args:Args) (us:List Value) (vs:List V) (Q:VK) (E:XK),Room k A->Env0 P w K mg base A outer s H->BindsTo s fd args (ps.zip us)->Vals vs us->sp vs H Q E->
  codeAny (model P w) A (.call (.ref f) args) (CR CX outer P w H s Q E) s
theorem FnOk.imp{P:Program}{w:World}{K:W.Frag}{mg:Str->Option Value}{base:Heap}{CX:CXT}{k:Nat}{f:Addr}{fd:FuncData}{ps:List Str}{sp NH:Sp}(F:FnOk P w K mg base CX k f fd ps sp)
  (h:∀vs H Q E,NH vs H Q E->sp vs H Q E):FnOk P w K mg base CX k f fd ps NH:=
 ⟨fun vs H Q E q=>F.len vs H Q E (h _ _ _ _ q),fun A outer s H args us vs Q E hr he hb hv hs=>F.run A outer s H args us vs Q E hr he hb hv (h _ _ _ _ hs)⟩
section
variable{X:Cx}{py:List (Addr×Obj)}{σ:St}{H:Hp}{s s':Shared}
theorem Inv.env0(I:Inv X py σ H s):Env0 X.prog X.w X.K X.mg X.base X.A X.stack s H:=
 ⟨I.ok.frames,I.ok.mod,I.bs,Pc I.ok.bsz I.sz,I.stack,I.stkFree,I.hok,I.bare⟩
theorem Inv.after{Q:VK}{u:Value}(I:Inv X py σ H s)(h:CE X.stack X.prog X.w H s Q u s'):EP X py σ Q u s':=by
 obtain⟨v,H',os,bare,un,hok,r,q⟩:=h;obtain⟨hh,g,d,t,os'⟩:=s';obtain rfl:os'=s.os:=os;exact⟨v,H',I.call (h':=hh) (g':=g) (d':=d) (t':=t) (ch:=[]) un hok bare (fun b z=>absurd z (by simp)),r,q⟩
end
def tCall(sp:Sp)(Kq:List V)(E:XK)(t:TA):TE:=fun σ H Q=>t σ H fun vs H1=>sp (vs++Kq) H1 Q E
def Binds(K:W.Frag)(fd:FuncData)(ps:List Str)(ds:List Value):Prop:=
 ∀(s:Shared) (us:List Value),K.In s.heap->(us++ds).length=ps.length->BindsTo s fd ⟨us,[]⟩ (ps.zip (us++ds))
theorem Binds.all{K:W.Frag}{fd:FuncData}{ps:List Str}(h:∀us:List Value,us.length=ps.length->bindArgs fd ⟨us,[]⟩=pure (ps.zip us)):Binds K fd ps []:=fun s us _ hl=>by
 rw[OL]at hl ⊢;exact .of_eq (h us hl)
def rM(CX:CXT)(X:Cx)(E:XK):Prop:=∀(py:List (Addr×Obj)) (σ:St) (H:Hp) (s:Shared) (e:Value) (s':Shared),Inv X py σ H s->CX X.stack H s E e s'->X.xe e s'
section
variable{X:Cx}{CX:CXT}{k:Nat}{f C:Addr}{fd:FuncData}{ps:List Str}{sp:Sp}{Kq:List V}{ds:List Value}{E:XK}{x m:Str}{p pos apos:Pos}{e o:Expr}{es:List Expr}{ta:TE}{t:TA}
theorem zP{py:List (Addr×Obj)}{σ:St}{H:Hp}{s:Shared}{Q:VK}{us:List Value}{vs:List V}(F:FnOk X.prog X.w X.K X.mg X.base CX k f fd ps sp)(hr:Room k X.A)(hb:Binds X.K fd ps ds)(hd:Vals Kq ds)(hx:rM CX X E)
  (I:Inv X py σ H s) (r:Vals vs us) (h:sp (vs++Kq) H Q E):wpAny (model X.prog X.w) X.A (call (.ref f) us) (EP X py σ Q) X.xe s:=by
 have r2:Vals (vs++Kq) (us++ds):=r.append hd;have hl:(us++ds).length=ps.length:=by rw[<-r2.length];exact F.len _ _ _ _ h
 refine wpAny_call (codeAny_mono (F.run X.A X.stack s H ⟨us,[]⟩ (us++ds) (vs++Kq) Q E hr I.env0 (hb s us I.kIn hl) r2 h) fun r s' hq=>?_);cases r with
 |error e=>exact hx py σ H s e s' I hq
 |ok fl=>
  cases fl with
  |ret u=>exact I.after hq
  |next=>exact False.elim hq
  |brk=>exact False.elim hq
  |cont=>exact False.elim hq
theorem xA(F:FnOk X.prog X.w X.K X.mg X.base CX k f fd ps sp)(hr:Room k X.A)(hg:Gl X x)(hm:X.mg x=some (.ref f))(hk:PySem.W.keepIn X.K (.ref f)=true)(hb:Binds X.K fd ps ds)(hd:Vals Kq ds)(hx:rM CX X E)
  (ha:PA X (e::es) t) (GJ:(x==("__debug__" : Str))=false:=by decide) (he:starEach (e::es) X.env=(false,eval e X.env)::starEach es X.env:=by rfl) (Gp:(backTo pos (starEach es X.env)).any (·.1)=false:=by rfl):
  PE X (.Call (.Name x p) (e::es) [] pos) (tCall sp Kq E t):=by
 intro py s σ H Q I h;refine Qm (rp I hg hm ?_ GJ);refine PySem.W.callWith_K (h₀:=X.base) I.ok.mod.kin hk (Ez (ha pos py s σ H _ I h) fun us s1 ⟨vs,H1,I1,r,q⟩=>⟨I1.kIn,?_⟩) he Gp;exact zP F hr hb hd hx I1 r q
end
def PK(X:Cx)(LL:List Keyword)(t:TA):Prop:=
 ∀(pos:Pos) (py:List (Addr×Obj)) (s:Shared) (σ:St) (H:Hp) (Q:List V->Hp->Prop),Inv X py σ H s->t σ H Q->wpAny (model X.prog X.w) X.A (evalAll ((backToKw pos (keywordEach LL X.env)).map (·.2))) (AP X py σ Q) X.xe s
section
variable{X:Cx}{CX:CXT}{k:Nat}{f C:Addr}{fd:FuncData}{ps ks:List Str}{sp:Sp}{E:XK}{x m:Str}{p pos apos IG:Pos}{e o:Expr}{es:List Expr}{LL:List Keyword}{te ta:TE}{t tk:TA}{nm:Option Str}
theorem zQ:PK X [] BI:=fun _ _ _ _ H Q I h=>wpAny_evalAll_nil ⟨[],H,I,.nil,h⟩
theorem xB(ha:PE X e te)(hr:PK X LL t):PK X (⟨nm,e,IG⟩::LL) (uZ te t):=by
 intro pos py s σ H Q I h;show wpAny _ _ (evalAll ((do let v <-eval e X.env;standAt pos;pure v)::(backToKw pos (keywordEach LL X.env)).map (·.2))) _ _ s;refine wpAny_evalAll_cons (Oj (Ez (ha py s σ H _ I h) fun u s1 ⟨x,H1,I1,r1,q1⟩=>Oj (wpAny_standAt (Oq ?_))));exact Ez (hr pos py s1 σ H1 _ I1 q1) fun us s2 ⟨xs,H2,I2,r2,q2⟩=>⟨x::xs,H2,I2,.cons r1 r2,q2⟩
variable{g:List Value->List Value->List Value}{gV:List V->List V->List V}
end
structure FnScope(N P:List Str)(sc:Scope):Prop where
 kind:sc.kind=.function
 co:sc.isCoroutine=false
 gen:sc.isGenerator=false
 nd:N.Nodup
 pre:N.take P.length=P
 par:∀x∈P,sc.names.lookup x=some .local\/sc.names.lookup x=some .cell
 nofree:∀y∈sc.names,y.2≠.free
theorem fs{N P:List Str}{sc:Scope}(a:sc.kind=.function:=by rfl)(b:sc.isCoroutine=false:=by rfl)(c:sc.isGenerator=false:=by rfl)(d:N.Nodup:=by decide +kernel)(e:N.take P.length=P:=by rfl)(f:∀x∈P,sc.names.lookup x=some .local\/sc.names.lookup x=some .cell:=by decide +kernel)(g:∀y∈sc.names,y.2≠.free:=by decide +kernel):FnScope N P sc:=⟨a,b,c,d,e,f,g⟩
theorem mw{kindOf:Str->Option NameKind}{x:Str}:∀{binds:List (Str×Value)}{m:Str->Option Value},(∀v,(x,v)∉binds)->bindL kindOf binds m x=m x
 |[],_,_=>rfl
 |(n,v)::r,m,h=>by
  unfold bindL;rw[mw fun w hw=>h w (Ot _ hw)];split
  ·have:x≠n:=by rintro rfl;exact h v Ol
   simp[this]
  ·rfl
theorem mx{kindOf:Str->Option NameKind}{x:Str}:∀{binds:List (Str×Value)}{m:Str->Option Value},(∀v,(x,v)∉binds)->bindC kindOf binds m x=m x
 |[],_,_=>rfl
 |(n,v)::r,m,h=>by
  unfold bindC;rw[mx fun w hw=>h w (Ot _ hw)];split
  ·rfl
  ·have:x≠n:=by rintro rfl;exact h v Ol
   simp[this]
theorem my{kindOf:Str->Option NameKind}{x:Str}{v:Value}:∀{P:List Str}{vs:List Value}{i:Nat}{m:Str->Option Value},P.Nodup->P[i]?=some x->vs[i]?=some v->kindOf x=some .local->
  bindL kindOf (P.zip vs) m x=some v
 |[],_,_,_,_,h,_,_=>by simp at h
 |_::_,[],_,_,_,_,h,_=>by simp at h
 |p::P,w::vs,0,m,nd,h1,h2,hk=>by
  simp at h1 h2;subst h1;subst h2;show bindL kindOf ((p,w)::P.zip vs) m p=_;unfold bindL;rw[mw fun v hv=>(O5.mp nd).1 (RN hv).1,Ow hk];simp
 |p::P,w::vs,i+1,m,nd,h1,h2,hk=>by
  show bindL kindOf ((p,w)::P.zip vs) m x=_;unfold bindL;exact my (i:=i) (O5.mp nd).2 (by simpa using h1) (by simpa using h2) hk
theorem mz{kindOf:Str->Option NameKind}{x:Str}{v:Value}:∀{P:List Str}{vs:List Value}{i:Nat}{m:Str->Option Value},P.Nodup->P[i]?=some x->vs[i]?=some v->kindOf x≠some .local->
  bindC kindOf (P.zip vs) m x=some v
 |[],_,_,_,_,h,_,_=>by simp at h
 |_::_,[],_,_,_,_,h,_=>by simp at h
 |p::P,w::vs,0,m,nd,h1,h2,hk=>by
  simp at h1 h2;subst h1;subst h2;show bindC kindOf ((p,w)::P.zip vs) m p=_;unfold bindC;rw[mx fun v hv=>(O5.mp nd).1 (RN hv).1,OB hk];simp
 |p::P,w::vs,i+1,m,nd,h1,h2,hk=>by
  show bindC kindOf ((p,w)::P.zip vs) m x=_;unfold bindC;exact mz (i:=i) (O5.mp nd).2 (by simpa using h1) (by simpa using h2) hk
def start(N:List Str)(vs:List V):St:=vs.map some++List.replicate (N.length-vs.length) none
noncomputable def wm(CX:CXT)(P:Program)(w:World)(K:W.Frag)(mg:Str->Option Value)(base:Heap)(N:List Str)(qual:Str)(scope:Scope)(f:Addr)(cd:Value)(A:Around)(outer:List Env)(s:Shared)(H:Hp)(E:XK):Cx where
 prog:=P
 w:=w
 K:=K
 mg:=mg
 base:=base
 A:=A.deeper (envOfC qual scope s.heap.objs.size f cd)
 N:=N
 s₀:=s
 H₀:=H
 env:=envOfC qual scope s.heap.objs.size f cd
 outer:=outer
 stack:=envOfC qual scope s.heap.objs.size f cd::outer
 ex:=[]
 calm:=true
 fn:=fun _=>true
 pn:=[]
 xe:=fun e s'=>wpAny (model P w) (A.deeper (envOfC qual scope s.heap.objs.size f cd)) (leaving (envOfC qual scope s.heap.objs.size f cd) e) (fun _ M3=>CX outer H s E e M3) (fun e' M3=>CX outer H s E e' M3) s'
theorem o3{sc:Scope}{n:Nat}{x:Str}(h:sc.names.lookup x=some .cell):∃c,(cellsFrom n sc.names []).lookup x=some c:=by
 have q:=RC sc.names n [] (.inl h);exact Qx.mp q
theorem rN{CX:CXT}{P:Program}{w:World}{K:W.Frag}{mg:Str->Option Value}{base:Heap}{N ps:List Str}{qual:Str}{scope:Scope}{f:Addr}{cd:Value}{A:Around}{outer:List Env}{s s1:Shared}{H:Hp}{E:XK}{us:List Value}{vs:List V}
  (S:FnScope N ps scope) (hd:A.handled=none) (e0:Env0 P w K mg base A outer s H) (hl:vs.length=ps.length) (r:Vals vs us)
  (x:InCallC s s.heap.objs.size (bindL (envOfC qual scope s.heap.objs.size f cd).kindOf (ps.zip us) fun _=>none) (cellsFrom (s.heap.objs.size+1) scope.names []) (bindC (envOfC qual scope s.heap.objs.size f cd).kindOf (ps.zip us) fun _=>none) s1):
  Inv (wm CX P w K mg base N qual scope f cd A outer s H E) [] (start N vs) H s1:=by
 have Gp:ps.length<=N.length:=by have:=PF List.length S.pre;rw[O3]at this;lia
 obtain⟨h1,tk,rfl,hk⟩:=x.done;have LM:∀b:Addr,b∉(wm CX P w K mg base N qual scope f cd A outer s H E).ex:=fun b z=>absurd (show b∈([]:List Addr) from z) (by simp)
 refine⟨⟨e0.mod,S.kind,rfl,rfl,Ou _,fun y z c h1 h2=>?_,fun y hy=>?_,fun y c _ h=>?_,fun _=>hd,Around.frames_deeper e0.frames,.inr ⟨rfl,rfl⟩,fun b z=>absurd z (LM b),e0.bs,e0.bsz,fun b _ _=>LM b,fun b z=>absurd z (LM b),e0.funs,e0.frf⟩,
  rfl,e0.bare,Un.kept hk,⟨_,x.toInCall.ns,fun i y v h1 h2 h3=>?_⟩,fun y c h=>⟨_,x.cell y c h⟩,e0.hok.fresh (Ou _),fun y c h=>?_,fun p hp=>absurd (show p∈([]:List (Addr×Obj)) from hp) (by simp),e0.hok.kept hk,?_⟩
 ·exact name_of_addr x.apart (P4 h1) (P4 h2)
 ·have hy:scope.names.lookup y=some .cell\/scope.names.lookup y=some .free:=hy;rcases hy with hy|hy
  ·exact o3 hy
  ·exact absurd rfl (S.nofree _ (P4 hy))
 ·exact RL (x.above y c (P4 h))
 ·have hi:i<vs.length:=by
   unfold start at h2;by_cases hi:i<vs.length
   ·exact hi
   ·rw[List.getElem?_append_right (by simpa using hi)]at h2;rw[List.getElem?_replicate]at h2;split at h2 <;> cases h2
  have ha:vs[i]?=some v:=by
   unfold start at h2;rw[List.getElem?_append_left (by simpa using hi),List.getElem?_map]at h2;cases e:vs[i]? with
   |none=>rw[e]at h2;cases h2
   |some a=>rw[e]at h2;cases h2;rfl
  obtain⟨u,hu,rv⟩:=r.get ha;have hp:ps[i]?=some y:=by
   rw[<-S.pre,List.getElem?_take_of_lt (by lia)];exact h1
  have NI:ps.Nodup:=by rw[<-S.pre];exact S.nd.sublist (List.take_sublist _ _)
  refine⟨u,rv,?_⟩;rcases S.par y (O2 hp) with k|k
  ·exact .inl ⟨k,my NI hp hu k⟩
  ·obtain⟨c,e⟩:=o3 (n:=s.heap.objs.size+1) k;refine .inr ⟨.inl k,c,e,?_⟩;have q:=x.cell y c e;rw[mz NI hp hu (by show scope.names.lookup y≠_;rw[k];decide)]at q;exact q
 ·exact e0.hok.fresh (RL (x.above y c (P4 h)))
 ·unfold start;show _=N.length;rw[OW,Om,List.length_replicate];lia
theorem B6{CX:CXT}{P:Program}{w:World}{K:W.Frag}{mg:Str->Option Value}{base:Heap}{k:Nat}{f:Addr}{name qual:Str}{params:Arguments}{body:List Stmt}{scope:Scope}{dV kV doc pm ED ct oc:Value}{an od:Option Addr}
  {Jx:Array (Option Value)}{N ps:List Str}{sp:Sp}(lk:K.lookup f=some ⟨oc,od,.func (PySem.W.fnOf name qual params body scope dV kV doc pm an ED ct),Jx⟩) (IY:PySem.W.codeIn K ED qual=true) (S:FnScope N ps scope)
  (len:∀vs H Q E,sp vs H Q E->vs.length=ps.length)
  (IZ:∀(A:Around) (outer:List Env) (s:Shared) (H:Hp) (vs:List V) (Q:VK) (E:XK),Room k (A.deeper (envOfC qual scope s.heap.objs.size f ED))->sp vs H Q E->
   ∃t,PSs (wm CX P w K mg base N qual scope f ED A outer s H E) body t/\t {nx:=fun _ H'=>Q .non H',rt:=Q} (start N vs) H):
  FnOk P w K mg base CX (k+1) f (PySem.W.fnOf name qual params body scope dV kV doc pm an ED ct) ps sp:=by
 refine⟨len,fun A outer s H args us vs Q E hr e0 hb r HQ=>?_⟩;have hl:=len _ _ _ _ HQ;have KX:K.In s.heap:=e0.mod.kin.keeps fun b o e=>(e0.bs b o e).1
 have lim:s.heap.NoLimit:=e0.mod.nolimit.keeps fun b o e=>(e0.bs b o e).1
 have Gr:∀y∈ps.zip us,scope.names.lookup y.1=some .local\/(scope.names.lookup y.1=some .cell/\((cellsFrom (s.heap.objs.size+1) scope.names []).lookup y.1).isSome=true):=fun Eo hy=>by
  obtain⟨n,v⟩:=Eo;rcases S.par n (RN hy).1 with q|q
  ·exact .inl q
  ·exact .inr ⟨q,RC _ _ _ (.inl q)⟩
 refine codeAny_call_function hr.depth (KX _ _ lk) rfl S.co S.gen rfl (PySem.W.codeRec_of KX IY) (hb _ _ _ _ ?_);refine wpAny_newFunctionEnv_cells S.kind Gr fun env he s1 x=>?_
 subst he;refine⟨lim.keeps x.toInCall.keep,codeAny_func ?_⟩;obtain⟨t,ht,hq⟩:=IZ A outer s H vs Q E (hr.deeper _) HQ;have I:Inv (wm CX P w K mg base N qual scope f ED A outer s H E) [] (start N vs) H s1:=rN S hr.hd e0 hl r x;refine R4 (ht [] s1 (start N vs) H _ I hq) (fun fl s' hs=>?_) fun e s' hs=>hs
 have fin:∀{σ':St}{H':Hp}{v:V}{u:Value},Inv (wm CX P w K mg base N qual scope f ED A outer s H E) [] σ' H' s'->RelV v u->Q v H'->CE outer P w H s Q u s':=
  fun{σ' H' v u} J rv q=>⟨v,H',J.os,J.bare,J.base,J.hok,rv,q⟩
 cases fl with
 |ret u=>
  obtain⟨v,σ',H',J,rv,q⟩:=hs;exact fin J rv q
 |next=>
  obtain⟨σ',H',J,q⟩:=hs;exact fin (v:=V.non) (u:=Value.none) J rfl q
 |brk=>
  obtain⟨_,_,_,q⟩:=hs;exact False.elim q
 |cont=>
  obtain⟨_,_,_,q⟩:=hs;exact False.elim q
section
variable{X:Cx}{x:Str}{p pos:Pos}{e:Expr}{es:List Expr}{t:TA}{id T:String}{r:List V->Hp->VK->Prop}
def M4(r:List V->Hp->VK->Prop)(t:TA):TE:=fun σ H Q=>t σ H fun vs H1=>r vs H1 Q
theorem o4(hc:c5 X (.builtin id) r)(hg:Gl X x)(hm:X.mg x=none)(hv:bootBuiltins x=some (.builtin id))(ha:PA X (e::es) t)(hn:x≠"__name__":=by decide)(GJ:(x==("__debug__" : Str))=false:=by decide)
  (he:starEach (e::es) X.env=(false,eval e X.env)::starEach es X.env:=by rfl) (Gp:(backTo pos (starEach es X.env)).any (·.1)=false:=by rfl):PE X (.Call (.Name x p) (e::es) [] pos) (M4 r t):=by
 intro py s σ H Q I h;refine Qm (jt I hg hm hv ?_ hn GJ);exact PyProof.Rows.callWith_builtin1 (Ez (ha pos py s σ H _ I h) fun us s1 ⟨vs,H1,I1,r1,q1⟩=>hc py s1 σ H1 vs us Q I1 r1 q1) he Gp
theorem rO(hc:c5 X (.type T) r)(hg:Gl X x)(hm:X.mg x=none)(hv:bootBuiltins x=some (.type T))(ha:PA X (e::es) t)(hn:x≠"__name__":=by decide)(GJ:(x==("__debug__" : Str))=false:=by decide)
  (he:starEach (e::es) X.env=(false,eval e X.env)::starEach es X.env:=by rfl) (Gp:(backTo pos (starEach es X.env)).any (·.1)=false:=by rfl):PE X (.Call (.Name x p) (e::es) [] pos) (M4 r t):=by
 intro py s σ H Q I h;refine Qm (jt I hg hm hv ?_ hn GJ);exact P2 (Ez (ha pos py s σ H _ I h) fun us s1 ⟨vs,H1,I1,r1,q1⟩=>hc py s1 σ H1 vs us Q I1 r1 q1) he Gp
end
end L2
namespace HT
open PySem PyProof.Rows
section
open PySem.SeqAt
open PySem.AutoSeq1 (wpAny_loadPart')
open PySem.MeetsSeq PySem.MeetsSeq2 PySem.MeetsSeq3
end
section
variable{prog:Program}{w:World}{A:Around}{E:Value->Shared->Prop}{s:Shared}
theorem xC{t b:Addr}{vs ws:List Value}{Q:Value->Shared->Prop}(ht:IsTup s.heap t vs.toArray)(hb:IsTup s.heap b ws.toArray)(hv:vs≠[])
  (h1:ws=[]->Q (.ref t) s) (h2:ws≠[]->Q (.ref s.heap.objs.size) {s with heap:=s.heap.push {cls:=.type "tuple",data:=.seq (vs++ws).toArray}})
  (hsz:vs.length+ws.length<=sizeLine):wpAny (model prog w) A (binaryOp .Add (.ref t) (.ref b)) Q E s:=by
 obtain⟨⟨cls,dd,data,sl⟩,ho,hc,n,hd⟩:=id ht;obtain⟨⟨Kz,IU,data2,IV⟩,Fs,IH,n2,hd2⟩:=id hb;simp only at hc hd IH hd2;subst hc hd IH hd2;have e:vs.toArray++ws.toArray=(vs++ws).toArray:=by simp
 by_cases hw:ws=[]
 ·exact concat_meets ⟨_,ho,rfl⟩ ⟨_,Fs,rfl⟩ noFill_tuple_add seq_tuple_add RD Ru (Rj _ _)
   (tuple_addW1 t b vs.toArray ws.toArray n n2 dd IU sl IV (by simpa using hv) (by simp[hw])) ⟨ho,Fs,h1 hw⟩
 ·refine concat_meets ⟨_,ho,rfl⟩ ⟨_,Fs,rfl⟩ noFill_tuple_add seq_tuple_add RD Ru (Rj _ _)
   (tuple_addW2 t b vs.toArray ws.toArray n n2 dd IU sl IV (by simpa using hv) (by simpa using hw) (by rw[Ov,Ov];exact hsz)) ⟨ho,Fs,?_⟩
  rw[e];exact h2 hw
def sIx(n d:Nat):Option Int->Nat
 |none=>d
 |some v=>if v<0 then(v+(n:Int)).toNat else min v.toNat n
theorem kZ(n d:Nat):sIx n d none=d:=rfl
theorem nV(n d k:Nat):sIx n d (some (k:Int))=min k n:=by
 show(if(k:Int)<0 then((k:Int)+(n:Int)).toNat else min (k:Int).toNat n)=min k n;rw[OB (by lia),Qr]
theorem rP(n d:Nat)(hd:d<=n)(o:Option Int):sIx n d o<=n:=by
 cases o with
 |none=>exact hd
 |some v=>
  show(if v<0 then(v+(n:Int)).toNat else min v.toNat n)<=n;by_cases hv:v<0
  ·rw[Ow hv];lia
  ·rw[OB hv];exact Nat.min_le_right _ _
theorem rQ(v:Int)(n d:Nat):(if v<0 then max (v+(n:Int)) 0 else min v (n:Int))=((sIx n d (some v):Nat):Int):=by
 show(if v<0 then max (v+(n:Int)) 0 else min v (n:Int))=(((if v<0 then(v+(n:Int)).toNat else min v.toNat n):Nat):Int)
 by_cases hv:v<0
 ·simp only[Ow hv];lia
 ·simp only[OB hv];lia
theorem ql(lo hi:Option Int)(n:Nat):Builtin.Slice.sliceAdjust lo hi 1 (n:Int)=(((sIx n 0 lo:Nat):Int),((sIx n n hi:Nat):Int)):=by
 have h1:¬ ((1:Int)<0):=by lia
 unfold Builtin.Slice.sliceAdjust;simp only[h1,Rg];refine Prod.ext ?_ ?_
 ·cases lo with
  |none=>rfl
  |some v=>exact rQ v n 0
 ·cases hi with
  |none=>rfl
  |some v=>exact rQ v n n
theorem qm(i j:Nat):Builtin.Slice.slicePlaces (i:Int) (j:Int) 1=j-i:=by
 unfold Builtin.Slice.slicePlaces;have h1:(1:Int)>0:=by lia
 simp only[h1,QR,Int.ediv_one];split <;> lia
theorem kz{v:Value}{o:Option Int}{Q:Option Int->Shared->Prop}(p:IsPart v o)(h:Q o s):wpAny (model prog w) A (Builtin.Slice.slicePartIndex v) Q E s:=by
 cases p with
 |none=>exact slicePart_none h
 |int i t=>exact slicePart_int h
theorem eX{sl:Addr}{vl vu:Value}{lo hi:Option Int}{n:Nat}{Q:Int×Int×Nat->Shared->Prop}(hs:s.heap.IsSliceOf sl vl vu .none)(pl:IsPart vl lo)(pu:IsPart vu hi)
  (h:Q (((sIx n 0 lo:Nat):Int),1,sIx n n hi-sIx n 0 lo) s):wpAny (model prog w) A (Builtin.Slice.sliceApplied (.ref sl) (pure (n:Int))) Q E s:=by
 obtain⟨os,KA,MC,Iq⟩:=id hs;unfold Builtin.Slice.sliceApplied Builtin.Slice.sliceFields;refine Oj (Oj (Pw KA Iq (x:=vl) rfl (Oj (Pw KA Iq (x:=vu) rfl (Oj (Pw KA Iq (x:=.none) rfl (Oq ?_)))))));refine Oj (slicePart_none ?_);show wpAny _ _ (if((1:Int)==0)=true then _ else _) _ _ s;rw[OB (by decide)];refine Oj (kz pl (Oj (kz pu (Oj (Oq ?_)))));show wpAny _ _ (match Builtin.Slice.sliceAdjust lo hi 1 (n:Int) with|(lo,hi)=>pure (lo,(1:Int),Builtin.Slice.slicePlaces lo hi 1)) _ _ s;rw[ql lo hi n];show wpAny _ _ (pure (((sIx n 0 lo:Nat):Int),(1:Int),Builtin.Slice.slicePlaces ((sIx n 0 lo:Nat):Int) ((sIx n n hi:Nat):Int) 1)) _ _ s;rw[qm];exact Oq h
theorem u0(xs:Array Value)(i k:Nat):((List.range k).filterMap fun(m:Nat)=>xs[((i:Int)+(m:Int)*1).toNat]?).toArray=((xs.toList.drop i).take k).toArray:=by
 have e:(fun(m:Nat)=>xs[((i:Int)+(m:Int)*1).toNat]?)=fun m=>xs[i+m]?:=by
  funext m
  have:((i:Int)+(m:Int)*1).toNat=i+m:=by lia
  rw[this]
 rw[e];have:=pick_run xs i k;rw[List.filterMap_map]at this;have e2:((fun x=>xs[x]?)∘fun x=>i+x)=fun m=>xs[i+m]?:=rfl
 rw[e2]at this;rw[this]
theorem hV{t sl:Addr}{items:Array Value}{vl vu:Value}{lo hi:Option Int}{Q:Value->Shared->Prop}(ht:IsTup s.heap t items)(hs:s.heap.IsSliceOf sl vl vu .none)(pl:IsPart vl lo)(pu:IsPart vu hi)
  (hw:¬ (sIx items.size 0 lo=0/\sIx items.size items.size hi=items.size))
  (h:Q (.ref s.heap.objs.size) {s with heap:=s.heap.push {cls:=.type "tuple",data:=.seq ((items.toList.drop (sIx items.size 0 lo)).take (sIx items.size items.size hi-sIx items.size 0 lo)).toArray}})
  (hsz:items.size<=sizeLine):wpAny (model prog w) A (getItem (.ref t) (.ref sl)) Q E s:=by
 have Ir:sizeOk (.seq ((items.toList.drop (sIx items.size 0 lo)).take (sIx items.size items.size hi-sIx items.size 0 lo)).toArray):=by
  show((items.toList.drop (sIx items.size 0 lo)).take (sIx items.size items.size hi-sIx items.size 0 lo)).toArray.size<=sizeLine;rw[Ov,O3,Px,Pz];lia
 have hj:sIx items.size items.size hi<=items.size:=rP _ _ (Ou _) hi;obtain⟨os,KA,MC,Iq⟩:=id hs;have M5:s.TypeIs (.ref sl) "slice":=⟨os,KA,MC⟩
 unfold getItem;try with_reducible refine Qc ?_
 first|refine Oj (Oq ?_)|skip
 refine Oj (wpAny_sequenceKey ht.typeIs (by decide) ?_);refine Oj (wpAny_callSpecial?_slot (name:=Str.ofString "__getitem__") ht.typeIs PB
  (Ph PB ht.typeIs entry_tuple_getitem ?_ (args_tuple_getitem _ _)))
 show wpAny _ _ (Builtin.Tuple.tupleItemsOf (.ref t) >>= _) _ _ s;refine Oj (tupleItemsOf_ ht ?_);refine Oj (Qy M5 ?_);rw[Ow (by decide)];refine Oj (eX hs pl pu ?_);have LN:¬ ((((sIx items.size 0 lo:Nat):Int)==0&&(1:Int)==1&&(sIx items.size items.size hi-sIx items.size 0 lo)==items.size)=true):=by
  intro q;rw[OG,OG]at q;have q1:((sIx items.size 0 lo:Nat):Int)=0:=eq_of_beq q.1.1;have q2:sIx items.size items.size hi-sIx items.size 0 lo=items.size:=eq_of_beq q.2;exact hw ⟨by lia,by lia⟩
 show wpAny _ _ (if(((sIx items.size 0 lo:Nat):Int)==0&&(1:Int)==1&&(sIx items.size items.size hi-sIx items.size 0 lo)==items.size)=true then _ else _) _ _ s;rw[OB LN,u0];first
  |exact Oj (m:=Builtin.Tuple.tupleExact _) (O9 (Oq ⟨_,rfl,Oq h⟩) Ir)
  |exact Oj (m:=Builtin.Tuple.tupleExact _) (O9 (Oj (Oq (Oq ⟨_,rfl,Oq h⟩))) Ir)
  |exact Oj (Oj (m:=Builtin.Tuple.tupleExact _) (O9 (Oq (Oq ⟨_,rfl,Oq h⟩)) Ir))
  |exact Oj (Oj (m:=Builtin.Tuple.tupleExact _) (O9 (Oq ⟨_,rfl,Oq h⟩) Ir))
end
end HT
namespace L2
open PySem PySem.Spec PyProof.Rows
abbrev TO:=St->Hp->(Option Int->Hp->Prop)->Prop
def PO(X:Cx)(e:Option Expr)(t:TO):Prop:=
 ∀(py:List (Addr×Obj)) (s:Shared) (σ:St) (H:Hp) (Q:Option Int->Hp->Prop),Inv X py σ H s->t σ H Q->
  wpAny (model X.prog X.w) X.A (evalPart e X.env) (fun u s'=>∃o H',Inv X py σ H' s'/\IsPart u o/\Q o H') X.xe s
def xD:TO:=fun _ H Q=>Q none H
def B7(t:TE):TO:=fun σ H Q=>t σ H fun x H1=>∃i,x=.int i/\Q (some i) H1
section
variable{X:Cx}{e:Expr}{te:TE}{lo hi:Option Expr}{tl th:TO}{pos p2:Pos}
theorem xE:PO X none xD:=by
 intro py s σ H Q I h;rw[evalPart_none];exact Oq ⟨none,H,I,.none,h⟩
theorem xF(h:PE X e te):PO X (some e) (B7 te):=by
 intro py s σ H Q I hw;rw[evalPart_some];refine Ez (h py s σ H _ I hw) fun u s1 Ex=>?_
 obtain⟨x,H1,I1,r1,q1⟩:=Ex;obtain⟨i,rfl,q⟩:=q1;obtain⟨t,rfl⟩:=r1;exact⟨some i,H1,I1,.int i t,q⟩
def KC(X:Cx)(r:V->Option Int->Option Int->Hp->VK->Prop):Prop:=
 ∀(py:List (Addr×Obj)) (s:Shared) (σ:St) (H:Hp) (x:V) (v vl vu:Value) (lo hi:Option Int) (sl:Addr) (Q:VK),Inv X py σ H s->RelV x v->s.heap.IsSliceOf sl vl vu .none->IsPart vl lo->IsPart vu hi->r x lo hi H Q->
  ∃T id,typeLookup (.type T) "__getitem__" = pure (some (.builtin id))/\s.TypeIs v T/\wpAny (model X.prog X.w) X.A (getItem v (.ref sl)) (EP X py σ Q) X.xe s
def tSl(r:V->Option Int->Option Int->Hp->VK->Prop)(te:TE)(tl th:TO):TE:=fun σ H Q=>te σ H fun x H1=>tl σ H1 fun l H2=>th σ H2 fun u H3=>r x l u H3 Q
theorem u9{r:V->Option Int->Option Int->Hp->VK->Prop}(hr:KC X r)(he:PE X e te)(hl:PO X lo tl)(hu:PO X hi th):PE X (.Subscript e (.Slice lo hi none p2) pos) (tSl r te tl th):=by
 intro py s σ H Q I h;refine Subscript_ (Ez (he py s σ H _ I h) fun v s1 Ex=>?_);obtain⟨x,H1,I1,r1,q1⟩:=Ex;refine wpAny_Slice (Ez (hl py s1 σ H1 _ I1 q1) fun vl s2 ⟨l,H2,I2,pl,q2⟩=>Ez (hu py s2 σ H2 _ I2 q2) fun vu s3 Ex=>?_);obtain⟨u,H3,I3,pu,q3⟩:=Ex;rw[evalPart_none];refine Oq ?_;have I4:Inv X py σ H3 {s3 with heap:=s3.heap.push {cls:=.type "slice",data:=.fields #[vl,vu,.none]}}:=I3.kept (t':=s3.toks) fun b ob q=>Heap.get?_push_of_some _ q
 obtain⟨T,id,hT,ht,hg⟩:=hr py {s3 with heap:=s3.heap.push {cls:=.type "slice",data:=.fields #[vl,vu,.none]}} σ H3 x v vl vu l u s3.heap.objs.size Q I4 r1 (Heap.IsSliceOf.new ..) pl pu q3;show wpAny (model X.prog X.w) X.A (subscriptTail e (.Slice lo hi none p2) v (.ref s3.heap.objs.size)) (EP X py σ Q) X.xe {s3 with heap:=s3.heap.push {cls:=.type "slice",data:=.fields #[vl,vu,.none]}};exact tail_any (ops:=[.ref s3.heap.objs.size,v]) ht hT hg (by with_unfolding_all rfl)
def wo(xs:List V)(lo hi:Option Int):List V:=(xs.drop (HT.sIx xs.length 0 lo)).take (HT.sIx xs.length xs.length hi-HT.sIx xs.length 0 lo)
theorem ju(xs:List V)(lo hi:Option Int):(wo xs lo hi).length<=xs.length:=by
 unfold wo;rw[O3,Px];lia
def DI(K:W.Frag):V->Option Int->Option Int->Hp->VK->Prop:=fun x lo hi H Q=>∃a xs,x=.ref a/\SqT K H a xs/\
 ¬ (HT.sIx xs.length 0 lo=0/\HT.sIx xs.length xs.length hi=xs.length)/\∀p,H p=none->Q (.ref p) (upd H p (.tup (wo xs lo hi)))
theorem zR:KC X (DI X.K):=by
 intro py s σ H x v vl vu lo hi sl Q I rx hs pl pu h;obtain⟨a,xs,rfl,hx,hw,q⟩:=h;cases rx;obtain⟨Eg,r,ht,hz⟩:=I.tuple hx;have hlen:Eg.toArray.size=xs.length:=by rw[Ov];exact r.length.symm
 refine⟨"tuple",_,PyProof.Rows.slot_tuple_getitem.lookup,ht.typeIs,?_⟩;refine HT.hV ht hs pl pu (by rw[hlen];exact hw) ?_ (by rw[hlen];exact hz);rw[hlen];refine⟨.ref s.heap.objs.size,_,I.laid (t':=s.toks) (o:=.tup (wo xs lo hi)) (fun b ob q=>Heap.get?_push_of_some _ q) (Ou _) ?_,rfl,q _ (I.hok.fresh (Ou _))⟩;exact⟨Pc (ju xs lo hi) hz,_,(r.drop (HT.sIx xs.length 0 lo)).take (HT.sIx xs.length xs.length hi-HT.sIx xs.length 0 lo),IsTupN.new _ _⟩
def B8(K:W.Frag):R2:=fun x y H Q=>∃a b xs ys,x=.ref a/\y=.ref b/\SqT K H a xs/\SqT K H b ys/\xs≠[]/\xs.length+ys.length<=sizeLine/\
 (ys=[]->Q (.ref a) H)/\(ys≠[]->∀p,H p=none->Q (.ref p) (upd H p (.tup (xs++ys))))
theorem Vals.nil_iff{xs:List V}{us:List Value}(r:Vals xs us):us=[]<->xs=[]:=by
 cases r with
 |nil=>simp
 |cons _ _=>simp
theorem xG:EK X (binaryOp .Add) (B8 X.K):=by
 intro py s σ H x y v u Q I rx ry h;obtain⟨a,b,xs,ys,rfl,rfl,ha,hb,hx,hz,q1,q2⟩:=h;cases rx;cases ry;obtain⟨Eg,r1,p1,_⟩:=I.tuple ha;obtain⟨II,r2,p2,_⟩:=I.tuple hb;refine HT.xC p1 p2 (fun z=>hx (r1.nil_iff.mp z)) (fun z=>⟨.ref a,H,I,rfl,q1 (r2.nil_iff.mp z)⟩) (fun z=>?_) (by rw[<-r1.length,<-r2.length];exact hz);refine⟨.ref s.heap.objs.size,_,I.laid (t':=s.toks) (o:=.tup (xs++ys)) (fun b ob q=>Heap.get?_push_of_some _ q) (Ou _) ?_,rfl,q2 (fun w=>z (r2.nil_iff.mpr w)) _ (I.hok.fresh (Ou _))⟩;exact⟨by rw[OW];exact hz,_,r1.append r2,IsTupN.new _ _⟩
end
def ixN(n:Nat)(i:Int):Option Nat:=if 0<=i then(if i<n then some i.toNat else none) else if -(n:Int)<=i then some (i+n).toNat else none
def Ft{α:Type}(xs:List α)(i:Int):Option α:=(ixN xs.length i).bind fun j=>xs[j]?
theorem xH{n:Nat}{i:Int}{j:Nat}(h:ixN n i=some j):seqIndex? i n=some j/\j<n/\-(n:Int)<=i/\i<n:=by
 unfold ixN at h;by_cases h0:0<=i
 ·rw[Ow h0]at h;by_cases h1:i<n
  ·rw[Ow h1]at h;have e:i.toNat=j:=OY h;exact⟨by rw[seqIndex_of h0 h1,e],by lia,by lia,h1⟩
  ·rw[OB h1]at h;cases h
 ·rw[OB h0]at h;by_cases h1:-(n:Int)<=i
  ·rw[Ow h1]at h;have e:(i+n).toNat=j:=OY h;exact⟨by rw[seqIndex_neg (by lia) h1,e],by lia,h1,by lia⟩
  ·rw[OB h1]at h;cases h
theorem nW{α:Type}{xs:List α}{i:Int}{v:α}(h:Ft xs i=some v):∃j,seqIndex? i xs.length=some j/\xs[j]?=some v/\j<xs.length/\-(xs.length:Int)<=i/\i<xs.length:=by
 unfold Ft at h;cases e:ixN xs.length i with
 |none=>rw[e]at h;cases h
 |some j=>
  rw[e]at h;obtain⟨h1,h2,h3,h4⟩:=xH e;exact⟨j,h1,h,h2,h3,h4⟩
theorem dw{α:Type}{xs:List α}{j:Nat}{v:α}(h:xs[j]?=some v):Ft xs (j:Int)=some v:=by
 have hj:j<xs.length:=(List.getElem?_eq_some_iff.mp h).1;have e:ixN xs.length (j:Int)=some j:=by
  unfold ixN;rw[Ow (by lia),Ow (by lia)];simp
 unfold Ft;rw[e];exact h
def nX(b:Expr):Prop:=∀o i,subscripted b false o i=operate [o,i] (getItem o i)
def LO(X:Cx)(r:R2):Prop:=
 ∀(value slice:Expr) (py:List (Addr×Obj)) (s:Shared) (σ:St) (H:Hp) (x y:V) (v u:Value) (Q:VK),Inv X py σ H s->RelV x v->RelV y u->r x y H Q->
  subscripted slice false v u=operate [v,u] (getItem v u)->wpAny (model X.prog X.w) X.A (subscriptTail value slice v u) (EP X py σ Q) X.xe s
def MD(X:Cx)(id:String)(r:V->List V->Hp->VK->Prop):Prop:=
 ∀(py:List (Addr×Obj)) (s:Shared) (σ:St) (H:Hp) (x:V) (xs:List V) (v:Value) (us:List Value) (Q:VK),Inv X py σ H s->RelV x v->Vals xs us->r x xs H Q->
  wpAny (model X.prog X.w) X.A (call (.builtin id) (v::us)) (EP X py σ Q) X.xe s
section
variable{X:Cx}{a b:Expr}{ta tb:TE}{pos:Pos}
theorem xI{r:R2}(hr:LO X r)(ha:PE X a ta)(hb:PE X b tb)(hs:nX b):PE X (.Subscript a b pos) (Lp r ta tb):=by
 intro py s σ H Q I h;exact Subscript_ (BZ ha hb I h fun v u s2 x y H2 I2 rx ry q=>hr a b py s2 σ H2 x y v u Q I2 rx ry q (hs _ _))
def DJ(K:W.Frag):R2:=fun x y H Q=>∃p xs i v,x=.ref p/\y=.int i/\SqL K H p xs/\Ft xs i=some v/\Q v H
def DK(K:W.Frag):R2:=fun x y H Q=>∃p xs i v,x=.ref p/\y=.int i/\SqT K H p xs/\Ft xs i=some v/\Q v H
def DL:R2:=fun x y H Q=>∃z i c,x=.str z/\y=.int i/\z.length<=sizeLine/\Ft z.cps.toList i=some c/\Q (.str ⟨#[c]⟩) H
theorem rR:LO X (DJ X.K):=by
 intro value slice py s σ H x y v u Q I rx ry h hs;obtain⟨p,xs,i,z,rfl,rfl,hq,he,q⟩:=h;cases rx;obtain⟨t,rfl⟩:=ry;obtain⟨Eg,r,pl,hz⟩:=I.list hq;obtain⟨j,h1,h2,h3,h4,h5⟩:=nW he;obtain⟨w,ew,KD⟩:=r.get h2;have hl:=r.length;have hn:=mv;have fin:EP X py σ Q w s:=⟨z,H,I,KD,q⟩
 by_cases h0:0<=i
 ·have hj:i.toNat=j:=by
   rw[seqIndex_of h0 h5]at h1;exact OY h1
  exact item_listR pl.isList h0 (by lia) (by rw[hj];simpa using ew) fin hs
 ·have hj:(i+(Eg.toArray.size:Int)).toNat=j:=by
   rw[seqIndex_neg (by lia) h4]at h1;rw[Ov,<-hl];exact OY h1
  exact subscriptTail_builtinR (x:=w) pl.isList.typeIs slot_list_getitem.lookup
   (wpAny_getItem_list_neg (Q:=fun r s'=>r=w/\EP X py σ Q r s') pl.isList (by lia) (by rw[Ov] <;> lia) (by lia) (by rw[hj];simpa using ew) ⟨rfl,fin⟩) hs
theorem wq:LO X (DK X.K):=by
 intro value slice py s σ H x y v u Q I rx ry h hs;obtain⟨p,xs,i,z,rfl,rfl,hq,he,q⟩:=h;cases rx;obtain⟨t,rfl⟩:=ry;obtain⟨Eg,r,pl,hz⟩:=I.tuple hq;obtain⟨j,h1,h2,h3,h4,h5⟩:=nW he;obtain⟨w,ew,KD⟩:=r.get h2;have hl:=r.length;have hn:=mv;have fin:EP X py σ Q w s:=⟨z,H,I,KD,q⟩
 exact subscriptTail_builtinR (x:=w) pl.typeIs slot_tuple_getitem.lookup
  (getItem_tuple (j:=j) (Q:=fun r s'=>r=w/\EP X py σ Q r s') pl (by lia) (by lia) (by rw[Ov,<-hl];exact h1) (by simpa using ew) ⟨rfl,fin⟩) hs
theorem zS:LO X DL:=by
 intro value slice py s σ H x y v u Q I rx ry h hs;obtain⟨z,i,c,rfl,rfl,hz,he,q⟩:=h;obtain⟨t,rfl⟩:=rx;obtain⟨t',rfl⟩:=ry;obtain⟨j,h1,h2,h3,h4,h5⟩:=nW he;have hl:z.cps.toList.length=z.length:=by simp[Str.length]
 rw[hl]at h1 h4 h5;have hn:=mv;exact tail_any (Rk s z t) slot_str_getitem.lookup (getItem_str (c:=c) (by
  have e1:decide (i < -(2 ^ 63:Int))=false:=OH (by lia);have e2:decide (i>=2 ^ 63)=false:=OH (by lia);rw[e1,e2,Bool.or_false]) (by rw[h1];simpa using h2) ⟨.str ⟨#[c]⟩,H,I.tok _,⟨_,rfl⟩,q⟩) hs
theorem mB(lo hi:Option Int)(n:Nat):(sliceBounds lo hi none n).1=((HT.sIx n 0 lo:Nat):Int)/\(sliceBounds lo hi none n).2.1=((HT.sIx n n hi:Nat):Int)/\(sliceBounds lo hi none n).2.2=1:=by
 refine⟨?_,?_,rfl⟩
 ·cases lo with
  |none=>simp[sliceBounds,HT.sIx]
  |some i=>
   simp only[sliceBounds,HT.sIx,Rz,show(1:Int)>0 by decide,QR];by_cases h:i<0
   ·simp only[h,QR] <;> lia
   ·simp only[h,Rg] <;> lia
 ·cases hi with
  |none=>simp[sliceBounds,HT.sIx]
  |some i=>
   simp only[sliceBounds,HT.sIx,Rz,show(1:Int)>0 by decide,QR];by_cases h:i<0
   ·simp only[h,QR] <;> lia
   ·simp only[h,Rg] <;> lia
theorem k7(Eg:List Value)(lo hi:Option Int):slicePick Eg.toArray lo hi none=((Eg.drop (HT.sIx Eg.length 0 lo)).take (HT.sIx Eg.length Eg.length hi-HT.sIx Eg.length 0 lo)).toArray:=by
 obtain⟨h1,h2,h3⟩:=mB lo hi Eg.toArray.size;unfold slicePick;rw[h1,h2,h3];simp only[sliceRange_one,pick_run,Ov] <;> rfl
def DM(K:W.Frag):V->Option Int->Option Int->Hp->VK->Prop:=fun x lo hi H Q=>∃a xs,x=.ref a/\SqL K H a xs/\∀p,H p=none->Q (.ref p) (upd H p (.lst (wo xs lo hi)))
theorem xJ:KC X (DM X.K):=by
 intro py s σ H x v vl vu lo hi sl Q I rx hs pl pu h;obtain⟨a,xs,rfl,hx,q⟩:=h;cases rx;obtain⟨Eg,r,ht,hz⟩:=I.list hx;have hlen:=r.length;refine⟨"list",_,slot_list_getitem.lookup,ht.isList.typeIs,?_⟩;refine wpAny_getItem_list_slice ht.isList hs pl pu .none (by simp) ?_ (by rw[Ov] <;> lia);rw[k7,<-hlen];refine⟨.ref s.heap.objs.size,_,I.laid (t':=s.toks) (o:=.lst (wo xs lo hi)) (fun b ob q=>Heap.get?_push_of_some _ q) (Ou _) ?_,rfl,q _ (I.hok.fresh (Ou _))⟩;exact⟨Pc (ju xs lo hi) hz,_,0,(r.drop (HT.sIx xs.length 0 lo)).take (HT.sIx xs.length xs.length hi-HT.sIx xs.length 0 lo),Heap.get?_push_size _ rfl⟩
def ve:V->Bool
 | .non=>true
 | .bl _=>true
 | .int _=>true
 | .str _=>true
 |_=>false
def M6:V->V->Bool
 | .non,.non=>true
 | .bl a,.bl b=>a==b
 | .bl a,.int b=>(if a then 1 else 0)==b
 | .int a,.bl b=>a==(if b then 1 else 0)
 | .int a,.int b=>a==b
 | .str a,.str b=>a==b
 |_,_=>false
theorem wt{A:Around}{s:Shared}{y x:V}{u v:Value}(ry:RelV y u)(rx:RelV x v)(fy:ve y=true)(fx:ve x=true):SeqAt.EqAt A s u v (M6 y x):=by
 cases y with
 |non=>
  cases ry;cases x with
  |non=>cases rx;exact SeqAt.EqAt.same _
  |bl b=>cases rx;exact SeqAt.EqAt.none_bool b
  |int b=>obtain⟨t,rfl⟩:=rx;exact SeqAt.EqAt.none_int b t
  |str b=>obtain⟨t,rfl⟩:=rx;exact SeqAt.EqAt.none_str b t
  |_=>exact absurd (show false=true from fx) Oy
 |bl a=>
  cases ry;cases x with
  |non=>cases rx;exact SeqAt.EqAt.bool_none a
  |bl b=>cases rx;exact SeqAt.EqAt.bool_bool a b
  |int b=>obtain⟨t,rfl⟩:=rx;exact SeqAt.EqAt.bool_int a b t
  |str b=>obtain⟨t,rfl⟩:=rx;exact SeqAt.EqAt.bool_str a b t
  |_=>exact absurd (show false=true from fx) Oy
 |int a=>
  obtain⟨t',rfl⟩:=ry;cases x with
  |non=>cases rx;exact SeqAt.EqAt.int_none a t'
  |bl b=>cases rx;exact SeqAt.EqAt.int_bool a t' b
  |int b=>obtain⟨t,rfl⟩:=rx;exact SeqAt.EqAt.int_int a t' b t
  |str b=>obtain⟨t,rfl⟩:=rx;exact SeqAt.EqAt.int_str a t' b t
  |_=>exact absurd (show false=true from fx) Oy
 |str a=>
  obtain⟨t',rfl⟩:=ry;cases x with
  |non=>cases rx;exact SeqAt.EqAt.str_none a t'
  |bl b=>cases rx;exact SeqAt.EqAt.str_bool a t' b
  |int b=>obtain⟨t,rfl⟩:=rx;exact SeqAt.EqAt.str_int a t' b t
  |str b=>obtain⟨t,rfl⟩:=rx;exact SeqAt.EqAt.str_str a t' b t
  |_=>exact absurd (show false=true from fx) Oy
 |_=>exact absurd (show false=true from fy) Oy
theorem iH:c5 X (.builtin "len") (fun xs H Q=>∃p ys,xs=[.ref p]/\(SqL X.K H p ys\/SqT X.K H p ys)/\Q (.int ys.length) H):=by
 intro py s σ H xs us Q I r h;obtain⟨p,ys,rfl,hq,q⟩:=h;obtain⟨u,rfl,rx⟩:=eJ r;cases rx;have hn:=mv;rcases hq with hq|hq
 ·obtain⟨Eg,r',pl,hz⟩:=I.list hq;have hlen:=r'.length;exact Calls.call_len_list pl.isList (by simp only[Ov] <;> lia) ⟨.int ys.length,H,I.tok _,⟨s.toks+1,by rw[Ov,hlen]⟩,q⟩
 ·obtain⟨Eg,r',pl,hz⟩:=I.tuple hq;have hlen:=r'.length;exact len_tuple pl (by simp only[Ov] <;> lia) ⟨.int ys.length,H,I.tok _,⟨s.toks+1,by rw[Ov,hlen]⟩,q⟩
theorem mC:c5 X (.builtin "len") (fun xs H Q=>∃z,xs=[.str z]/\z.length<=sizeLine/\Q (.int z.length) H):=by
 intro py s σ H xs us Q I r h;obtain⟨z,rfl,hz,q⟩:=h;obtain⟨u,rfl,t,rfl⟩:=eJ r;have hn:=mv;exact len_str (by lia) ⟨.int z.length,H,I.tok _,⟨_,rfl⟩,q⟩
theorem iI:c5 X (.type "list") (fun xs H Q=>∃p ys,xs=[.ref p]/\(SqL X.K H p ys\/SqT X.K H p ys)/\∀l,H l=none->Q (.ref l) (upd H l (.lst ys))):=by
 intro py s σ H xs us Q I r h;obtain⟨p,ys,rfl,hq,q⟩:=h;obtain⟨u,rfl,rx⟩:=eJ r;cases rx;have fin:∀(Eg:List Value),Vals ys Eg->ys.length<=sizeLine->∀(h':Heap) (c':Nat),(∀b o',s.heap.get? b=some o'->h'.get? b=some o')->
   h'.get? s.heap.objs.size=some {cls:=.type "list",dict:=none,data:=.seq Eg.toArray c',slots:=#[]}->EP X py σ Q (.ref s.heap.objs.size) {s with heap:=h'}:=fun Eg r' hz h' c' kp e=>
  ⟨.ref s.heap.objs.size,_,I.laid (t':=s.toks) kp (Ou _) (show ObjOk X.prog X.w _ h' _ (.lst ys) from⟨hz,Eg,c',r',e⟩),rfl,q _ (I.hok.fresh (Ou _))⟩
 rcases hq with hq|hq
 ·obtain⟨Eg,r',pl,hz⟩:=I.list hq;have hlen:=r'.length;obtain⟨o,ho,hc,n,hd⟩:=pl.isList;exact call_list_seq p (.inl rfl) ho hc hd (fun h' c' kp e=>fin Eg r' hz h' c' kp e) (by simp only[Ov] <;> lia)
 ·obtain⟨Eg,r',pl,hz⟩:=I.tuple hq;have hlen:=r'.length;obtain⟨o,ho,hc,n,hd⟩:=pl;exact call_list_seq p (.inr rfl) ho hc hd (fun h' c' kp e=>fin Eg r' hz h' c' kp e) (by simp only[Ov] <;> lia)
theorem gQ:c5 X (.type "tuple") (fun xs H Q=>∃p ys,xs=[.ref p]/\((SqL X.K H p ys/\∀l,H l=none->Q (.ref l) (upd H l (.tup ys)))\/(SqT X.K H p ys/\Q (.ref p) H))):=by
 intro py s σ H xs us Q I r h;obtain⟨p,ys,rfl,h⟩:=h;obtain⟨u,rfl,rx⟩:=eJ r;cases rx;rcases h with⟨hq,q⟩|⟨hq,q⟩
 ·obtain⟨Eg,r',pl,hz⟩:=I.list hq;have hlen:=r'.length;refine call_tuple_list pl.isList (fun h' kp=>?_) (by simp only[Ov] <;> lia);have I1:Inv X py σ H {s with heap:=h'}:=I.kept (t':=s.toks) kp;have I2:Inv X py σ (upd H h'.objs.size (.tup ys)) {s with heap:=h'.push {cls:=.type "tuple",data:=.seq Eg.toArray}}:=
   I1.laid (t':=s.toks) (fun b o e=>Heap.get?_push_of_some _ e) (Ou _) (show ObjOk X.prog X.w _ _ _ (.tup ys) from⟨hz,Eg,r',IsTupN.new _ _⟩)
  exact⟨.ref h'.objs.size,_,I2,rfl,q _ (I1.hok.fresh (Ou _))⟩
 ·obtain⟨Eg,r',pl,hz⟩:=I.tuple hq;exact call_tuple_same pl ⟨.ref p,H,I,rfl,q⟩
def M7(K:W.Frag)(T:String)(x:V)(H:Hp):Prop:=match x with
 | .str _=>T = "str"
 | .int _=>T = "int"
 | .ref p=>(T = "list"/\∃xs,SqL K H p xs)\/(T = "tuple"/\∃o,K.lookup p=some o/\o.cls=.type "tuple"/\o.dict=none)\/
   (T = "dict"/\((∃Ef,H p=some (.dK Ef))\/∃Ef,H p=some (.dT Ef)))\/(T = "set"/\∃S n,H p=some (.set S n))
 |_=>False
theorem zT{py:List (Addr×Obj)}{σ:St}{H:Hp}{s:Shared}{T:String}{x:V}{v:Value}(I:Inv X py σ H s)(r:RelV x v)(ty:M7 X.K T x H):
  s.TypeIs v T/\∀a,v=.ref a->∃ob,s.heap.get? a=some ob/\ob.dict=none:=by
 cases x with
 |str z=>
  obtain⟨t,rfl⟩:=r;cases(show T = "str" from ty);exact⟨Rk s z t,fun _ e=>nomatch e⟩
 |int i=>
  obtain⟨t,rfl⟩:=r;cases(show T = "int" from ty);exact⟨typeIs_int s i t,fun _ e=>nomatch e⟩
 |ref p=>
  cases r;rcases ty with⟨rfl,xs,hq⟩|⟨rfl,o,hk,hc,hd⟩|⟨rfl,hk⟩|⟨rfl,S,n,hk⟩
  ·obtain⟨Eg,_,pl,_⟩:=I.list hq;refine⟨pl.isList.typeIs,fun a e=>?_⟩;cases e;obtain⟨o,n,e,c,hd,_⟩:=pl;exact⟨o,e,hd⟩
  ·refine⟨⟨o,I.kIn p o hk,hc⟩,fun a e=>?_⟩;cases e;exact⟨o,I.kIn _ o hk,hd⟩
  ·have z:∃o,s.heap.get? p=some o/\o.ExactDict:=by
    rcases hk with⟨Ef,hk⟩|⟨Ef,hk⟩
    ·obtain⟨_,_,_,_,o,_,_,e,ex,_⟩:=I.hok p _ hk;exact⟨o,e,ex⟩
    ·obtain⟨_,_,_,_,o,_,_,e,ex,_⟩:=I.hok p _ hk;exact⟨o,e,ex⟩
   obtain⟨o,e,ex⟩:=z;refine⟨⟨o,e,ex.1⟩,fun a e2=>?_⟩;cases e2;exact⟨o,e,ex.2.1⟩
  ·obtain⟨o,_,_,_,e,ex,_⟩:=I.hok p _ hk;refine⟨⟨o,e,ex.1⟩,fun a e2=>?_⟩;cases e2;exact⟨o,e,ex.2.1⟩
 |_=>exact False.elim ty
def tBM(K:W.Frag)(T:String)(r:V->List V->Hp->VK->Prop)(to:TE)(t:TA):TE:=fun σ H Q=>to σ H fun x H1=>M7 K T x H1/\t σ H1 fun xs H2=>r x xs H2 Q
variable{o e:Expr}{es:List Expr}{to:TE}{t:TA}{name:Str}{apos Er:Pos}{T id:String}{r:V->List V->Hp->VK->Prop}
theorem qo(pa:PlainAttrs T)(slot:Slot T name id)(LP:typeOf (.builtin id)=pure (.type "method_descriptor"))(hm:MD X id r)(ho:PE X o to)(ha:PA X (e::es) t)
  (E2:attributeBase o name X.env (eval o X.env)=eval o X.env:=by rfl)
  (FN:((backTo Er (starEach (e::es) X.env)).all (fun x=>!x.1)&&(backToKw Er (keywordEach [] X.env)).all (fun x=>x.1.isSome)
   && decide ((e::es).length+([]:List Keyword).length+(if([]:List Keyword).isEmpty then 0 else 1)<30))=true:=by rfl)
  (E3:(apos.endLine==Er.line)=true:=by rfl) (hs:starEach (e::es) X.env=(false,eval e X.env)::starEach es X.env:=by rfl) (EL:(backTo Er (starEach es X.env)).any (·.1)=false:=by rfl):
  PE X (.Call (.Attribute o name apos) (e::es) [] Er) (tBM X.K T r to t):=by
 intro py s σ H Q I h;refine wpAny_Call_method_late E2 FN E3 rfl (Ez (ho py s σ H _ I h) fun v s1 Ex=>?_);obtain⟨x,H1,I1,r1,ty,q1⟩:=Ex;obtain⟨h1,h2⟩:=zT I1 r1 ty;refine⟨T,id,pa,slot,LP,h1,h2,?_⟩;have hA:=ha Er py s1 σ H1 _ I1 q1;rw[hs]at hA ⊢;refine Calls.callWith_builtin (by show(false||(backTo Er (starEach es X.env)).any (·.1))=false;rw[EL] <;> rfl) (Calls.evalArgs_plain ?_);exact Ez hA fun us s2 ⟨vs,H2,I2,r2,q2⟩=>hm py s2 σ H2 x vs v us Q I2 r1 r2 q2
end
def MtM(X:Cx)(id:String)(r:V->List V->Hp->VK->Prop):Prop:=
 ∀(py:List (Addr×Obj)) (s:Shared) (σ:St) (H:Hp) (x:V) (xs:List V) (v:Value) (us:List Value) (Q:VK),Inv X py σ H s->RelV x v->Vals xs us->r x xs H Q->
  wpAny (model X.prog X.w) X.A (call (.builtin id) (v::us)) (EP X py σ Q) X.xe s
theorem Vals.one:∀{x:V}{us:List Value},Vals [x] us->∃u,us=[u]/\RelV x u
 |_,_,.cons r .nil=>⟨_,rfl,r⟩
theorem Vals.two:∀{x y:V}{us:List Value},Vals [x,y] us->∃u v,us=[u,v]/\RelV x u/\RelV y v
 |_,_,_,.cons r (.cons q .nil)=>⟨_,_,rfl,r,q⟩
section
variable{X:Cx}{py:List (Addr×Obj)}{σ:St}{H:Hp}{s:Shared}{l b:Addr}{xs ys zs:List V}
theorem Inv.lset{Eg its':List Value}{n:Nat}{f:Array Value->Array Value}{t':Nat}(I:Inv X py σ H s)(hH:H l=some (.lst xs))
  (e:s.heap.get? l=some {cls:=.type "list",data:=.seq Eg.toArray n}) (hf:f Eg.toArray=its'.toArray) (hv:Vals ys its') (hz:ys.length<=sizeLine):
  Inv X py σ (upd H l (.lst ys)) {s with heap:=s.heap.update l (Obj.mapSeq f),toks:=t'}:=by
 have q:=PySem.IsL.update e f;rw[hf]at q;refine I.write (x:=l) (e:=l) (by rw[hH];exact trivial) (.inl rfl) (fun b' u hb hu=>(Heap.get?_update_other s.heap (Obj.mapSeq f) (P1 hb)).trans hu) ⟨_,q⟩ ?_;exact⟨hz,its',_,hv,q⟩
theorem Inv.lnew{Eg:List Value}{t':Nat}(I:Inv X py σ H s)(hv:Vals ys Eg)(hz:ys.length<=sizeLine):
  Inv X py σ (upd H s.heap.objs.size (.lst ys)) {s with heap:=s.heap.push {cls:=.type "list",data:=.seq Eg.toArray},toks:=t'}:=
 I.laid (fun _ _ q=>Heap.get?_push_of_some _ q) (Ou _) ⟨hz,Eg,0,hv,Heap.get?_push_size _ rfl⟩
theorem Inv.fresh(I:Inv X py σ H s):H s.heap.objs.size=none:=I.hok.fresh (Ou _)
theorem Inv.lstM(I:Inv X py σ H s)(hH:H l=some (.lst xs)):xs.length<=sizeLine/\∃(Eg:List Value) (n:Nat),Vals xs Eg/\xs.length=Eg.length/\s.heap.get? l=some {cls:=.type "list",data:=.seq Eg.toArray n}:=by
 obtain⟨z,Eg,n,r,e⟩:=I.hok l _ hH;exact⟨z,Eg,n,r,r.length,e⟩
end
section
variable{X:Cx}
def xK:V->List V->Hp->VK->Prop:=fun x vs H Q=>∃l xs y,x=.ref l/\vs=[y]/\H l=some (.lst xs)/\xs.length<sizeLine/\Q .non (upd H l (.lst (xs++[y])))
theorem fm:MtM X "list.append" xK:=by
 intro py s σ H x vs v us Q I rx rv h;obtain⟨l,xs,y,rfl,rfl,hH,hz,q⟩:=h;cases rx;obtain⟨u,rfl,ru⟩:=rv.one;obtain⟨z,Eg,n,r,hl,e⟩:=I.lstM hH;refine call_meets F.slot_list_append ⟨_,e,rfl⟩ F.entry_list_append (F.args_list_append_2 _ _) (PySem.list_append l Eg.toArray n u (by rw[Ov];lia)) ⟨e,?_⟩;refine⟨.non,_,I.lset (its':=Eg++[u]) hH e (by simp) (r.append (.cons ru .nil)) ?_,rfl,q⟩;rw[OW,Pe];lia
theorem rS{α:Type}(xs:List α)(k:Nat):(List.replicate k xs).flatten.length=k*xs.length:=by
 induction k with
 |zero=>simp
 |succ k ih=>rw[List.replicate_succ,Qg,OW,ih,Nat.succ_mul,Nat.add_comm]
end
section
variable{prog:Program}{w:World}{A:Around}{E:Value->Shared->Prop}{s:Shared}
end
section
variable{X:Cx}
end
end L2
namespace Att
open PySem PySem.W PySem.Calls PyProof.Rows
theorem jv{P:Params}{h:Heap}:∀(ns:List Int) (vs:List Value),WellAll P h vs (ns.map WData.int)->IntsAre vs ns:=by
 intro ns;induction ns with
 |nil=>
  intro vs w;rw[PZ]at w;cases w;exact .nil
 |cons n ns ih=>
  intro vs w;rw[OI]at w;cases w with
  |cons a b=>
   cases a;exact .cons _ _ (ih _ b)
theorem rT{l:OpenLaw}{n:Nat}(hn:l.most=some n){P:Params}{h:Heap}{args:List WData}{vals:List Value}
  (JI:l.row.toRowW.claim.pre args=true) (ME:WellAll P h vals args):
  ∃a vs ns,vals=[Value.ref a]/\args=[WData.list (ns.map WData.int)]/\h.get? a=some {cls:=.type "list",data:=.seq vs.toArray}/\IntsAre vs ns/\ns.length<=n:=by
 have hsh:WShape.hasAll [] args [.list .int]=true:=(pre_splitW JI).1;have hc:l.pre.holds [] {args:=args}=true:=(pre_splitW JI).2;obtain⟨d,r,rfl,h1,h2⟩:=hasAllW_cons hsh;obtain rfl:=hasAllW_nil h2;obtain⟨xs,rfl,h3⟩:=hasW_list h1;obtain⟨ns,rfl⟩:=items_int h3;have hlen:ns.length<=n:=by
  unfold OpenLaw.pre at hc;have h4:(WTm.not (.lt (.lit (.int (n:Int))) (.len (.arg 0)))).holds [] {args:=[.list (ns.map .int)]}=true:=by
   have h4:=(holds_andW hc).1;rw[hn]at h4;exact h4
  have h5:=condW_of h4 (w_not (w_lt w_lit (w_len_list (w_arg rfl))));rw[Om]at h5;refine Nat.le_of_not_lt fun q=>?_
  have q':(n:Int)<((ns.length:Nat):Int):=by lia
  first
   |(rw[OP q']at h5;exact absurd h5 (by decide))
   |(simp at h5;lia)
 cases ME with
 |cons w1 w2=>
  cases w2;cases w1 with
  |list ho IJ=>exact⟨_,_,ns,rfl,rfl,ho,jv ns _ IJ,hlen⟩
theorem rV(l:OpenLaw)(args:List WData):l.row.toRowW.claim.post args (.bool true) args=true:=
 postW_of (r:=l.row.toRowW) (X:=(true==true))
  (show WShape.has [] (.bool true) .bool=true by first|rfl|decide|simp[WShape.has,WShape.arms,WShape.armsAll])
  (show(WTm.eq .res (.lit (.bool true))).value [] {args:=args,res:=some (.bool true),after:=args}=some (.bool (true==true)) from w_eq_bool (w_res rfl) w_lit) rfl
theorem attach_call{l:OpenLaw}{n:Nat}{q:Program}{loose:List Str}{XP:(Str->Option Value)->Heap->Prop}{YP:World->Heap->Prop}{d:DefRec}
  (hn:l.most=some n) (LQ:d.params.defaults=[])
  (call:∀(w:World) (s₀ s₁:Shared) (mg mb:Str->Option Value) (fa:Addr) (o:Obj) (pm cd doc:Value) (a:Addr) (vs:List Value) (ns:List Int),
   Ground q loose [] XP w s₀ mg mb s₁.heap->YP w s₁.heap->
   s₁.heap.get? fa=some o->o.data=.func (docDef d.name d.params d.body d.scope pm cd doc)->s₁.heap.CodeRec cd d.name->mg d.name=some (.ref fa)->
   s₁.heap.get? a=some {cls:=.type "list",data:=.seq vs.toArray}->IntsAre vs ns->ns.length<=n->s₁.gens = #[]->
   codeAny (model l.prog w) callerA (.call (.ref fa) ⟨[.ref a],[]⟩) (fun r s'=>r=.ok (.ret (.bool true))/\OldK s₁.heap s'.heap/\s'.os=s₁.os/\AllBare s'.gens) s₁):
  WalkO q loose XP YP l.row.toRowW d [] (fun f vs=>PySem.call f vs):=by
 intro w s₀ s₁ mg mb G Y fa o pm cd doc dV kV ho hd IY hD LR hg args vals as JI hlay hrd ME NJ;obtain rfl:dV=.none:=Dflts.none hD LQ;obtain rfl:kV=.none:=Dflts.noKw hD;obtain⟨a,vs,ns,rfl,rfl,KG,hints,hlen⟩:=rT hn JI ME;refine enter_call (codeAny_mono (call w s₀ s₁ mg mb fa o pm cd doc a vs ns G Y ho (fd_plain hd) IY LR KG hints hlen hg) fun r s' hq=>?_);obtain⟨rfl,h2,h3,h4⟩:=hq;exact⟨.inl ⟨.bool true,.bool true,[],rfl,fun _=>rfl,.bool true,rV l _,fun _=>⟨List.Pairwise.nil,fun _ hm=>(nomatch hm)⟩⟩,h2,h3,h4⟩
section
variable{prog:Program}{w:World}{A:Around}{E:Value->Shared->Prop}{s:Shared}{K:Frag}
end
end Att
namespace L2
open PySem PySem.Spec PyProof.Rows
theorem mD:∀{vs:List Value}{ns:List Int},IntsAre vs ns->Vals (ns.map V.int) vs
 |_,_,.nil=>.nil
 |_,_,.cons n t h=>.cons ⟨t,rfl⟩ (mD h)
def B9(H:Hp):Prop:=∀b,H b=none\/∃o xs,H b=some (.frz o (.lst xs))
theorem vf{P:Program}{w:World}{K:W.Frag}{mg mb:Str->Option Value}{CX:CXT}{k:Nat}{fa a:Addr}{fd:FuncData}{x:Str}{sp:Sp}{s₁:Shared}{vs:List Value}{ns:List Int}
  (KX:K.In s₁.heap) (I0:s₁.heap.Ns mainGlobals mg) (hb:s₁.heap.Ns builtinsNs mb) (hbb:∀x:Str,x≠"__name__"->mb x=bootBuiltins x) (hlim:s₁.heap.NoLimit) (hg:s₁.gens = #[])
  (ha:s₁.heap.get? a=some {cls:=.type "list",data:=.seq vs.toArray}) (hi:IntsAre vs ns) (hl:ns.length<=sizeLine) (hr:Room k callerA)
  (F:∀base:Heap,K.In base->base.Ns mainGlobals mg->FnOk P w K mg base CX k fa fd [x] sp) (LS:∀(s:Shared) (u:Value),BindsTo s fd ⟨[u],[]⟩ [(x,u)])
  (HQ:∀H:Hp,B9 H->SqL K H a (ns.map V.int)->sp [.ref a] H (fun v _=>v=.bl true) fun _ _ _=>False)
  (M8:∀H e s',CX [] H s₁ (fun _ _ _=>False) e s'->False):
  codeAny (model P w) callerA (.call (.ref fa) ⟨[.ref a],[]⟩) (fun r s'=>r=.ok (.ret (.bool true))/\OldK s₁.heap s'.heap/\s'.os=s₁.os/\AllBare s'.gens) s₁:=by
 have rv:=mD hi;have lenV:=hi.length;have core:∀H:Hp,B9 H->SqL K H a (ns.map V.int)->HOk P w H s₁.heap->(∀b,H b≠none->b=a)->(H a≠none->K.lookup a=none)->
   codeAny (model P w) callerA (.call (.ref fa) ⟨[.ref a],[]⟩) (fun r s'=>r=.ok (.ret (.bool true))/\OldK s₁.heap s'.heap/\s'.os=s₁.os/\AllBare s'.gens) s₁:=by
  intro H hO hS hok hA hK;have Iu:∀{b:Addr}{o:Obj},s₁.heap.get? b=some o->H b=none->(uP s₁.heap H).get? b=some o:=fun e n=>uQ e n
  have LM:∀{b:Addr}{o:Obj}{es:Array DictEntry}{ep:Nat},s₁.heap.get? b=some o->o.data=.dict es ep->H b=none:=fun{b o es ep} e d=>by
   cases q:H b with
   |none=>rfl
   |some u=>
    have e':b=a:=hA b (by rw[q];simp);subst e';rw[ha]at e;cases e;have d':Data.seq vs.toArray _=Data.dict es ep:=d;cases d'
  have MF:∀{b:Addr}{m:Str->Option Value},s₁.heap.Ns b m->(uP s₁.heap H).Ns b m:=fun{b m} ⟨o,es,ep,e,d,r⟩=>⟨o,es,ep,Iu e (LM e d),d,r⟩
  have NK:K.In (uP s₁.heap H):=fun b o e=>Iu (KX b o e) (by
   cases q:H b with
   |none=>rfl
   |some u=>
    have e':b=a:=hA b (by rw[q];simp);subst e';rw[hK (by rw[q];simp)]at e;cases e)
  have hM:Mod K mg (uP s₁.heap H):=⟨NK,MF I0,⟨mb,MF hb,hbb⟩,let⟨mc,h1,h2⟩:=hlim;⟨mc,MF h1,h2⟩⟩
  have e0:Env0 P w K mg (uP s₁.heap H) callerA [] s₁ H:=⟨rfl,hM,fun b o e=>xm e,RO (rk _ _),trivial,fun b hb=>absurd (show b∈([]:List Addr) from hb) (by simp),hok,.of_eq hg⟩
  refine codeAny_mono ((F _ NK (MF I0)).run callerA [] s₁ H ⟨[.ref a],[]⟩ [.ref a] [.ref a] _ _ hr e0 (LS s₁ (.ref a)) (.cons rfl .nil) (HQ H hO hS)) fun r s' h=>?_
  cases r with
  |error e=>exact(M8 H e s' h).elim
  |ok fl=>
   cases fl with
   |next=>exact False.elim h
   |brk=>exact False.elim h
   |cont=>exact False.elim h
   |ret u=>
    obtain⟨v,H',os,bare,un,hok',r',q⟩:=h;have q':v=.bl true:=q;subst q';obtain rfl:u=Value.bool true:=r';refine⟨rfl,OldK.of_keep fun b o e=>?_,os,bare⟩;cases q:H b with
    |none=>exact un.keep b o e q (by intro z;exact absurd (show b∈([]:List Addr) from z) (by simp)) (by simp)
    |some u=>
     rcases hO b with z|⟨ob,xs,z⟩
     ·rw[q]at z;cases z
     ·have z2:=un.frzs b ob _ z;obtain⟨e1,_⟩:=hok b _ z;obtain⟨e2,_⟩:=hok' b _ z2;rw[e]at e1;cases e1;exact e2
 cases hk:K.lookup a with
 |some o=>
  have e:=KX a o hk;rw[ha]at e;cases e;refine core (fun _=>none) (fun _=>.inl rfl) (.inr ⟨_,vs.toArray,_,hk,rfl,rfl,rfl,by rw[Ov,lenV];exact hl,by simpa using rv⟩) (fun b u z=>by have z':(none:Option HO)=some u:=z;cases z') (fun b z=>absurd rfl z) fun z=>absurd rfl z
 |none=>
  refine core (fun b=>if b=a then some (.frz {cls:=.type "list",data:=.seq vs.toArray} (.lst (ns.map V.int))) else none) (fun b=>?_) (.inl (.inr ⟨{cls:=.type "list",data:=.seq vs.toArray},Ow rfl⟩)) (fun b u z=>?_) (fun b z=>?_) fun _=>hk
  ·by_cases hb:b=a
   ·exact .inr ⟨_,_,Ow hb⟩
   ·exact .inl (OB hb)
  ·by_cases hb:b=a
   ·have z':=(Ow hb).symm.trans z;cases z';subst hb;exact⟨ha,by rw[Om];exact hl,vs,_,rv,ha⟩
   ·have z':=(OB hb).symm.trans z;cases z'
  ·by_cases hb:b=a
   ·exact hb
   ·exact absurd (OB hb) z
theorem xM{l:PySem.W.OpenLaw}{n k:Nat}{q:Program}{loose:List Str}{XP:(Str->Option Value)->Heap->Prop}{YP:World->Heap->Prop}{d:DefRec}{K:Params->W.Frag}{CX:World->CXT}{sp:World->Sp}{x:Str}
  (hn:l.most=some n) (Lq:n<=sizeLine) (LQ:d.params.defaults=[]) (hr:Room k callerA)
  (hY:∀(w:World) (h:Heap),YP w h->(K w.params).In h)
  (F:∀(w:World) (mg:Str->Option Value) (fa:Addr) (h:Heap),(K w.params).In h->h.Ns mainGlobals mg->mg d.name=some (.ref fa)->
   ∃fd:FuncData,(∀(s:Shared) (u:Value),BindsTo s fd ⟨[u],[]⟩ [(x,u)])/\
    ∀base:Heap,(K w.params).In base->base.Ns mainGlobals mg->FnOk l.prog w (K w.params) mg base (CX w) k fa fd [x] (sp w))
  (HQ:∀(w:World) (H:Hp) (a:Addr) (ns:List Int),ns.length<=n->B9 H->SqL (K w.params) H a (ns.map V.int)->sp w [.ref a] H (fun v _=>v=.bl true) fun _ _ _=>False)
  (M8:∀(w:World) (H:Hp) (s:Shared) (e:Value) (s':Shared),CX w [] H s (fun _ _ _=>False) e s'->False):
  PySem.W.WalkO q loose XP YP l.row.toRowW d [] (fun f vs=>PySem.call f vs):=by
 refine Att.attach_call hn LQ fun w s₀ s₁ mg mb fa o pm cd doc a vs ns G Y ho hd IY LR KG hints hlen hg=>?_
 have KX:=hY w _ Y;obtain⟨fd,hb,hF⟩:=F w mg fa _ KX G.T.g LR;exact vf KX G.T.g G.T.b G.T.builtins G.T.nolimit hg KG hints (Pc hlen Lq) hr hF hb (fun H hO hS=>HQ w H a ns hlen hO hS) fun H e s'=>M8 w H s₁ e s'
def ft(s:Stmt):Arguments:=match s with
 | .FunctionDef _ a _ _ _ _ _ _ _ _=>a
 |_=>{posonlyargs:=[],args:=[],vararg:=none,kwonlyargs:=[],kw_defaults:=[],kwarg:=none,defaults:=[]}
def dy(s:Stmt):List Stmt:=match s with
 | .FunctionDef _ _ b _ _ _ _ _ _ _=>b
 |_=>[]
def defScope(s:Stmt):Scope:=match s with
 | .FunctionDef _ _ _ _ _ _ sc _ _ _=>sc
 |_=>{kind:=.function,names:=[],isGenerator:=false,isCoroutine:=false}
abbrev Ja:CXT:=fun _ _ _ _ _ _=>False
abbrev E0:XK:=fun _ _ _=>False
theorem Ca{X:Cx}:rM Ja X E0:=fun _ _ _ _ _ _ _ h=>h.elim
structure Fun(K:W.Frag)(x qual:Str)(st:Stmt)(f:Addr)(fd:FuncData):Prop where
 ex:∃(oc:Value) (od:Option Addr) (kV doc pm:Value) (an:Option Addr) (ED ct:Value) (Jx:Array (Option Value)),
  fd=PySem.W.fnOf x qual (ft st) (dy st) (defScope st) .none kV doc pm an ED ct/\K.lookup f=some ⟨oc,od,.func fd,Jx⟩/\PySem.W.codeIn K ED qual=true
 kp:PySem.W.keepIn K (.ref f)=true
section
variable{P:Program}{w:World}{K:W.Frag}{mg:Str->Option Value}{base:Heap}
theorem Fun.ok{x qual:Str}{st:Stmt}{f:Addr}{fd:FuncData}{N ps:List Str}{k:Nat}{sp:Sp}(F:Fun K x qual st f fd)(S:FnScope N ps (defScope st))(len:∀vs H Q E,sp vs H Q E->vs.length=ps.length)
  (IZ:∀(ED:Value) (A:Around) (outer:List Env) (s:Shared) (H:Hp) (vs:List V) (Q:VK) (E:XK),Room k (A.deeper (envOfC qual (defScope st) s.heap.objs.size f ED))->sp vs H Q E->
   ∃t,PSs (wm Ja P w K mg base N qual (defScope st) f ED A outer s H E).nox (dy st) t/\t {nx:=fun _ H'=>Q .non H',rt:=Q} (start N vs) H):FnOk P w K mg base Ja (k+1) f fd ps sp:=by
 obtain⟨oc,od,kV,doc,pm,an,ED,ct,Jx,rfl,lk,IY⟩:=F.ex;refine B6 lk IY S len fun A outer s H vs Q E hr HQ=>?_
 obtain⟨t,h,q⟩:=IZ ED A outer s H vs Q E hr HQ;exact⟨t,h.nox,q⟩
theorem Fun.binds{x qual:Str}{st:Stmt}{f:Addr}{fd:FuncData}{ps:List Str}(F:Fun K x qual st f fd)
  (h:∀(kV doc pm:Value) (an:Option Addr) (ED ct:Value) (us:List Value),us.length=ps.length->bindArgs (PySem.W.fnOf x qual (ft st) (dy st) (defScope st) .none kV doc pm an ED ct) ⟨us,[]⟩=pure (ps.zip us)):Binds K fd ps []:=by
 obtain⟨oc,od,kV,doc,pm,an,ED,ct,Jx,rfl,lk,IY⟩:=F.ex;exact .all (h kV doc pm an ED ct)
theorem wu{x qual:Str}{st:Stmt}{f:Addr}{oc:Value}{od an:Option Addr}{Jx:Array (Option Value)}{kV doc pm ED ct:Value}(l:K.lookup f=some ⟨oc,od,.func (PySem.W.fnOf x qual (ft st) (dy st) (defScope st) .none kV doc pm an ED ct),Jx⟩)
  (c:PySem.W.codeIn K ED qual=true) (k:PySem.W.keepIn K (.ref f)=true):Fun K x qual st f (PySem.W.fnOf x qual (ft st) (dy st) (defScope st) .none kV doc pm an ED ct):=⟨⟨oc,od,kV,doc,pm,an,ED,ct,Jx,rfl,l,c⟩,k⟩
end
theorem hu_of{A:Around}{k:Nat}(hr:Room k A):A.units+1<cLine:=Sj (Nat.add_le_add_left (by decide:1<=64) _) hr.units
section
variable{X:Cx}
theorem pv(i:Nat){x:Str}{pos:Pos}(hN:X.N[i]?=some x:=by rfl)(hv:MU X.env.scope x:=by first|exact Or.inl rfl|exact Or.inr (Or.inl rfl)|exact Or.inr (Or.inr rfl))(hd:(x==("__debug__" : Str))=false:=by decide)
  (IY:(x==("__classdict__" : Str))=false:=by decide):PE X (.Name x pos) (qh i):=zh hN hv hd IY
end
theorem iteF{A B:Prop}(h:B):if false=true then A else B:=by
 rw[OB Oy];exact h
theorem zU{A B:Prop}(h:A):if true=true then A else B:=by
 rw[Ow rfl];exact h
def Same(H H':Hp):Prop:=∀b o,H b=some o->H' b=some o
theorem Same.refl(H:Hp):Same H H:=fun _ _ h=>h
theorem Same.trans{H H1 H2:Hp}(a:Same H H1)(b:Same H1 H2):Same H H2:=fun c o h=>b c o (a c o h)
end L2
set_option maxHeartbeats 4000000
namespace NX
open PySem PySem.Spec PyProof.Rows L2
section
variable{X:Cx}
theorem rW:EK X (compareOp .LtE) (fun x y H Q=>∃i j,x=.str i/\y=.str j/\Q (.bl (!decide (j.cps.toList<i.cps.toList))) H):=by
 intro py s σ H x y v u Q I rx ry h;obtain⟨i,j,rfl,rfl,q⟩:=h;obtain⟨t,rfl⟩:=rx;obtain⟨t',rfl⟩:=ry;exact PySem.P.le_str (oZ I q rfl)
theorem vg(v:Int)(n:Nat):max (0:Int) (min (if v<0 then v+(n:Int) else v) (n:Int))=((HT.sIx n 0 (some v):Nat):Int):=by
 show _=(((if v<0 then(v+(n:Int)).toNat else min v.toNat n):Nat):Int)
 split <;> lia
theorem zV(a b:Nat):sliceRange (a:Int) (b:Int) 1=(List.range (b-a)).map (fun k=>a+k):=by
 unfold sliceRange;rw[Ow (by decide:(1:Int)>0)];by_cases E5:(a:Int)<b
 ·have e3:(((b:Int)-a+1-1) / 1).toNat=b-a:=by first|lia|(simp;done)|(simp;lia)
  simp only[E5,QR,e3];refine PD fun k _=>?_
  lia
 ·have:b-a=0:=by lia
  simp[E5,this]
theorem DN(lo hi:Option Int)(n:Nat):Builtin.Str.strSliceIndices lo hi 1 n=(List.range (HT.sIx n n hi-HT.sIx n 0 lo)).map (fun k=>HT.sIx n 0 lo+k):=by
 rw[<-zV];unfold Builtin.Str.strSliceIndices;simp only[show(1:Int)>0 from by decide,QR];cases lo with
 |none=>
  cases hi with
  |none=>rfl
  |some v=>exact PF (fun z=>sliceRange 0 z 1) (vg v n)
 |some u=>
  cases hi with
  |none=>exact PF (fun z=>sliceRange z (n:Int) 1) (vg u n)
  |some v=>exact(PF (fun z=>sliceRange z _ 1) (vg u n)).trans (PF (fun z=>sliceRange _ z 1) (vg v n))
def zW(xs:List Nat)(lo hi:Option Int):List Nat:=(xs.drop (HT.sIx xs.length 0 lo)).take (HT.sIx xs.length xs.length hi-HT.sIx xs.length 0 lo)
theorem wx{α:Type}(l:List α):∀(n a:Nat),a+n<=l.length->((List.range n).map (fun k=>a+k)).filterMap (l[·]?)=(l.drop a).take n
 | 0,_,_=>by simp
 |n+1,a,h=>by
  have E5:a+n<l.length:=by lia
  rw[List.range_succ,OT,List.filterMap_append,wx l n a (by lia),Rl,List.getElem?_drop];simp[List.getElem?_eq_getElem E5]
theorem rX(x:Str)(lo hi:Option Int):(Txt.slice x lo hi).cps.toList=zW x.cps.toList lo hi:=by
 have hl:x.cps.toList.length=x.length:=Pz;have ha:=HT.rP x.length 0 (Pd _) lo;have hb:=HT.rP x.length x.length (Ou _) hi;unfold Txt.slice zW;rw[DN,hl];split
 ·rename_i h;have h2:HT.sIx x.length x.length hi-HT.sIx x.length 0 lo=x.length:=by simpa using h
  have ez:HT.sIx x.length 0 lo=0\/x.length=0:=by lia
  rcases ez with e|e
  ·rw[h2,e,R7,Pm (by lia)]
  ·have:x.cps.toList=[]:=Po (by lia);rw[this];simp
 ·have hk:∀(f:List Nat),f.filterMap (x.cps[·]?)=f.filterMap (x.cps.toList[·]?):=fun f=>by
   congr 1
   funext i
   simp
  show(List.filterMap _ _).toArray.toList=_;rw[Q6,hk];by_cases hle:HT.sIx x.length 0 lo<=HT.sIx x.length x.length hi
  ·rw[wx _ _ _ (by lia)]
  ·have e0:HT.sIx x.length x.length hi-HT.sIx x.length 0 lo=0:=by lia
   rw[e0];rfl
abbrev S(l:List Nat):Str:=⟨l.toArray⟩
theorem mE(x:Str):S x.cps.toList=x:=by cases x;simp[S]
theorem S_inj{a b:List Nat}(h:S a=S b):a=b:=by
 have:=PF (fun z:Str=>z.cps.toList) h;simpa[S] using this
theorem gu(l:List Nat):(S l).length=l.length:=by simp[S,Str.length]
theorem cN(l:List Nat):(S l).cps.toList=l:=by simp[S]
theorem zX(a b:List Nat):S a++S b=S (a++b):=by
 rw[<-mE (S a++S b),PySem.W.KT.app_list,cN,cN]
def DO:V->Option Int->Option Int->Hp->VK->Prop:=fun x lo hi H Q=>∃l,x=.str (S l)/\l.length<=sizeLine/\Q (.str (S (zW l lo hi))) H
theorem zY:KC X DO:=by
 intro py s σ H x v vl vu lo hi sl Q I rx hs pl pu h;obtain⟨l,rfl,hz,q⟩:=h;obtain⟨t,rfl⟩:=rx;have hz':(S l).length<=sizeLine:=by rw[gu];exact hz
 have e:∀t' k,EP X py σ Q (.str (Txt.slice (S l) lo hi) t') {s with toks:=k}:=fun t' k=>by
  refine⟨.str (S (zW l lo hi)),H,I.tok _,⟨t',?_⟩,q⟩;have e1:=rX (S l) lo hi;rw[cN]at e1;rw[<-e1,mE]
 refine⟨"str",_,PySem.F.slot_str_getitem.lookup,Rk _ _ _,?_⟩;have key:∀(KH MG:Option (Int×Tok)),partValue KH=vl->partValue MG=vu->KH.map (·.1)=lo->MG.map (·.1)=hi->
   wpAny (model X.prog X.w) X.A (getItem (.str (S l) t) (.ref sl)) (EP X py σ Q) X.xe s:=by
  rintro KH MG rfl rfl rfl rfl;exact wpAny_getItem_str_slice (l:=KH) (u:=MG) (st:=none) hs rfl (post_val_or_str ⟨Pc (Txt.slice_le (S l) _ _) hz',fun t' k=>e t' k⟩)
 cases pl with
 |none=>
  cases pu with
  |none=>exact key none none rfl rfl rfl rfl
  |int j uj=>exact key none (some (j,uj)) rfl rfl rfl rfl
 |int i ui=>
  cases pu with
  |none=>exact key (some (i,ui)) none rfl rfl rfl rfl
  |int j uj=>exact key (some (i,ui)) (some (j,uj)) rfl rfl rfl rfl
theorem xN{xs:List V}{j:Nat}{x:V}(h:xs[j]?=some x):xs.getD j .non=x:=by rw[List.getD_eq_getElem?_getD,h];rfl
end
def Def(K:W.Frag)(mg:Str->Option Value)(x:Str)(st:Stmt):Prop:=∃f fd,Fun K x x st f fd/\mg x=some (.ref f)
def Ct(P:Program)(w:World)(K:W.Frag)(mg:Str->Option Value)(base:Heap)(x:Str)(k:Nat)(sp:Sp):Prop:=
 ∃f fd ps,FnOk P w K mg base Ja k f fd ps sp/\mg x=some (.ref f)/\PySem.W.keepIn K (.ref f)=true/\Binds K fd ps []
section
variable{X:Cx}{e:Expr}{es:List Expr}{t:TA}{x:Str}{p pos:Pos}{k:Nat}{sp:Sp}
theorem Cb(C:Ct X.prog X.w X.K X.mg X.base x k sp)(hr:Room k X.A)(hg:Gl X x)(ha:PA X (e::es) t)(GJ:(x==("__debug__" : Str))=false:=by decide)
  (he:starEach (e::es) X.env=(false,eval e X.env)::starEach es X.env:=by rfl) (Gp:(backTo pos (starEach es X.env)).any (·.1)=false:=by rfl):
  PE X (.Call (.Name x p) (e::es) [] pos) (tCall sp [] E0 t):=by
 obtain⟨f,fd,ps,G,m,kp,b⟩:=C;exact xA G hr hg m kp b .nil Ca ha GJ he Gp
def Gi(mg:Str->Option Value)(x:Str)(n:Int):Prop:=∃t,mg x=some (.int n t)
theorem Cc{n:Int}(h:Gi X.mg x n)(hg:Gl X x)(hd:(x==("__debug__" : Str))=false:=by decide):PE X (.Name x p) (tC (.int n)):=by
 obtain⟨t,m⟩:=h;exact xo hg m ⟨t,rfl⟩ hd
end
theorem bt_len:bootBuiltins "len" = some (.builtin "len"):=by decide +kernel
theorem k8:bootBuiltins "isinstance" = some (.builtin "isinstance"):=by decide +kernel
theorem kA:bootBuiltins "str" = some (.type "str"):=by decide +kernel
theorem nZ:bootBuiltins "list" = some (.type "list"):=by decide +kernel
theorem o5:bootBuiltins "int" = some (.type "int"):=by decide +kernel
theorem fZ:bootBuiltins "tuple" = some (.type "tuple"):=by decide +kernel
theorem xO:bootBuiltins "bool" = some (.type "bool"):=by decide +kernel
theorem line_eq:sizeLine=16777216:=Pq
theorem lt1(c d:Nat):([c]<[d])<->c<d:=by
 rw[List.cons_lt_cons_iff];simp
theorem flat_strs(a:List (List Nat)):(a.map fun l=>V.str (S l)).all ve=true:=by
 rw[OM];intro v hv;obtain⟨l,_,rfl⟩:=Py.mp hv;rfl
section
variable{X:Cx}{e:Expr}{st:Stmt}
end
def clOf(scope:Scope)(env:Env):List (Str×Addr):=scope.names.foldl (fun cs y=>if y.2==NameKind.free then(y.1,(env.cells.lookup y.1).getD 0)::cs else cs) []
def jw(scope:Scope)(env:Env):Bool:=scope.names.all fun y=>y.2 != NameKind.free||env.kindOf y.1==some .cell||env.kindOf y.1==some .free
theorem hW(env:Env):∀(l:List (Str×NameKind)) (cs:List (Str×Addr)),(∀y∈l,y.2=.free->∃c,env.cells.lookup y.1=some c)->
  (forIn l cs fun(y:Str×NameKind) (r:List (Str×Addr))=>(do
   if y.2==NameKind.free then
    let a <-cellOf env y.1
    pure (ForInStep.yield ((y.1,a)::r))
   else pure (ForInStep.yield r):Sem (ForInStep (List (Str×Addr)))))=pure (l.foldl (fun cs y=>if y.2==NameKind.free then(y.1,(env.cells.lookup y.1).getD 0)::cs else cs) cs)
 |[],cs,_=>by simp
 |y::l,cs,h=>by
  rw[RP,QA];by_cases k:y.2=.free
  ·obtain⟨c,e⟩:=h y Ol k;have e2:cellOf env y.1=pure c:=by unfold cellOf;rw[e]
   simp only[k,O4,QR,e2,e,Option.getD_some,pure_bind];exact hW env l _ fun z hz=>h z (Ot _ hz)
  ·have kb:(y.2==NameKind.free)=false:=by simpa using k
   simp only[kb,OX,Rg,pure_bind];exact hW env l _ fun z hz=>h z (Ot _ hz)
theorem gm(env:Env)(x:Str)(c:Addr):∀(l:List (Str×NameKind)) (cs:List (Str×Addr)),(∀y∈l,y.2=.free->∃c,env.cells.lookup y.1=some c)->(cs.lookup x=some c->env.cells.lookup x=some c)->
  (l.foldl (fun cs y=>if y.2==NameKind.free then(y.1,(env.cells.lookup y.1).getD 0)::cs else cs) cs).lookup x=some c->env.cells.lookup x=some c
 |[],_,_,h,e=>h e
 |y::l,cs,hf,h,e=>by
  rw[QA]at e;refine gm env x c l _ (fun z hz=>hf z (Ot _ hz)) (fun q=>?_) e;split at q
  ·rename_i k;have k:y.2=.free:=by simpa using k
   obtain⟨d,ed⟩:=hf y Ol k;rw[Pp]at q;cases hx:x==y.1 with
   |true=>
    rw[hx]at q;have exy:x=y.1:=by simpa using hx
    rw[ed,Option.getD_some]at q;rw[exy,ed];exact q
   |false=>
    rw[hx]at q;exact h q
  ·exact h q
theorem jx(env:Env)(x:Str):∀(l:List (Str×NameKind)) (cs:List (Str×Addr)),((∃d,cs.lookup x=some d)\/(x,NameKind.free)∈l)->
  ∃d,(l.foldl (fun cs y=>if y.2==NameKind.free then(y.1,(env.cells.lookup y.1).getD 0)::cs else cs) cs).lookup x=some d
 |[],_,h=>by
  rcases h with h|h
  ·exact h
  ·cases h
 |y::l,cs,h=>by
  rw[QA];refine jx env x l _ ?_;rcases h with⟨d,h⟩|h
  ·refine .inl ?_;split
   ·rw[Pp];cases hx:x==y.1 with
    |true=>exact⟨_,rfl⟩
    |false=>exact⟨d,h⟩
   ·exact⟨d,h⟩
  ·rcases Oz.mp h with h|h
   ·refine .inl ?_;rw[<-h];refine⟨(env.cells.lookup x).getD 0,?_⟩;show List.lookup x ((x,_)::cs)=_;rw[Pp,O4]
   ·exact .inr h
noncomputable def cC(X:Cx)(scope:Scope)(N:List Str)(C:Addr)(s:Shared)(H:Hp)(fp:List Addr)(pn:List (Addr×Obj)):Cx:=
 {X with N:=N,s₀:=s,H₀:=H,env:=compEnvC scope (clOf scope X.env) C X.env,outer:=X.stack,ex:=fp,fn:=fun _=>false,pn:=pn,xe:=fun _ _=>False}
def kB(ix:List (Option Nat))(σ:L2.St):L2.St:=ix.map fun i=>i.bind fun i=>(σ[i]?).bind id
noncomputable def zZ(wi:TI)(ix:List (Option Nat))(g:TG)(tc:TT)(te:TE):TE:=fun σ H Q=>wi σ H fun J H1=>∀D,H1 D=none->∃W:Nat->Nat->L2.St->Hp->Prop,(∃m,W 0 m (kB ix σ) (upd H1 D (.lst [])))/\
 ∀i m σ1 H2,W i m σ1 H2->(J.stop i H2/\Q (.ref D) H2)\/(J.go i H2/\∀x H3,J.yld i H2 x H3->g x σ1 H3 fun σ2 H4=>tc σ2 H4 fun b H5=>if b=true then te σ2 H5 fun v H6=>
  ∃ys,H6 D=some (.lst ys)/\ys.length<sizeLine/\∃m',m'<m/\W (i+1) m' σ2 (upd H6 D (.lst (ys++[v]))) else ∃m',m'<m/\W (i+1) m' σ2 H5)
abbrev JJ:Value->Shared->Prop:=fun _ _=>False
theorem Lr{α:Type}{M:Model}{A:Around}{t:Sem α}{Q Q':α->Shared->Prop}{E:Value->Shared->Prop}{s:Shared}(h:wpAny M A t Q JJ s)(k:∀a s,Q a s->Q' a s):wpAny M A t Q' E s:=R4 h k fun _ _ z=>z.elim
theorem rY{prog:Program}{w:World}{A:Around}{R:Result->Shared->Prop}{s:Shared}{elt target iter:Expr}{ifs:List Expr}{scope:Scope}{pos:Pos}{it acc:Value}{env:Env}(I:Nat->Shared->Prop)
  (turn:∀n s,I n s->wpAny (model prog w) A (pyNext it) (fun r s₁=>match r with
   |none=>R (.ok .next) s₁
   |some v=>wpAny (model prog w) A (letOwnedTupleGo target it v) (fun _ s₂=>wpAny (model prog w) A (assign target env v) (fun _ s₃=>
     wpAny (model prog w) A (forIn ifs true fun c r=>if r=true then do let ok <-isTrue c env (eval c env);pure (ForInStep.yield ok) else pure (ForInStep.yield r)) (fun ok s₄=>
      if ok=true then wpAny (model prog w) A (eval elt env) (fun x s₅=>
       wpAny (model prog w) A (call (.builtin "list.append") [acc,x]) (fun _ s₆=>∃m,m<n/\I m s₆) JJ s₅) JJ s₄
      else ∃m,m<n/\I m s₄) JJ s₃) JJ s₂) JJ s₁) JJ s)
  (n:Nat) (h:I n s):codeAny (model prog w) A (.compLoop (.ListComp elt [⟨target,iter,ifs,0⟩] scope pos) 0 it acc env) R s:=by
 refine codeAny_loop rfl I (fun n s hI=>?_) n h;show wpAny _ A ((compTurn (.ListComp elt [⟨target,iter,ifs,0⟩] scope pos) 0 it acc env).onRaise (fun x=>do noteFrame x env;theTreesLotGoes x)) _ _ s;refine wpAny_noted ?_;rw[compTurn_list];refine Oj (wpAny_standAt (Oj (Lr (turn n s hI) fun r s₁ h₁=>?_)));cases r with
 |none=>exact Oq h₁
 |some v=>
  refine Oj (Lr h₁ fun _ s₂ h₂=>Oj (Lr h₂ fun _ s₃ h₃=>Oj (Lr h₃ fun ok s₄ h₄=>?_)));cases ok with
  |false=>exact Oq ⟨rfl,h₄⟩
  |true=>exact Oj (Oj (Lr h₄ fun x s₅ h₅=>Oj (Lr h₅ fun _ s₆ h₆=>Oq (Oq ⟨rfl,h₆⟩))))
def MH(X:Cx)(ifs:List Expr)(t:TT):Prop:=
 ∀(py:List (Addr×Obj)) (s:Shared) (σ:L2.St) (H:Hp) (Q:Bool->Hp->Prop),Inv X py σ H s->t σ H Q->
  wpAny (model X.prog X.w) X.A (forIn ifs true fun c r=>if r=true then do let ok <-isTrue c X.env (eval c X.env);pure (ForInStep.yield ok) else pure (ForInStep.yield r)) (TP X py σ Q) X.xe s
def DP:TT:=fun _ H Q=>Q true H
theorem xP{X:Cx}:MH X [] DP:=fun _ _ _ H _ I h=>wpAny_tests_nil ⟨H,I,h⟩
def y9(X:Cx)(scope:Scope)(N:List Str)(ix:List (Option Nat)):Bool:=
 N.length==ix.length&&(N.zip ix).all fun y=>match y.2 with
  |none=>true
  |some j=>X.N[j]?==some y.1&&scope.names.lookup y.1==some .free
theorem mF{scope:Scope}{env:Env}{x:Str}(h:scope.names.lookup x=some .free):(relabel scope env).names.lookup x=some .cell\/(relabel scope env).names.lookup x=some .free:=by
 unfold relabel;dsimp only;generalize scope.names=l at h;induction l with
 |nil=>cases h
 |cons y l ih=>
  obtain⟨n,k⟩:=y;rw[Pp]at h;rw[OI];cases hx:x==n with
  |true=>
   rw[hx]at h;have hk:k=.free:=OY h;subst hk;dsimp only;split
   ·exact .inl (by rw[Pp,hx])
   ·exact .inr (by rw[Pp,hx])
  |false=>
   rw[hx]at h;dsimp only;split
   ·rw[Pp,hx];exact ih h
   ·rw[Pp,hx];exact ih h
theorem mG{scope:Scope}{env:Env}{x:Str}(hc:∀y∈scope.names,y.2≠.cell)(h:(relabel scope env).names.lookup x=some .cell\/(relabel scope env).names.lookup x=some .free):(x,NameKind.free)∈scope.names:=by
 unfold relabel at h;dsimp only at h;generalize scope.names=l at h hc;induction l with
 |nil=>rcases h with h|h <;> cases h
 |cons y l ih=>
  obtain⟨n,k⟩:=y;rw[OI]at h;dsimp only at h;have nk:k≠.cell:=hc (n,k) Ol;have NN:=ih (hc:=fun z hz=>hc z (Ot _ hz));by_cases cnd:(k==NameKind.free&&env.scope.kind==.function&&env.kindOf n==some .cell)=true
  ·rw[Ow cnd,Pp]at h;have kf:k=.free:=by
    have:(k==NameKind.free)=true:=by
     simp only[OG]at cnd;exact cnd.1.1
    simpa using this
   cases hx:x==n with
   |true=>
    have:x=n:=by simpa using hx
    rw[this,kf];exact Ol
   |false=>
    rw[hx]at h;exact Ot _ (NN h)
  ·rw[OB cnd,Pp]at h;cases hx:x==n with
   |true=>
    rw[hx]at h;have:x=n:=by simpa using hx
    rcases h with h|h
    ·exact absurd (OY h) nk
    ·rw[this,<-OY h];exact Ol
   |false=>
    rw[hx]at h;exact Ot _ (NN h)
section
variable{X:Cx}{py:List (Addr×Obj)}{σ:L2.St}{H:Hp}{s:Shared}{scope:Scope}{N:List Str}{ix:List (Option Nat)}{fp:List Addr}
theorem o6(ok:X.Ok)(hf:jw scope X.env=true):∀y∈scope.names,y.2=.free->∃c,X.env.cells.lookup y.1=some c:=fun y hy k=>by
 have:=OM.mp hf y hy;rw[k]at this;simp only[Rm,Bool.false_or,RQ,O6]at this;exact ok.has y.1 this
theorem jy(ok:X.Ok)(hf:jw scope X.env=true){x:Str}{c:Addr}(h:(clOf scope X.env).lookup x=some c):X.env.cells.lookup x=some c:=
 gm X.env x c scope.names [] (o6 ok hf) (fun z=>nomatch z) h
theorem rZ(ok:X.Ok)(hf:jw scope X.env=true){x:Str}(h:(x,NameKind.free)∈scope.names):∃c,(clOf scope X.env).lookup x=some c/\X.env.cells.lookup x=some c:=by
 obtain⟨c,e⟩:=jx X.env x scope.names [] (.inr h);exact⟨c,e,jy ok hf e⟩
theorem _root_.L2.Inv.block(I:Inv X py σ H s)(hf:jw scope X.env=true)(hk:scope.kind=.function)(Fb:∀y∈scope.names,y.2≠.cell)(HR:y9 X scope N ix=true)(fo:∀b∈fp,rg X py H b)(fin:∀b∈fp,∃o,s.heap.get? b=some o)
  {h1:Heap}{t1:Nat}{D C:Addr}(hD:D=s.heap.objs.size) (hC:C=s.heap.objs.size+1) (old:∀b o,s.heap.get? b=some o->h1.get? b=some o) {n:Nat}(acc:h1.get? D=some {cls:=.type "list",data:=.seq #[] n})
  {m:Str->Option Value}(ns:h1.Ns C m):Inv (cC X scope N C s H fp (X.pn++py)) [] (kB ix σ) (upd H D (.lst [])) {s with heap:=h1,toks:=t1}:=by
 have HS:s.heap.objs.size<=C:=by rw[hC];exact Qp _
 have freshD:s.heap.objs.size<=D:=by rw[hD];exact Ou _
 have nD:H D=none:=I.hok.fresh freshD;have DC:D≠C:=by rw[hD,hC];exact OO (O8 _)
 have KI:∀b,H b=none->b≠D->upd H D (.lst []) b=none:=fun b n z=>by rw[aF z];exact n
 have Ls:∀b o,s.heap.get? b=some o->b≠D:=fun b o e=>OO (OF (OA e) freshD)
 have JK:∀b o,s.heap.get? b=some o->b≠C:=fun b o e=>OO (OF (OA e) HS)
 have cellAt:∀x c,(clOf scope X.env).lookup x=some c->∃v o,s.heap.get? c=some o/\o.data=.cell v:=fun x c e=>by
  obtain⟨v,o,ho,hd⟩:=I.cell x c (jy I.ok hf e);exact⟨v,o,ho,hd⟩
 have okY:(cC X scope N C s H fp (X.pn++py)).Ok:=by
  refine⟨I.ok.mod,hk,I.ok.glob,I.ok.blt,HS,fun x y c e1 e2=>?_,fun x hx=>?_,fun x c z _=>?_,I.ok.hd,I.ok.frames,.inl rfl,fun b hb=>?_,I.bs,?_,fun b o e hb=>?_,fun b hb hs=>?_,I.stack,I.stkFree⟩
  ·exact I.ok.inj x y c (jy I.ok hf e1) (jy I.ok hf e2)
  ·obtain⟨c,e,_⟩:=rZ I.ok hf (mG Fb hx);exact⟨c,e⟩
  ·exact absurd (show false=true from z) Oy
  ·obtain⟨f0,f1,f2,f3,f4,f5⟩:=fo b hb;refine⟨?_,fun x c e=>f4 x c (jy I.ok hf e)⟩;intro z;have z:b=C:=z;obtain⟨o,ho⟩:=fin b hb;exact JK b o ho z
  ·exact Pc I.ok.bsz I.sz
  ·obtain⟨f0,f1,f2,f3,f4,f5⟩:=fo b hb;rcases f3 with q|q
   ·exact I.ok.noex b o e q
   ·exact absurd (OF (OA e) (Pc I.ok.bsz q)) (Qa _)
  ·obtain⟨f0,f1,f2,_⟩:=fo b hb;exact(Oz.mp (I.stkSub b hs)).elim f1 f2
 refine⟨okY,rfl,I.bare,Un.laid old freshD nD,⟨m,ns,fun i x v e1 e2 e3=>?_⟩,fun x c e=>?_,?_,fun x c e=>?_,fun p hp=>?_,I.hok.laid old freshD ⟨Pd _,[],n,.nil,acc⟩,?_⟩
 ·
  have e2:(ix.map fun i=>i.bind fun i=>(σ[i]?).bind id)[i]?=some (some v):=e2;have e1:N[i]?=some x:=e1;unfold y9 at HR;rw[OG]at HR;rw[List.getElem?_map]at e2;cases q:ix[i]? with
  |none=>rw[q]at e2;cases e2
  |some o=>
   rw[q]at e2;have e2:(o.bind fun i=>(σ[i]?).bind id)=some v:=OY e2;cases o with
   |none=>cases e2
   |some j=>
    have e2:(σ[j]?).bind id=some v:=e2;have hσ:σ[j]?=some (some v):=by
     cases w':σ[j]? with
     |none=>rw[w']at e2;cases e2
     |some y=>rw[w']at e2;exact PF some e2
    have hz:(N.zip ix)[i]?=some (x,some j):=by
     rw[List.getElem?_zip_eq_some];exact⟨e1,q⟩
    have hy:=OM.mp HR.2 _ (O2 hz);simp only[OG,O6]at hy;have NO:(x,NameKind.free)∈scope.names:=P4 hy.2;obtain⟨c,c1,c2⟩:=rZ I.ok hf NO;have Jy:X.env.kindOf x=some .cell\/X.env.kindOf x=some .free:=by
     have:=OM.mp hf _ NO;simpa using this
    obtain⟨mo,LN,NJ⟩:=I.loc;obtain⟨u,r,l⟩:=NJ j x v hy.1 hσ (.inr Jy);refine⟨u,r,.inr ⟨mF hy.2,c,c1,?_⟩⟩;rcases l with⟨k1,_⟩|⟨_,c',e',Hv⟩
    ·rcases Jy with k2|k2 <;> (rw[k1]at k2;cases k2)
    ·rw[c2]at e';cases e';obtain⟨o,ho,hd⟩:=Hv;exact⟨o,old c o ho,hd⟩
 ·obtain⟨v,o,ho,hd⟩:=cellAt x c e;exact⟨v,o,old c o ho,hd⟩
 ·exact KI C (I.hok.fresh HS) (P1 DC)
 ·obtain⟨v,o,ho,hd⟩:=cellAt x c e;exact KI c (I.freeC x c (jy I.ok hf e)) (Ls c o ho)
 ·have hp:p∈X.pn++py:=by
   have:p∈(X.pn++py)++[]:=hp
   rwa [OL]at this
  obtain⟨e,nn,ne,nf,d⟩:=I.pin p hp;refine⟨old _ _ e,KI _ nn (Ls _ _ e),JK _ _ e,fun z=>?_,d⟩;exact(Oz.mp (I.stkSub p.1 z)).elim ne nf
 ·unfold y9 at HR;rw[OG]at HR;have:N.length=ix.length:=by simpa using HR.1
  show(ix.map _).length=N.length;rw[Om,this]
theorem _root_.L2.Inv.unblock{C:Addr}{σ1:L2.St}{H1:Hp}{s1:Shared}{h2:Heap}(I:Inv X py σ H s)(fo:∀b∈fp,rg X py H b)(hC:s.heap.objs.size<=C)(J:Inv (cC X scope N C s H fp (X.pn++py)) [] σ1 H1 s1)(hs:Heap.SameBut C s1.heap h2):
  Inv X py σ H1 {s1 with heap:=h2}:=by
 have JK:∀b o,s.heap.get? b=some o->b≠C:=fun b o e=>OO (OF (OA e) hC)
 have bb:Un (Ip X.stack) fp H H1 s.heap s1.heap:=J.base;have jf:H1 C=none:=J.free;refine I.call' (s':={s1 with heap:=h2}) (ch:=fp) J.os ⟨fun b o e n hb hx=>?_,fun b o e n hb hx=>?_,bb.free,fun b o e hx=>?_,bb.tups,bb.frzs,bb.tbls⟩ (fun b ob e=>?_) J.bare fun b hb=>?_
 ·exact(hs.2 b (JK b o e)).trans (bb.keep b o e n hb hx)
 ·obtain⟨sl,q⟩:=bb.slot b o e n hb hx;exact⟨sl,(hs.2 b (JK b o e)).trans q⟩
 ·obtain⟨o',q⟩:=bb.there b o e hx;exact⟨o',(hs.2 b (JK b o e)).trans q⟩
 ·refine(J.hok b ob e).stay (fun c w' hc q=>(hs.2 c ?_).trans q) (fun _ q=>q) fun _ _ q=>q
  rintro rfl;rcases hc with rfl|hc
  ·rw[jf]at e;cases e
  ·rw[jf]at hc;cases hc
 ·obtain⟨f0,f1,f2,f3,f4,f5⟩:=fo b hb;exact⟨f3,f1,f4,f5⟩
end
section
variable{X:Cx}{scope:Scope}{N:List Str}{ix:List (Option Nat)}{tg iter elt:Expr}{ifs:List Expr}{pos:Pos}{wi:TI}{g:TG}{tc:TT}{te:TE}
theorem qp{py:List (Addr×Obj)}{σ:L2.St}{H2:Hp}{s2:Shared}{J:It}{fp:List Addr}{it:Addr}{tn:Nat->Heap->Prop}{Q:VK}{RR:Value->Addr->Result->Shared->Prop}{E:Value->Shared->Prop}
  (hc:X.calm=true) (I2:Inv X py σ H2 s2) (T:Turn X.prog X.w X.K tg J fp it tn) (El:tn 0 s2.heap) (f2:∀b∈fp,rg X py H2 b)
  (hg:∀C s H fp pn,PG (cC X scope N C s H fp pn) tg g) (ht:∀C s H fp pn,MH (cC X scope N C s H fp pn) ifs tc) (he:∀C s H fp pn,PE (cC X scope N C s H fp pn) elt te)
  (hf:jw scope X.env=true) (hk:scope.kind=.function) (Fb:∀y∈scope.names,y.2≠.cell) (HR:y9 X scope N ix=true)
  (q:∀D,H2 D=none->∃W:Nat->Nat->L2.St->Hp->Prop,(∃m,W 0 m (kB ix σ) (upd H2 D (.lst [])))/\
   ∀i m σ1 H3,W i m σ1 H3->(J.stop i H3/\Q (.ref D) H3)\/(J.go i H3/\∀x H4,J.yld i H3 x H4->g x σ1 H4 fun σ2 H5=>tc σ2 H5 fun b H6=>if b=true then te σ2 H6 fun v H7=>
    ∃ys,H7 D=some (.lst ys)/\ys.length<sizeLine/\∃m',m'<m/\W (i+1) m' σ2 (upd H7 D (.lst (ys++[v]))) else ∃m',m'<m/\W (i+1) m' σ2 H6))
  (hRR:∀(D C:Addr) (σ1:L2.St) (H1:Hp) (s1:Shared),s2.heap.objs.size<=C->Inv (cC X scope N C s2 H2 fp (X.pn++py)) [] σ1 H1 s1->Q (.ref D) H1->RR (.ref D) C (.ok .next) s1):
  wpAny (model X.prog X.w) X.A (newList []) (fun acc s₃=>wpAny (model X.prog X.w) X.A (newFunctionEnv scope X.env.globals (clOf scope X.env) [] X.env.qual none .none (some X.env)) (fun LU s₄=>
   codeAny (model X.prog X.w) X.A (.compStart (.ListComp elt [⟨tg,iter,ifs,0⟩] scope pos) 0 (.ref it) acc {LU with scope:=relabel scope X.env}) (RR acc LU.locals) s₄) E s₃) E s2:=by
 refine O9 (wpAny_newFunctionEnv Fb (by intro y hy;simp at hy) (fun h₁ hns₁ hsb₁=>?_) hk);dsimp only at hns₁ hsb₁ ⊢;generalize hH2:s2.heap.push {cls:=.type "list",dict:=none,data:=.seq ([]:List Value).toArray}=HH at hns₁ hsb₁ ⊢;have hC:HH.objs.size=s2.heap.objs.size+1:=by rw[<-hH2,Ql]
 have hDC:s2.heap.objs.size≠HH.objs.size:=by rw[hC];exact OO (O8 _)
 have LV:s2.heap.objs.size<=HH.objs.size:=by rw[hC];exact Qp _
 have JK:∀b o,s2.heap.get? b=some o->b≠HH.objs.size:=fun b o e=>OO (OF (OA e) LV)
 have old:∀b o,s2.heap.get? b=some o->h₁.get? b=some o:=fun b o e=>hsb₁.extBut b o (JK b o e) (Heap.get?_push_of_some _ (hH2▸Heap.get?_push_of_some _ e))
 have JL:h₁.get? s2.heap.objs.size=some {cls:=.type "list",data:=.seq #[] 0}:=hsb₁.extBut _ _ hDC (Heap.get?_push_of_some _ (hH2▸Heap.get?_push_size _ rfl));obtain⟨W,⟨m0,w0⟩,turn⟩:=q s2.heap.objs.size (I2.hok.fresh (Ou _));have fin:∀b∈fp,∃o,s2.heap.get? b=some o:=fun b hb=>let⟨o,e,_⟩:=T.obj 0 _ El b hb;⟨o,e⟩
 have HP:∀{H':Hp},(∀b∈fp,H' b=none)->∀b∈fp,rg (cC X scope N HH.objs.size s2 H2 fp (X.pn++py)) [] H' b:=fun{H'} hn b hb=>by
  obtain⟨f0,f1,ff,f3,f4,f5⟩:=f2 b hb;refine⟨hn b hb,?_,fun z=>?_,.inl hb,fun x c e=>f4 x c (jy I2.ok hf e),fun p hp=>?_⟩
  ·intro z;have z:b=HH.objs.size:=z;obtain⟨o,ho⟩:=fin b hb;exact JK b o ho z
  ·exact(Oz.mp (I2.stkSub b z)).elim f1 ff
  ·have hp:p∈X.pn++py:=by
    have:p∈(X.pn++py)++[]:=hp
    rwa [OL]at this
   exact f5 p hp
 have loop:∀s₃:Shared,s₃={s2 with heap:=h₁,toks:=s2.toks+([]:List (Str×Value)).length}->
   codeAny (model X.prog X.w) X.A (.compLoop (.ListComp elt [⟨tg,iter,ifs,0⟩] scope pos) 0 (.ref it) (.ref s2.heap.objs.size) (compEnvC scope (clOf scope X.env) HH.objs.size X.env)) (RR (.ref s2.heap.objs.size) HH.objs.size) s₃:=by
  rintro s₃ rfl;refine rY (fun n s'=>∃i σ' H',Inv (cC X scope N HH.objs.size s2 H2 fp (X.pn++py)) [] σ' H' s'/\tn i s'.heap/\(∀b∈fp,H' b=none)/\W i n σ' H') ?_ m0
   ⟨0,_,_,I2.block hf hk Fb HR f2 fin rfl hC old JL hns₁,T.keep 0 _ _ El fun b _ o e=>old b o e,fun b hb=>?_,w0⟩
  ·rintro n s3 ⟨i,σ3,H3,I3,ET,LJ,w3⟩;rcases turn i n σ3 H3 w3 with⟨stop,qn⟩|⟨go,step⟩
   ·refine Ez (T.done (cC X scope N HH.objs.size s2 H2 fp (X.pn++py)) rfl rfl rfl hc i [] s3 σ3 H3 JJ I3 (HP LJ) ET stop) fun r s4 Ex=>?_
    obtain⟨hr,I4⟩:=Ex;subst hr;exact hRR _ _ σ3 H3 s4 LV I4 qn
   ·refine Ez (T.item (cC X scope N HH.objs.size s2 H2 fp (X.pn++py)) rfl rfl rfl hc i [] s3 σ3 H3 JJ I3 (HP LJ) ET go) fun r s4 Ex=>?_
    obtain⟨u,hr,h4⟩:=Ex;subst hr;refine Ez h4 fun _ s5 Ex=>?_
    obtain⟨x,H5,I5,r5,y5,Gq,MZ⟩:=Ex;have M0:=I5.pinned (HP MZ) (T.obj _ _ Gq);refine Ez (hg _ _ _ _ _ _ s5 σ3 H5 x u _ M0 r5 (step x H5 y5)) fun _ s6 Ex=>?_
    obtain⟨σ6,H6,I6,q6⟩:=Ex;refine Ez (ht _ _ _ _ _ _ s6 σ6 H6 _ I6 q6) fun ok s7 Ex=>?_
    obtain⟨H7,I7,q7⟩:=Ex;have again:∀{H8:Hp}{s8:Shared},Inv (cC X scope N HH.objs.size s2 H2 fp (X.pn++py)) ([]++mq fp s5.heap) σ6 H8 s8->(∃m',m'<n/\W (i+1) m' σ6 H8)->
      ∃m,m<n/\∃i σ' H',Inv (cC X scope N HH.objs.size s2 H2 fp (X.pn++py)) [] σ' H' s8/\tn i s8.heap/\(∀b∈fp,H' b=none)/\W i m σ' H':=fun{H8 s8} I8 ⟨m',hm,w8⟩=>by
     refine⟨m',hm,i+1,σ6,H8,I8.unpinned,T.keep _ _ _ Gq fun b hb o e=>(I8.pin (b,o) (Oo _ (Oo _ (fY hb e)))).1,fun b hb=>?_,w8⟩;obtain⟨o,e,d⟩:=T.obj _ _ Gq b hb;exact(I8.pin (b,o) (Oo _ (Oo _ (fY hb e)))).2.1
    cases ok with
    |false=>exact again I7 q7
    |true=>
     show wpAny _ _ _ _ _ _;refine Ez (he _ _ _ _ _ _ s7 σ6 H7 _ I7 q7) fun x8 s8 Ex=>?_
     obtain⟨v8,H8,I8,r8,ys,M9,E5,q8⟩:=Ex;refine Ez (fm _ s8 σ6 H8 (.ref s2.heap.objs.size) [v8] (.ref s2.heap.objs.size) [x8] (fun _ H9=>∃m',m'<n/\W (i+1) m' σ6 H9) I8 rfl (.cons r8 .nil) ⟨_,ys,v8,rfl,rfl,M9,E5,q8⟩) fun _ s9 Ex=>?_
     obtain⟨_,H9,I9,_,q9⟩:=Ex;exact again I9 q9
  ·rw[aF (fun z=>by
    obtain⟨o,ho⟩:=fin b hb;exact absurd z (OO (OA ho)))]
   exact(f2 b hb).1
 exact codeAny_compStart_list (loop _ rfl) (T.self _ 0 _ _ _ (T.keep 0 _ _ El fun b _ o e=>old b o e) (loop _ rfl))
theorem xQ(ix:List (Option Nat))(N:List Str)(hc:X.calm=true)(hi:PI X tg iter wi)(hg:∀C s H fp pn,PG (cC X scope N C s H fp pn) tg g)(ht:∀C s H fp pn,MH (cC X scope N C s H fp pn) ifs tc)(he:∀C s H fp pn,PE (cC X scope N C s H fp pn) elt te)
  (hf:jw scope X.env=true:=by rfl) (hk:scope.kind=.function:=by rfl) (Fb:∀y∈scope.names,y.2≠.cell:=by decide +kernel) (HU:∀y∈scope.names,y.2=.local->scope.names.lookup y.1=some .local:=by decide +kernel) (HR:y9 X scope N ix=true:=by rfl)
  (hs:∀x,foldedSetIterable iter X.env x=pure x:=by intro _;rfl):PE X (.ListComp elt [⟨tg,iter,ifs,0⟩] scope pos) (zZ wi ix g tc te):=by
 intro py s σ H Q I h;rw[eval_ListComp];have LX:closureFor scope X.env=pure (clOf scope X.env):=by
  unfold closureFor clOf;have:=hW X.env scope.names [] (o6 I.ok hf);simpa using this
 refine wpAny_comprehension_free (use:=none) rfl hs LX hk HU (Ez (hi py s σ H _ I h) fun v s1 h1=>Ez h1 fun MX s2 h2=>?_);obtain⟨it,fp,tn,J,H2,e,I2,T,El,f2,q⟩:=h2;subst e;refine qp (RR:=fun acc C=>compPost (model X.prog X.w) X.A X.xe none (EP X py σ Q) acc C) (Q:=Q) (iter:=iter) hc I2 T El f2 hg ht he hf hk Fb HR q fun D C σ1 H1 s1 hC J1 q1=>?_
 obtain⟨m,ns,_⟩:=J1.loc;exact⟨m,ns,fun h' hs'=>⟨.ref D,H1,I2.unblock f2 hC J1 hs',rfl,q1⟩⟩
end
section
variable{X:Cx}{scope:Scope}{N:List Str}{ix:List (Option Nat)}{tg iter elt:Expr}{ifs:List Expr}{pos:Pos}{wi:TI}{g:TG}{tc:TT}{te:TE}
end
def Itv(val:Nat->V)(n:Nat):It:=⟨fun i _=>i<n,fun i H x H'=>H'=H/\x=val i,fun i _=>i=n⟩
theorem o7{P:Program}{w:World}{K:W.Frag}{tg:Expr}(ty:String)(LP:["enumerate","zip","dict_itemiterator","dict_reverseitemiterator","odict_iterator","itertools.zip_longest","itertools.pairwise"].contains ty=false)(l:List Nat)(t:Tok)(it:Addr)
  (Wk:∀A:Around,A.handled=none->Walks P w A it [it] [it] (S l).cps.size (SignAt (S l)) (fun i h=>h.IsStrIter it ty (S l) t i))
  (self:∀(A:Around) (i:Nat) (s:Shared) (Q:Value->Shared->Prop) (E:Value->Shared->Prop),s.heap.IsStrIter it ty (S l) t i->Q (.ref it) s->wpAny (model P w) A (pyIter (.ref it)) Q E s):
  Turn P w K tg (Itv (fun i=>.str (S [l.getD i 0])) l.length) [it] it (fun i h=>h.IsStrIter it ty (S l) t i) where
 mem:=by simp
 obj:=fun i h st b hb=>by
  have e:b=it:=by simpa using hb
  subst e;obtain⟨o,e,c,d⟩:=st;exact⟨o,e,fun v z=>by rw[d]at z;cases z⟩
 keep:=fun i h h' st k=>by
  obtain⟨o,e,r⟩:=st;exact⟨o,k it (by simp) o e,r⟩
 item:=by
  intro X hP hw hK hc i py s σ H E I hf st hg;subst hP hw hK;obtain⟨f0,f1,f2,f3,f4,f5⟩:=hf it (by simp);have hg:i<l.length:=hg;refine(Wk X.A (I.ok.hd hc)).item i s _ _ (by simpa[S] using hg) st fun v h' tk hv Gd kk=>?_
  obtain⟨c,u,GI,rfl⟩:=hv;have I1:Inv X py σ H {s with heap:=h',toks:=tk}:=I.turned (fun b o hb e=>kk b o (by simpa using hb) e) f0 f1 f3 f4 f5;obtain⟨o,e,cc,d⟩:=id Gd;have JM:l.getD i 0=c:=by
   have:l[i]?=some c:=by simpa[S] using GI
   rw[List.getD_eq_getElem?_getD,this];rfl
  refine⟨_,rfl,uW (s:={s with heap:=h',toks:=tk}) e cc d LP ⟨.str (S [l.getD i 0]),H,I1,⟨u,?_⟩,⟨rfl,rfl⟩,Gd,fun b hb=>(hf b hb).1⟩⟩;rw[JM]
 done:=by
  intro X hP hw hK hc i py s σ H E I hf st hg;subst hP hw hK;obtain⟨f0,f1,f2,f3,f4,f5⟩:=hf it (by simp);have hg:i=l.length:=hg;have hn:(S l).cps.size=i:=by rw[hg];simp[S]
  refine(Wk X.A (I.ok.hd hc)).done s _ _ (by rw[hn];exact st) fun h' tk kk=>⟨rfl,I.turned (fun b o hb e=>kk b o (by simpa using hb) e) f0 f1 f3 f4 f5⟩
 self:=self
def DQ(tl:TE):TI:=fun σ H R=>tl σ H fun x H1=>∃l,x=.str (S l)/\R (Itv (fun i=>.str (S [l.getD i 0])) l.length) H1
section
variable{X:Cx}{tg:Expr}
theorem z0{l:Expr}{tl:TE}(hl:PE X l tl):PI X tg l (DQ tl):=by
 intro py s σ H R I h;refine Ez (hl py s σ H _ I h) fun v s1 Ex=>?_
 obtain⟨x,H1,I1,r1,l,e,q⟩:=Ex;subst e;obtain⟨t,rfl⟩:=r1;cases ha:(S l).cps.all (·< 128)
 ·refine wpAny_pyIter_wide ha ?_;refine⟨s1.heap.objs.size,[s1.heap.objs.size],_,_,H1,rfl,I1.kept (t':=s1.toks) fun b o e=>Heap.get?_push_of_some _ e,
   o7 "str_iterator" (by decide) l t _ (fun A hA=>Walks.strWide hA _ _ _) (fun _ _ _ _ _ st h=>wpAny_pyIter_striter_wide st h),⟨_,Heap.get?_push_size _ rfl,rfl,rfl⟩,fun b hb=>?_,q⟩
  have e:b=s1.heap.objs.size:=by simpa using hb
  subst e;exact I1.fpOk (Ou _) (I1.hok.fresh (Ou _))
 ·refine wpAny_pyIter_ascii ha ?_;refine⟨s1.heap.objs.size,[s1.heap.objs.size],_,_,H1,rfl,I1.kept (t':=s1.toks) fun b o e=>Heap.get?_push_of_some _ e,
   o7 "str_ascii_iterator" (by decide) l t _ (fun A hA=>Walks.strAscii hA _ _ _) (fun _ _ _ _ _ st h=>wpAny_pyIter_striter_ascii st h),⟨_,Heap.get?_push_size _ rfl,rfl,rfl⟩,fun b hb=>?_,q⟩
  have e:b=s1.heap.objs.size:=by simpa using hb
  subst e;exact I1.fpOk (Ou _) (I1.hok.fresh (Ou _))
theorem k9{py:List (Addr×Obj)}{s:Shared}{σ:L2.St}{H:Hp}{p:Addr}{xs:List V}{E:Value->Shared->Prop}{R:Value->Shared->Prop}(hc:X.calm=true)(I:Inv X py σ H s)(h:SqL X.K H p xs\/SqT X.K H p xs)
  (k:∀(it:Addr) (fp:List Addr) (o:Obj) (us:List Value) (Sx:Nat->Heap->Prop),Vals xs us->Walks X.prog X.w X.A.in1 it fp [it] us.length (fun i v=>us[i]?=some v) Sx->Sx 0 (s.heap.push o)->(∀b∈fp,b<(s.heap.push o).objs.size)->it=s.heap.objs.size->R (.ref it) {s with heap:=s.heap.push o}):
  wpAny (model X.prog X.w) X.A.in1 (pyIter (.ref p)) R E s:=by
 have hh:X.A.in1.handled=none:=I.ok.hd hc;rcases h with h|h
 ·obtain⟨us,r,pl,hz⟩:=I.list h;have E5:p<s.heap.objs.size:=by obtain⟨o,ho,_⟩:=pl.isList;exact OA ho
  refine Qf pl.isList (k s.heap.objs.size [s.heap.objs.size,p] _ us (fun i h=>h.IsListIter s.heap.objs.size p i/\h.IsList p us.toArray) r (by
   have W:=Walks.list (prog:=X.prog) (w:=X.w) hh s.heap.objs.size p (OO E5) us.toArray;simpa using W) ⟨⟨_,Heap.get?_push_size _ rfl,rfl,rfl⟩,pl.isList.at fun o e=>Heap.get?_push_of_some _ e⟩ (fun b hb=>?_) rfl)
  rw[Ql];rcases Oz.mp hb with rfl|hb
  ·exact O8 _
  ·rw[Pb]at hb;rw[hb];exact Rn E5
 ·obtain⟨us,r,pl,hz⟩:=I.tuple h;have KH:s.heap.IsTuple p us.toArray:=pl;have E5:p<s.heap.objs.size:=by obtain⟨o,ho,_⟩:=pl;exact OA ho
  refine Qb KH (k s.heap.objs.size [s.heap.objs.size,p] _ us (fun i h=>h.IsTupleIter s.heap.objs.size p i/\h.IsTuple p us.toArray) r (by
   have W:=Walks.tuple (prog:=X.prog) (w:=X.w) hh s.heap.objs.size p (OO E5) us.toArray;simpa using W) ⟨⟨_,Heap.get?_push_size _ rfl,rfl,rfl⟩,KH.at fun o e=>Heap.get?_push_of_some _ e⟩ (fun b hb=>?_) rfl)
  rw[Ql];rcases Oz.mp hb with rfl|hb
  ·exact O8 _
  ·rw[Pb]at hb;rw[hb];exact Rn E5
theorem hZ{py:List (Addr×Obj)}{s:Shared}{σ:L2.St}{H:Hp}{o:Obj}{h':Heap}{tk:Nat}(I:Inv X py σ H s)(kk:∀b ob,b∉[s.heap.objs.size]->(s.heap.push o).get? b=some ob->h'.get? b=some ob):
  Inv X py σ H {s with heap:=h',toks:=tk}:=I.kept fun b ob e=>kk b ob (fun z=>OO (OA e) (by simpa using z)) (Heap.get?_push_of_some _ e)
theorem bj{α:Type}(l:List α)(i:Nat)(d:α)(h:i<l.length):l.getD i d=l[i]:=by
 rw[List.getD_eq_getElem?_getD,List.getElem?_eq_getElem h];rfl
def z4:V->Bool
 | .bl b=>b
 |_=>false
def Cd:V->Bool
 | .bl _=>true
 |_=>false
theorem vh{xs:List V}{us:List Value}(r:Vals xs us)(hb:xs.all Cd=true):TruthOf X.prog X.w X.A.in1 (fun i v=>us[i]?=some v) (fun i=>z4 (xs.getD i .non)):=by
 intro i v s Q E hv q;have hl:=r.length;obtain⟨hi,_⟩:=List.getElem?_eq_some_iff.mp hv;have e1:xs[i]?=some (xs[i]'(by lia)):=List.getElem?_eq_getElem _;obtain⟨u,hu,ru⟩:=r.get e1;rw[hv]at hu;cases hu;have q:Q (z4 (xs.getD i .non)) s:=q;rw[xN e1]at q;have bl:=OM.mp hb _ (O2 e1);generalize xs[i]'(by lia)=x at ru q bl;cases x <;> first|(exact absurd (show false=true from bl) Oy)|skip
 cases ru;exact Pt q
theorem r6{xs:List V}(f:V->Bool):(List.range xs.length).all (fun i=>f (xs.getD i .non))=xs.all f:=by
 rw[OQ,OM,OM];constructor
 ·intro h x hx;obtain⟨i,hi,rfl⟩:=List.getElem_of_mem hx;have:=h i (Pn.mpr hi)
  rwa [bj _ _ _ hi]at this
 ·intro h i hi;have hi:=Pn.mp hi;rw[bj _ _ _ hi];exact h _ (PN hi)
theorem vk(hc:X.calm=true):c5 X (.builtin "all") (fun vs H Q=>∃p xs,vs=[.ref p]/\(SqL X.K H p xs\/SqT X.K H p xs)/\xs.all Cd=true/\Q (.bl (xs.all z4)) H):=by
 intro py s σ H vs us Q I r h;obtain⟨p,xs,rfl,hp,hb,q⟩:=h;obtain⟨u,rfl,r1⟩:=eJ r;cases r1;refine call_all_walk (k9 hc I hp fun it fp o ws Sx rv W st hf hit=>⟨it,fp,[it],_,_,Sx,_,rfl,W,st,vh rv hb,fun h' tk kk=>?_⟩);subst hit;refine⟨.bl (xs.all z4),H,hZ (s:=s) I kk,?_,q⟩;rw[<-rv.length,r6];rfl
theorem gv{ns:List Int}{us:List Value}(r:Vals (ns.map V.int) us){i:Nat}{v:Value}(h:us[i]?=some v):∃t,v=.int (ns.getD i 0) t:=by
 have hl:=r.length;rw[Om]at hl;obtain⟨hi,_⟩:=List.getElem?_eq_some_iff.mp h;have e1:(ns.map V.int)[i]?=some (.int (ns.getD i 0)):=by
  rw[List.getElem?_map,List.getElem?_eq_getElem (by lia),bj _ _ _ (by lia)];rfl
 obtain⟨u,hu,t,rfl⟩:=r.get e1;rw[h]at hu;exact⟨t,OY hu⟩
theorem o8{ns:List Int}{us:List Value}(r:Vals (ns.map V.int) us)(A:Around):CmpOf X.prog X.w A .Gt (fun i v=>us[i]?=some v) (fun i j=>decide (ns.getD j 0<ns.getD i 0)):=by
 intro i j vi vj s Q E hi hj q;obtain⟨t,rfl⟩:=gv r hi;obtain⟨t',rfl⟩:=gv r hj;exact gt_int q
def qq(ns:List Int):Int:=ns.foldl max (ns.headD 0)
def Ce(ns:List Int):Int:=ns.foldl min (ns.headD 0)
theorem lb(ns:List Int):∀k,k<ns.length->argBest (fun i j=>decide (ns.getD j 0<ns.getD i 0)) k<ns.length/\ns.getD (argBest (fun i j=>decide (ns.getD j 0<ns.getD i 0)) k) 0=(ns.take (k+1)).foldl max (ns.headD 0)
 | 0,h=>by
  refine⟨h,?_⟩;cases ns with
  |nil=>cases h
  |cons a l=>show a=max a a;lia
 |k+1,h=>by
  obtain⟨ih1,ih2⟩:=lb ns k (by lia);have et:ns.take (k+1+1)=ns.take (k+1)++[ns.getD (k+1) 0]:=by
   rw[Rl,List.getElem?_eq_getElem h,bj _ _ _ h];rfl
  rw[et,List.foldl_append,<-ih2];show(if decide (ns.getD (argBest (fun i j=>decide (ns.getD j 0<ns.getD i 0)) k) 0<ns.getD (k+1) 0)=true then k+1 else argBest (fun i j=>decide (ns.getD j 0<ns.getD i 0)) k)<ns.length/\
   ns.getD (if decide (ns.getD (argBest (fun i j=>decide (ns.getD j 0<ns.getD i 0)) k) 0<ns.getD (k+1) 0)=true then k+1 else argBest (fun i j=>decide (ns.getD j 0<ns.getD i 0)) k) 0=max _ _
  split
  ·rename_i hd;have:=QC hd;exact⟨h,by lia⟩
  ·rename_i hd;rw[OE]at hd;exact⟨ih1,by lia⟩
theorem r9(hc:X.calm=true):c5 X (.builtin "max") (fun vs H Q=>∃(p:Addr) (ns:List Int),vs=[.ref p]/\(SqL X.K H p (ns.map V.int)\/SqT X.K H p (ns.map V.int))/\ns≠[]/\Q (.int (qq ns)) H):=by
 intro py s σ H vs us Q I r h;obtain⟨p,ns,rfl,hp,Hr,q⟩:=h;obtain⟨u,rfl,r1⟩:=eJ r;cases r1;have hn:0<ns.length:=by cases ns with|nil=>exact absurd rfl Hr|cons _ _=>simp
 refine call_max_walk (k9 hc I hp fun it fp o ws Sx rv W st hf hit=>?_);have hl:=rv.length;rw[Om]at hl;refine⟨it,fp,[it],_,_,Sx,_,rfl,W,st,hf,by lia,o8 rv _,fun v h' tk hv kk=>?_⟩;subst hit;obtain⟨b1,b2⟩:=lb ns (ns.length-1) (by lia);rw[<-hl]at hv;obtain⟨t,rfl⟩:=gv rv hv;refine⟨.int (qq ns),H,hZ (s:=s) I kk,⟨t,?_⟩,q⟩;rw[b2,show ns.length-1+1=ns.length by lia,QU];rfl
end
section
variable{prog:Program}{w:World}{A:Around}{R:Result->Shared->Prop}{it:Addr}{fp wr:List Addr}{n:Nat}{Pv:Nat->Value->Prop}{Sx:Nat->Heap->Prop}{kw:List (Str×Value)}
theorem lg:(toString "max"++toString ".loop" : String) = "max.loop":=by decide
theorem Cf(Wk:Walks prog w A.in1 it fp wr n Pv Sx)(bt:Nat->Nat->Bool)(cm:CmpOf prog w A.in1 .Gt Pv bt)(T:Addr)(nT:T∉fp):∀(k j:Nat) (s:Shared) (vb:Value) (c:Nat),n-(j+1)=k->j+1<=n->Sx (j+1) s.heap->Pv (argBest bt j) vb->
   s.heap.get? T=some {cls:=.type "list",dict:=none,data:=.seq #[vb,vb] c,slots:=#[]}->
   (∀v h' tk,Pv (argBest bt (n-1)) v->(∀b o,b∉wr->b≠T->s.heap.get? b=some o->h'.get? b=some o)->R (.ok (.ret v)) {s with heap:=h',toks:=tk})->codeAny (model prog w) A (.builtin "max.loop" ⟨[.ref it,.none,.ref T],kw⟩) R s:=by
 have MI:T∉wr:=fun z=>nT (Wk.sub _ z)
 intro k;induction k with
 |zero=>
  intro j s vb c hk hj st hp hT fin;have ej:j+1=n:=by lia
  refine RS RA ?_;rw[QY P8 _];show wpAny _ A.in1 (seqItems? (.ref T) >>= _) _ _ s;refine Oj (Pu hT rfl ?_);show wpAny _ A.in1 (tryCatch (pyNext (.ref it)) _ >>= _) _ _ s;refine Oj (QK (Wk.done s _ _ (ej▸st) fun h' tk kk=>?_));have Kr:=kk T _ MI hT;show wpAny _ A.in1 (updateSeq T (fun _=>#[]) >>= _) _ _ _;refine Oj (RT Kr rfl (Oj (Qv (Oq ?_))));exact fin vb _ tk (by rw[<-ej];exact hp) fun b o bw bT e=>(Heap.get?_update_other _ _ (P1 bT)).trans (kk b o bw e)
 |succ k ih=>
  intro j s vb c hk hj st hp hT fin;have jn:j+1<n:=by lia
  refine RS RA ?_;rw[QY P8 _];show wpAny _ A.in1 (seqItems? (.ref T) >>= _) _ _ s;refine Oj (Pu hT rfl ?_);show wpAny _ A.in1 (tryCatch (pyNext (.ref it)) _ >>= _) _ _ s;refine Oj (QK (Wk.item (j+1) s _ _ jn st fun v h' tk pv Gd kk=>?_));have Kr:=kk T _ MI hT;show wpAny _ A.in1 (tryCatch (holding [v,v] (richCompare .Gt v vb >>= _)) _ >>= _) _ _ _;refine Oj (QK (Qc (Oj (cm (j+1) (argBest bt j) v vb _ _ _ pv hp (Oj (Qc (Pt (Oj (Qv (Oq ?_))))))))));cases eb:bt (j+1) (argBest bt j) with
  |true=>
   rw[Ow rfl];refine Oj (RT Kr rfl (Oj (Qv ?_)));rw[lg];refine Oq ⟨Rv P8 _,ih (j+1) _ v _ (by lia) jn (Wk.frame _ _ _ Gd fun b bf o e=>?_) (by simp only[argBest,eb,QR];exact pv) (Heap.get?_update_self _ Kr rfl) fun v2 h2 t2 p2 k2=>?_⟩
   ·exact(Heap.get?_update_other _ _ (fun z:T=b=>nT (by rw[z];exact bf))).trans e
   ·exact fin v2 h2 t2 p2 fun b o bw bT e=>k2 b o bw bT ((Heap.get?_update_other _ _ (P1 bT)).trans (kk b o bw e))
  |false=>
   rw[OB Oy];refine Oj (Qv ?_);rw[lg];refine Oq ⟨Rv P8 _,ih (j+1) _ vb c (by lia) jn Gd (by simp only[argBest,eb,OX,Rg];exact hp) Kr fun v2 h2 t2 p2 k2=>?_⟩;exact fin v2 h2 t2 p2 fun b o bw bT e=>k2 b o bw bT (kk b o bw e)
theorem vm(Wk:Walks prog w A.in1 it fp wr n Pv Sx)(bt:Nat->Nat->Bool)(cm:CmpOf prog w A.in1 .Gt Pv bt)(T:Addr)(nT:T∉fp){s:Shared}{c:Nat}{d:Value}(hkw:kw=[(Str.ofString "default",d)])(st:Sx 0 s.heap)
  (hT:s.heap.get? T=some {cls:=.type "list",dict:=none,data:=.seq #[] c,slots:=#[]}) (fin:∀v h' tk,(if n=0 then v=d else Pv (argBest bt (n-1)) v)->(∀b o,b∉wr->b≠T->s.heap.get? b=some o->h'.get? b=some o)->R (.ok (.ret v)) {s with heap:=h',toks:=tk}):
  codeAny (model prog w) A (.builtin "max.loop" ⟨[.ref it,.none,.ref T],kw⟩) R s:=by
 have MI:T∉wr:=fun z=>nT (Wk.sub _ z)
 refine RS RA ?_;rw[QY P8 _];show wpAny _ A.in1 (seqItems? (.ref T) >>= _) _ _ s;refine Oj (Pu hT rfl ?_);show wpAny _ A.in1 (tryCatch (pyNext (.ref it)) _ >>= _) _ _ s;by_cases hn:n=0
 ·refine Oj (QK (Wk.done s _ _ (by rw[hn];exact st) fun h' tk kk=>?_));subst hkw;refine Oj (R5 (Oq ?_));exact fin d _ tk (by rw[Ow hn]) fun b o bw bT e=>kk b o bw e
 ·refine Oj (QK (Wk.item 0 s _ _ (by lia) st fun v h' tk pv Gd kk=>?_));have Kr:=kk T _ MI hT;show wpAny _ A.in1 (updateSeq T (fun _=>#[v,v]) >>= _) _ _ _;refine Oj (RT Kr rfl ?_);rw[lg];refine Oq ⟨Rv P8 _,Cf Wk bt cm T nT _ 0 _ v _ rfl (by lia) (Wk.frame _ _ _ Gd fun b bf o e=>?_) pv (Heap.get?_update_self _ Kr rfl) fun v2 h2 t2 p2 k2=>?_⟩
  ·exact(Heap.get?_update_other _ _ (fun z:T=b=>nT (by rw[z];exact bf))).trans e
  ·exact fin v2 h2 t2 (by rw[OB hn];exact p2) fun b o bw bT e=>k2 b o bw bT ((Heap.get?_update_other _ _ (P1 bT)).trans (kk b o bw e))
end
theorem tree_kw{prog:Program}{w:World}{A:Around}{E:Value->Shared->Prop}{s:Shared}{id:String}{bf:Builtin}{args:List Value}{kw:List (Str×Value)}{Q:Value->Shared->Prop}(hk:builtinKind id=none)(hp:plainId id=true)
  (hb:entryFor table id=some bf) (ha:argsOk id ⟨args,kw⟩)
  (hc:wpAny (model prog w) A.in1 (bf ⟨args,kw⟩) (fun fin s'=>match fin with
   | .done f=>(match(Except.ok f:Result) with | .ok (.ret v)=>Q v s' | .ok _=>False | .error e=>E e s')
   | .again c'=>c'.quiet=true/\codeAny (model prog w) A c' (fun r s'=>match r with | .ok (.ret v)=>Q v s' | .ok _=>False | .error e=>E e s') s') E s):wpAny (model prog w) A (call (.builtin id) args kw) Q E s:=by
 refine wpAny_call (codeAny_call_builtin hp hb ?_);simp only[checkBuiltinCall,hk];cases hsig:Manifest.signature? id with
 |none=>exact Oq hc
 |some sig=>
  have LY:Bind.checkArgs id sig ⟨args,kw⟩=pure ():=by simpa only[argsOk,hsig] using ha
  simp only[LY];exact Oq hc
theorem sd(a d:Value):argsOk "max" ⟨[a],[(Str.ofString "default",d)]⟩:=by unfold argsOk;kernel_rfl
section
variable{X:Cx}{e k:Expr}{te tk:TE}{p pos IG:Pos}
def maxD(ns:List Int)(d:Int):Int:=if ns=[] then d else qq ns
def Cg(K:W.Frag)(te tk:TE):TE:=fun σ H Q=>uZ te BI σ H fun vs H1=>uZ tk BI σ H1 fun ks H2=>∃(a:Addr) (ns:List Int) (d:Int),vs=[.ref a]/\ks=[.int d]/\(SqL K H2 a (ns.map V.int)\/SqT K H2 a (ns.map V.int))/\Q (.int (maxD ns d)) H2
theorem xR(hc:X.calm=true)(hg:Gl X "max")(hm:X.mg "max" = none)(he:PE X e te)(hk:PE X k tk)(hs:starEach [e] X.env=[(false,eval e X.env)]:=by rfl):
  PE X (.Call (.Name "max" p) [e] [⟨some "default",k,IG⟩] pos) (Cg X.K te tk):=by
 intro py s σ H Q I h;refine Qm (jt I hg hm (by decide +kernel:bootBuiltins "max" = some (.builtin "max")) ?_ (by decide) (by decide));refine callWith_kw (Ez (dZ he iG (hs:=hs) pos py s σ H _ I h) fun us s1 ⟨vs,H1,I1,r1,q1⟩=>?_) (by rw[hs];rfl) (by rw[hs];rfl);refine Ez (xB hk zQ pos py s1 σ H1 _ I1 q1) fun ws s2 Ex=>?_
 obtain⟨ks,H2,I2,r2,a,ns,d,e1,e2,hp,q⟩:=Ex;subst e1 e2;obtain⟨u,rfl,ru⟩:=eJ r1;obtain⟨w',rfl,t,rfl⟩:=eJ r2;cases ru;show wpAny _ _ (call (.builtin "max") [.ref a] [(Str.ofString "default",.int d t)]) _ _ s2;refine tree_kw F.kind_max F.plain_max F.entry_max (sd _ _) ?_;show wpAny _ X.A.in1 (Builtin.Builtins.bindParams "max" ["key","default"] 0 ⟨[],[(Str.ofString "default",.int d t)]⟩ >>= _) _ _ s2;refine Oj (wpAny_of_eq (show Builtin.Builtins.bindParams "max" ["key","default"] 0 ⟨[],[(Str.ofString "default",.int d t)]⟩=pure [none,some (.int d t)] from rfl) ?_);refine Oj (Oq ?_);refine Oj (k9 hc I2 hp fun it fp o ws Sx rv Wk st hf hit=>?_);have hl:=rv.length;rw[Om]at hl;refine Oj (O9 ?_);have nT:(s2.heap.push o).objs.size∉fp:=fun z=>Qa _ (hf _ z)
 rw[lg];refine Oq ⟨Rv P8 _,vm Wk _ (o8 rv _) (s2.heap.push o).objs.size nT rfl (Wk.frame _ _ _ st fun b _ ob e=>Heap.get?_push_of_some _ e) (Heap.get?_push_size _ rfl) fun v h' tk' hv kk=>?_⟩;subst hit;have I3:Inv X py σ H2 {s2 with heap:=h',toks:=tk'}:=hZ (s:=s2) (o:=o) I2 fun b ob nb e=>kk b ob nb (OO (OA e)) (Heap.get?_push_of_some _ e)
 refine⟨.int (maxD ns d),H2,I3,?_,q⟩;unfold maxD;by_cases hn:ns=[]
 ·rw[Ow (by rw[<-hl,hn];rfl)]at hv;rw[Ow hn,hv];exact⟨t,rfl⟩
 ·have h0:0<ns.length:=Pr.mpr hn;rw[OB (by lia)]at hv;rw[OB hn];obtain⟨b1,b2⟩:=lb ns (ns.length-1) (by lia);rw[<-hl]at hv;obtain⟨t2,rfl⟩:=gv rv hv;refine⟨t2,?_⟩;rw[b2,show ns.length-1+1=ns.length by lia,QU];rfl
end
section
variable{prog:Program}{w:World}{A:Around}{E:Value->Shared->Prop}{s:Shared}
theorem vn{it t:Addr}{i:Nat}{items:Array Value}{x:Value}{Q:Value->Shared->Prop}(hi:s.heap.IsTupleIter it t i)(ht:s.heap.IsTuple t items)(hx:items[i]?=some x)
  (k:∀h',h'.IsTupleIter it t (i+1)->Heap.SameBut it s.heap h'->Q x {s with heap:=h'}):wpAny (model prog w) A (Builtin.SmallTypes.nextOf (.ref it)) Q E s:=by
 obtain⟨o,ho,oc,od⟩:=id hi;obtain⟨q,hq,_,n,qd⟩:=ht;unfold Builtin.SmallTypes.nextOf;refine Oj (wpAny_callSpecial?_slot (name:=Str.ofString "__next__") hi.typeIs P7 (Ph P7 hi.typeIs Q7 ?_ (Q1 _)));show wpAny _ _ (field (.ref it) 0 >>= _) _ _ s;refine Oj (Pw ho od (x:=.ref t) rfl ?_);show wpAny _ _ (if(Value.ref t==Value.none)=true then _ else _) _ _ s;rw[OB (fun z:(Value.ref t==Value.none)=true=>Oy z)];show wpAny _ _ (field (.ref it) 1 >>= _) _ _ s;refine Oj (Pw ho od (x:=.int i 0) rfl (Oj (Pu hq qd ?_)));simp only[Qr,hx];refine Oj (Ri ho od (by simp) (Oq ⟨x,rfl,Oq (k _ ⟨_,Heap.get?_update_self _ ho (Obj.isFreed_of_fields (QB od _)),(Obj.cls_mapFields ..).trans oc,?_⟩ (Qw ..))⟩));rw[QB od];simp[rawInt]
theorem xS{it t:Addr}{i:Nat}{items:Array Value}{Q:Value->Shared->Prop}(hh:A.handled=none)(hi:s.heap.IsTupleIter it t i)(ht:s.heap.IsTuple t items)(hx:items[i]?=none)
  (k:∀h' e,Heap.ExtBut it s.heap h'->(∃o,h'.get? e=some o/\o.cls=.type "StopIteration")->E (.ref e) {s with heap:=h'}):wpAny (model prog w) A (Builtin.SmallTypes.nextOf (.ref it)) Q E s:=by
 obtain⟨o,ho,oc,od⟩:=id hi;obtain⟨q,hq,_,n,qd⟩:=ht;unfold Builtin.SmallTypes.nextOf;refine Oj (wpAny_callSpecial?_slot (name:=Str.ofString "__next__") hi.typeIs P7 (Ph P7 hi.typeIs Q7 ?_ (Q1 _)));show wpAny _ _ (field (.ref it) 0 >>= _) _ _ s;refine Oj (Pw ho od (x:=.ref t) rfl ?_);show wpAny _ _ (if(Value.ref t==Value.none)=true then _ else _) _ _ s;rw[OB (fun z:(Value.ref t==Value.none)=true=>Oy z)];show wpAny _ _ (field (.ref it) 1 >>= _) _ _ s;refine Oj (Pw ho od (x:=.int i 0) rfl (Oj (Pu hq qd ?_)));simp only[Qr,hx];refine Oj (R5 (Oj (Ri ho od (by simp) ?_)));show wpAny _ _ (newExc (.type "StopIteration") [] >>= _) _ _ _;refine Oj ?_;simp only[newExc,newTuple];refine Oj (O9 (Oj (m:=firstArgMember _ _) (wpAny_of_eq (a:=Value.none) (by first|rfl|(simp only[firstArgMember];rfl)) (O9 ?_ (by size_fits)))) (by size_fits));simp only[raiseNew];refine Oj (wpAny_handled ?_);first
  |rw[show A.in1.handled=none from hh]
  |rw[hh]
 exact Oj (Oq (wpAny_throw (k _ _ (((Qw ..).extBut.push _).push _) ⟨_,Heap.get?_push_size _ rfl,rfl⟩)))
def IsIt(k:Bool)(h:Heap)(it l:Addr)(i:Nat):Prop:=match k with
 |true=>h.IsListIter it l i
 |false=>h.IsTupleIter it l i
def IsSq(k:Bool)(h:Heap)(l:Addr)(xs:Array Value):Prop:=match k with
 |true=>h.IsList l xs
 |false=>h.IsTuple l xs
theorem IsIt.at{k:Bool}{h h':Heap}{it l:Addr}{i:Nat}(x:IsIt k h it l i)(e:∀o,h.get? it=some o->h'.get? it=some o):IsIt k h' it l i:=by
 cases k with
 |true=>obtain⟨o,ho,r⟩:=(show h.IsListIter it l i from x);exact(show h'.IsListIter it l i from⟨o,e o ho,r⟩)
 |false=>obtain⟨o,ho,r⟩:=(show h.IsTupleIter it l i from x);exact(show h'.IsTupleIter it l i from⟨o,e o ho,r⟩)
theorem IsSq.at{k:Bool}{h h':Heap}{l:Addr}{xs:Array Value}(x:IsSq k h l xs)(e:∀o,h.get? l=some o->h'.get? l=some o):IsSq k h' l xs:=by
 cases k with
 |true=>obtain⟨o,ho,r⟩:=(show h.IsList l xs from x);exact(show h'.IsList l xs from⟨o,e o ho,r⟩)
 |false=>obtain⟨o,ho,r⟩:=(show h.IsTuple l xs from x);exact(show h'.IsTuple l xs from⟨o,e o ho,r⟩)
theorem IsIt.obj{k:Bool}{h:Heap}{it l:Addr}{i:Nat}(x:IsIt k h it l i):∃o,h.get? it=some o/\∀v,o.data≠.cell v:=by
 cases k with
 |true=>obtain⟨o,ho,_,d⟩:=(show h.IsListIter it l i from x);exact⟨o,ho,fun v z=>by rw[d]at z;cases z⟩
 |false=>obtain⟨o,ho,_,d⟩:=(show h.IsTupleIter it l i from x);exact⟨o,ho,fun v z=>by rw[d]at z;cases z⟩
theorem IsSq.get{k:Bool}{h:Heap}{l:Addr}{xs:Array Value}(x:IsSq k h l xs):∃o,h.get? l=some o:=by
 cases k with
 |true=>obtain⟨o,ho,_⟩:=(show h.IsList l xs from x);exact⟨o,ho⟩
 |false=>obtain⟨o,ho,_⟩:=(show h.IsTuple l xs from x);exact⟨o,ho⟩
theorem n0{k:Bool}{it l:Addr}{i:Nat}{xs:Array Value}{x:Value}{Q:Value->Shared->Prop}(hi:IsIt k s.heap it l i)(hl:IsSq k s.heap l xs)(hx:xs[i]?=some x)
  (q:∀h',IsIt k h' it l (i+1)->Heap.SameBut it s.heap h'->Q x {s with heap:=h'}):wpAny (model prog w) A (Builtin.SmallTypes.nextOf (.ref it)) Q E s:=by
 cases k with
 |true=>exact wpAny_nextOf_list_item hi hl hx q
 |false=>exact vn hi hl hx q
theorem wy{k:Bool}{it l:Addr}{i:Nat}{xs:Array Value}{Q:Value->Shared->Prop}(hh:A.handled=none)(hi:IsIt k s.heap it l i)(hl:IsSq k s.heap l xs)(hx:xs[i]?=none)
  (q:∀h' e,Heap.ExtBut it s.heap h'->(∃o,h'.get? e=some o/\o.cls=.type "StopIteration")->E (.ref e) {s with heap:=h'}):wpAny (model prog w) A (Builtin.SmallTypes.nextOf (.ref it)) Q E s:=by
 cases k with
 |true=>exact wpAny_nextOf_list_end hh hi hl hx q
 |false=>exact xS hh hi hl hx q
theorem xT{k1 k2:Bool}{z TI TO i1 i2 l1 l2:Addr}{i:Nat}{xs ys:Array Value}{x y a b:Value}{Q:Value->Shared->Prop}(D:ZipApart z TI TO i1 i2 l1 l2)(hz:IsZip s.heap z TI TO .none)(HV:IsPair s.heap TI (.ref i1) (.ref i2))(IK:IsPair s.heap TO a b)
  (h1:IsIt k1 s.heap i1 l1 i) (h2:IsIt k2 s.heap i2 l2 i) (g1:IsSq k1 s.heap l1 xs) (g2:IsSq k2 s.heap l2 ys) (hx:xs[i]?=some x) (hy:ys[i]?=some y)
  (q:∀h',IsZip h' z TI TO (rawInt s.heap.objs.size)->IsPair h' TO x y->IsIt k1 h' i1 l1 (i+1)->IsIt k2 h' i2 l2 (i+1)->IsPair h' s.heap.objs.size x y->
   (∀c o,c≠z->c≠TO->c≠i1->c≠i2->s.heap.get? c=some o->h'.get? c=some o)->Q (.ref s.heap.objs.size) {s with heap:=h'}):
  wpAny (model prog w) A (Builtin.«zip.__next__» ⟨[.ref z],[]⟩) (fun fin s'=>∃v,fin=.done (.ret v)/\Q v s') E s:=by
 show wpAny _ _ (field (.ref z) 2 >>= _) _ _ _;refine Oj (Pw hz rfl (x:=.bool false) rfl ?_);show wpAny _ _ (field (.ref z) 3 >>= _) _ _ _;refine Oj (Pw hz rfl (x:=.ref TI) rfl (Oj (Pu HV rfl ?_)));show wpAny _ _ (Builtin.SmallTypes.ownedTupleIsFree (.ref z) >>= _) _ _ _;refine Oj ?_;unfold Builtin.SmallTypes.ownedTupleIsFree;refine Oj (Pw hz rfl (x:=.none) rfl (Oq ?_));rw[Ow (by rfl)];refine Oj (R5 (Oj (Pw hz rfl (x:=.ref TO) rfl (Oj (Qd hz (by simp) fun hA zA sA=>?_)))));have zA:IsZip hA z TI TO .ellipsis:=zA;refine Oj ?_;simp only[List.zipIdx_cons,List.zipIdx_nil,RP,List.forIn_nil];refine Oj (Oj (Rw ?_));show wpAny _ _ (Builtin.SmallTypes.nextOf (.ref i1) >>= _) _ _ _;refine Oj (n0 (h1.at fun o e=>sA.extBut _ _ D.i1z e) (g1.at fun o e=>sA.extBut _ _ D.l1z e) hx fun hB iB sB=>Oq ?_);have tB:IsPair hB TO a b:=sB.extBut _ _ D.TOi1 (sA.extBut _ _ D.TOz IK);refine Oj (Pu tB rfl (Oj (QZ tB fun hC tC sC=>Oj (Qv (Oq ?_)))));have tC:IsPair hC TO x b:=tC;refine Oj (Oj (Rw ?_));show wpAny _ _ (Builtin.SmallTypes.nextOf (.ref i2) >>= _) _ _ _;refine Oj (n0 (h2.at fun o e=>sC.extBut _ _ D.TOi2.symm (sB.extBut _ _ D.i12.symm (sA.extBut _ _ D.i2z e))) (g2.at fun o e=>sC.extBut _ _ D.l2TO (sB.extBut _ _ D.l2i1 (sA.extBut _ _ D.l2z e))) hy fun hD iD sD=>Oq ?_);have tD:IsPair hD TO x b:=sD.extBut _ _ D.TOi2 tC;refine Oj (Pu tD rfl (Oj (QZ tD fun hE tE sE=>Oj (Qv (Oq (Oq ?_))))));have tE:IsPair hE TO x y:=tE;refine Oj (Pu tE rfl (Oj (wpAny_newTuple ?_)));have ez:hE.objs.size=s.heap.objs.size:=by rw[sE.1,sD.1,sC.1,sB.1,sA.1]
 have zE:IsZip hE z TI TO .ellipsis:=sE.extBut _ _ D.TOz.symm (sD.extBut _ _ D.i2z.symm (sC.extBut _ _ D.TOz.symm (sB.extBut _ _ D.i1z.symm zA)));have kE:∀c o,c≠z->c≠TO->c≠i1->c≠i2->s.heap.get? c=some o->hE.get? c=some o:=fun c o c1 c2 c3 c4 e=>sE.extBut _ _ c2 (sD.extBut _ _ c4 (sC.extBut _ _ c2 (sB.extBut _ _ c3 (sA.extBut _ _ c1 e))))
 have i1E:IsIt k1 hE i1 l1 (i+1):=iB.at fun o e=>sE.extBut _ _ D.TOi1.symm (sD.extBut _ _ D.i12 (sC.extBut _ _ D.TOi1.symm e))
 have i2E:IsIt k2 hE i2 l2 (i+1):=iD.at fun o e=>sE.extBut _ _ D.TOi2.symm e
 show wpAny _ _ (Builtin.SmallTypes.ownedTupleHandOut (.ref z) (.ref hE.objs.size) >>= _) _ _ _;refine Oj ?_;unfold Builtin.SmallTypes.ownedTupleHandOut;have zF:IsZip (hE.push {cls:=.type "tuple",data:=.seq #[x,y]}) z TI TO .ellipsis:=Heap.get?_push_of_some _ zE;refine Oj (Qd zF (by simp) fun hG zG sG=>?_);have zG:IsZip hG z TI TO (rawInt hE.objs.size):=zG;refine Qd zG (by simp) fun hK zK sK=>?_
 have zK:IsZip hK z TI TO (rawInt hE.objs.size):=zK;have up:∀c o,c≠z->hE.get? c=some o->hK.get? c=some o:=fun c o c1 e=>sK.extBut _ _ c1 (sG.extBut _ _ c1 (Heap.get?_push_of_some _ e))
 have nz:hE.objs.size≠z:=SE (OA zE);have tK:IsPair hK hE.objs.size x y:=sK.extBut _ _ nz (sG.extBut _ _ nz (Heap.get?_push_size _ rfl));rw[ez]at zK tK;refine Oq ⟨_,rfl,?_⟩;show Q (.ref hE.objs.size) _;rw[ez];exact q hK zK (up _ _ D.TOz tE) (i1E.at fun o e=>up _ o D.i1z e) (i2E.at fun o e=>up _ o D.i2z e) tK fun c o c1 c2 c3 c4 e=>up c o c1 (kE c o c1 c2 c3 c4 e)
theorem z5{k1 k2:Bool}{z TI TO i1 i2 l1 l2:Addr}{i:Nat}{xs ys:Array Value}{a b:Value}{Q:Fin->Shared->Prop}(hh:A.handled=none)(D:ZipApart z TI TO i1 i2 l1 l2)(hz:IsZip s.heap z TI TO .none)(HV:IsPair s.heap TI (.ref i1) (.ref i2))(IK:IsPair s.heap TO a b)
  (h1:IsIt k1 s.heap i1 l1 i) (h2:IsIt k2 s.heap i2 l2 i) (g1:IsSq k1 s.heap l1 xs) (g2:IsSq k2 s.heap l2 ys) (he:xs[i]?=none\/ys[i]?=none)
  (q:∀h' e,(∀c o,c≠z->c≠TO->c≠i1->c≠i2->s.heap.get? c=some o->h'.get? c=some o)->(∃o,h'.get? e=some o/\o.cls=.type "StopIteration")->E (.ref e) {s with heap:=h'}):
  wpAny (model prog w) A (Builtin.«zip.__next__» ⟨[.ref z],[]⟩) Q E s:=by
 show wpAny _ _ (field (.ref z) 2 >>= _) _ _ _;refine Oj (Pw hz rfl (x:=.bool false) rfl ?_);show wpAny _ _ (field (.ref z) 3 >>= _) _ _ _;refine Oj (Pw hz rfl (x:=.ref TI) rfl (Oj (Pu HV rfl ?_)));show wpAny _ _ (Builtin.SmallTypes.ownedTupleIsFree (.ref z) >>= _) _ _ _;refine Oj ?_;unfold Builtin.SmallTypes.ownedTupleIsFree;refine Oj (Pw hz rfl (x:=.none) rfl (Oq ?_));rw[Ow (by rfl)];refine Oj (R5 (Oj (Pw hz rfl (x:=.ref TO) rfl (Oj (Qd hz (by simp) fun hA zA sA=>?_)))));have zA:IsZip hA z TI TO .ellipsis:=zA;refine Oj ?_;simp only[List.zipIdx_cons,List.zipIdx_nil,RP,List.forIn_nil];refine Oj (Oj (Rw ?_));show wpAny _ _ (Builtin.SmallTypes.nextOf (.ref i1) >>= _) _ _ _;cases hx:xs[i]? with
 |none=>
  refine Oj (wy hh (h1.at fun o e=>sA.extBut _ _ D.i1z e) (g1.at fun o e=>sA.extBut _ _ D.l1z e) hx fun hB e sB Ex=>?_);obtain⟨oe,ge,ce⟩:=Ex;have zB:IsZip hB z TI TO .ellipsis:=sB _ _ D.i1z.symm zA;have ne:e≠z:=fun x=>by subst x;rw[zB]at ge;cases ge;simp at ce
  exact Qd zB (by simp) fun hC _ sC=>q hC e (fun c o c1 _ c3 _ x=>sC.extBut _ _ c1 (sB _ _ c3 (sA.extBut _ _ c1 x))) ⟨oe,sC.extBut _ _ ne ge,ce⟩
 |some x=>
  have hy:ys[i]?=none:=by
   rcases he with z|z
   ·rw[hx]at z;cases z
   ·exact z
  refine Oj (n0 (h1.at fun o e=>sA.extBut _ _ D.i1z e) (g1.at fun o e=>sA.extBut _ _ D.l1z e) hx fun hB iB sB=>Oq ?_);have tB:IsPair hB TO a b:=sB.extBut _ _ D.TOi1 (sA.extBut _ _ D.TOz IK);refine Oj (Pu tB rfl (Oj (QZ tB fun hC tC sC=>Oj (Qv (Oq ?_)))));refine Oj (Oj (Rw ?_));show wpAny _ _ (Builtin.SmallTypes.nextOf (.ref i2) >>= _) _ _ _;refine Oj (wy hh (h2.at fun o e=>sC.extBut _ _ D.TOi2.symm (sB.extBut _ _ D.i12.symm (sA.extBut _ _ D.i2z e))) (g2.at fun o e=>sC.extBut _ _ D.l2TO (sB.extBut _ _ D.l2i1 (sA.extBut _ _ D.l2z e))) hy fun hD e sD Ex=>?_);obtain⟨oe,ge,ce⟩:=Ex;have zD:IsZip hD z TI TO .ellipsis:=sD _ _ D.i2z.symm (sC.extBut _ _ D.TOz.symm (sB.extBut _ _ D.i1z.symm zA));have ne:e≠z:=fun x=>by subst x;rw[zD]at ge;cases ge;simp at ce
  exact Qd zD (by simp) fun hF _ sF=>q hF e (fun c o c1 c2 c3 c4 x=>sF.extBut _ _ c1 (sD _ _ c4 (sC.extBut _ _ c2 (sB.extBut _ _ c3 (sA.extBut _ _ c1 x))))) ⟨oe,sF.extBut _ _ ne ge,ce⟩
end
def itObj(k:Bool)(l:Addr):Obj:=match k with
 |true=>{cls:=.type "list_iterator",data:=.fields #[.ref l,.int 0 0]}
 |false=>{cls:=.type "tuple_iterator",data:=.fields #[.ref l,.int 0 0]}
theorem o9(k:Bool)(h:Heap)(l:Addr):IsIt k (h.push (itObj k l)) h.objs.size l 0:=by
 cases k with
 |true=>exact⟨_,Heap.get?_push_size _ rfl,rfl,rfl⟩
 |false=>exact⟨_,Heap.get?_push_size _ rfl,rfl,rfl⟩
abbrev zA(h:Heap)(k1:Bool)(l1:Addr):Heap:=h.push (itObj k1 l1)
abbrev zB(h:Heap)(k1 k2:Bool)(l1 l2:Addr):Heap:=(zA h k1 l1).push (itObj k2 l2)
abbrev zC(h:Heap)(k1 k2:Bool)(l1 l2:Addr):Heap:=(zB h k1 k2 l1 l2).push {cls:=.type "tuple",data:=.seq #[.ref h.objs.size,.ref (zA h k1 l1).objs.size]}
abbrev zD(h:Heap)(k1 k2:Bool)(l1 l2:Addr):Heap:=(zC h k1 k2 l1 l2).push {cls:=.type "tuple",data:=.seq #[.none,.none]}
abbrev zE(h:Heap)(k1 k2:Bool)(l1 l2:Addr):Heap:=(zD h k1 k2 l1 l2).push {cls:=.type "zip",data:=.fields #[.none,.bool false,.bool false,.ref (zB h k1 k2 l1 l2).objs.size,.ref (zC h k1 k2 l1 l2).objs.size]}
set_option maxHeartbeats 8000000 in
theorem z6(k1 k2:Bool)(l1 l2:Addr)(xs ys:Array Value):
  Meets (Builtin.«zip.__new__» ⟨[.type "zip",.ref l1,.ref l2],[]⟩) (fun _ R s=>IsSq k1 s.heap l1 xs/\IsSq k2 s.heap l2 ys/\R (.ok (.ret (.ref (zD s.heap k1 k2 l1 l2).objs.size))) {s with heap:=zE s.heap k1 k2 l1 l2}):=
 .of_wp fun prog w A R s h=>by
  obtain⟨hp,g,d,tk,os⟩:=s;obtain⟨g1,g2,q⟩:=h;have hsub:=sub_zip;cases k1 with
  |true=>
   have e1:Heap.IsList (Shared.heap ⟨hp,g,d,tk,os⟩) l1 xs:=g1;cases k2 with
   |true=>
    have e2:Heap.IsList (Shared.heap ⟨hp.push {cls:=.type "list_iterator",data:=.fields #[.ref l1,.int 0 0]},g,d,tk,os⟩) l2 ys:=Heap.IsList.push g2 _
    wp_walk using Qf e1,Qf e2
    exact⟨_,rfl,q⟩
   |false=>
    have e2:Heap.IsTuple (Shared.heap ⟨hp.push {cls:=.type "list_iterator",data:=.fields #[.ref l1,.int 0 0]},g,d,tk,os⟩) l2 ys:=Heap.IsTuple.push g2 _
    wp_walk using Qf e1,Qb e2
    exact⟨_,rfl,q⟩
  |false=>
   have e1:Heap.IsTuple (Shared.heap ⟨hp,g,d,tk,os⟩) l1 xs:=g1;cases k2 with
   |true=>
    have e2:Heap.IsList (Shared.heap ⟨hp.push {cls:=.type "tuple_iterator",data:=.fields #[.ref l1,.int 0 0]},g,d,tk,os⟩) l2 ys:=Heap.IsList.push g2 _
    wp_walk using Qb e1,Qf e2
    exact⟨_,rfl,q⟩
   |false=>
    have e2:Heap.IsTuple (Shared.heap ⟨hp.push {cls:=.type "tuple_iterator",data:=.fields #[.ref l1,.int 0 0]},g,d,tk,os⟩) l2 ys:=Heap.IsTuple.push g2 _
    wp_walk using Qb e1,Qb e2
    exact⟨_,rfl,q⟩
def ZS(k1 k2:Bool)(z TI TO i1 i2 l1 l2:Addr)(i:Nat)(h:Heap):Prop:=IsZip h z TI TO .none/\IsPair h TI (.ref i1) (.ref i2)/\(∃a b,IsPair h TO a b)/\IsIt k1 h i1 l1 i/\IsIt k2 h i2 l2 i
theorem xU{prog:Program}{w:World}{A:Around}{E:Value->Shared->Prop}{s:Shared}{k1 k2:Bool}{l1 l2:Addr}{xs ys:Array Value}{Q:Value->Shared->Prop}(g1:IsSq k1 s.heap l1 xs)(g2:IsSq k2 s.heap l2 ys)
  (q:∀h',ZS k1 k2 (s.heap.objs.size+4) (s.heap.objs.size+2) (s.heap.objs.size+3) s.heap.objs.size (s.heap.objs.size+1) l1 l2 0 h'->(∀c o,s.heap.get? c=some o->h'.get? c=some o)->Q (.ref (s.heap.objs.size+4)) {s with heap:=h'}):
  wpAny (model prog w) A (call (.type "zip") [.ref l1,.ref l2]) Q E s:=by
 refine callType_new F.called_zip (by decide) (F.typeCall_zip_2 _ _) (F.newCall_zip_2 _ _) (fun obj=>F.args_object_init_3 obj _ _) F.entry_zip_new (z6 k1 k2 l1 l2 xs ys) ⟨g1,g2,?_⟩;have nA:(zA s.heap k1 l1).objs.size=s.heap.objs.size+1:=Ql ..;have nB:(zB s.heap k1 k2 l1 l2).objs.size=s.heap.objs.size+2:=by rw[Ql,nA]
 have nC:(zC s.heap k1 k2 l1 l2).objs.size=s.heap.objs.size+3:=by rw[Ql,nB]
 have nD:(zD s.heap k1 k2 l1 l2).objs.size=s.heap.objs.size+4:=by rw[Ql,nC]
 have pu:∀{h:Heap}{o:Obj}{c:Addr}{v:Obj},h.get? c=some v->(h.push o).get? c=some v:=fun e=>Heap.get?_push_of_some _ e
 have gz:(zE s.heap k1 k2 l1 l2).get? (zD s.heap k1 k2 l1 l2).objs.size=some _:=Heap.get?_push_size _ rfl;have go:(zE s.heap k1 k2 l1 l2).get? (zC s.heap k1 k2 l1 l2).objs.size=some _:=pu (Heap.get?_push_size _ rfl);have gi:(zE s.heap k1 k2 l1 l2).get? (zB s.heap k1 k2 l1 l2).objs.size=some _:=pu (pu (Heap.get?_push_size _ rfl));have j2:IsIt k2 (zE s.heap k1 k2 l1 l2) (zA s.heap k1 l1).objs.size l2 0:=(o9 k2 (zA s.heap k1 l1) l2).at fun o e=>pu (pu (pu e))
 have j1:IsIt k1 (zE s.heap k1 k2 l1 l2) s.heap.objs.size l1 0:=(o9 k1 s.heap l1).at fun o e=>pu (pu (pu (pu e)))
 show _/\_;rw[nB,nC,nD]at gz;rw[nA,nB]at gi;rw[nC]at go;rw[nA]at j2;rw[nD];exact⟨⟨_,gz,rfl⟩,q _ ⟨gz,gi,⟨_,_,go⟩,j1,j2⟩ fun c o x=>pu (pu (pu (pu (pu x))))⟩
noncomputable def Na(K:W.Frag)(k1 k2:Bool)(a b:Addr):It:=
 ⟨fun i H=>∃xs ys x y,(if k1 then SqL K H a xs else SqT K H a xs)/\(if k2 then SqL K H b ys else SqT K H b ys)/\xs[i]?=some x/\ys[i]?=some y,
  fun i H v H'=>∃T,H T=none/\v=.ref T/\∀xs ys x y,(if k1 then SqL K H a xs else SqT K H a xs)->(if k2 then SqL K H b ys else SqT K H b ys)->xs[i]?=some x->ys[i]?=some y->H'=upd H T (.tup [x,y]),
  fun i H=>∃xs ys,(if k1 then SqL K H a xs else SqT K H a xs)/\(if k2 then SqL K H b ys else SqT K H b ys)/\i=min xs.length ys.length⟩
section
variable{X:Cx}{py:List (Addr×Obj)}{σ:L2.St}{H:Hp}{s:Shared}
theorem qr(I:Inv X py σ H s){k:Bool}{a:Addr}{xs:List V}(h:if k then SqL X.K H a xs else SqT X.K H a xs):∃us:List Value,Vals xs us/\IsSq k s.heap a us.toArray:=by
 cases k with
 |true=>
  obtain⟨us,r,p,_⟩:=I.list (show SqL X.K H a xs from h);exact⟨us,r,p.isList⟩
 |false=>
  obtain⟨us,r,p,_⟩:=I.tuple (show SqT X.K H a xs from h);exact⟨us,r,(show s.heap.IsTuple a us.toArray from p)⟩
theorem wz(I:Inv X py σ H s){k:Bool}{a:Addr}{xs ys:List V}(h:if k then SqL X.K H a xs else SqT X.K H a xs)(h':if k then SqL X.K H a ys else SqT X.K H a ys):xs=ys:=by
 cases k with
 |true=>exact I.list_inj (show SqL X.K H a xs from h) (show SqL X.K H a ys from h')
 |false=>exact I.tuple_inj (show SqT X.K H a xs from h) (show SqT X.K H a ys from h')
theorem gk(I:Inv X py σ H s){k:Bool}{a b:Addr}{xs:List V}(h:if k then SqL X.K H a xs else SqT X.K H a xs)(f:rg X py H b):a≠b:=by
 rintro rfl;obtain⟨f0,_,_,f3,_⟩:=f;have nb:∀o,X.K.lookup a=some o->False:=fun o hk=>by
  have e:=I.ok.mod.kin a o hk;rcases f3 with z|z
  ·exact I.ok.noex a o e z
  ·exact absurd (OF (OA e) (Pc I.ok.bsz z)) (Qa _)
 cases k with
 |true=>
  rcases(show SqL X.K H a xs from h) with(h|⟨o,h⟩)|⟨o,Eg,n,hk,_⟩
  ·rw[f0]at h;cases h
  ·rw[f0]at h;cases h
  ·exact nb o hk
 |false=>
  rcases(show SqT X.K H a xs from h) with(h|⟨o,h⟩)|⟨o,Eg,n,hk,_⟩
  ·rw[f0]at h;cases h
  ·rw[f0]at h;cases h
  ·exact nb o hk
end
theorem nx_zip_item{prog:Program}{w:World}{A:Around}{E:Value->Shared->Prop}{s:Shared}{k1 k2:Bool}{z TI TO i1 i2 l1 l2:Addr}{i:Nat}{xs ys:Array Value}{x y:Value}{Q:Option Value->Shared->Prop}(D:ZipApart z TI TO i1 i2 l1 l2)(st:ZS k1 k2 z TI TO i1 i2 l1 l2 i s.heap)
  (g1:IsSq k1 s.heap l1 xs) (g2:IsSq k2 s.heap l2 ys) (hx:xs[i]?=some x) (hy:ys[i]?=some y)
  (q:∀h',IsZip h' z TI TO (rawInt s.heap.objs.size)->IsPair h' TO x y->IsIt k1 h' i1 l1 (i+1)->IsIt k2 h' i2 l2 (i+1)->IsPair h' s.heap.objs.size x y->
   (∀c o,c≠z->c≠TO->c≠i1->c≠i2->s.heap.get? c=some o->h'.get? c=some o)->Q (some (.ref s.heap.objs.size)) {s with heap:=h'}):wpAny (model prog w) A (pyNext (.ref z)) Q E s:=by
 obtain⟨hz,HV,⟨a,b,IK⟩,h1,h2⟩:=st;have ty:s.TypeIs (.ref z) "zip":=⟨_,hz,rfl⟩
 unfold pyNext;exact Oj (Rx (wpAny_callSpecial?_slot (name:=Str.ofString "__next__") ty Q8 (Ph Q8 ty F.entry_zip_next (xT D hz HV IK h1 h2 g1 g2 hx hy fun h' a1 a2 a3 a4 a5 a6=>Oq (q h' a1 a2 a3 a4 a5 a6)) (F.args_zip_next_1 _))))
theorem qu{prog:Program}{w:World}{A:Around}{E:Value->Shared->Prop}{s:Shared}{k1 k2:Bool}{z TI TO i1 i2 l1 l2:Addr}{i:Nat}{xs ys:Array Value}{Q:Option Value->Shared->Prop}(hh:A.handled=none)(D:ZipApart z TI TO i1 i2 l1 l2)(st:ZS k1 k2 z TI TO i1 i2 l1 l2 i s.heap)
  (g1:IsSq k1 s.heap l1 xs) (g2:IsSq k2 s.heap l2 ys) (he:xs[i]?=none\/ys[i]?=none) (q:∀h',(∀c o,c≠z->c≠TO->c≠i1->c≠i2->s.heap.get? c=some o->h'.get? c=some o)->Q none {s with heap:=h'}):wpAny (model prog w) A (pyNext (.ref z)) Q E s:=by
 obtain⟨hz,HV,⟨a,b,IK⟩,h1,h2⟩:=st;have ty:s.TypeIs (.ref z) "zip":=⟨_,hz,rfl⟩
 unfold pyNext;refine Oj (Rx (wpAny_callSpecial?_slot (name:=Str.ofString "__next__") ty Q8 (Ph Q8 ty F.entry_zip_next (z5 hh D hz HV IK h1 h2 g1 g2 he fun h' e kk ⟨o,ho,oc⟩=>?_) (F.args_zip_next_1 _))));exact Oj (wpAny_isInstance (T:="StopIteration") (b:=true) ⟨o,ho,oc⟩ isSubtype_stop (Oq (q _ kk)))
theorem vo{P:Program}{w:World}{K:W.Frag}{es:List Expr}{kt:Nat}{pt:Pos}(k1 k2:Bool)(a b z TI TO i1 i2:Addr)(ne:z≠TI/\z≠TO/\z≠i1/\z≠i2/\TI≠TO/\TI≠i1/\TI≠i2/\TO≠i1/\TO≠i2/\i1≠i2):
  Turn P w K (.Tuple es kt pt) (Na K k1 k2 a b) [z,TI,TO,i1,i2] z (ZS k1 k2 z TI TO i1 i2 a b) where
 mem:=by simp
 obj:=fun i h st c hc=>by
  obtain⟨hz,HV,⟨x,y,IK⟩,h1,h2⟩:=st;simp only[Oz,PQ,S4]at hc;rcases hc with rfl|rfl|rfl|rfl|rfl
  ·exact⟨_,hz,fun v q=>by cases q⟩
  ·exact⟨_,HV,fun v q=>by cases q⟩
  ·exact⟨_,IK,fun v q=>by cases q⟩
  ·exact h1.obj
  ·exact h2.obj
 keep:=fun i h h' st k=>by
  obtain⟨hz,HV,⟨x,y,IK⟩,h1,h2⟩:=st;exact⟨k z (by simp) _ hz,k TI (by simp) _ HV,⟨x,y,k TO (by simp) _ IK⟩,h1.at fun o e=>k i1 (by simp) o e,h2.at fun o e=>k i2 (by simp) o e⟩
 item:=by
  intro X hP hw hK hc i py s σ H E I hf st hg;subst hP hw hK;obtain⟨xs,ys,x,y,s1,s2,hx,hy⟩:=hg;obtain⟨us,r1,q1⟩:=qr I s1;obtain⟨ws,r2,q2⟩:=qr I s2;obtain⟨u,hu,ru⟩:=r1.get hx;obtain⟨v,hv,rv⟩:=r2.get hy;obtain⟨n1,n2,n3,n4,n5,n6,n7,n8,n9,Nb⟩:=ne;have f:=fun c hc=>hf c hc
  have D:ZipApart z TI TO i1 i2 a b:=⟨n1.symm,n2.symm,n3.symm,n4.symm,n5,n6,n7,n8,n9,Nb,gk I s1 (f z (by simp)),gk I s1 (f TO (by simp)),gk I s1 (f i1 (by simp)),gk I s1 (f i2 (by simp)),
   gk I s2 (f z (by simp)),gk I s2 (f TO (by simp)),gk I s2 (f i1 (by simp)),gk I s2 (f i2 (by simp))⟩
  have HV:=st.2.1;refine nx_zip_item D st q1 q2 (by simpa using hu) (by simpa using hv) fun h' z1 t1 j1 j2 tp kk=>⟨_,rfl,?_⟩
  refine wpAny_letOwnedTupleGo_zip z1 fun h2 z2 sb=>?_
  have nT:H s.heap.objs.size=none:=I.hok.fresh (Ou _);have tT:s.heap.objs.size≠z:=SE (OA st.1);have all:∀c o,c≠z->c≠TO->c≠i1->c≠i2->s.heap.get? c=some o->h2.get? c=some o:=fun c o c1 c2 c3 c4 e=>(sb.2 c c1).trans (kk c o c1 c2 c3 c4 e)
  have fz:=f z (by simp);have fo:=f TO (by simp);have f1:=f i1 (by simp);have f2:=f i2 (by simp);have KJ:∀c ob,H c=some ob->c≠z/\c≠TO/\c≠i1/\c≠i2:=fun c ob e=>⟨(fun q=>by rw[q,fz.1]at e;cases e),(fun q=>by rw[q,fo.1]at e;cases e),(fun q=>by rw[q,f1.1]at e;cases e),(fun q=>by rw[q,f2.1]at e;cases e)⟩
  refine⟨.ref s.heap.objs.size,upd H s.heap.objs.size (.tup [x,y]),?_,rfl,⟨_,nT,rfl,fun Fu ys' x' y' a1 a2 a3 a4=>?_⟩,⟨z2,?_,⟨u,v,(sb.2 TO n2.symm).trans t1⟩,j1.at fun o e=>(sb.2 i1 n3.symm).trans e,j2.at fun o e=>(sb.2 i2 n4.symm).trans e⟩,fun c hc=>?_⟩
  ·have tup2:h2.get? s.heap.objs.size=some {cls:=.type "tuple",data:=.seq #[u,v]}:=(sb.2 _ tT).trans tp;have S0:Inv X py σ (upd H s.heap.objs.size (.tup [x,y])) {s with heap:=h2,gens:=s.gens,drawn:=s.drawn,toks:=s.toks}:=by
    refine I.step (ch:=[z,TO,i1,i2]) (fun c hc=>?_) (fun c o _ _ nc e _=>all c o (fun q=>nc (by simp[q])) (fun q=>nc (by simp[q])) (fun q=>nc (by simp[q])) (fun q=>nc (by simp[q])) e)
     (fun c o _ _ nc e _=>⟨o.slots,all c o (fun q=>nc (by simp[q])) (fun q=>nc (by simp[q])) (fun q=>nc (by simp[q])) (fun q=>nc (by simp[q])) e⟩) (fun c o _ e n=>by rw[aF (OO (OA e))];exact n)
     (fun c o nc e=>⟨o,all c o (fun q=>nc (by simp[q])) (fun q=>nc (by simp[q])) (fun q=>nc (by simp[q])) (fun q=>nc (by simp[q])) e⟩) (fun c l e=>by rw[aF (a7 e nT)];exact e) (fun c o u' e=>by rw[aF (a7 e nT)];exact e)
     (fun c ps e=>⟨#[],by rw[aF (a7 e nT),e];simp⟩) (fun m hm=>?_) (fun c ob e=>?_) I.bare
    ·simp only[Oz,PQ,S4]at hc;rcases hc with rfl|rfl|rfl|rfl
     ·exact⟨fz.2.2.2.1,fz.2.1,fz.2.2.2.2.1,fz.2.2.2.2.2⟩
     ·exact⟨fo.2.2.2.1,fo.2.1,fo.2.2.2.2.1,fo.2.2.2.2.2⟩
     ·exact⟨f1.2.2.2.1,f1.2.1,f1.2.2.2.2.1,f1.2.2.2.2.2⟩
     ·exact⟨f2.2.2.2.1,f2.2.1,f2.2.2.2.2.1,f2.2.2.2.2.2⟩
    ·obtain⟨o,es,ep,ho,r⟩:=hm;exact⟨o,es,ep,all _ o (P1 fz.2.1) (P1 fo.2.1) (P1 f1.2.1) (P1 f2.2.1) ho,r⟩
    ·by_cases ec:c=s.heap.objs.size
     ·subst ec;rw[br]at e;cases e;exact⟨by simp only[OC,Q9];rw[Pq];decide,[u,v],.cons ru (.cons rv .nil),⟨_,tup2,rfl,⟨0,rfl⟩,rfl⟩⟩
     ·rw[aF ec]at e;refine(I.hok c ob e).stay (fun d w' hd q=>?_) (fun d q=>by rw[aF (a7 q nT)];exact q) fun d l q=>by rw[aF (a7 q nT)];exact q
      have LG:∃oo,H d=some oo:=by
       rcases hd with rfl|hd
       ·exact⟨_,e⟩
       ·exact⟨_,hd⟩
      obtain⟨oo,Nc⟩:=LG;obtain⟨m1,m2,m3,m4⟩:=KJ d oo Nc;exact all d w' m1 m2 m3 m4 q
   exact S0
  ·have e1:=wz I a1 s1;have e2:=wz I a2 s2;subst e1 e2;rw[hx]at a3;rw[hy]at a4;cases a3;cases a4;rfl
  ·exact(sb.2 TI n1.symm).trans (kk TI _ n1.symm n5 n6 n7 HV)
  ·have NP:=(f c hc).1;have cs:c≠s.heap.objs.size:=by
    have:=(fun i h st=>by
     exact(by
      obtain⟨hz,HV,⟨x,y,IK⟩,h1,h2⟩:=st;simp only[Oz,PQ,S4]at hc;rcases hc with rfl|rfl|rfl|rfl|rfl
      ·exact⟨_,hz⟩
      ·exact⟨_,HV⟩
      ·exact⟨_,IK⟩
      ·obtain⟨o,e,_⟩:=h1.obj;exact⟨o,e⟩
      ·obtain⟨o,e,_⟩:=h2.obj;exact⟨o,e⟩:∃o,h.get? c=some o):∀i h,ZS k1 k2 z TI TO i1 i2 a b i h->∃o,h.get? c=some o) i s.heap st
    obtain⟨o,e⟩:=this;exact OO (OA e)
   rw[aF cs];exact NP
 done:=by
  intro X hP hw hK hc i py s σ H E I hf st hg;subst hP hw hK;obtain⟨xs,ys,s1,s2,hi⟩:=hg;obtain⟨us,r1,q1⟩:=qr I s1;obtain⟨ws,r2,q2⟩:=qr I s2;have l1:=r1.length;have l2:=r2.length;obtain⟨n1,n2,n3,n4,n5,n6,n7,n8,n9,Nb⟩:=ne;have f:=fun c hc=>hf c hc
  have D:ZipApart z TI TO i1 i2 a b:=⟨n1.symm,n2.symm,n3.symm,n4.symm,n5,n6,n7,n8,n9,Nb,gk I s1 (f z (by simp)),gk I s1 (f TO (by simp)),gk I s1 (f i1 (by simp)),gk I s1 (f i2 (by simp)),
   gk I s2 (f z (by simp)),gk I s2 (f TO (by simp)),gk I s2 (f i1 (by simp)),gk I s2 (f i2 (by simp))⟩
  have fz:=f z (by simp);have fo:=f TO (by simp);have f1:=f i1 (by simp);have f2:=f i2 (by simp);refine qu (I.ok.hd hc) D st q1 q2 (by
   rcases Nat.le_total us.length ws.length with q|q
   ·exact .inl (by simp;lia)
   ·exact .inr (by simp;lia)) fun h' kk=>⟨rfl,?_⟩
  have KJ:∀c ob,H c=some ob->c≠z/\c≠TO/\c≠i1/\c≠i2:=fun c ob e=>⟨(fun q=>by rw[q,fz.1]at e;cases e),(fun q=>by rw[q,fo.1]at e;cases e),(fun q=>by rw[q,f1.1]at e;cases e),(fun q=>by rw[q,f2.1]at e;cases e)⟩
  have S0:Inv X py σ H {s with heap:=h',gens:=s.gens,drawn:=s.drawn,toks:=s.toks}:=by
   refine I.step (ch:=[z,TO,i1,i2]) (fun c hc=>?_) (fun c o _ _ nc e _=>kk c o (fun q=>nc (by simp[q])) (fun q=>nc (by simp[q])) (fun q=>nc (by simp[q])) (fun q=>nc (by simp[q])) e)
    (fun c o _ _ nc e _=>⟨o.slots,kk c o (fun q=>nc (by simp[q])) (fun q=>nc (by simp[q])) (fun q=>nc (by simp[q])) (fun q=>nc (by simp[q])) e⟩) (fun c o _ e n=>n)
    (fun c o nc e=>⟨o,kk c o (fun q=>nc (by simp[q])) (fun q=>nc (by simp[q])) (fun q=>nc (by simp[q])) (fun q=>nc (by simp[q])) e⟩) (fun c l e=>e) (fun c o u' e=>e)
    (fun c ps e=>⟨#[],by rw[e];simp⟩) (fun m hm=>?_) (fun c ob e=>?_) I.bare
   ·simp only[Oz,PQ,S4]at hc;rcases hc with rfl|rfl|rfl|rfl
    ·exact⟨fz.2.2.2.1,fz.2.1,fz.2.2.2.2.1,fz.2.2.2.2.2⟩
    ·exact⟨fo.2.2.2.1,fo.2.1,fo.2.2.2.2.1,fo.2.2.2.2.2⟩
    ·exact⟨f1.2.2.2.1,f1.2.1,f1.2.2.2.2.1,f1.2.2.2.2.2⟩
    ·exact⟨f2.2.2.2.1,f2.2.1,f2.2.2.2.2.1,f2.2.2.2.2.2⟩
   ·obtain⟨o,es,ep,ho,r⟩:=hm;exact⟨o,es,ep,kk _ o (P1 fz.2.1) (P1 fo.2.1) (P1 f1.2.1) (P1 f2.2.1) ho,r⟩
   ·refine(I.hok c ob e).stay (fun d w' hd q=>?_) (fun d q=>q) fun d l q=>q
    have LG:∃oo,H d=some oo:=by
     rcases hd with rfl|hd
     ·exact⟨_,e⟩
     ·exact⟨_,hd⟩
    obtain⟨oo,Nc⟩:=LG;obtain⟨m1,m2,m3,m4⟩:=KJ d oo Nc;exact kk d w' m1 m2 m3 m4 q
  exact S0
 self:=fun _ _ _ _ _ st h=>wpAny_pyIter_zip st.1 h
section
variable{X:Cx}{es:List Expr}{kt:Nat}{pt:Pos}
def DR(K:W.Frag)(k1 k2:Bool)(ta:TA):TI:=fun σ H R=>ta σ H fun vs H1=>∃a b xs ys,vs=[.ref a,.ref b]/\(if k1 then SqL K H1 a xs else SqT K H1 a xs)/\(if k2 then SqL K H1 b ys else SqT K H1 b ys)/\R (Na K k1 k2 a b) H1
theorem z7(k1 k2:Bool){e1 e2:Expr}{ta:TA}{p pos:Pos}(hg:Gl X "zip")(hm:X.mg "zip" = none)(ha:PA X [e1,e2] ta)(he:starEach [e1,e2] X.env=(false,eval e1 X.env)::starEach [e2] X.env:=by rfl)(Gp:(backTo pos (starEach [e2] X.env)).any (·.1)=false:=by rfl):
  PI X (.Tuple es kt pt) (.Call (.Name "zip" p) [e1,e2] [] pos) (DR X.K k1 k2 ta):=by
 intro py s σ H R I h;refine Qm (jt I hg hm (by decide +kernel:bootBuiltins "zip" = some (.type "zip")) ?_ (by decide) (by decide));refine P2 (Ez (ha pos py s σ H _ I h) fun us s1 ⟨vs,H1,I1,r1,a,b,xs,ys,e,s1',s2',q⟩=>?_) he Gp;subst e;obtain⟨u,w',rfl,ra,rb⟩:=xy r1;cases ra;cases rb;obtain⟨us,v1,q1⟩:=qr I1 s1';obtain⟨ws,v2,q2⟩:=qr I1 s2';refine xU q1 q2 fun h' st kk=>?_
 refine wpAny_pyIter_zip st.1 ?_;have fr:∀j,rg X py H1 (s1.heap.objs.size+j):=fun j=>I1.fpOk (Nat.le_add_right _ _) (I1.hok.fresh (Nat.le_add_right _ _))
 have nn:∀i j:Nat,i≠j->s1.heap.objs.size+i≠s1.heap.objs.size+j:=fun i j h z=>h (Nat.add_left_cancel z)
 refine⟨_,_,_,_,H1,rfl,I1.kept (t':=s1.toks) kk,vo k1 k2 a b (s1.heap.objs.size+4) (s1.heap.objs.size+2) (s1.heap.objs.size+3) (s1.heap.objs.size+0) (s1.heap.objs.size+1)
  ⟨nn 4 2 (by decide),nn 4 3 (by decide),nn 4 0 (by decide),nn 4 1 (by decide),nn 2 3 (by decide),nn 2 0 (by decide),nn 2 1 (by decide),nn 3 0 (by decide),nn 3 1 (by decide),nn 0 1 (by decide)⟩,st,fun c hc=>?_,q⟩
 simp only[Oz,PQ,S4]at hc;rcases hc with rfl|rfl|rfl|rfl|rfl
 ·exact fr 4
 ·exact fr 2
 ·exact fr 3
 ·exact fr 0
 ·exact fr 1
end
end NX
namespace NX
open PySem PySem.W PyProof.Rows
section
variable{n:Nat}{O:KeyOrd}{κ:Nat->O.α}{cmp:Nat->Nat->(Bool->Shared->Prop)->Shared->Prop}{Good:Shared->Prop}
def kk(κ:Nat->O.α)(p:Array Nat)(i:Nat):O.α:=κ (p.getD i 0)
structure POk(n:Nat)(p:Array Nat):Prop where
 perm:p.toList.Perm (List.range n)
theorem POk.size{p:Array Nat}(h:POk n p):p.size=n:=by
 have:=h.perm.length_eq;simpa using this
theorem POk.lt{p:Array Nat}(h:POk n p){i:Nat}(hi:i<n):p.getD i 0<n:=by
 have hs:=h.size;have Jz:i<p.size:=by lia
 have e:p.getD i 0=p[i]:=by simp[Array.getD,Jz]
 rw[e];exact Pn.mp (h.perm.mem_iff.mp (Array.getElem_mem_toList Jz))
theorem POk.of{p q:Array Nat}(h:POk n p)(hq:q.Perm p):POk n q:=⟨(Array.perm_iff_toList_perm.mp hq).trans h.perm⟩
def a9(κ:Nat->O.α)(p:Array Nat)(m:Nat):Prop:=∀i j,i<=j->j<m->O.kle (kk κ p i) (kk κ p j)
def eK(κ:Nat->O.α)(p:Array Nat)(m:Nat):Prop:=∀i j,i<=j->j<m->O.kle (kk κ p j) (kk κ p i)
theorem d9{p q:Array Nat}{i j:Nat}(h:p[i]?=q[j]?):p.getD i 0=q.getD j 0:=by
 rw[Ra,Ra,h]
theorem pb{p:Array Nat}{i j:Nat}(hj:j<=p.size)(k:Nat):kk κ (kas_rev p i j) k=if i<=k/\k<j then kk κ p (i+j-1-k) else kk κ p k:=by
 have e:=getElem?_mirror_all (i:=i) hj k;unfold kk kas_rev;split
 ·rename_i h;rw[Ow h]at e;rw[d9 e]
 ·rename_i h;rw[OB h]at e;rw[d9 e]
theorem wA{p:Array Nat}{src d:Nat}(hs:src<p.size)(hd:d<=src)(k:Nat):kk κ (bubble p src d) k=if k=src-d then kk κ p src else if src-d<k/\k<=src then kk κ p (k-1) else kk κ p k:=by
 have e:=getElem?_bubble hs d hd k;by_cases h:k=src-d
 ·rw[Ow h]at e ⊢;exact PF κ (d9 e)
 ·rw[OB h]at e ⊢;by_cases h2:src-d<k/\k<=src
  ·rw[Ow h2]at e ⊢;exact PF κ (d9 e)
  ·rw[OB h2]at e ⊢;exact PF κ (d9 e)
theorem POk.rev{p:Array Nat}(h:POk n p)(i j:Nat):POk n (kas_rev p i j):=h.of (mirror_perm _ _ _ _)
theorem POk.bub{p:Array Nat}(h:POk n p)(i j:Nat):POk n (bubble p i j):=h.of (bubble_perm _ _ _)
theorem qv(p:Array Nat):a9 κ p 1:=fun i j a b=>by
 have e:i=j:=by lia
 rw[e];exact P5 _
theorem og{p:Array Nat}{m:Nat}(h1:1<=m)(h:a9 κ p m)(hm:O.kle (kk κ p (m-1)) (kk κ p m)):a9 κ p (m+1):=by
 intro i j JA hj;by_cases e:j=m
 ·subst e;by_cases e2:i=j
  ·subst e2;exact P5 _
  ·exact QV (h i (j-1) (by lia) (by lia)) hm
 ·exact h i j JA (by lia)
theorem eg{p:Array Nat}{m:Nat}(h1:1<=m)(h:eK κ p m)(hm:O.kle (kk κ p m) (kk κ p (m-1))):eK κ p (m+1):=by
 intro i j JA hj;by_cases e:j=m
 ·subst e;by_cases e2:i=j
  ·subst e2;exact P5 _
  ·exact QV hm (h i (j-1) (by lia) (by lia))
 ·exact h i j JA (by lia)
variable(hc:∀i j,i<n->j<n->∀(Q:Bool->Shared->Prop) s,Good s->(∀s',Good s'->Q (O.blt (κ i) (κ j)) s')->cmp i j Q s)
include hc
theorem se{p:Array Nat}(hp:POk n p){EM:Nat}(hn:EM<=n){Q:Nat->Shared->Prop}:∀(f m:Nat) (s:Shared),Good s->1<=m->m+f=EM->a9 κ p m->
  (∀r s',Good s'->m<=r->r<=EM->a9 κ p r->(r<EM->O.klt (kk κ p r) (kk κ p (r-1)))->Q r s')->(kas_asc p f m).kasWp cmp Q s
 | 0,m,s,g,h1,hf,hs,k=>k m s g (Ou _) (by lia) hs (fun z=>by lia)
 |f+1,m,s,g,h1,hf,hs,k=>by
  show cmp (p.getD m 0) (p.getD (m-1) 0) _ s;refine hc _ _ (hp.lt (by lia)) (hp.lt (by lia)) _ s g fun s' g'=>?_
  cases e:O.blt (κ (p.getD m 0)) (κ (p.getD (m-1) 0)) with
  |true=>
   (try dsimp only)
   rw[Ow rfl];exact k m s' g' (Ou _) (by lia) hs fun _=>e
  |false=>
   (try dsimp only)
   rw[OB Oy];exact se hp hn f (m+1) s' g' (by lia) (by lia) (og h1 hs e) fun r s2 g2 a b c d=>k r s2 g2 (by lia) b c d
def xV(κ:Nat->O.α)(p:Array Nat)(m q:Nat):Prop:=∀k,m-(q+1)<=k->k<m->kk κ p k=kk κ p (m-1)
omit hc in
theorem mH{p:Array Nat}{m q:Nat}(hm:m<=p.size)(h:xV κ p m q)(k:Nat):kk κ (kas_rev p (m-(q+1)) m) k=kk κ p k:=by
 rw[pb hm];split
 ·rename_i hk;rw[h _ (by lia) (by lia),h k hk.1 hk.2]
 ·rfl
omit hc in
theorem h9{p p':Array Nat}{m:Nat}(e:∀k,kk κ p' k=kk κ p k)(h:eK κ p m):eK κ p' m:=fun i j a b=>by rw[e,e];exact h i j a b
theorem lh{EM:Nat}(hn:EM<=n){Q:Array Nat×Nat×Nat->Shared->Prop}:∀(f:Nat) (p:Array Nat) (m q:Nat) (s:Shared),POk n p->Good s->1<=m->q+1<=m->m+f=EM->eK κ p m->xV κ p m q->
  (∀p' m' q' s',POk n p'->Good s'->m<=m'->m'<=EM->q'+1<=m'->eK κ p' m'->xV κ p' m' q'->Q (p',m',q') s')->(kas_desc f p m q).kasWp cmp Q s
 | 0,p,m,q,s,hp,g,h1,hq,hf,hs,ha,k=>k p m q s hp g (Ou _) (by lia) hq hs ha
 |f+1,p,m,q,s,hp,g,h1,hq,hf,hs,ha,k=>by
  show cmp (p.getD m 0) (p.getD (m-1) 0) _ s;refine hc _ _ (hp.lt (by lia)) (hp.lt (by lia)) _ s g fun s' g'=>?_
  have hsz:=hp.size;cases e:O.blt (κ (p.getD m 0)) (κ (p.getD (m-1) 0)) with
  |true=>
   (try dsimp only)
   rw[Ow rfl];have le:O.kle (kk κ p m) (kk κ p (m-1)):=QD e;by_cases h0:q>0
   ·rw[Ow h0];have same:=mH (κ:=κ) (p:=p) (m:=m) (q:=q) (by lia) ha;refine lh hn f _ (m+1) 0 s' (hp.rev _ _) g' (by lia) (by lia) (by lia) (eg h1 (h9 same hs) (by rw[same,same];exact le)) ?_ fun p' m' q' s2 a b c d e' f' g2=>k p' m' q' s2 a b (by lia) d e' f' g2
    intro k' a b;have:k'=m:=by lia
    rw[this];rfl
   ·rw[OB h0];refine lh hn f p (m+1) 0 s' hp g' (by lia) (by lia) (by lia) (eg h1 hs le) ?_ fun p' m' q' s2 a b c d e' f' g2=>k p' m' q' s2 a b (by lia) d e' f' g2
    intro k' a b;have:k'=m:=by lia
    rw[this];rfl
  |false=>
   (try dsimp only)
   rw[OB Oy];show cmp (p.getD (m-1) 0) (p.getD m 0) _ s';refine hc _ _ (hp.lt (by lia)) (hp.lt (by lia)) _ s' g' fun s2 g2=>?_
   cases e2:O.blt (κ (p.getD (m-1) 0)) (κ (p.getD m 0)) with
   |true=>
    (try dsimp only)
    rw[Ow rfl];exact k p m q s2 hp g2 (Ou _) (by lia) hq hs ha
   |false=>
    (try dsimp only)
    rw[OB Oy];have eq:kk κ p (m-1)=kk κ p m:=KeyOrd.kle_antisymm (O:=O) e e2;refine lh hn f p (m+1) (q+1) s2 hp g2 (by lia) (by lia) (by lia) (eg h1 hs (by rw[eq];exact P5 _)) ?_ fun p' m' q' s3 a b c d e' f' g3=>k p' m' q' s3 a b (by lia) d e' f' g3
    intro k' a b;show kk κ p k'=kk κ p m;by_cases z:k'=m
    ·rw[z]
    ·rw[ha k' (by lia) (by lia),eq]
omit hc in
theorem qw{p:Array Nat}{m:Nat}(hm:m<=p.size)(h:eK κ p m):a9 κ (kas_rev p 0 m) m:=by
 intro i j a b;rw[pb hm,pb hm,Ow (by lia),Ow (by lia)];exact h _ _ (by lia) (by lia)
theorem sf{p:Array Nat}(hp:POk n p){m EM:Nat}(hn:EM<=n)(h1:1<=m)(hm:m<=EM)(hs:eK κ p m){Q:Nat×Array Nat->Shared->Prop}{s:Shared}(g:Good s)
  (k:∀r p' s',POk n p'->Good s'->1<=r->r<=EM->a9 κ p' r->Q (r,p') s'):(kas_tail3 m EM p).kasWp cmp Q s:=by
 unfold kas_tail3;rw[KasT.kasWp_bind];have hsz:=hp.size;refine se hc (hp.rev 0 m) hn (EM-m) m s g h1 (by lia) (qw (by lia) hs) fun r s' g' a b c _=>?_
 exact k r _ s' (hp.rev 0 m) g' (by lia) b c
theorem jz{p:Array Nat}(hp:POk n p){m EM:Nat}(hn:EM<=n)(h1:1<=m)(hm:m+1<=EM)(hs:eK κ p (m+1)){Q:Nat×Array Nat->Shared->Prop}{s:Shared}(g:Good s)
  (k:∀r p' s',POk n p'->Good s'->1<=r->r<=EM->a9 κ p' r->Q (r,p') s'):(kas_descPart m EM p).kasWp cmp Q s:=by
 unfold kas_descPart;rw[KasT.kasWp_bind];refine lh hc hn (EM-(m+1)) p (m+1) 0 s hp g (by lia) (by lia) (by lia) hs ?_ fun p' m' q' s' a b c d e f g2=>?_
 ·intro k' a b;have:k'=m:=by lia
  rw[this];rfl
 ·have hsz:=a.size;dsimp only;split
  ·have same:=mH (κ:=κ) (p:=p') (m:=m') (q:=q') (by lia) g2;exact sf hc (a.rev _ _) hn (by lia) d (h9 same f) b k
  ·exact sf hc a hn (by lia) d f b k
theorem vp{p:Array Nat}(hp:POk n p){EM:Nat}(hn:EM<=n)(h1:1<=EM){Q:Nat×Array Nat->Shared->Prop}{s:Shared}(g:Good s)
  (k:∀r p' s',POk n p'->Good s'->1<=r->r<=EM->a9 κ p' r->Q (r,p') s'):(kas_count EM p).kasWp cmp Q s:=by
 unfold kas_count;rw[KasT.kasWp_bind];have hsz:=hp.size;refine se hc hp hn (EM-1) 1 s g (Ou _) (by lia) (qv p) fun m s' g' a b c d=>?_
 by_cases e:m=EM
 ·rw[Ow (by simpa using e)];exact k m p s' hp g' (by lia) (by lia) c
 ·rw[OB (by simpa using e)];have dd:=d (by lia);by_cases h2:m>1
  ·rw[Ow h2];show cmp (p.getD 0 0) (p.getD (m-1) 0) _ s';refine hc _ _ (hp.lt (by lia)) (hp.lt (by lia)) _ s' g' fun s2 g2=>?_
   cases e2:O.blt (κ (p.getD 0 0)) (κ (p.getD (m-1) 0)) with
   |true=>
    (try dsimp only)
    rw[Ow rfl];exact k m p s2 hp g2 (by lia) b c
   |false=>
    (try dsimp only)
    rw[OB Oy];have eq:∀i,i<m->kk κ p i=kk κ p 0:=fun i hi=>by
     have x1:=c 0 i (by lia) hi;have x2:=c i (m-1) (by lia) (by lia);exact KeyOrd.kle_antisymm (O:=O) (QV x2 e2) x1
    have same:∀i,kk κ (kas_rev p 0 m) i=kk κ p i:=fun i=>by
     rw[pb (by lia)];split
     ·rw[eq _ (by lia),eq i (by lia)]
     ·rfl
    refine jz hc (hp.rev 0 m) hn (by lia) (by lia) ?_ g2 k;refine h9 same (eg (by lia) (fun i j x y=>?_) (QD dd));rw[eq i (by lia),eq j y];exact P5 _
  ·rw[OB h2];refine jz hc hp hn (by lia) (by lia) (eg (by lia) (fun i j x y=>?_) (QD dd)) g' k;have:i=j:=by lia
   rw[this];exact P5 _
theorem lj{p:Array Nat}(hp:POk n p){t:Nat}(ht:t<n)(hs:a9 κ p t){Q:Nat->Shared->Prop}:∀(f l r:Nat) (s:Shared),Good s->l<=r->r<=t->r-l<=f->(∀i,i<l->O.kle (kk κ p i) (kk κ p t))->(∀i,r<=i->i<t->O.klt (kk κ p t) (kk κ p i))->
  (∀x s',Good s'->x<=t->(∀i,i<x->O.kle (kk κ p i) (kk κ p t))->(∀i,x<=i->i<t->O.klt (kk κ p t) (kk κ p i))->Q x s')->(kas_place p t f l r).kasWp cmp Q s
 | 0,l,r,s,g,h1,h2,h3,lo,hi,k=>k l s g (by lia) lo fun i a b=>hi i (by lia) b
 |f+1,l,r,s,g,h1,h2,h3,lo,hi,k=>by
  unfold kas_place;by_cases e:l>=r
  ·rw[Ow e];exact k l s g (by lia) lo fun i a b=>hi i (by lia) b
  ·rw[OB e];show cmp (p.getD t 0) (p.getD ((l+r) / 2) 0) _ s;refine hc _ _ (hp.lt ht) (hp.lt (by lia)) _ s g fun s' g'=>?_
   cases e2:O.blt (κ (p.getD t 0)) (κ (p.getD ((l+r) / 2) 0)) with
   |true=>
    (try dsimp only)
    rw[Ow rfl];refine lj hp ht hs f l ((l+r) / 2) s' g' (by lia) (by lia) (by lia) lo (fun i a b=>?_) k;exact KeyOrd.klt_of_klt_of_kle (O:=O) e2 (hs _ i a b)
   |false=>
    (try dsimp only)
    rw[OB Oy];refine lj hp ht hs f ((l+r) / 2+1) r s' g' (by lia) (by lia) (by lia) (fun i a=>?_) hi k;exact QV (O:=O) (hs i ((l+r) / 2) (by lia) (by lia)) e2
theorem wB{Q:Array Nat->Shared->Prop}:∀(f:Nat) (p:Array Nat) (t:Nat) (s:Shared),POk n p->Good s->t+f=n->a9 κ p t->(∀p' s',POk n p'->Good s'->a9 κ p' n->Q p' s')->(kas_bin f p t).kasWp cmp Q s
 | 0,p,t,s,hp,g,hf,hs,k=>k p s hp g (by rw[show n=t by lia];exact hs)
 |f+1,p,t,s,hp,g,hf,hs,k=>by
  unfold kas_bin;rw[KasT.kasWp_bind];have hsz:=hp.size;refine lj hc hp (by lia) hs t 0 t s g (Pd _) (Ou _) (by lia) (fun i a=>by lia) (fun i a b=>by lia) fun x s' g' hx lo hi=>?_
  refine wB f _ (t+1) s' (hp.bub _ _) g' (by lia) ?_ k;have ex:t-(t-x)=x:=by lia
  intro i j a b;rw[wA (by lia) (by lia),wA (by lia) (by lia),ex];have lo':=lo;by_cases i1:i=x
  ·by_cases j1:j=x
   ·rw[Ow i1,Ow j1];exact P5 _
   ·rw[Ow i1,OB j1,Ow (by lia)];exact QD (hi (j-1) (by lia) (by lia))
  ·rw[OB i1];by_cases i2:x<i/\i<=t
   ·rw[Ow i2,OB (by lia),Ow (by lia)];exact hs (i-1) (j-1) (by lia) (by lia)
   ·rw[OB i2];by_cases j1:j=x
    ·rw[Ow j1];exact lo i (by lia)
    ·rw[OB j1];by_cases j2:x<j/\j<=t
     ·rw[Ow j2];exact hs i (j-1) (by lia) (by lia)
     ·rw[OB j2];exact hs i j a (by lia)
theorem xW(h1:1<=n){Q:Array Nat->Shared->Prop}{s:Shared}(g:Good s)(k:∀p s',POk n p->Good s'->a9 κ p n->Q p s'):(kas_sort n).kasWp cmp Q s:=by
 unfold kas_sort;rw[KasT.kasWp_bind];refine vp hc (p:=List.toArray (List.range n)) ⟨by simp⟩ (Ou _) h1 g fun r p' s' hp g' a b c=>?_
 dsimp only;split
 ·have e:max r 1=r:=by lia
  rw[e];exact wB hc (n-r) p' r s' hp g' (by lia) c k
 ·exact k p' s' hp g' (by rw[show n=r by lia];exact c)
end
end NX
namespace NX
open PySem PySem.W PySem.Spec PyProof.Rows L2
section
variable{prog:Program}{w:World}{A:Around}{E:Value->Shared->Prop}{s:Shared}
theorem pd(n:Nat):POk n (List.toArray (List.range n)):=⟨by simp⟩
theorem gR{O:KeyOrd}{key:Nat->O.α}{kd:SortKind}{a:Addr}{vs:List Value}{n:Nat}{P:PySem.Fin->Shared->Prop}(ho:s.heap.get? a=some (seqObj "list" vs.toArray n))(IL:vs.length<64)
  (Gr:2<=vs.length->∀(h':Heap),(∀b o,b≠a->s.heap.get? b=some o->h'.get? b=some o)->∀Q:SortKind->Shared->Prop,Q kd {s with heap:=h'}->wpAny (model prog w) A (keyKind' vs.toArray) Q E {s with heap:=h'})
  (Jb:∀i j,i<vs.length->j<vs.length->∀(h':Heap),(∀b o,b≠a->s.heap.get? b=some o->h'.get? b=some o)->∀C:Bool->Shared->Prop,C (O.blt (key i) (key j)) {s with heap:=h'}->kas_ask prog w A kd vs i j C {s with heap:=h'})
  (h:∀p h',POk vs.length p->a9 key p vs.length->(∃e,h'.get? a=some (seqObj "list" (List.toArray (p.toList.map fun i=>vs.getD i .none)) e))->(∀b o,b≠a->s.heap.get? b=some o->h'.get? b=some o)->P (.done (.ret .none)) {s with heap:=h'}):
  wpAny (model prog w) A (Builtin.«list.sort» ⟨[.ref a],[]⟩) P E s:=by
 rw[list_sort_plain];have la:a<s.heap.objs.size:=OA ho;have zs:vs.toArray.size=vs.length:=by simp
 refine Oj (listItems_at ho rfl (Oj (listUpdate_at ho rfl ?_ (by rw[zs,Pq];lia) (Pd _))));obtain⟨e1,h1⟩:∃e1,(s.heap.update a (Obj.mapSeq fun _=>#[])).get? a=some (seqObj "list" #[] e1):=⟨_,get?_update_seq ho (fun _=>#[])⟩
 refine Oj (seqEpoch_at h1 rfl (Oj (wpAny_newTuple (Oj (Sl (Qc ?_))) (by simp only[Q6];rw[Pq];lia))));generalize e6:((s.heap.update a (Obj.mapSeq fun _=>#[])).push {cls:=.type "tuple",data:=.seq vs.toArray.toList.toArray}).push {cls:=.type "list",data:=.seq ([]:List Value).toArray}=h6;have k6:∀b o,b≠a->s.heap.get? b=some o->h6.get? b=some o:=fun b o nb e=>by
  rw[<-e6];exact Heap.get?_push_of_some _ (Heap.get?_push_of_some _ ((Heap.get?_update_other _ _ (P1 nb)).trans e))
 have LZ:h6.get? a=some (seqObj "list" #[] e1):=by
  rw[<-e6];exact Heap.get?_push_of_some _ (Heap.get?_push_of_some _ h1)
 dsimp only;have fin:∀(p:Array Nat),POk vs.length p->a9 key p vs.length->∀out:Array Value,out=List.toArray (p.toList.map fun i=>vs.getD i .none)->
   P (.done (.ret .none)) {s with heap:=h6.update a (Obj.mapSeq fun _=>out)}:=fun p hp hs out eo=>by
  subst eo;exact h p _ hp hs ⟨_,get?_update_seq LZ _⟩ fun b o nb e=>(Heap.get?_update_other _ _ (P1 nb)).trans (k6 b o nb e)
 have fits:∀{out:Array Value}{p:Array Nat},POk vs.length p->out=List.toArray (p.toList.map fun i=>vs.getD i .none)->out.size<=sizeLine+1:=fun{out p} hp e=>by
  rw[e,Ov,Om,hp.perm.length_eq,OJ,Pq];lia
 by_cases h2:vs.toArray.size<2
 ·rw[Ow h2,Ow h2];refine Oj (Oq ?_);rw[StateT.run_pure];refine Oj (Oq ?_);dsimp only;have eo:(arrOf (SortSt.mk' general' (vs.toArray.zip vs.toArray) #[] 7 none)).map (·.2)=List.toArray ((List.toArray (List.range vs.length)).toList.map fun i=>vs.getD i .none):=by
   show(vs.toArray.zip vs.toArray).map (·.2)=_;apply Array.toList_inj.mp;simp only[Array.toList_map,Array.toList_zip,Q6];have a1:(vs.zip vs).map (·.2)=vs:=by
    rw[List.map_snd_zip];exact Ou _
   rw[a1];apply QF;intro i;by_cases hi:i<vs.length
   ·simp[hi]
   ·simp[hi]
  refine Oj (seqEpoch_at LZ rfl (Oj (listUpdate_at LZ rfl ?_ (Pd _) (fits (pd _) eo))));simp only[Rm,OX,Rg];refine Oq (fin _ (pd _) ?_ _ eo);intro i j x y;have:i=j:=by lia
  rw[this];exact P5 _
 ·rw[OB h2,OB h2];have NQ:2<=vs.length:=by lia
  refine Oj (Gr NQ h6 k6 _ ?_);refine Oj (R4 (kat_run (ks:=vs) (vs:=vs) (Q:=fun Gd s'=>∃p,POk vs.length p/\a9 key p vs.length/\arrOf Gd=p.map (kas_item (vs.toArray.zip vs.toArray))/\failedOf Gd=none/\s'={s with heap:=h6})
   (G:=fun p s'=>POk vs.length p/\a9 key p vs.length/\s'={s with heap:=h6}) rfl NQ IL (fun p Gd s' hz Nf hf hg=>⟨p,hg.1,hg.2.1,Nf,hf,hg.2.2⟩)
   (xW (n:=vs.length) (O:=O) (κ:=key) (Good:=fun s'=>s'={s with heap:=h6}) (fun i j hi hj Q s' g k=>?_) (by lia) rfl fun p s' hp g hs=>⟨hp,hs,g⟩)) (fun r s' hq=>?_) fun _ _ e=>e)
  ·subst g;exact Jb i j hi hj h6 k6 Q (k _ rfl)
  ·obtain⟨p,hp,hs,Nf,hf,rfl⟩:=hq;have eo:=kat_snds (ks:=vs) (vs:=vs) rfl Nf;refine Oj (seqEpoch_at LZ rfl (Oj (listUpdate_at LZ rfl ?_ (Pd _) (fits hp eo))));rw[hf];simp only[Rm,OX,Rg];exact Oq (fin p hp hs _ eo)
theorem ia{O:KeyOrd}{key:Nat->O.α}{kd:SortKind}{l:Addr}{vs:List Value}{Q:Value->Shared->Prop}(hl:s.heap.IsList l vs.toArray)(IL:vs.length<64)
  (Gr:2<=vs.length->∀(A':Around) (E':Value->Shared->Prop) (h':Heap),(∀b o,s.heap.get? b=some o->h'.get? b=some o)->∀Q:SortKind->Shared->Prop,Q kd {s with heap:=h'}->wpAny (model prog w) A' (keyKind' vs.toArray) Q E' {s with heap:=h'})
  (Jb:∀i j,i<vs.length->j<vs.length->∀(h':Heap),(∀b o,s.heap.get? b=some o->h'.get? b=some o)->∀C:Bool->Shared->Prop,C (O.blt (key i) (key j)) {s with heap:=h'}->kas_ask prog w A.in1.in1 kd vs i j C {s with heap:=h'})
  (h:∀p h' e,POk vs.length p->a9 key p vs.length->h'.get? (s.heap.objs.size+1)=some (seqObj "list" (List.toArray (p.toList.map fun i=>vs.getD i .none)) e)->(∀b o,s.heap.get? b=some o->h'.get? b=some o)->Q (.ref (s.heap.objs.size+1)) {s with heap:=h'}):
  wpAny (model prog w) A (call (.builtin "sorted") [.ref l]) Q E s:=by
 refine Qs kind_sorted plain_sorted entry_sorted (args_sorted1 _) ?_;unfold Builtin.«sorted»;refine Oj (m:=checkCount "sorted" 1 1 _) (Oq (Oj (collect_list hl (Oj (Sl ?_ (by rw[Pq];lia))) (by rw[Pq];lia))));have zz:((s.heap.push (seqObj "list" #[] 0)).update s.heap.objs.size (Obj.mapSeq (·++vs.toArray))).objs.size=s.heap.objs.size+1:=by rw[Heap.size_update,size_push']
 generalize e5:(s.heap.push (seqObj "list" #[] 0)).update s.heap.objs.size (Obj.mapSeq (·++vs.toArray))=h5 at zz ⊢;have k5:∀b o,s.heap.get? b=some o->(h5.push (seqObj "list" vs.toArray 0)).get? b=some o:=fun b o e=>by
  rw[<-e5];exact Heap.get?_push_of_some _ ((Heap.get?_update_other _ _ (P1 (OO (OA e)))).trans (Heap.get?_push_of_some _ e))
 have hL:(h5.push (seqObj "list" vs.toArray 0)).get? (s.heap.objs.size+1)=some (seqObj "list" vs.toArray 0):=by
  rw[<-zz];exact Heap.get?_push_size _ rfl
 have ne:∀b o,s.heap.get? b=some o->b≠s.heap.objs.size+1:=fun b o e=>OO (Rn (OA e))
 show wpAny _ _ _ _ _ {s with heap:=h5.push (seqObj "list" vs.toArray 0)};rw[zz];refine Oj (Qc (Ph slot_list_sort ⟨_,hL,rfl⟩ entry_list_sort (gR (key:=key) (kd:=kd) hL IL (fun h2 h' kk Q' q=>Gr h2 _ _ h' (fun b o e=>kk b o (ne b o e) (k5 b o e)) Q' q)
  (fun i j hi hj h' kk C q=>Jb i j hi hj h' (fun b o e=>kk b o (ne b o e) (k5 b o e)) C q) fun p h' hp hs ⟨e,he⟩ kk=>⟨_,rfl,?_⟩) (args_list_sort _)))
 exact Oq ⟨_,rfl,h p h' e hp hs he fun b o q=>kk b o (ne b o q) (k5 b o q)⟩
end
def intO:KeyOrd where
 α:=Int
 blt a b:=decide (a<b)
 irrefl a:=by simp
 trans a b c h1 h2:=by simp only[OE] at *;lia
 negTrans a b c h:=by simp only[OE] at *;lia
 total a b h1 h2:=by simp only[Pk] at *;lia
abbrev C7:KeyOrd:=strKind.toKeyOrd
noncomputable def nQ:KeyOrd where
 α:=Key
 blt a b:=match a,b with
  | .inl i,.inl j=>decide (i<j)
  | .inr x,.inr y=>decide (x.cps.toList<y.cps.toList)
  | .inl _,.inr _=>true
  | .inr _,.inl _=>false
 irrefl a:=by
  cases a with
  |inl i=>simp
  |inr x=>simpa using List.lt_irrefl x.cps.toList
 trans a b c h1 h2:=by
  cases a <;> cases b <;> cases c <;> simp_all
  ·lia
  ·exact List.lt_trans h1 h2
 negTrans a b c h:=by
  cases a <;> cases b <;> cases c <;> simp_all
  ·lia
  ·rename_i x y z;by_cases q:x.cps.toList<y.cps.toList
   ·exact .inl q
   ·exact .inr (List.lt_of_le_of_lt (Ry.mp q) h)
 total a b h1 h2:=by
  cases a <;> cases b <;> simp_all
  ·lia
  ·rename_i x y;have e:x.cps.toList=y.cps.toList:=List.le_antisymm (by first|exact h2|exact Ry.mp h2) (by first|exact h1|exact Ry.mp h1);rw[<-mE x,<-mE y,e]
def cZ:List Key->List Key->Bool
 |[],[]=>false
 |[],_::_=>true
 |_::_,[]=>false
 |a::r,b::t=>if a=b then cZ r t else nQ.blt a b
theorem gw:∀a:List Key,cZ a a=false
 |[]=>rfl
 |a::r=>by
  show(if a=a then cZ r r else _)=false;rw[Ow rfl];exact gw r
theorem xX{a b:Key}(h:nQ.blt a b=true):a≠b:=by
 rintro rfl;have:=nQ.irrefl a;rw[h]at this;cases this
theorem f6:∀a b c:List Key,cZ a b=true->cZ b c=true->cZ a c=true
 |[],[],_,h,_=>by cases h
 |[],_::_,[],_,h=>by cases h
 |[],_::_,_::_,_,_=>rfl
 |_::_,[],_,h,_=>by cases h
 |_::_,_::_,[],_,h=>by cases h
 |a::r,b::t,c::u,h1,h2=>by
  have h1:(if a=b then cZ r t else nQ.blt a b)=true:=h1;have h2:(if b=c then cZ t u else nQ.blt b c)=true:=h2;show(if a=c then cZ r u else nQ.blt a c)=true;by_cases e1:a=b
  ·by_cases e2:b=c
   ·rw[Ow e1]at h1;rw[Ow e2]at h2;rw[Ow (e1.trans e2)];exact f6 r t u h1 h2
   ·rw[OB e2]at h2;rw[e1,OB e2];exact h2
  ·rw[OB e1]at h1;by_cases e2:b=c
   ·rw[<-e2,OB e1];exact h1
   ·rw[OB e2]at h2;have h3:=nQ.trans a b c h1 h2;rw[OB (xX h3)];exact h3
theorem f7:∀a b:List Key,cZ a b=false->cZ b a=false->a=b
 |[],[],_,_=>rfl
 |[],_::_,h,_=>by cases h
 |_::_,[],_,h=>by cases h
 |a::r,b::t,h1,h2=>by
  have h1:(if a=b then cZ r t else nQ.blt a b)=false:=h1;have h2:(if b=a then cZ t r else nQ.blt b a)=false:=h2;by_cases e:a=b
  ·rw[Ow e]at h1;rw[Ow e.symm]at h2;rw[e,f7 r t h1 h2]
  ·rw[OB e]at h1;rw[OB (P1 e)]at h2;exact absurd (nQ.total a b h1 h2) e
theorem vq(a b c:List Key)(h:cZ a c=true):cZ a b=true\/cZ b c=true:=by
 cases e:cZ a b with
 |true=>exact .inl rfl
 |false=>
  refine .inr ?_;cases e2:cZ b a with
  |true=>exact f6 b a c e2 h
  |false=>
   rw[<-f7 a b e e2];exact h
def BJ:KeyOrd where
 α:=List Key
 blt:=cZ
 irrefl:=gw
 trans:=f6
 negTrans:=vq
 total:=f7
section
variable{O:KeyOrd}
def qx(p:Array Nat)(xs:List V):List V:=p.toList.map fun i=>xs.getD i .non
theorem kn{α:Type}(xs:List α)(d:α):((List.range xs.length).map fun i=>xs.getD i d)=xs:=by
 apply QF;intro i;by_cases hi:i<xs.length
 ·simp[hi]
 ·simp[hi]
theorem jg{α:Type}{p:Array Nat}{xs:List α}(d:α)(hp:POk xs.length p):(p.toList.map fun i=>xs.getD i d).Perm xs:=by
 have:=hp.perm.map (fun i=>xs.getD i d)
 rwa [kn]at this
theorem f9{α:Type}{p:Array Nat}{xs:List α}(d:α)(key:α->O.α)(hp:POk xs.length p)(hs:a9 (O:=O) (fun i=>key (xs.getD i d)) p xs.length):(p.toList.map fun i=>xs.getD i d).Pairwise fun a b=>O.kle (key a) (key b):=by
 rw[List.pairwise_iff_getElem];intro i j hi hj JA;have hsz:=hp.size;have Jz:i<p.size:=by simpa using hi
 have KL:j<p.size:=by simpa using hj
 have h:=hs i j (RL JA) (by lia);unfold kk at h;simp only[List.getElem_map,Array.getElem_toList];have e1:p.getD i 0=p[i]:=by simp[Array.getD,Jz]
 have e2:p.getD j 0=p[j]:=by simp[Array.getD,KL]
 rw[e1,e2]at h;exact h
theorem vals_pick{xs:List V}{us:List Value}(r:Vals xs us):∀l:List Nat,(∀i∈l,i<xs.length)->Vals (l.map fun i=>xs.getD i .non) (l.map fun i=>us.getD i .none)
 |[],_=>.nil
 |i::l,h=>by
  refine .cons ?_ (vals_pick r l fun j hj=>h j (Ot _ hj));have hi:=h i Ol;have e1:xs[i]?=some (xs.getD i .non):=by rw[bj _ _ _ hi];exact List.getElem?_eq_getElem hi
  obtain⟨u,hu,ru⟩:=r.get e1;have e2:us.getD i .none=u:=by rw[List.getD_eq_getElem?_getD,hu];rfl
  show L2.RelV (xs.getD i .non) (us.getD i .none);rw[e2];exact ru
theorem jh{xs:List V}{us:List Value}{p:Array Nat}(r:Vals xs us)(hp:POk xs.length p):Vals (qx p xs) (p.toList.map fun i=>us.getD i .none):=
 vals_pick r _ fun i hi=>Pn.mp (hp.perm.mem_iff.mp hi)
end
section
variable{X:Cx}
theorem gS{py:List (Addr×Obj)}{s:Shared}{σ:L2.St}{H:Hp}{h':Heap}{ys:List V}{us:List Value}{e:Nat}{D:Addr}(I:Inv X py σ H s)(kk:∀b o,s.heap.get? b=some o->h'.get? b=some o)(hD:s.heap.objs.size<=D)
  (ho:h'.get? D=some (seqObj "list" (List.toArray us) e)) (r:Vals ys us) (hz:ys.length<=sizeLine):Inv X py σ (upd H D (.lst ys)) {s with heap:=h'}:=
 I.laid (t':=s.toks) kk hD ⟨hz,us,e,r,ho⟩
theorem iX(hc:X.calm=true):c5 X (.builtin "sorted") (fun vs H Q=>∃(p:Addr) (ns:List Int),vs=[.ref p]/\SqL X.K H p (ns.map V.int)/\ns.length<64/\∀(D:Addr) (ms:List Int),H D=none->ms.Perm ns->ms.Pairwise (·<=·)->Q (.ref D) (upd H D (.lst (ms.map V.int)))):=by
 intro py s σ H vs us Q I r h;obtain⟨p,ns,rfl,hp,IL,q⟩:=h;obtain⟨u,rfl,r1⟩:=eJ r;cases r1;obtain⟨ws,rv,pl,hz⟩:=I.list hp;have hl:=rv.length;rw[Om]at hl;have isI:∀v∈ws,∃n t,v=.int n t:=fun v hv=>by
  obtain⟨i,hi⟩:=PH.mp hv;obtain⟨t,e⟩:=gv rv hi;exact⟨_,t,e⟩
 refine ia (O:=intO) (key:=fun i=>ns.getD i 0) (kd:=oneType') pl.isList (by lia) (fun h2 A' E' h' kk Q' q'=>?_) (fun i j hi hj h' kk C q'=>?_) fun pp h' e FQ hs he kk=>?_
 ·refine kas_kind h2 (T:=.type "int") (fun v hv=>?_) (by decide) (by decide) q';obtain⟨n,t,rfl⟩:=isI v hv;exact fun A Q E s _ q=>Qy (typeIs_int s n t) q
 ·unfold kas_ask;have e1:ws[i]?=some (ws.getD i .none):=by rw[bj _ _ _ hi];exact List.getElem?_eq_getElem hi
  have e2:ws[j]?=some (ws.getD j .none):=by rw[bj _ _ _ hj];exact List.getElem?_eq_getElem hj
  obtain⟨t,Ng⟩:=gv rv e1;obtain⟨t',Nh⟩:=gv rv e2;rw[Ng,Nh];exact kat_lt_int q'
 ·rw[<-hl]at FQ hs;have KN:POk (ns.map V.int).length pp:=by rw[Om];exact FQ
  have eo:qx pp (ns.map V.int)=(pp.toList.map fun i=>ns.getD i 0).map V.int:=by
   unfold qx;rw[OU];refine PD fun i hi=>?_
   have hi:=Pn.mp (FQ.perm.mem_iff.mp hi);show(ns.map V.int).getD i .non=V.int (ns.getD i 0);rw[bj _ _ _ (by rw[Om];exact hi),bj _ _ _ hi];simp
  have hn:H (s.heap.objs.size+1)=none:=I.hok.fresh (Qp _);refine⟨.ref (s.heap.objs.size+1),_,gS I kk (Qp _) he (jh rv KN) ?_,rfl,?_⟩
  ·show(qx pp (ns.map V.int)).length<=sizeLine;rw[eo,Om,Om,FQ.perm.length_eq,OJ,Pq];lia
  ·rw[eo];refine q _ _ hn (jg 0 FQ) ?_;have:=f9 (O:=intO) 0 (fun i:Int=>i) FQ hs;refine this.imp fun{a b} JB=>?_
   have JB:decide (b<a)=false:=JB;have:=Sm JB;lia
theorem oh{ls:List (List Nat)}{us:List Value}(r:Vals (ls.map fun l=>V.str (S l)) us){i:Nat}{v:Value}(h:us[i]?=some v):∃t,v=.str (S (ls.getD i [])) t:=by
 have hl:=r.length;rw[Om]at hl;obtain⟨hi,_⟩:=List.getElem?_eq_some_iff.mp h;have e1:(ls.map fun l=>V.str (S l))[i]?=some (.str (S (ls.getD i []))):=by
  rw[List.getElem?_map,List.getElem?_eq_getElem (by lia),bj _ _ _ (by lia)];rfl
 obtain⟨u,hu,t,rfl⟩:=r.get e1;rw[h]at hu;exact⟨t,OY hu⟩
theorem iY(hc:X.calm=true):c5 X (.builtin "sorted") (fun vs H Q=>∃(p:Addr) (ls:List (List Nat)),vs=[.ref p]/\SqL X.K H p (ls.map fun l=>V.str (S l))/\ls.length<64/\∀(D:Addr) (ms:List (List Nat)),H D=none->ms.Perm ls->ms.Pairwise (fun a b=>¬ b<a)->Q (.ref D) (upd H D (.lst (ms.map fun l=>V.str (S l))))):=by
 intro py s σ H vs us Q I r h;obtain⟨p,ls,rfl,hp,IL,q⟩:=h;obtain⟨u,rfl,r1⟩:=eJ r;cases r1;obtain⟨ws,rv,pl,hz⟩:=I.list hp;have hl:=rv.length;rw[Om]at hl;refine ia (O:=C7) (key:=fun i=>ls.getD i []) (kd:=oneType') pl.isList (by lia) (fun h2 A' E' h' kk Q' q'=>?_) (fun i j hi hj h' kk C q'=>?_) fun pp h' e FQ hs he kk=>?_
 ·refine kas_kind h2 (T:=.type "str") (fun v hv=>?_) (by decide) (by decide) q';obtain⟨i,hi⟩:=PH.mp hv;obtain⟨t,rfl⟩:=oh rv hi;exact fun A Q E s _ q=>Qy (Rk s _ t) q
 ·unfold kas_ask;have e1:ws[i]?=some (ws.getD i .none):=by rw[bj _ _ _ hi];exact List.getElem?_eq_getElem hi
  have e2:ws[j]?=some (ws.getD j .none):=by rw[bj _ _ _ hj];exact List.getElem?_eq_getElem hj
  obtain⟨t,Ng⟩:=oh rv e1;obtain⟨t',Nh⟩:=oh rv e2;rw[Ng,Nh];refine kas_lt_str ?_;rw[cN,cN];exact q'
 ·rw[<-hl]at FQ hs;have KN:POk (ls.map fun l=>V.str (S l)).length pp:=by rw[Om];exact FQ
  have eo:qx pp (ls.map fun l=>V.str (S l))=(pp.toList.map fun i=>ls.getD i []).map fun l=>V.str (S l):=by
   unfold qx;rw[OU];refine PD fun i hi=>?_
   have hi:=Pn.mp (FQ.perm.mem_iff.mp hi);show(ls.map fun l=>V.str (S l)).getD i .non=V.str (S (ls.getD i []));rw[bj _ _ _ (by rw[Om];exact hi),bj _ _ _ hi];simp
  have hn:H (s.heap.objs.size+1)=none:=I.hok.fresh (Qp _);refine⟨.ref (s.heap.objs.size+1),_,gS I kk (Qp _) he (jh rv KN) ?_,rfl,?_⟩
  ·show(qx pp (ls.map fun l=>V.str (S l))).length<=sizeLine;rw[eo,Om,Om,FQ.perm.length_eq,OJ,Pq];lia
  ·rw[eo];refine q _ _ hn (jg [] FQ) ?_;have:=f9 (O:=C7) [] (fun l:List Nat=>l) FQ hs;refine this.imp fun{a b} JB=>?_
   have JB:decide (b<a)=false:=JB;exact Sm JB
end
def kinds(k:List Key):List Bool:=k.map fun x=>x.isLeft
section
variable{prog:Program}{w:World}{A:Around}{s:Shared}
theorem si(a b:Key):M6 (kV a) (kV b)=decide (a=b):=by
 cases a <;> cases b <;> (rw[OQ];simp[kV,M6])
theorem ji(a:Key):ve (kV a)=true:=by cases a <;> rfl
theorem z8{a b:Key}{u v:Value}{top:Bool}{Q:Bool->Shared->Prop}(ra:L2.RelV (kV a) u)(rb:L2.RelV (kV b) v)(hk:a.isLeft=b.isLeft)(q:Q (nQ.blt a b) s):wpAny (model prog w) A (oneLt' top u v) Q (fun _ _=>False) s:=by
 cases a with
 |inl i=>
  cases b with
  |inr _=>cases hk
  |inl j=>
   obtain⟨t,rfl⟩:=ra;obtain⟨t',rfl⟩:=rb;cases top with
   |true=>exact kat_lt_int (E:=fun _ _=>False) q
   |false=>exact kat_one _ _ (lt_int q)
 |inr x=>
  cases b with
  |inl _=>cases hk
  |inr y=>
   obtain⟨t,rfl⟩:=ra;obtain⟨t',rfl⟩:=rb;cases top with
   |true=>exact oneLt_str q
   |false=>exact kat_one _ _ (lt_str q)
theorem jA{Q:Bool->Shared->Prop}:∀(k1 k2:List Key) (us ws:List Value) (i:Nat),Vals (k1.map kV) us->Vals (k2.map kV) ws->kinds k1=kinds k2->Q (cZ k1 k2) s->KatLex prog w A true false Q (us.zip ws) i s
 |[],[],_,_,_,.nil,.nil,_,q=>q
 |[],_::_,_,_,_,_,_,h,_=>by cases h
 |_::_,[],_,_,_,_,_,h,_=>by cases h
 |a::r,b::t,u::us,v::ws,i,.cons ru rus,.cons rv rvs,h,q=>by
  have h1:a.isLeft=b.isLeft:=(Qk h).1;have h2:kinds r=kinds t:=(Qk h).2;have q:Q (if a=b then cZ r t else nQ.blt a b) s:=q;refine kat_cons (wt (A:=A) (s:=s) ru rv (ji a) (ji b) prog w _ _ ?_);rw[si];by_cases e:a=b
  ·rw[Ow e]at q;rw[OP e];exact kat_yes (jA r t us ws (i+1) rus rvs h2 q)
  ·rw[OB e]at q;rw[OH e];exact kat_no (z8 ru rv h1 q)
end
section
variable{X:Cx}{py:List (Addr×Obj)}{σ:L2.St}{H:Hp}{s:Shared}
theorem mI(I:Inv X py σ H s){a:Addr}{xs:List V}(h:SqT X.K H a xs):∃(us:List Value) (o:Obj) (n:Nat),Vals xs us/\s.heap.get? a=some o/\o.cls=.type "tuple"/\o.data=.seq us.toArray n:=by
 obtain⟨us,r,pl,_⟩:=I.tuple h;obtain⟨o,ho,oc,n,od⟩:=pl;exact⟨us,o,n,r,ho,oc,od⟩
theorem ll{al:List (Addr×List Key)}{us:List Value}(r:Vals (al.map fun a=>V.ref a.1) us){i:Nat}(h:i<al.length):us.getD i .none=.ref (al.getD i (0,[])).1:=by
 have e1:(al.map fun a=>V.ref a.1)[i]?=some (.ref (al.getD i (0,[])).1):=by
  rw[List.getElem?_map,List.getElem?_eq_getElem h,bj _ _ _ h];rfl
 obtain⟨u,hu,ru⟩:=r.get e1;rw[List.getD_eq_getElem?_getD,hu];exact ru
theorem pe{al:List (Addr×List Key)}{us:List Value}{h':Heap}(I:Inv X py σ H s)(kk:∀b o,s.heap.get? b=some o->h'.get? b=some o)(top:Bool):
  (r:Vals (al.map fun a=>V.ref a.1) us)->(∀a∈al,SqT X.K H a.1 (a.2.map kV)/\∃t,kinds a.2=top::t)->∃fs:List Value,KatTups h' us fs/\fs.length=al.length/\∀v∈fs,∀M:Model,Looks M h' (typeOf v) (.type (if top then "int" else "str")):=by
 induction al generalizing us with
 |nil=>
  intro r _;cases r;exact⟨[],trivial,rfl,fun v hv=>by cases hv⟩
 |cons a al ih=>
  intro r h;cases r with
  |cons ra rs=>
   cases ra;obtain⟨fs,t1,t2,t3⟩:=ih rs fun b hb=>h b (Ot _ hb)
   obtain⟨ha,kt,hk⟩:=h a Ol;obtain⟨ws,o,n,rv,ho,oc,od⟩:=mI I ha;cases e2:a.2 with
   |nil=>rw[e2]at hk;cases hk
   |cons k ks=>
    rw[e2]at rv hk;have NR:k.isLeft=top:=(Qk hk).1;cases rv with
    | @cons _ f _ fr rf rfs=>
     refine⟨f::fs,KatTups.cons (kk _ _ ho) oc od (by simp) t1,by simp[t2],fun v hv M=>?_⟩;rcases Oz.mp hv with rfl|hv
     ·cases k with
      |inl i=>
       obtain⟨t,rfl⟩:=rf;have:top=true:=NR.symm;subst this;exact fun A Q E s _ q=>Qy (typeIs_int s _ t) q
      |inr x=>
       obtain⟨t,rfl⟩:=rf;have:top=false:=NR.symm;subst this;exact fun A Q E s _ q=>Qy (Rk s _ t) q
     ·exact t3 v hv M
end
section
variable{X:Cx}
theorem iZ(hc:X.calm=true):c5 X (.builtin "sorted") (fun vs H Q=>∃(p:Addr) (al:List (Addr×List Key)) (top:Bool) (t:List Bool),vs=[.ref p]/\SqL X.K H p (al.map fun a=>V.ref a.1)/\(∀a∈al,SqT X.K H a.1 (a.2.map kV)/\kinds a.2=top::t)/\al.length<64/\
  ∀(D:Addr) (ms:List (Addr×List Key)),H D=none->ms.Perm al->ms.Pairwise (fun a b=>cZ b.2 a.2=false)->Q (.ref D) (upd H D (.lst (ms.map fun a=>V.ref a.1)))):=by
 intro py s σ H vs us Q I r h;obtain⟨p,al,top,kt,rfl,hp,Hs,IL,q⟩:=h;obtain⟨u,rfl,r1⟩:=eJ r;cases r1;obtain⟨ws,rv,pl,hz⟩:=I.list hp;have hl:=rv.length;rw[Om]at hl;refine ia (O:=BJ) (key:=fun i=>(al.getD i (0,[])).2) (kd:=tuples' true) pl.isList (by lia) (fun h2 A' E' h' kk Q' q'=>?_) (fun i j hi hj h' kk C q'=>?_) fun pp h' e FQ hs he kk=>?_
 ·obtain⟨fs,t1,t2,t3⟩:=pe I kk top rv fun a ha=>⟨(Hs a ha).1,kt,(Hs a ha).2⟩
  refine kat_kind (T:=.type (if top then "int" else "str")) t1 (by lia) (fun v hv=>t3 v hv _) (by simp) ?_;have:((Value.type (if top then "int" else "str")) != Value.type "tuple")=true:=by cases top <;> decide
  rw[this];exact q'
 ·unfold kas_ask;have Jz:i<al.length:=by lia
  have KL:j<al.length:=by lia
  rw[ll rv Jz,ll rv KL];have mi:al.getD i (0,[])∈al:=by rw[bj _ _ _ Jz];exact PN _
  have mj:al.getD j (0,[])∈al:=by rw[bj _ _ _ KL];exact PN _
  obtain⟨u1,o1,n1,r1,g1,_,d1⟩:=mI I (Hs _ mi).1;obtain⟨u2,o2,n2,r2,g2,_,d2⟩:=mI I (Hs _ mj).1;have ek:kinds (al.getD i (0,[])).2=kinds (al.getD j (0,[])).2:=by rw[(Hs _ mi).2,(Hs _ mj).2]
  have el:u1.length=u2.length:=by
   have a1:=r1.length;have a2:=r2.length;have a3:=PF List.length ek;simp only[kinds,Om]at a1 a2 a3;lia
  refine kat_lt (kk _ _ g1) d1 (kk _ _ g2) d2 ?_;have ef:decide (u1.toArray.size<u2.toArray.size)=false:=by simp[el]
  rw[ef];exact jA _ _ _ _ 0 r1 r2 ek q'
 ·rw[<-hl]at FQ hs;have KN:POk (al.map fun a=>V.ref a.1).length pp:=by rw[Om];exact FQ
  have eo:qx pp (al.map fun a=>V.ref a.1)=(pp.toList.map fun i=>al.getD i (0,[])).map fun a=>V.ref a.1:=by
   unfold qx;rw[OU];refine PD fun i hi=>?_
   have hi:=Pn.mp (FQ.perm.mem_iff.mp hi);show(al.map fun a=>V.ref a.1).getD i .non=V.ref (al.getD i (0,[])).1;rw[bj _ _ _ (by rw[Om];exact hi),bj _ _ _ hi];simp
  have hn:H (s.heap.objs.size+1)=none:=I.hok.fresh (Qp _);refine⟨.ref (s.heap.objs.size+1),_,gS I kk (Qp _) he (jh rv KN) ?_,rfl,?_⟩
  ·show(qx pp (al.map fun a=>V.ref a.1)).length<=sizeLine;rw[eo,Om,Om,FQ.perm.length_eq,OJ,Pq];lia
  ·rw[eo];refine q _ _ hn (jg (0,[]) FQ) ?_;exact f9 (O:=BJ) (0,[]) (fun a:Addr×List Key=>a.2) FQ hs
end
end NX
namespace L2
open PySem PySem.Spec PyProof.Rows
section
variable{κ:Type}[DecidableEq κ]
def sj(Ef:List (κ×V))(k:κ):Option V:=(Ef.find? fun kv=>decide (kv.1=k)).map (·.2)
def ko(Ef:List (κ×V))(k:κ)(v:V):List (κ×V):=
 if(Ef.any fun kv=>decide (kv.1=k))=true then Ef.map (fun kv=>if kv.1=k then(kv.1,v) else kv) else Ef++[(k,v)]
theorem pf{p:κ×V}{r:List (κ×V)}{k:κ}(e:p.1=k):sj (p::r) k=some p.2:=by simp[sj,List.find?_cons,e]
theorem ph{p:κ×V}{r:List (κ×V)}{k:κ}(e:¬ p.1=k):sj (p::r) k=sj r k:=by simp[sj,List.find?_cons,e]
theorem pj(k:κ):∀Ef:List (κ×V),(Ef.any fun kv=>decide (kv.1=k))=(sj Ef k).isSome
 |[]=>rfl
 |p::r=>by
  rw[Sn];by_cases e:p.1=k
  ·simp only[pf e,OP e,Bool.true_or,Option.isSome_some]
  ·rw[ph e,OH e,Bool.false_or];exact pj k r
theorem jB(Ef:List (κ×V))(k:κ)(v:V):(ko Ef k v).length<=Ef.length+1:=by
 unfold ko;split
 ·rw[Om];lia
 ·rw[OW,OC,Q9];lia
theorem RelO.isSome_eq{o:Option V}{u:Option Value}(r:RelO o u):o.isSome=u.isSome:=by
 cases o with
 |none=>cases u with
  |none=>rfl
  |some _=>exact(show False from r).elim
 |some _=>cases u with
  |none=>exact(show False from r).elim
  |some _=>rfl
theorem KV.any{Ef:List (κ×V)}{vs:List (κ×Value)}(r:KV Ef vs)(k:κ):(Ef.any fun kv=>decide (kv.1=k))=vs.any fun kv=>decide (kv.1=k):=by
 unfold KV at r;induction r with
 |nil=>rfl
 |cons h t ih=>rw[Sn,Sn,ih,h.1]
theorem KV.repl{Ef:List (κ×V)}{vs:List (κ×Value)}(r:KV Ef vs)(k:κ){y:V}{u:Value}(ry:RelV y u):
  KV (Ef.map fun kv=>if kv.1=k then(kv.1,y) else kv) (vs.map fun kv=>if kv.1=k then(kv.1,u) else kv):=by
 unfold KV at r ⊢;induction r with
 |nil=>exact .nil
 | @cons p q ps qs h t ih=>
  rw[OI,OI];refine .cons ?_ ih;obtain⟨h1,h2⟩:=h;by_cases e:p.1=k
  ·rw[Ow e,Ow (h1.symm.trans e)];exact⟨h1,ry⟩
  ·rw[OB e,OB (fun z=>e (h1.trans z))];exact⟨h1,h2⟩
theorem KV.put{Ef:List (κ×V)}{vs:List (κ×Value)}(r:KV Ef vs)(k:κ){y:V}{u:Value}(ry:RelV y u):KV (ko Ef k y) (stored vs k u):=by
 unfold ko stored;rw[r.any k];by_cases e:(vs.any fun kv=>decide (kv.1=k))=true
 ·rw[Ow e,Ow e];exact r.repl k ry
 ·rw[OB e,OB e];exact Paired.snoc r ⟨rfl,ry⟩
theorem KV.length{Ef:List (κ×V)}{vs:List (κ×Value)}(r:KV Ef vs):Ef.length=vs.length:=Q0 r
end
theorem kV_is{P:Program}{w:World}{k:Key}{u:Value}(r:RelV (kV k) u):(mixKind P w).is k u=true:=by
 cases k with
 |inl i=>obtain⟨t,e⟩:=(show ∃t,u=Value.int i t from r);subst e;exact nS P w i t
 |inr x=>obtain⟨t,e⟩:=(show ∃t,u=Value.str x t from r);subst e;exact nU P w x t
theorem mJ{P:Program}{w:World}:∀{ks:List Key}{us:List Value},Vals (ks.map kV) us->ItemsAre (mixKind P w) ks us
 |[],_,r=>by rw[PZ]at r;cases r;exact .nil
 |k::ks,_,r=>by
  rw[OI]at r;cases r with
  |cons h t=>exact .cons (kV_is h) (mJ t)
abbrev KT(H:Hp):List (List Key×V)->List (List Key×Addr×Value)->Prop:=Paired fun p q=>p.1=q.1/\H q.2.1=some (.tup (p.1.map kV))/\RelV p.2 q.2.2
theorem KT.val{H:Hp}{Ef:List (List Key×V)}{xs:List (List Key×Addr×Value)}(r:KT H Ef xs)(k:List Key):RelO (sj Ef k) ((atKey xs k).map (·.2)):=by
 induction r with
 |nil=>exact True.intro
 | @cons p q ps qs h t ih=>
  obtain⟨h1,_,h2⟩:=h;by_cases e:p.1=k
  ·have e':q.1=k:=h1.symm.trans e;have b:atKey (q::qs) k=some q.2:=by simp[atKey,List.find?_cons,e']
   rw[pf e,b];exact h2
  ·have e':¬ q.1=k:=fun z=>e (h1.trans z)
   have b:atKey (q::qs) k=atKey qs k:=by simp[atKey,List.find?_cons,e']
   rw[ph e,b];exact ih
theorem KT.repl{H:Hp}{Ef:List (List Key×V)}{xs:List (List Key×Addr×Value)}(r:KT H Ef xs)(k:List Key){y:V}{u:Value}(ry:RelV y u):
  KT H (Ef.map fun kv=>if kv.1=k then(kv.1,y) else kv) (xs.map (putAt k u)):=by
 induction r with
 |nil=>exact .nil
 | @cons p q ps qs h t ih=>
  rw[OI,OI];refine .cons ?_ ih;obtain⟨h1,h2,h3⟩:=h;unfold putAt;by_cases e:p.1=k
  ·rw[Ow e,Ow (h1.symm.trans e)];exact⟨h1,h2,ry⟩
  ·rw[OB e,OB (fun z=>e (h1.trans z))];exact⟨h1,h2,h3⟩
theorem KT.put{H:Hp}{Ef:List (List Key×V)}{xs:List (List Key×Addr×Value)}(r:KT H Ef xs)(k:List Key){b:Addr}{y:V}{u:Value}(hb:H b=some (.tup (k.map kV)))(ry:RelV y u):
  KT H (ko Ef k y) (storedH xs k b u):=by
 have e:(Ef.any fun kv=>decide (kv.1=k))=(atKey xs k).isSome:=by
  rw[pj,(r.val k).isSome_eq,Option.isSome_map]
 unfold ko storedH;rw[e];by_cases q:(atKey xs k).isSome=true
 ·rw[Ow q,Ow q];exact r.repl k ry
 ·rw[OB q,OB q];exact Paired.snoc r ⟨rfl,hb,ry⟩
theorem KT.keeps{H H':Hp}{Ef:List (List Key×V)}{xs:List (List Key×Addr×Value)}(r:KT H Ef xs)(ht:∀b ys,H b=some (.tup ys)->H' b=some (.tup ys)):KT H' Ef xs:=
 Paired.mapP r fun _ _ z=>⟨z.1,ht _ _ z.2.1,z.2.2⟩
section
variable{P:Program}{w:World}{H:Hp}{h:Heap}{a:Addr}
theorem z9{u:HO}(ok:HOk P w H h)(e:Rd H a u):ObjOk P w H h a u:=e.ok ok
theorem Ci{Ef:List (Key×V)}(ok:HOk P w H h)(e:Rd H a (.dK Ef)):Ef.length<=sizeLine/\(a==sysModules)=false/\∃vs,KV Ef vs/\h.DictOf (mixKind P w) a vs:=
 show ObjOk P w H h a (.dK Ef) from z9 ok e
theorem Cj{Ef:List (Key×V)}(ok:HOk P w H h)(e:H a=some (.dK Ef)):Ef.length<=sizeLine/\(a==sysModules)=false/\∃vs,KV Ef vs/\h.DictOf (mixKind P w) a vs:=Ci ok (.inl e)
theorem wC{ks:List Key}(ok:HOk P w H h)(e:H a=some (.tup (ks.map kV))):(tupleKind (mixKind P w)).is h ks a:=by
 obtain⟨_,Eg,r,o,h1,h2,⟨n,h3⟩,_⟩:=(show ObjOk P w H h a (.tup (ks.map kV)) from ok a _ e)
 exact⟨o,Eg.toArray,n,h1,h2,h3,by simpa using mJ r⟩
theorem Ck{Ef:List (List Key×V)}(ok:HOk P w H h)(e:Rd H a (.dT Ef)):Ef.length<=sizeLine/\(a==sysModules)=false/\
  ∃xs,KT H Ef xs/\h.DictOfH (tupleKind (mixKind P w)) a xs:=by
 obtain⟨z,y,xs,r,o,es,ep,h1,h2,h3,h4,h5⟩:=(show ObjOk P w H h a (.dT Ef) from z9 ok e)
 refine⟨z,y,xs,r,o,es,ep,h1,h2,h3,h4,fun x hx=>?_,h5⟩;have all:∀{l:List (List Key×V)}{m:List (List Key×Addr×Value)},KT H l m->∀x∈m,(tupleKind (mixKind P w)).is h x.1 x.2.1:=by
  intro l m q;induction q with
  |nil=>intro x hx;exact nomatch hx
  | @cons p q ps qs hq t ih=>
   intro x hx;rcases Oz.mp hx with e|hx
   ·subst e;exact wC ok (by rw[<-hq.1];exact hq.2.1)
   ·exact ih x hx
 exact all r x hx
theorem Cm{Ef:List (List Key×V)}(ok:HOk P w H h)(e:H a=some (.dT Ef)):Ef.length<=sizeLine/\(a==sysModules)=false/\
  ∃xs,KT H Ef xs/\h.DictOfH (tupleKind (mixKind P w)) a xs:=Ck ok (.inl e)
end
def DGet(H:Hp)(a:Addr)(y:V)(r:Option V):Prop:=
 (∃Ef k,Rd H a (.dK Ef)/\y=kV k/\r=sj Ef k)\/∃Ef k b,Rd H a (.dT Ef)/\y=.ref b/\H b=some (.tup (k.map kV))/\r=sj Ef k
def DPut(H:Hp)(a:Addr)(y v:V)(H':Hp):Prop:=
 (∃Ef k,H a=some (.dK Ef)/\y=kV k/\Ef.length<sizeLine/\H'=upd H a (.dK (ko Ef k v)))\/
 ∃Ef k b,H a=some (.dT Ef)/\y=.ref b/\H b=some (.tup (k.map kV))/\Ef.length<sizeLine/\H'=upd H a (.dT (ko Ef k v))
theorem DGet.k{H:Hp}{a:Addr}{Ef:List (Key×V)}{k:Key}(e:H a=some (.dK Ef)):DGet H a (kV k) (sj Ef k):=.inl ⟨Ef,k,.inl e,rfl,rfl⟩
theorem DGet.t{H:Hp}{a b:Addr}{Ef:List (List Key×V)}{k:List Key}(e:H a=some (.dT Ef))(eb:H b=some (.tup (k.map kV))):DGet H a (.ref b) (sj Ef k):=.inr ⟨Ef,k,b,.inl e,rfl,eb,rfl⟩
theorem DPut.k{H:Hp}{a:Addr}{Ef:List (Key×V)}{k:Key}{v:V}(e:H a=some (.dK Ef))(hl:Ef.length<sizeLine):DPut H a (kV k) v (upd H a (.dK (ko Ef k v))):=.inl ⟨Ef,k,e,rfl,hl,rfl⟩
theorem DPut.t{H:Hp}{a b:Addr}{Ef:List (List Key×V)}{k:List Key}{v:V}(e:H a=some (.dT Ef))(eb:H b=some (.tup (k.map kV)))(hl:Ef.length<sizeLine):
  DPut H a (.ref b) v (upd H a (.dT (ko Ef k v))):=.inr ⟨Ef,k,b,e,rfl,eb,hl,rfl⟩
section
variable{X:Cx}{py:List (Addr×Obj)}{σ:St}{H:Hp}{s:Shared}{a:Addr}{y v:V}{u r:Value}{o:Option V}{A:Around}{E:Value->Shared->Prop}
theorem Inv.big(I:Inv X py σ H s):sysModules<s.heap.objs.size:=by
 have h:mainGlobals<s.heap.objs.size:=(I.mod.glob.keeps I.bk).lt;exact Nat.lt_trans (by decide) h
theorem sk{h':Heap}{t':Nat}{ob:HO}(I:Inv X py σ H s)(mu:LF (H a))(hs:Heap.SameBut a s.heap h')(he:∃q,h'.get? a=some q)(new:ObjOk X.prog X.w (upd H a ob) h' a ob):
  Inv X py σ (upd H a ob) {s with heap:=h',toks:=t'}:=
 I.write (x:=a) (e:=a) mu (.inl rfl) (fun b q hb z=>(hs.2 b hb).trans z) he new
theorem Aa{P:Program}{w:World}{H':Hp}{h':Heap}{Ef:List (Key×V)}{vs:List (Key×Value)}(z:Ef.length<=sizeLine)(hd:(a==sysModules)=false)(rel:KV Ef vs)(dd:h'.DictOf (mixKind P w) a vs):
  ObjOk P w H' h' a (.dK Ef):=⟨z,hd,vs,rel,dd⟩
theorem so{H':Hp}{Q:Unit->Shared->Prop}(hu:A.units+1<cLine)(I:Inv X py σ H s)(g:DPut H a y v H')(ry:RelV y u)(rv:RelV v r)(h:∀s',Inv X py σ H' s'->Q () s'):
  wpAny (model X.prog X.w) A (setItem (.ref a) u r) Q E s:=by
 rcases g with⟨Ef,k,e,ey,l,eH⟩|⟨Ef,k,b,e,ey,eb,l,eH⟩
 ·subst ey eH;obtain⟨z,hd,vs,rel,dd⟩:=Cj I.hok e;have hz:vs.length<=sizeLine:=by rw[<-rel.length];exact z
  have hl:(ko Ef k v).length<=sizeLine:=by have:=jB Ef k v;lia
  refine wpAny_setItem_pairs (hsz:=hz) (kV_is ry) dd fun h' Lu hs=>h _ ?_
  have he:∃q,h'.get? a=some q:=let⟨q,_,_,hq,_⟩:=Lu;⟨q,hq⟩
  exact sk I (by rw[e];exact True.intro) hs he (Aa hl hd (rel.put k rv) Lu)
 ·subst ey eH;cases(show u=Value.ref b from ry);obtain⟨z,hd,xs,rel,dd⟩:=Cm I.hok e;have hz:xs.length<=sizeLine:=by rw[<-Q0 rel];exact z
  have hl:(ko Ef k v).length<=sizeLine:=by have:=jB Ef k v;lia
  refine wpAny_setItem_heap (hsz:=hz) (tupleKind_room_in1 hu) (wC I.hok eb) dd fun h' Lu hs=>h _ ?_
  obtain⟨q,es,ep,hq,h2,h3,h4,_,h5⟩:=Lu;refine sk I (by rw[e];exact True.intro) hs ⟨q,hq⟩ ⟨hl,hd,_,(rel.put k eb rv).keeps fun c ys ec=>?_,q,es,ep,hq,h2,h3,h4,h5⟩;rw[aF (BN ec e (fun z=>nomatch z))];exact ec
end
section
variable{X:Cx}{py:List (Addr×Obj)}{σ:St}{H:Hp}{s:Shared}{a:Addr}{Ef:List (Key×V)}{k:Key}{u:Value}{A:Around}{E:Value->Shared->Prop}
end
def sDPut(td ty tv:TE):TS:=fun D σ H=>tv σ H fun v H1=>td σ H1 fun x H2=>ty σ H2 fun y H3=>∃a H4,x=.ref a/\DPut H3 a y v H4/\D.nx σ H4
section
variable{X:Cx}{o i e value:Expr}{pos pos' Ky:Pos}{td ty tv:TE}
theorem xY(hu:X.A.units+1<cLine)(ho:PE X o td)(hi:PE X i ty)(hv:PE X value tv)(hs:swapsWith value (some (.Subscript o i pos')) pos.line X.env=pure false):
  PS X (.Assign [.Subscript o i pos'] value pos) (sDPut td ty tv):=by
 intro py s σ H D I h;refine wpAny_Assign_Subscript (Ez (hv py s σ H _ I h) fun r s1 ⟨v,H1,I1,rv,q1⟩=>Ez (ho py s1 σ H1 _ I1 q1) fun u s2 ⟨x,H2,I2,rx,q2⟩=>Ez (hi py s2 σ H2 _ I2 q2) fun iv s3 ⟨y,H3,I3,ry,a,H4,ex,g,q3⟩=>?_) hs;subst ex;obtain rfl:u=Value.ref a:=rx;exact so hu I3 g ry rv fun s4 I4=>⟨σ,H4,I4,q3⟩
end
theorem dt_empty{P:Program}{w:World}{H:Hp}(h:Heap)(hb:sysModules<h.objs.size):ObjOk P w H (h.push {cls:=.type "dict",data:=.dict #[]}) h.objs.size (.dT []):=
 ⟨Pd _,O1.mpr (P1 (OO hb)),[],.nil,_,#[],0,Heap.get?_push_size _ rfl,⟨rfl,rfl,rfl⟩,rfl,rfl,P0⟩
def Ab:TE:=fun _ H Q=>∀p,H p=none->Q (.ref p) (upd H p (.dT []))
section
variable{X:Cx}{pos:Pos}
theorem vx:PE X (.Dict [] [] pos) Ab:=fun py s σ H Q I h=>
 wpAny_Dict_empty ⟨.ref s.heap.objs.size,_,I.laid (a:=s.heap.objs.size) (o:=.dT []) (t':=s.toks) (fun _ _ q=>Heap.get?_push_of_some _ q) (Ou _) (dt_empty s.heap I.big),rfl,h _ (I.hok.fresh (Ou _))⟩
end
section
variable{X:Cx}{py:List (Addr×Obj)}{σ:St}{H:Hp}{s:Shared}{a:Addr}{y d:V}{u r:Value}{o:Option V}{A:Around}{E:Value->Shared->Prop}
end
section
variable{X:Cx}{o e f:Expr}{apos Er:Pos}{td ty tx:TE}
end
section
variable{X:Cx}{py:List (Addr×Obj)}{σ:St}{H:Hp}{s:Shared}{a:Addr}{Ef:List (Key×V)}{A:Around}{E:Value->Shared->Prop}
end
section
variable{X:Cx}{py:List (Addr×Obj)}{σ:St}{H:Hp}{s:Shared}{a:Addr}{y:V}{u:Value}{A:Around}{E:Value->Shared->Prop}
end
section
variable{κ:Type}[DecidableEq κ]
end
end L2
namespace NX
open PySem PySem.Spec PyProof.Rows L2
def RawD(h:Heap)(d:Addr)(es:Array DictEntry)(ep:Nat):Prop:=∃o,h.get? d=some o/\o.ExactDict/\o.data=.dict es ep
theorem RawD.at{h h':Heap}{d:Addr}{es:Array DictEntry}{ep:Nat}(x:RawD h d es ep)(e:∀o,h.get? d=some o->h'.get? d=some o):RawD h' d es ep:=by
 obtain⟨o,g,r⟩:=x;exact⟨o,e o g,r⟩
section
variable{prog:Program}{w:World}{A:Around}{E:Value->Shared->Prop}{s:Shared}{d it:Addr}{es:Array DictEntry}{ep i:Nat}
theorem jj(x:RawD s.heap d es ep):s.TypeIs (.ref d) "dict":=by
 obtain⟨o,g,ex,_⟩:=x;exact⟨o,g,ex.1⟩
theorem vy{Q:Value->Shared->Prop}(nm:(d==sysModules)=false)(x:RawD s.heap d es ep)
  (q:Q (.ref s.heap.objs.size) {s with heap:=s.heap.push {cls:=.type "dict_keyiterator",data:=.fields #[.ref d,.int 0 0,.int es.size 0,.int ep 0]}}):wpAny (model prog w) A (pyIter (.ref d)) Q E s:=by
 have ty:=jj x;obtain⟨o,g,ex,dat⟩:=x;refine wpAny_pyIter_slot ty F.slot_dict_iter (Ph F.slot_dict_iter ty F.entry_dict_iter (Oj ?_) (F.args_dict_iter_1 _));refine Oj (wpAny_notOrdered_dict ty (Oq ?_));show wpAny _ _ (Builtin.Dict.showsAll d >>= fun _=>_) _ _ s;have ns:Builtin.Dict.showsAll d=pure ():=by
  unfold Builtin.Dict.showsAll;rw[nm];rfl
 rw[ns];refine Oj (Oq (Oj (QH g dat (Oj (RV g dat (Oj (O9 (Oq ⟨_,rfl,"dict_keyiterator",_,⟨_,Heap.get?_push_size _ rfl,rfl⟩,F.slot_dict_keyiterator_next.lookup,?_⟩))))))));exact q
theorem vz{Q:Option Value->Shared->Prop}{e:DictEntry}(hit:s.heap.IsKeyIter it d i es.size ep)(x:RawD s.heap d es ep)(hx:es[i]?=some e)
  (q:∀h',h'.IsKeyIter it d (i+1) es.size ep->Heap.SameBut it s.heap h'->Q (some e.key) {s with heap:=h'}):wpAny (model prog w) A (pyNext (.ref it)) Q E s:=by
 have ti:=hit.typeIs;obtain⟨o,g,oc,od⟩:=hit;obtain⟨ob,gd,_,dat⟩:=x;have E5:i<es.size:=(Array.getElem?_eq_some_iff.mp hx).1;unfold pyNext;refine Oj (Rx (wpAny_callSpecial?_slot (name:=Str.ofString "__next__") ti PU (Ph PU ti QX
  (Oj (Oq (Oj (Oj ?_)))) (QL _))))
 refine Oj (PR ti (Oq (Oj (wpAny_fieldsOf g od ?_))));have IE:Builtin.Dict_items.ownsTuple "dict_keyiterator" = false:=by decide
 simp only[IE,OX,Rg];show wpAny _ _ (if(Value.ref d==Value.none)=true then _ else _) _ _ s;have nz:¬ ((Value.ref d==Value.none)=true):=Oy;rw[OB nz];refine Oj (Oq (Oj (QH gd dat ?_)));rw[OB (by simp)];refine Oj (Oq (Oj (RV gd dat ?_)));rw[OB (by simp)];refine Oq ?_;simp only[OB (show ¬ ((i:Int)<0) by lia),Qr,hx];refine Oj (Oj (PR ti (Oq (Oj (wpAny_isOneOf_keyiter ti ?_)))));show wpAny _ _ (setField (.ref it) 1 (rawInt ((i:Int)+1)) >>= fun _=>_) _ _ s;refine Oj (Ri g od (by simp) ?_);have nx:(s.heap.update it (Obj.mapFields fun y=>y.setIfInBounds 1 (rawInt ((i:Int)+1)))).IsKeyIter it d (i+1) es.size ep:=
  ⟨_,Heap.get?_update_self _ g (Obj.isFreed_of_fields (QB od _)),(Obj.cls_mapFields ..).trans oc,(QB od _).trans (by simp[rawInt])⟩
 refine Oj (Qc (Oj (wpAny_isOneOf_keyiter (s:={s with heap:=s.heap.update it (Obj.mapFields fun y=>y.setIfInBounds 1 (rawInt ((i:Int)+1)))}) nx.typeIs ?_)));show wpAny _ _ (pure e.key) _ _ _;exact Oq (Oq ⟨_,rfl,Oq (q _ nx (Qw ..))⟩)
theorem xZ{Q:Option Value->Shared->Prop}(hh:A.handled=none)(hit:s.heap.IsKeyIter it d i es.size ep)(x:RawD s.heap d es ep)(hx:es[i]?=none)
  (q:∀h',Heap.ExtBut it s.heap h'->Q none {s with heap:=h'}):wpAny (model prog w) A (pyNext (.ref it)) Q E s:=by
 have ti:=hit.typeIs;obtain⟨o,g,oc,od⟩:=hit;obtain⟨ob,gd,_,dat⟩:=x;unfold pyNext;refine Oj (Rx (wpAny_callSpecial?_slot (name:=Str.ofString "__next__") ti PU (Ph PU ti QX
  (Oj (Oq (Oj (Oj ?_)))) (QL _))))
 refine Oj (PR ti (Oq (Oj (wpAny_fieldsOf g od ?_))));have IE:Builtin.Dict_items.ownsTuple "dict_keyiterator" = false:=by decide
 simp only[IE,OX,Rg];show wpAny _ _ (if(Value.ref d==Value.none)=true then _ else _) _ _ s;have nz:¬ ((Value.ref d==Value.none)=true):=Oy;rw[OB nz];refine Oj (Oq (Oj (QH gd dat ?_)));rw[OB (by simp)];refine Oj (Oq (Oj (RV gd dat ?_)));rw[OB (by simp)];refine Oq ?_;simp only[OB (show ¬ ((i:Int)<0) by lia),Qr,hx];refine Oj (Oj (PR ti (Oq ?_)));show wpAny _ _ (setField (.ref it) 0 .none >>= fun _=>_) _ _ s;refine Oj (Ri g od (by simp) ?_);show wpAny _ _ (newExc (.type "StopIteration") [] >>= fun _=>_) _ _ _;refine Oj ?_;simp only[newExc,newTuple];refine Oj (O9 (Oj (m:=firstArgMember _ _) (wpAny_of_eq (a:=Value.none) (by first|rfl|(simp only[firstArgMember];rfl)) (O9 ?_ (by size_fits)))) (by size_fits));simp only[raiseNew];refine Oj (wpAny_handled ?_);rw[show A.in1.handled=none from hh];refine Oj (Oq (wpAny_throw ?_));refine Oj (wpAny_isInstance (b:=true) (T:="StopIteration") ⟨_,Heap.get?_push_size _ rfl,rfl⟩ isSubtype_stop ?_);exact Oq (q _ (((Qw ..).extBut.push _).push _))
theorem sr(hh:A.handled=none)(I:Addr)(ne:d≠I):Walks prog w A I [I,d] [I] es.size (fun i v=>∃e,es[i]?=some e/\v=e.key) (fun i h=>h.IsKeyIter I d i es.size ep/\RawD h d es ep) where
 sub:=fun b hb=>by
  rw[Pb]at hb;rw[hb];exact Ol
 frame:=fun _ _ _ st hk=>⟨st.1.at fun o e=>hk I Ol o e,st.2.at fun o e=>hk d (Ot _ Ol) o e⟩
 item:=fun i s Q E hi st hQ=>by
  refine vz st.1 st.2 (Array.getElem?_eq_getElem hi) fun h' it' sb=>?_
  exact hQ _ h' s.toks ⟨_,Array.getElem?_eq_getElem hi,rfl⟩ ⟨it',st.2.at fun o e=>sb.extBut d o ne e⟩ fun b o hb e=>sb.extBut b o (fun z=>hb (by rw[z];exact Ol)) e
 done:=fun s Q E st hQ=>xZ hh st.1 st.2 (Array.getElem?_eq_none (Ou _)) fun h' ext=>hQ h' s.toks fun b o hb e=>ext b o (fun z=>hb (by rw[z];exact Ol)) e
 self:=fun _ _ _ _ st hQ=>wpAny_pyIter_keyiter st.1 hQ
theorem x3(nm:(d==sysModules)=false):PySem.W.KdlSrc prog w "dict" d d es.size (fun i v=>∃e,es[i]?=some e/\v=e.key) (fun h=>RawD h d es ep) where
 type:=fun _ x=>jj x
 there:=fun _ x=>by
  obtain⟨o,g,_⟩:=x;exact⟨OA g,OA g⟩
 keep:=fun _ _ x hk=>x.at fun o e=>hk d (.inl rfl) o e
 notList:=by decide
 notTuple:=by decide
 hint:=fun _ _ _ _ x q=>PySem.W.kdl_hint_dict (jj x) q
 iter:=fun _ s hh x=>⟨_,_,(fun _ _ q=>vy nm x q),sr hh _ (by obtain⟨o,g,_⟩:=x;exact OO (OA g)),⟨⟨_,Heap.get?_push_size _ rfl,rfl,rfl⟩,x.at fun o e=>Heap.get?_push_of_some _ e⟩⟩
end
end NX
namespace NX
open PySem PySem.W PySem.Spec PyProof.Rows L2
section
variable{prog:Program}{w:World}{A:Around}{E:Value->Shared->Prop}{s:Shared}
theorem qy{O:KeyOrd}{key:Nat->O.α}{kd:SortKind}{l:Addr}{vs:List Value}{Q:Value->Shared->Prop}
  (hcol:∀Q':List Value->Shared->Prop,(∀h' tk,(∀b o,s.heap.get? b=some o->h'.get? b=some o)->Q' vs {s with heap:=h',toks:=tk})->wpAny (model prog w) A.in1 (collect (.ref l)) Q' E s) (IL:vs.length<64)
  (Gr:2<=vs.length->∀(A':Around) (E':Value->Shared->Prop) (s':Shared),(∀b o,s.heap.get? b=some o->s'.heap.get? b=some o)->∀Q:SortKind->Shared->Prop,Q kd s'->wpAny (model prog w) A' (keyKind' vs.toArray) Q E' s')
  (Jb:∀i j,i<vs.length->j<vs.length->∀s':Shared,(∀b o,s.heap.get? b=some o->s'.heap.get? b=some o)->∀C:Bool->Shared->Prop,C (O.blt (key i) (key j)) s'->kas_ask prog w A.in1.in1 kd vs i j C s')
  (h:∀(p:Array Nat) (h5 h':Heap) (tk e:Nat),POk vs.length p->a9 key p vs.length->(∀b o,s.heap.get? b=some o->h5.get? b=some o)->(∀b o,h5.get? b=some o->h'.get? b=some o)->h'.get? h5.objs.size=some (seqObj "list" (List.toArray (p.toList.map fun i=>vs.getD i .none)) e)->Q (.ref h5.objs.size) {s with heap:=h',toks:=tk}):
  wpAny (model prog w) A (call (.builtin "sorted") [.ref l]) Q E s:=by
 refine Qs kind_sorted plain_sorted entry_sorted (args_sorted1 _) ?_;unfold Builtin.«sorted»;refine Oj (m:=checkCount "sorted" 1 1 _) (Oq (Oj (hcol _ fun h5 tk k5=>?_)));refine Oj (Sl ?_ (by rw[Pq];lia));have k6:∀b o,s.heap.get? b=some o->(h5.push (seqObj "list" vs.toArray 0)).get? b=some o:=fun b o e=>Heap.get?_push_of_some _ (k5 b o e)
 have hL:(h5.push (seqObj "list" vs.toArray 0)).get? h5.objs.size=some (seqObj "list" vs.toArray 0):=Heap.get?_push_size _ rfl;have NS:∀b o,s.heap.get? b=some o->b<h5.objs.size:=fun b o e=>OA (k5 b o e)
 show wpAny _ _ _ _ _ {s with heap:=h5.push (seqObj "list" vs.toArray 0),toks:=tk};refine Oj (Qc (Ph slot_list_sort ⟨_,hL,rfl⟩ entry_list_sort (gR (key:=key) (kd:=kd) hL IL (fun h2 h' kk Q' q=>Gr h2 _ _ _ (fun b o e=>kk b o (OO (NS b o e)) (k6 b o e)) Q' q)
  (fun i j hi hj h' kk C q=>Jb i j hi hj _ (fun b o e=>kk b o (OO (NS b o e)) (k6 b o e)) C q) fun p h' hp hs ⟨e,he⟩ kk=>⟨_,rfl,?_⟩) (args_list_sort _)))
 exact Oq ⟨_,rfl,h p h5 h' tk e hp hs k5 (fun b o q=>kk b o (OO (OA q)) (Heap.get?_push_of_some _ q)) he⟩
end
section
variable{X:Cx}{py:List (Addr×Obj)}{σ:L2.St}{H:Hp}{s:Shared}
theorem x4{H:Hp}{Ef:List (List Key×V)}{xs:List (List Key×Addr×Value)}(r:KT H Ef xs):xs.map (·.1)=Ef.map (·.1):=by
 induction r with
 |nil=>rfl
 |cons hq _ ih=>rw[OI,OI,ih,hq.1]
theorem Cn{H:Hp}{Ef:List (List Key×V)}{xs:List (List Key×Addr×Value)}(r:KT H Ef xs):∀y∈xs,H y.2.1=some (.tup (y.1.map kV)):=by
 induction r with
 |nil=>exact fun y hy=>nomatch hy
 |cons hq _ ih=>
  intro y hy;rcases Oz.mp hy with rfl|hy
  ·rw[<-hq.1];exact hq.2.1
  ·exact ih y hy
theorem x5(I:Inv X py σ H s){a:Addr}{Ef:List (List Key×V)}(h:Rd H a (.dT Ef)):(a==sysModules)=false/\∃(al:List (Addr×List Key)) (es:Array DictEntry) (ep:Nat),
  RawD s.heap a es ep/\es.toList.map (·.key)=al.map (fun x=>Value.ref x.1)/\al.map (·.2)=Ef.map (·.1)/\∀x∈al,H x.1=some (.tup (x.2.map kV)):=by
 obtain⟨_,nm,xs,r,o,es,ep,h1,h2,h3,h4,_⟩:=h.ok I.hok;refine⟨nm,xs.map fun x=>(x.2.1,x.1),es,ep,⟨o,h1,h2,h3⟩,?_,?_,?_⟩
 ·rw[h4,OU,OU];rfl
 ·rw[OU];exact x4 r
 ·intro x hx;obtain⟨y,hy,rfl⟩:=Py.mp hx;exact Cn r y hy
theorem kq(hc:X.calm=true):c5 X (.builtin "sorted") (fun vs H Q=>∃(p:Addr) (Ef:List (List Key×V)) (top:Bool) (t:List Bool),vs=[.ref p]/\Rd H p (.dT Ef)/\(∀kv∈Ef,kinds kv.1=top::t)/\Ef.length<64/\
  ∀(D:Addr) (ms:List (Addr×List Key)),H D=none->(∀a∈ms,H a.1=some (.tup (a.2.map kV)))->(ms.map (·.2)).Perm (Ef.map (·.1))->ms.Pairwise (fun a b=>cZ b.2 a.2=false)->Q (.ref D) (upd H D (.lst (ms.map fun a=>V.ref a.1)))):=by
 intro py s σ H vs us Q I r h;obtain⟨p,Ef,top,kt,rfl,hp,hk,IL,q⟩:=h;obtain⟨u,rfl,r1⟩:=eJ r;cases r1;obtain⟨nm,al,es,ep,raw,Jc,MJ,KO⟩:=x5 I hp;have IJ:al.length=Ef.length:=by
  have:=PF List.length MJ;simpa using this
 have Hs:∀a∈al,SqT X.K H a.1 (a.2.map kV)/\kinds a.2=top::kt:=fun a ha=>by
  refine⟨SqT.of (KO a ha),?_⟩;have:a.2∈Ef.map (·.1):=by rw[<-MJ];exact Py.mpr ⟨a,ha,rfl⟩
  obtain⟨kv,HW,e⟩:=Py.mp this;rw[<-e];exact hk kv HW
 have rv:Vals (al.map fun a=>V.ref a.1) (al.map fun a=>Value.ref a.1):=by
  clear Jc MJ KO IJ Hs;induction al with
  |nil=>exact .nil
  |cons a al ih=>exact .cons rfl ih
 have hl:(al.map fun a=>Value.ref a.1).length=al.length:=Om ..;refine qy (O:=BJ) (key:=fun i=>(al.getD i (0,[])).2) (kd:=tuples' true) (vs:=al.map fun a=>Value.ref a.1) (fun Q' hq=>?_) (by lia) (fun h2 A' E' s' kk Q' q'=>?_) (fun i j hi hj s' kk C q'=>?_) fun pp h5 h' tk e FQ hs k5 k' he=>?_
 ·refine kdu_collect (x3 nm) (I.ok.hd hc) raw (by have:=PF List.length Jc;simp only[Om,Pz]at this;rw[Pq];lia) fun h' tk acc kk JL=>?_
  have ea:acc.toList=al.map fun a=>Value.ref a.1:=by
   rw[<-Jc];apply QF;intro j;rw[List.getElem?_map,Array.getElem?_toList,Array.getElem?_toList];cases hj:acc[j]? with
   |none=>
    have:es[j]?=none:=by
     rw[Array.getElem?_eq_none_iff]at hj ⊢;rw[<-JL.1];exact hj
    rw[this];rfl
   |some v=>
    obtain⟨en,h1,h2⟩:=JL.2 j v hj;rw[h1,h2];rfl
  have:=hq h' tk kk;rw[<-ea]at this;exact this
 ·obtain⟨fs,t1,t2,t3⟩:=pe (h':=s'.heap) I kk top rv fun a ha=>⟨(Hs a ha).1,kt,(Hs a ha).2⟩
  refine kat_kind (T:=.type (if top then "int" else "str")) t1 (by lia) (fun v hv=>t3 v hv _) (by simp) ?_;have:((Value.type (if top then "int" else "str")) != Value.type "tuple")=true:=by cases top <;> decide
  rw[this];exact q'
 ·unfold kas_ask;have Jz:i<al.length:=by lia
  have KL:j<al.length:=by lia
  rw[ll rv Jz,ll rv KL];have mi:al.getD i (0,[])∈al:=by rw[bj _ _ _ Jz];exact PN _
  have mj:al.getD j (0,[])∈al:=by rw[bj _ _ _ KL];exact PN _
  obtain⟨u1,o1,n1,r1,g1,_,d1⟩:=mI I (Hs _ mi).1;obtain⟨u2,o2,n2,r2,g2,_,d2⟩:=mI I (Hs _ mj).1;have ek:kinds (al.getD i (0,[])).2=kinds (al.getD j (0,[])).2:=by rw[(Hs _ mi).2,(Hs _ mj).2]
  have el:u1.length=u2.length:=by
   have a1:=r1.length;have a2:=r2.length;have a3:=PF List.length ek;simp only[kinds,Om]at a1 a2 a3;lia
  refine kat_lt (kk _ _ g1) d1 (kk _ _ g2) d2 ?_;have ef:decide (u1.toArray.size<u2.toArray.size)=false:=by simp[el]
  rw[ef];exact jA _ _ _ _ 0 r1 r2 ek q'
 ·rw[hl]at FQ hs;have KN:POk (al.map fun a=>V.ref a.1).length pp:=by rw[Om];exact FQ
  have eo:qx pp (al.map fun a=>V.ref a.1)=(pp.toList.map fun i=>al.getD i (0,[])).map fun a=>V.ref a.1:=by
   unfold qx;rw[OU];refine PD fun i hi=>?_
   have hi:=Pn.mp (FQ.perm.mem_iff.mp hi);show(al.map fun a=>V.ref a.1).getD i .non=V.ref (al.getD i (0,[])).1;rw[bj _ _ _ (by rw[Om];exact hi),bj _ _ _ hi];simp
  have I5:Inv X py σ H {s with heap:=h5,toks:=tk}:=I.kept k5;have hn:H h5.objs.size=none:=I5.hok.fresh (Ou _);refine⟨.ref h5.objs.size,_,gS (s:={s with heap:=h5,toks:=tk}) I5 k' (Ou _) he (jh rv KN) ?_,rfl,?_⟩
  ·show(qx pp (al.map fun a=>V.ref a.1)).length<=sizeLine;rw[eo,Om,Om,FQ.perm.length_eq,OJ,Pq];lia
  ·rw[eo];have pm:=jg (0,[]) FQ;refine q _ _ hn (fun a ha=>KO a (pm.mem_iff.mp ha)) ?_ ?_
   ·rw[<-MJ];exact pm.map _
   ·exact f9 (O:=BJ) (0,[]) (fun a:Addr×List Key=>a.2) FQ hs
end
end NX
namespace NX
open PySem PySem.Spec PyProof.Rows L2
section
open PySem.SeqAt
open PySem.AutoSeq1 (wpAny_loadPart')
open PySem.MeetsSeq PySem.MeetsSeq2 PySem.MeetsSeq3
theorem pk{A:Around}{s:Shared}{a c:Key}{u v:Value}(ra:RelV (kV a) u)(rc:RelV (kV c) v):EqAt A s u v (decide (a=c)):=by
 have h:=wt (A:=A) (s:=s) ra rc (ji a) (ji c);rw[si]at h;exact h
theorem vA{prog:Program}{w:World}{A:Around}{E:Value->Shared->Prop}{s:Shared}{Q:Value->Shared->Prop}{a c:Key}{u v:Value}(ra:RelV (kV a) u)(rc:RelV (kV c) v)(hk:a.isLeft=c.isLeft)(h:Q (.bool (nQ.blt a c)) s):
  wpAny (model prog w) A (richCompare .Lt u v) Q E s:=by
 cases a with
 |inl i=>
  cases c with
  |inr _=>cases hk
  |inl j=>
   obtain⟨t,rfl⟩:=ra;obtain⟨t',rfl⟩:=rc;exact(PyProof.Rows.lt_int h:wpAny (model prog w) A (compareOp .Lt (.int i t) (.int j t')) Q E s)
 |inr x=>
  cases c with
  |inl _=>cases hk
  |inr y=>
   obtain⟨t,rfl⟩:=ra;obtain⟨t',rfl⟩:=rc;exact(PyProof.Rows.lt_str h:wpAny (model prog w) A (compareOp .Lt (.str x t) (.str y t')) Q E s)
theorem vB{prog:Program}{w:World}{A:Around}{E:Value->Shared->Prop}{s:Shared}{Q:Value->Shared->Prop}{a c:Key}{u v:Value}(ra:RelV (kV a) u)(rc:RelV (kV c) v)(hk:a.isLeft=c.isLeft)(h:Q (.bool (!nQ.blt a c)) s):
  wpAny (model prog w) A (richCompare .GtE u v) Q E s:=by
 cases a with
 |inl i=>
  cases c with
  |inr _=>cases hk
  |inl j=>
   obtain⟨t,rfl⟩:=ra;obtain⟨t',rfl⟩:=rc;refine(PyProof.Rows.ge_int ?_:wpAny (model prog w) A (compareOp .GtE (.int i t) (.int j t')) Q E s);have e:(!nQ.blt (.inl i) (.inl j))=decide (j<=i):=by
    show(!decide (i<j))=decide (j<=i);rw[OQ];simp
   rw[e]at h;exact h
 |inr x=>
  cases c with
  |inl _=>cases hk
  |inr y=>
   obtain⟨t,rfl⟩:=ra;obtain⟨t',rfl⟩:=rc;exact(PySem.P.ge_str h:wpAny (model prog w) A (compareOp .GtE (.str x t) (.str y t')) Q E s)
theorem mK(a c:Key)(r t:List Key):cZ (a::r) (c::t)=if a=c then cZ r t else nQ.blt a c:=rfl
theorem lp(l b:Addr)(items EZ:Array Value)(n n2:Nat)(dd IU:Option Addr)(sl IV:Array (Option Value))(ks js:List Key)(hi:Vals (ks.map kV) items.toList)(hj:Vals (js.map kV) EZ.toList)(hk:kinds ks=kinds js):
  Meets (Builtin.«tuple.__lt__» ⟨[.ref l,.ref b],[]⟩)
   (fun _ R s=>s.heap.get? l=some {cls:=.type "tuple",dict:=dd,data:=.seq items n,slots:=sl}/\s.heap.get? b=some {cls:=.type "tuple",dict:=IU,data:=.seq EZ n2,slots:=IV}/\R (.ok (.ret (.bool (cZ ks js)))) s):=
 .of_wp fun prog w A R s h=>by
  obtain⟨hp,g,d,tk,os⟩:=s;obtain⟨hl,hb,h⟩:=h;have f2:=Ro;have z1:items.size=ks.length:=by have:=hi.length;simp at this;lia
  have z2:EZ.size=js.length:=by have:=hj.length;simp at this;lia
  have z3:ks.length=js.length:=by have:=PF List.length hk;simpa[kinds] using this
  wp_walk using wpAny_loadPart' hl,wpAny_loadPart' hb,wpAny_forIn_list _ (fun c9 b s'=>b.1=none/\s'=⟨hp,g,d,tk,os⟩/\∃(vs ws:List Value) (FJ FR:List Key),c9=vs.zip ws/\
   Vals (FJ.map kV) vs/\Vals (FR.map kV) ws/\kinds FJ=kinds FR/\R (.ok (.ret (.bool (cZ FJ FR)))) ⟨hp,g,d,tk,os⟩) _
  case turn=>
   rintro⟨y,x⟩ c9 b s' ⟨KP,rfl,vs,ws,FJ,FR,hz,JN,KQ,HX,hR⟩;cases FJ with
   |nil=>
    cases JN;rw[List.zip_nil_left]at hz;cases hz
   |cons a FJ=>
    cases FR with
    |nil=>cases HX
    |cons c FR=>
     cases JN with
     | @cons _ va _ Ht ra hvi'=>
      cases KQ with
      | @cons _ vc _ Lv rc hwi'=>
       rw[Qn]at hz;injection hz with hyx hrest;injection hyx with hy hx;subst hy hx;have IM:a.isLeft=c.isLeft:=(Qk HX).1;have HL:kinds FJ=kinds FR:=(Qk HX).2;rw[mK]at hR;have he:=pk (A:=A.in1) (s:=⟨hp,g,d,tk,os⟩) ra rc;refine Oj (he prog w _ _ ?_);by_cases hac:a=c
       ·rw[Ow hac]at hR;rw[OP hac]
        wp_walk
        exact⟨rfl,rfl,_,_,_,_,hrest,hvi',hwi',HL,hR⟩
       ·rw[OB hac]at hR;rw[OH hac];have Ni:=fun E Q=>vA (prog:=prog) (w:=w) (A:=A.in1) (E:=E) (s:=⟨hp,g,d,tk,os⟩) (Q:=Q) ra rc IM
        wp_walk using Ni
        exact⟨_,rfl,by simpa using hR⟩
  case fin=>
   rintro⟨b1,b2⟩ s' ⟨KP,rfl,vs,ws,FJ,FR,hz,JN,KQ,HX,hR⟩;simp only at KP;subst KP;have hv:cZ FJ FR=decide (items.size<EZ.size):=by
    cases FJ with
    |nil=>
     cases FR with
     |nil=>exact(OH (by lia)).symm
     |cons c FR=>cases HX
    |cons a FJ=>
     cases FR with
     |nil=>cases HX
     |cons c FR=>
      cases JN;cases KQ;rw[Qn]at hz;cases hz
   rw[hv]at hR
   wp_walk
   exact⟨_,rfl,by simpa[Builtin.Tuple.tupleCompareSizes] using hR⟩
  case h=>
   exact⟨rfl,rfl,items.toList,EZ.toList,ks,js,rfl,hi,hj,hk,h⟩
theorem lq(l b:Addr)(items EZ:Array Value)(n n2:Nat)(dd IU:Option Addr)(sl IV:Array (Option Value))(ks js:List Key)(hi:Vals (ks.map kV) items.toList)(hj:Vals (js.map kV) EZ.toList)(hk:kinds ks=kinds js):
  Meets (Builtin.«tuple.__ge__» ⟨[.ref l,.ref b],[]⟩)
   (fun _ R s=>s.heap.get? l=some {cls:=.type "tuple",dict:=dd,data:=.seq items n,slots:=sl}/\s.heap.get? b=some {cls:=.type "tuple",dict:=IU,data:=.seq EZ n2,slots:=IV}/\R (.ok (.ret (.bool (!cZ ks js)))) s):=
 .of_wp fun prog w A R s h=>by
  obtain⟨hp,g,d,tk,os⟩:=s;obtain⟨hl,hb,h⟩:=h;have f2:=Ro;have z1:items.size=ks.length:=by have:=hi.length;simp at this;lia
  have z2:EZ.size=js.length:=by have:=hj.length;simp at this;lia
  have z3:ks.length=js.length:=by have:=PF List.length hk;simpa[kinds] using this
  wp_walk using wpAny_loadPart' hl,wpAny_loadPart' hb,wpAny_forIn_list _ (fun c9 b s'=>b.1=none/\s'=⟨hp,g,d,tk,os⟩/\∃(vs ws:List Value) (FJ FR:List Key),c9=vs.zip ws/\
   Vals (FJ.map kV) vs/\Vals (FR.map kV) ws/\kinds FJ=kinds FR/\R (.ok (.ret (.bool (!cZ FJ FR)))) ⟨hp,g,d,tk,os⟩) _
  case turn=>
   rintro⟨y,x⟩ c9 b s' ⟨KP,rfl,vs,ws,FJ,FR,hz,JN,KQ,HX,hR⟩;cases FJ with
   |nil=>
    cases JN;rw[List.zip_nil_left]at hz;cases hz
   |cons a FJ=>
    cases FR with
    |nil=>cases HX
    |cons c FR=>
     cases JN with
     | @cons _ va _ Ht ra hvi'=>
      cases KQ with
      | @cons _ vc _ Lv rc hwi'=>
       rw[Qn]at hz;injection hz with hyx hrest;injection hyx with hy hx;subst hy hx;have IM:a.isLeft=c.isLeft:=(Qk HX).1;have HL:kinds FJ=kinds FR:=(Qk HX).2;rw[mK]at hR;have he:=pk (A:=A.in1) (s:=⟨hp,g,d,tk,os⟩) ra rc;refine Oj (he prog w _ _ ?_);by_cases hac:a=c
       ·rw[Ow hac]at hR;rw[OP hac]
        wp_walk
        exact⟨rfl,rfl,_,_,_,_,hrest,hvi',hwi',HL,hR⟩
       ·rw[OB hac]at hR;rw[OH hac];have Ni:=fun E Q=>vB (prog:=prog) (w:=w) (A:=A.in1) (E:=E) (s:=⟨hp,g,d,tk,os⟩) (Q:=Q) ra rc IM
        wp_walk using Ni
        exact⟨_,rfl,by simpa using hR⟩
  case fin=>
   rintro⟨b1,b2⟩ s' ⟨KP,rfl,vs,ws,FJ,FR,hz,JN,KQ,HX,hR⟩;simp only at KP;subst KP;have hv:(!cZ FJ FR)=decide (EZ.size<=items.size):=by
    cases FJ with
    |nil=>
     cases FR with
     |nil=>exact(OP (by lia)).symm
     |cons c FR=>cases HX
    |cons a FJ=>
     cases FR with
     |nil=>cases HX
     |cons c FR=>
      cases JN;cases KQ;rw[Qn]at hz;cases hz
   rw[hv]at hR
   wp_walk
   exact⟨_,rfl,by simpa[Builtin.Tuple.tupleCompareSizes] using hR⟩
  case h=>
   exact⟨rfl,rfl,items.toList,EZ.toList,ks,js,rfl,hi,hj,hk,h⟩
end
section
variable{X:Cx}
def C8(K:W.Frag)(neg:Bool):R2:=fun x y H Q=>∃a b ks js,x=.ref a/\y=.ref b/\SqT K H a (ks.map kV)/\SqT K H b (js.map kV)/\kinds ks=kinds js/\Q (.bl (if neg then !cZ ks js else cZ ks js)) H
theorem Ac(hu:X.A.units<cLine):EK X (compareOp .Lt) (C8 X.K false):=by
 intro py s σ H x y v u Q I rx ry h;obtain⟨a,b,ks,js,rfl,rfl,ha,hb,hk,q⟩:=h;cases rx;cases ry;obtain⟨Eg,r1,p1,_⟩:=I.tuple ha;obtain⟨II,r2,p2,_⟩:=I.tuple hb;obtain⟨⟨cls,dd,data,sl⟩,ho,hc,n,hd⟩:=id p1;obtain⟨⟨Kz,IU,data2,IV⟩,Fs,IH,n2,hd2⟩:=id p2;simp only at hc hd IH hd2;subst hc hd IH hd2;exact richCompare_meets_room (op:=.Lt) ⟨_,ho,rfl⟩ ⟨_,Fs,rfl⟩ PySem.F.slot_tuple_lt PySem.F.entry_tuple_lt (PySem.F.args_tuple_lt_2 _ _) (lp a b _ _ n n2 dd IU sl IV ks js (by simpa using r1) (by simpa using r2) hk)
  ⟨ho,Fs,show Value.bool (cZ ks js)≠Value.notImplemented/\EP X py σ Q (.bool (cZ ks js)) s from⟨(fun x=>nomatch x),⟨.bl (cZ ks js),H,I,rfl,q⟩⟩⟩ hu
theorem Ad(hu:X.A.units<cLine):EK X (compareOp .GtE) (C8 X.K true):=by
 intro py s σ H x y v u Q I rx ry h;obtain⟨a,b,ks,js,rfl,rfl,ha,hb,hk,q⟩:=h;cases rx;cases ry;obtain⟨Eg,r1,p1,_⟩:=I.tuple ha;obtain⟨II,r2,p2,_⟩:=I.tuple hb;obtain⟨⟨cls,dd,data,sl⟩,ho,hc,n,hd⟩:=id p1;obtain⟨⟨Kz,IU,data2,IV⟩,Fs,IH,n2,hd2⟩:=id p2;simp only at hc hd IH hd2;subst hc hd IH hd2;exact richCompare_meets_room (op:=.GtE) ⟨_,ho,rfl⟩ ⟨_,Fs,rfl⟩ PySem.F.slot_tuple_ge PySem.F.entry_tuple_ge (PySem.F.args_tuple_ge_2 _ _) (lq a b _ _ n n2 dd IU sl IV ks js (by simpa using r1) (by simpa using r2) hk)
  ⟨ho,Fs,show Value.bool (!cZ ks js)≠Value.notImplemented/\EP X py σ Q (.bool (!cZ ks js)) s from⟨(fun x=>nomatch x),⟨.bl (!cZ ks js),H,I,rfl,q⟩⟩⟩ hu
end
section
variable{prog:Program}{w:World}{A:Around}{E:Value->Shared->Prop}{s:Shared}
end
section
variable{X:Cx}{py:List (Addr×Obj)}{σ:L2.St}{H:Hp}{s:Shared}{scope:Scope}{N:List Str}{ix:List (Option Nat)}{fp:List Addr}
end
section
variable{X:Cx}{scope:Scope}{N:List Str}{ix:List (Option Nat)}{tg iter elt:Expr}{ifs:List Expr}{pos:Pos}{wi:TI}{g:TG}{tc:TT}{te:TE}
end
noncomputable def CXC(P:Program)(w:World)(base:Heap)(C:Addr):CXT:=fun outer H s E e s'=>
 ∃(a t:Addr) (B:Heap) (H':Hp),e=.ref a/\s'.os=s.os/\AllBare s'.gens/\Un (Ip outer) [] H H' s.heap s'.heap/\HOk P w H' s'.heap/\Heap.FlyingW B outer a (.ref C) (.ref t) s'.heap/\
  (∀b u,s'.heap.get? b=some u->(H' b≠none\/∃o,s.heap.get? b=some o)->b∉Ip outer->B.get? b=some u)/\E (.ref C) none H'
section
variable{X:Cx}{st:Stmt}{c9:List Stmt}{t:TS}{u u':L2.St->Hp->Prop}{e:Expr}{es:List Expr}{x:Str}{C:Addr}{Ww:Hp->Prop}{np Er pos:Pos}
end
def XP(X:Cx)(py:List (Addr×Obj))(σ:L2.St)(C:Addr)(Ww:Hp->Prop)(e:Value)(s':Shared):Prop:=∃(s1:Shared) (H1:Hp),Inv X py σ H1 s1/\CXC X.prog X.w X.base C X.stack H1 s1 (fun _ _ H'=>Ww H') e s'
abbrev TX:=L2.St->Hp->(Hp->Prop)->Prop
section
variable{X:Cx}{st:Stmt}{c9:List Stmt}{tx:TX}{e a b:Expr}{es:List Expr}{x:Str}{C:Addr}{k:Nat}{sp:Sp}{p pos:Pos}
end
open PySem.Builtin.ObjectAttr PySem.Builtin.Getset_descriptor
section
variable{prog:Program}{w:World}{A:Around}{E:Value->Shared->Prop}{s:Shared}{K:W.Frag}{x D:Addr}
end
section
variable{X:Cx}{py:List (Addr×Obj)}{σ:L2.St}{H:Hp}{s:Shared}{a:Addr}{o:Obj}
end
end NX
namespace NX
open PySem PySem.W PySem.Spec PyProof.Rows L2
section
variable{prog:Program}{w:World}{A:Around}{E:Value->Shared->Prop}{s:Shared}
end
section
variable{X:Cx}
end
end NX
namespace NX
open PySem PySem.Spec PyProof.Rows L2
section
variable{X:Cx}{es:List Expr}{kt:Nat}{pt:Pos}
end
end NX
namespace PV
open PySem L2 NX
inductive D where
 |non|bl (b:Bool)|int (i:Int)|str (l:List Nat)|tup (ds:List D)|lst (ds:List D)|dct (tk:Bool) (ks vs:List D)
inductive O where
 |f|l (c:O)|t (cs:List O)|d|pin (p:Addr) (c:O)
abbrev R:=O×D
abbrev Env:=List (Option R)
inductive Res(α:Type) where
 |ok (a:α)|exc (c:List Nat)|bad
def kD:Key->D
 | .inl i=>.int i
 | .inr x=>.str x.cps.toList
def isM:HO->Bool
 | .lst _=>true
 | .dK _=>true
 | .dT _=>true
 |_=>false
def Lw:HO->Bool
 | .tup _=>true
 | .frz _ (.tup _)=>true
 |_=>false
def wD:Key->Prop
 | .inl _=>True
 | .inr x=>x.cps.toList.length<=sizeLine
def DictO(o:HO)(tk:Bool)(ks:List D)(xs:List V):Prop:=match tk with
 |true=>∃Ef:List (List Key×V),o=.dT Ef/\ks=Ef.map (fun kv=>D.tup (kv.1.map kD))/\xs=Ef.map (·.2)/\∀kv∈Ef,∀k∈kv.1,wD k
 |false=>∃Ef:List (Key×V),o=.dK Ef/\ks=Ef.map (fun kv=>kD kv.1)/\xs=Ef.map (·.2)/\∀kv∈Ef,wD kv.1
mutual
noncomputable def Rep(K:W.Frag)(G:Hp):D->V->Prop
 | .non,v=>v=.non
 | .bl b,v=>v=.bl b
 | .int i,v=>v=.int i
 | .str l,v=>v=.str (S l)/\l.length<=sizeLine
 | .tup ds,v=>∃p xs,v=.ref p/\G p=some (.tup xs)/\Reps K G ds xs
 | .lst ds,v=>∃p xs,v=.ref p/\SqL K G p xs/\Reps K G ds xs
 | .dct tk ks vs,v=>∃p xs o,v=.ref p/\Rd G p o/\DictO o tk ks xs/\Reps K G vs xs
noncomputable def Reps(K:W.Frag)(G:Hp):List D->List V->Prop
 |[],xs=>xs=[]
 |d::ds,xs=>∃y ys,xs=y::ys/\Rep K G d y/\Reps K G ds ys
end
def AllO(P:D->V->List Addr->Prop):List D->List V->List Addr->Prop
 |[],xs,fp=>xs=[]/\fp=[]
 |d::ds,xs,fp=>∃y ys a b,xs=y::ys/\fp=a++b/\P d y a/\AllO P ds ys b
mutual
noncomputable def RepO(K:W.Frag)(G H:Hp):O->D->V->List Addr->Prop
 | .f,d,v,fp=>Rep K G d v/\fp=[]
 | .l c,.lst ds,v,fp=>∃p xs Eh,v=.ref p/\H p=some (.lst xs)/\fp=p::Eh/\AllO (RepO K G H c) ds xs Eh
 | .t cs,.tup ds,v,fp=>∃p xs,v=.ref p/\G p=some (.tup xs)/\RepT K G H cs ds xs fp
 | .d,.dct tk ks vs,v,fp=>∃p xs o,v=.ref p/\H p=some o/\DictO o tk ks xs/\fp=[p]/\Reps K G vs xs
 | .pin p c,d,v,fp=>v=.ref p/\RepO K G H c d v fp
 |_,_,_,_=>False
noncomputable def RepT(K:W.Frag)(G H:Hp):List O->List D->List V->List Addr->Prop
 |[],[],xs,fp=>xs=[]/\fp=[]
 |c::cs,d::ds,xs,fp=>∃y ys a b,xs=y::ys/\fp=a++b/\RepO K G H c d y a/\RepT K G H cs ds ys b
 |_,_,_,_=>False
end
section
variable{K:W.Frag}{G G' H H':Hp}
theorem Rd.mono{p:Addr}{u:HO}(h:Same G G')(r:Rd G p u):Rd G' p u:=by
 rcases r with r|⟨o,r⟩
 ·exact .inl (h _ _ r)
 ·exact .inr ⟨o,h _ _ r⟩
theorem gc{p:Addr}{xs:List V}(h:Same G G')(r:SqL K G p xs):SqL K G' p xs:=r.elim (fun r=>.inl (Rd.mono h r)) .inr
theorem bV{p:Addr}{xs:List V}(h:Same G G')(r:SqT K G p xs):SqT K G' p xs:=r.elim (fun r=>.inl (Rd.mono h r)) .inr
mutual
theorem Rep.mono(h:Same G G'):∀{d:D}{v:V},Rep K G d v->Rep K G' d v
 | .non,_,r=>by simpa only[Rep] using r
 | .bl _,_,r=>by simpa only[Rep] using r
 | .int _,_,r=>by simpa only[Rep] using r
 | .str _,_,r=>by simpa only[Rep] using r
 | .tup ds,_,r=>by
  simp only[Rep]at r ⊢;obtain⟨p,xs,e,q,rs⟩:=r;exact⟨p,xs,e,h _ _ q,Reps.mono h rs⟩
 | .lst ds,_,r=>by
  simp only[Rep]at r ⊢;obtain⟨p,xs,e,q,rs⟩:=r;exact⟨p,xs,e,gc h q,Reps.mono h rs⟩
 | .dct tk ks vs,_,r=>by
  simp only[Rep]at r ⊢;obtain⟨p,xs,o,e,q,dd,rs⟩:=r;exact⟨p,xs,o,e,Rd.mono h q,dd,Reps.mono h rs⟩
theorem Reps.mono(h:Same G G'):∀{ds:List D}{xs:List V},Reps K G ds xs->Reps K G' ds xs
 |[],_,r=>by simpa only[Reps] using r
 |d::ds,_,r=>by
  simp only[Reps]at r ⊢;obtain⟨y,ys,e,r1,r2⟩:=r;exact⟨y,ys,e,Rep.mono h r1,Reps.mono h r2⟩
end
theorem AllO.imp{P P':D->V->List Addr->Prop}:∀{ds:List D}{xs:List V}{fp:List Addr},(∀d v a,(∀p∈a,p∈fp)->P d v a->P' d v a)->AllO P ds xs fp->AllO P' ds xs fp
 |[],_,_,_,r=>r
 |d::ds,xs,fp,h,r=>by
  obtain⟨y,ys,a,b,e1,e2,p,q⟩:=r;subst e2;exact⟨y,ys,a,b,e1,rfl,h _ _ _ (fun p hp=>Ox _ hp) p,AllO.imp (fun d v c hc=>h d v c fun p hp=>Oo _ (hc p hp)) q⟩
mutual
theorem RepO.step(h:Same G G'):∀{o:O}{d:D}{v:V}{fp:List Addr},(∀p∈fp,H' p=H p)->RepO K G H o d v fp->RepO K G' H' o d v fp
 | .f,d,v,fp,hk,r=>by
  simp only[RepO]at r ⊢;exact⟨Rep.mono h r.1,r.2⟩
 | .pin p c,d,v,fp,hk,r=>by
  simp only[RepO]at r ⊢;exact⟨r.1,RepO.step h hk r.2⟩
 | .l c,.lst ds,v,fp,hk,r=>by
  simp only[RepO]at r ⊢;obtain⟨p,xs,Eh,e,q,e2,a⟩:=r;subst e2;exact⟨p,xs,Eh,e,(hk p Ol).trans q,rfl,AllO.imp (fun d v c hc=>RepO.step h fun z hz=>hk z (Ot _ (hc z hz))) a⟩
 | .t cs,.tup ds,v,fp,hk,r=>by
  simp only[RepO]at r ⊢;obtain⟨p,xs,e,q,a⟩:=r;exact⟨p,xs,e,h _ _ q,RepT.step h hk a⟩
 | .d,.dct tk ks vs,v,fp,hk,r=>by
  simp only[RepO]at r ⊢;obtain⟨p,xs,o,e,q,dd,e2,rs⟩:=r;subst e2;exact⟨p,xs,o,e,(hk p Ol).trans q,dd,rfl,Reps.mono h rs⟩
 | .l _,.non,_,_,_,r | .l _,.bl _,_,_,_,r | .l _,.int _,_,_,_,r | .l _,.str _,_,_,_,r | .l _,.tup _,_,_,_,r | .l _,.dct _ _ _,_,_,_,r=>by simp only[RepO]at r
 | .t _,.non,_,_,_,r | .t _,.bl _,_,_,_,r | .t _,.int _,_,_,_,r | .t _,.str _,_,_,_,r | .t _,.lst _,_,_,_,r | .t _,.dct _ _ _,_,_,_,r=>by simp only[RepO]at r
 | .d,.non,_,_,_,r | .d,.bl _,_,_,_,r | .d,.int _,_,_,_,r | .d,.str _,_,_,_,r | .d,.tup _,_,_,_,r | .d,.lst _,_,_,_,r=>by simp only[RepO]at r
theorem RepT.step(h:Same G G'):∀{cs:List O}{ds:List D}{xs:List V}{fp:List Addr},(∀p∈fp,H' p=H p)->RepT K G H cs ds xs fp->RepT K G' H' cs ds xs fp
 |[],[],_,_,_,r=>by simpa only[RepT] using r
 |c::cs,d::ds,xs,fp,hk,r=>by
  simp only[RepT]at r ⊢;obtain⟨y,ys,a,b,e1,e2,r1,r2⟩:=r;subst e2;exact⟨y,ys,a,b,e1,rfl,RepO.step h (fun p hp=>hk p (Ox _ hp)) r1,RepT.step h (fun p hp=>hk p (Oo _ hp)) r2⟩
 |[],_::_,_,_,_,r=>by simp only[RepT]at r
 |_::_,[],_,_,_,r=>by simp only[RepT]at r
end
theorem AllO.frozen{P:D->V->List Addr->Prop}:∀{ds:List D}{xs:List V}{fp:List Addr},(∀d v a,(∀p∈a,p∈fp)->P d v a->Rep K G' d v)->AllO P ds xs fp->Reps K G' ds xs
 |[],_,_,_,r=>by simp only[Reps];exact r.1
 |d::ds,xs,fp,h,r=>by
  obtain⟨y,ys,a,b,e1,e2,p,q⟩:=r;subst e2;simp only[Reps];exact⟨y,ys,e1,h _ _ _ (fun p hp=>Ox _ hp) p,AllO.frozen (fun d v c hc=>h d v c fun p hp=>Oo _ (hc p hp)) q⟩
mutual
theorem RepO.frozen(h:Same G G'):∀{o:O}{d:D}{v:V}{fp:List Addr},(∀p∈fp,∀u,H p=some u->G' p=some u)->RepO K G H o d v fp->Rep K G' d v
 | .f,d,v,fp,hk,r=>by
  simp only[RepO]at r;exact Rep.mono h r.1
 | .pin p c,d,v,fp,hk,r=>by
  simp only[RepO]at r;exact RepO.frozen h hk r.2
 | .l c,.lst ds,v,fp,hk,r=>by
  simp only[RepO]at r;simp only[Rep];obtain⟨p,xs,Eh,e,q,e2,a⟩:=r;subst e2;exact⟨p,xs,e,SqL.of (hk p Ol _ q),AllO.frozen (fun d v c hc=>RepO.frozen h fun z hz=>hk z (Ot _ (hc z hz))) a⟩
 | .t cs,.tup ds,v,fp,hk,r=>by
  simp only[RepO]at r;simp only[Rep];obtain⟨p,xs,e,q,a⟩:=r;exact⟨p,xs,e,h _ _ q,RepT.frozen h hk a⟩
 | .d,.dct tk ks vs,v,fp,hk,r=>by
  simp only[RepO]at r;simp only[Rep];obtain⟨p,xs,o,e,q,dd,e2,rs⟩:=r;subst e2;exact⟨p,xs,o,e,.inl (hk p Ol _ q),dd,Reps.mono h rs⟩
 | .l _,.non,_,_,_,r | .l _,.bl _,_,_,_,r | .l _,.int _,_,_,_,r | .l _,.str _,_,_,_,r | .l _,.tup _,_,_,_,r | .l _,.dct _ _ _,_,_,_,r=>by simp only[RepO]at r
 | .t _,.non,_,_,_,r | .t _,.bl _,_,_,_,r | .t _,.int _,_,_,_,r | .t _,.str _,_,_,_,r | .t _,.lst _,_,_,_,r | .t _,.dct _ _ _,_,_,_,r=>by simp only[RepO]at r
 | .d,.non,_,_,_,r | .d,.bl _,_,_,_,r | .d,.int _,_,_,_,r | .d,.str _,_,_,_,r | .d,.tup _,_,_,_,r | .d,.lst _,_,_,_,r=>by simp only[RepO]at r
theorem RepT.frozen(h:Same G G'):∀{cs:List O}{ds:List D}{xs:List V}{fp:List Addr},(∀p∈fp,∀u,H p=some u->G' p=some u)->RepT K G H cs ds xs fp->Reps K G' ds xs
 |[],[],_,_,_,r=>by simp only[RepT]at r;simp only[Reps];exact r.1
 |c::cs,d::ds,xs,fp,hk,r=>by
  simp only[RepT]at r;simp only[Reps];obtain⟨y,ys,a,b,e1,e2,r1,r2⟩:=r;subst e2;exact⟨y,ys,e1,RepO.frozen h (fun p hp=>hk p (Ox _ hp)) r1,RepT.frozen h (fun p hp=>hk p (Oo _ hp)) r2⟩
 |[],_::_,_,_,_,r=>by simp only[RepT]at r
 |_::_,[],_,_,_,r=>by simp only[RepT]at r
end
theorem AllO.live{P:D->V->List Addr->Prop}:∀{ds:List D}{xs:List V}{fp:List Addr},(∀d v a,P d v a->∀p∈a,∃u,H p=some u)->AllO P ds xs fp->∀p∈fp,∃u,H p=some u
 |[],_,_,_,r=>by rw[r.2];intro p hp;cases hp
 |d::ds,xs,fp,h,r=>by
  obtain⟨y,ys,a,b,e1,e2,p,q⟩:=r;subst e2;intro z hz;rcases OK.mp hz with hz|hz
  ·exact h _ _ _ p z hz
  ·exact AllO.live h q z hz
mutual
theorem RepO.live:∀{o:O}{d:D}{v:V}{fp:List Addr},RepO K G H o d v fp->∀p∈fp,∃u,H p=some u
 | .f,d,v,fp,r=>by
  simp only[RepO]at r;rw[r.2];intro p hp;cases hp
 | .pin p c,d,v,fp,r=>by
  simp only[RepO]at r;exact RepO.live r.2
 | .l c,.lst ds,v,fp,r=>by
  simp only[RepO]at r;obtain⟨p,xs,Eh,e,q,e2,a⟩:=r;subst e2;intro z hz;rcases Oz.mp hz with rfl|hz
  ·exact⟨_,q⟩
  ·exact AllO.live (fun d v a=>RepO.live) a z hz
 | .t cs,.tup ds,v,fp,r=>by
  simp only[RepO]at r;obtain⟨p,xs,e,q,a⟩:=r;exact RepT.live a
 | .d,.dct tk ks vs,v,fp,r=>by
  simp only[RepO]at r;obtain⟨p,xs,o,e,q,dd,e2,rs⟩:=r;subst e2;intro z hz;rw[Pb]at hz;exact⟨_,hz▸q⟩
 | .l _,.non,_,_,r | .l _,.bl _,_,_,r | .l _,.int _,_,_,r | .l _,.str _,_,_,r | .l _,.tup _,_,_,r | .l _,.dct _ _ _,_,_,r=>by simp only[RepO]at r
 | .t _,.non,_,_,r | .t _,.bl _,_,_,r | .t _,.int _,_,_,r | .t _,.str _,_,_,r | .t _,.lst _,_,_,r | .t _,.dct _ _ _,_,_,r=>by simp only[RepO]at r
 | .d,.non,_,_,r | .d,.bl _,_,_,r | .d,.int _,_,_,r | .d,.str _,_,_,r | .d,.tup _,_,_,r | .d,.lst _,_,_,r=>by simp only[RepO]at r
theorem RepT.live:∀{cs:List O}{ds:List D}{xs:List V}{fp:List Addr},RepT K G H cs ds xs fp->∀p∈fp,∃u,H p=some u
 |[],[],_,_,r=>by
  simp only[RepT]at r;rw[r.2];intro p hp;cases hp
 |c::cs,d::ds,xs,fp,r=>by
  simp only[RepT]at r;obtain⟨y,ys,a,b,e1,e2,r1,r2⟩:=r;subst e2;intro z hz;rcases OK.mp hz with hz|hz
  ·exact RepO.live r1 z hz
  ·exact RepT.live r2 z hz
 |[],_::_,_,_,r=>by simp only[RepT]at r
 |_::_,[],_,_,r=>by simp only[RepT]at r
end
theorem DictO.isM{o:HO}{tk:Bool}{ks:List D}{xs:List V}(h:DictO o tk ks xs):PV.isM o=true:=by
 cases tk with
 |true=>
  obtain⟨Ef,e,_⟩:=h;rw[e];rfl
 |false=>
  obtain⟨Ef,e,_⟩:=h;rw[e];rfl
theorem AllO.mut{P:D->V->List Addr->Prop}:∀{ds:List D}{xs:List V}{fp:List Addr},(∀d v a,P d v a->∀p∈a,∃u,H p=some u/\isM u=true)->AllO P ds xs fp->∀p∈fp,∃u,H p=some u/\isM u=true
 |[],_,_,_,r=>by rw[r.2];intro p hp;cases hp
 |d::ds,xs,fp,h,r=>by
  obtain⟨y,ys,a,b,e1,e2,p,q⟩:=r;subst e2;intro z hz;rcases OK.mp hz with hz|hz
  ·exact h _ _ _ p z hz
  ·exact AllO.mut h q z hz
mutual
theorem RepO.mut:∀{o:O}{d:D}{v:V}{fp:List Addr},RepO K G H o d v fp->∀p∈fp,∃u,H p=some u/\isM u=true
 | .f,d,v,fp,r=>by
  simp only[RepO]at r;rw[r.2];intro p hp;cases hp
 | .pin p c,d,v,fp,r=>by
  simp only[RepO]at r;exact RepO.mut r.2
 | .l c,.lst ds,v,fp,r=>by
  simp only[RepO]at r;obtain⟨p,xs,Eh,e,q,e2,a⟩:=r;subst e2;intro z hz;rcases Oz.mp hz with rfl|hz
  ·exact⟨_,q,rfl⟩
  ·exact AllO.mut (fun d v a=>RepO.mut) a z hz
 | .t cs,.tup ds,v,fp,r=>by
  simp only[RepO]at r;obtain⟨p,xs,e,q,a⟩:=r;exact RepT.mut a
 | .d,.dct tk ks vs,v,fp,r=>by
  simp only[RepO]at r;obtain⟨p,xs,o,e,q,dd,e2,rs⟩:=r;subst e2;intro z hz;rw[Pb]at hz;exact⟨_,hz▸q,dd.isM⟩
 | .l _,.non,_,_,r | .l _,.bl _,_,_,r | .l _,.int _,_,_,r | .l _,.str _,_,_,r | .l _,.tup _,_,_,r | .l _,.dct _ _ _,_,_,r=>by simp only[RepO]at r
 | .t _,.non,_,_,r | .t _,.bl _,_,_,r | .t _,.int _,_,_,r | .t _,.str _,_,_,r | .t _,.lst _,_,_,r | .t _,.dct _ _ _,_,_,r=>by simp only[RepO]at r
 | .d,.non,_,_,r | .d,.bl _,_,_,r | .d,.int _,_,_,r | .d,.str _,_,_,r | .d,.tup _,_,_,r | .d,.lst _,_,_,r=>by simp only[RepO]at r
theorem RepT.mut:∀{cs:List O}{ds:List D}{xs:List V}{fp:List Addr},RepT K G H cs ds xs fp->∀p∈fp,∃u,H p=some u/\isM u=true
 |[],[],_,_,r=>by
  simp only[RepT]at r;rw[r.2];intro p hp;cases hp
 |c::cs,d::ds,xs,fp,r=>by
  simp only[RepT]at r;obtain⟨y,ys,a,b,e1,e2,r1,r2⟩:=r;subst e2;intro z hz;rcases OK.mp hz with hz|hz
  ·exact RepO.mut r1 z hz
  ·exact RepT.mut r2 z hz
 |[],_::_,_,_,r=>by simp only[RepT]at r
 |_::_,[],_,_,r=>by simp only[RepT]at r
end
noncomputable def RepE(K:W.Frag)(G H:Hp):Env->List (Option V)->List Addr->Prop
 |[],vs,fp=>vs=[]/\fp=[]
 |e::es,vs,fp=>∃y ys,vs=y::ys/\match e with
  |none=>RepE K G H es ys fp
  |some r=>∃v a b,y=some v/\fp=a++b/\RepO K G H r.1 r.2 v a/\RepE K G H es ys b
theorem RepE.step(h:Same G G'):∀{es:Env}{vs:List (Option V)}{fp:List Addr},(∀p∈fp,H' p=H p)->RepE K G H es vs fp->RepE K G' H' es vs fp
 |[],_,_,_,r=>r
 |none::es,vs,fp,hk,r=>by
  obtain⟨y,ys,e,r⟩:=r;exact⟨y,ys,e,RepE.step h hk r⟩
 |some r::es,vs,fp,hk,q=>by
  obtain⟨y,ys,e,v,a,b,e1,e2,r1,r2⟩:=q;subst e2;exact⟨y,ys,e,v,a,b,e1,rfl,RepO.step h (fun p hp=>hk p (Ox _ hp)) r1,RepE.step h (fun p hp=>hk p (Oo _ hp)) r2⟩
theorem RepE.live:∀{es:Env}{vs:List (Option V)}{fp:List Addr},RepE K G H es vs fp->∀p∈fp,∃u,H p=some u
 |[],_,_,r=>by
  rw[r.2];intro p hp;cases hp
 |none::es,vs,fp,r=>by
  obtain⟨y,ys,e,r⟩:=r;exact RepE.live r
 |some r::es,vs,fp,q=>by
  obtain⟨y,ys,e,v,a,b,e1,e2,r1,r2⟩:=q;subst e2;intro z hz;rcases OK.mp hz with hz|hz
  ·exact r1.live z hz
  ·exact RepE.live r2 z hz
theorem RepE.mut:∀{es:Env}{vs:List (Option V)}{fp:List Addr},RepE K G H es vs fp->∀p∈fp,∃u,H p=some u/\isM u=true
 |[],_,_,r=>by
  rw[r.2];intro p hp;cases hp
 |none::es,vs,fp,r=>by
  obtain⟨y,ys,e,r⟩:=r;exact RepE.mut r
 |some r::es,vs,fp,q=>by
  obtain⟨y,ys,e,v,a,b,e1,e2,r1,r2⟩:=q;subst e2;intro z hz;rcases OK.mp hz with hz|hz
  ·exact r1.mut z hz
  ·exact RepE.mut r2 z hz
theorem RepE.length:∀{es:Env}{vs:List (Option V)}{fp:List Addr},RepE K G H es vs fp->vs.length=es.length
 |[],_,_,r=>by rw[r.1];rfl
 |none::es,vs,fp,r=>by
  obtain⟨y,ys,e,r⟩:=r;rw[e,OC,OC,RepE.length r]
 |some r::es,vs,fp,q=>by
  obtain⟨y,ys,e,v,a,b,e1,e2,r1,r2⟩:=q;rw[e,OC,OC,RepE.length r2]
theorem RepE.take:∀{es:Env}{vs:List (Option V)}{fp:List Addr}{i:Nat}{r:R},RepE K G H es vs fp->es[i]?=some (some r)->
  ∃v a b,vs[i]?=some (some v)/\RepO K G H r.1 r.2 v a/\RepE K G H (es.set i none) vs b/\fp.Perm (a++b)
 |[],_,_,_,_,_,e=>by simp at e
 |none::es,vs,fp,0,r,q,e=>by simp at e
 |some r'::es,vs,fp,0,r,q,e=>by
  obtain⟨y,ys,e0,v,a,b,e1,e2,r1,r2⟩:=q;simp at e;subst e;subst e0;subst e1;exact⟨v,a,b,rfl,r1,⟨some v,ys,rfl,r2⟩,by rw[e2]⟩
 |none::es,vs,fp,i+1,r,q,e=>by
  obtain⟨y,ys,e0,q⟩:=q;obtain⟨v,a,b,g1,g2,g3,g4⟩:=RepE.take q (i:=i) (r:=r) (by simpa using e);subst e0;exact⟨v,a,b,by simpa using g1,g2,⟨y,ys,rfl,g3⟩,g4⟩
 |some r'::es,vs,fp,i+1,r,q,e=>by
  obtain⟨y,ys,e0,v',a',b',e1,e2,r1,r2⟩:=q;obtain⟨v,a,b,g1,g2,g3,g4⟩:=RepE.take r2 (i:=i) (r:=r) (by simpa using e);subst e0;refine⟨v,a,a'++b,by simpa using g1,g2,⟨y,ys,rfl,v',a',b,e1,rfl,r1,g3⟩,?_⟩;rw[e2];refine(RY a' g4).trans ?_;rw[<-OD,<-OD];exact RG b RZ
theorem RepE.put:∀{es:Env}{vs:List (Option V)}{b:List Addr}{i:Nat}{r:R}{v:V}{a:List Addr},RepE K G H es vs b->es[i]?=some none->RepO K G H r.1 r.2 v a->
  ∃fp,RepE K G H (es.set i (some r)) (vs.set i (some v)) fp/\fp.Perm (a++b)
 |[],_,_,_,_,_,_,_,e,_=>by simp at e
 |none::es,vs,b,0,r,v,a,q,e,ro=>by
  obtain⟨y,ys,e0,q⟩:=q;subst e0;exact⟨a++b,⟨some v,ys,rfl,v,a,b,rfl,rfl,ro,q⟩,.refl _⟩
 |some r'::es,vs,b,0,r,v,a,q,e,ro=>by simp at e
 |none::es,vs,b,i+1,r,v,a,q,e,ro=>by
  obtain⟨y,ys,e0,q⟩:=q;obtain⟨fp,g1,g2⟩:=RepE.put q (i:=i) (r:=r) (by simpa using e) ro;subst e0;exact⟨fp,⟨y,_,rfl,g1⟩,g2⟩
 |some r'::es,vs,b,i+1,r,v,a,q,e,ro=>by
  obtain⟨y,ys,e0,v',a',b',e1,e2,r1,r2⟩:=q;obtain⟨fp,g1,g2⟩:=RepE.put r2 (i:=i) (r:=r) (by simpa using e) ro;subst e0;refine⟨a'++fp,⟨y,_,rfl,v',a',fp,e1,rfl,r1,g1⟩,?_⟩;rw[e2];refine(RY a' g2).trans ?_;rw[<-OD,<-OD];exact RG b' RZ
structure Rel(K:W.Frag)(G H:Hp)(es:Env)(vs:List (Option V))(fp:List Addr):Prop where
 rep:RepE K G H es vs fp
 nd:fp.Nodup
 gn:∀p∈fp,G p=none
 gh:Same G H
structure Step(G H:Hp)(fp:List Addr)(G' H':Hp)(Eh:List Addr):Prop where
 gg:Same G G'
 keep:∀q u,H q=some u->q∉fp->H' q=some u
 fpn:∀q∈Eh,q∈fp\/H q=none
 gnew:∀q u,G' q=some u->G q=some u\/q∈fp\/H q=none\/Lw u=true/\H q=some u
 there:∀q u,H q=some u->∃u',H' q=some u'
theorem Step.refl{fp:List Addr}:Step G H fp G H fp:=⟨.refl _,fun _ _ h _=>h,fun _ h=>.inl h,fun _ _ h=>.inl h,fun _ u h=>⟨u,h⟩⟩
theorem Step.trans{G1 H1 G2 H2:Hp}{fp Eu E4:List Addr}(a:Step G H fp G1 H1 Eu)(b:Step G1 H1 Eu G2 H2 E4):Step G H fp G2 H2 E4:=by
 refine⟨a.gg.trans b.gg,fun q u h n=>?_,fun q hq=>?_,fun q u hq=>?_,fun q u h=>?_⟩
 ·refine b.keep q u (a.keep q u h n) fun hq=>?_
  rcases a.fpn q hq with z|z
  ·exact n z
  ·rw[z]at h;cases h
 ·rcases b.fpn q hq with z|z
  ·exact a.fpn q z
  ·cases e:H q with
   |none=>exact .inr rfl
   |some u=>
    obtain⟨u',e'⟩:=a.there q u e;rw[z]at e';cases e'
 ·rcases b.gnew q u hq with z|z|z|⟨t,z⟩
  ·exact a.gnew q u z
  ·exact .inr ((a.fpn q z).imp_right .inl)
  ·cases e:H q with
   |none=>exact .inr (.inr (.inl rfl))
   |some u=>
    obtain⟨u',e'⟩:=a.there q u e;rw[z]at e';cases e'
  ·cases e:H q with
   |none=>exact .inr (.inr (.inl rfl))
   |some u2=>
    by_cases hf:q∈fp
    ·exact .inr (.inl hf)
    ·rw[a.keep q u2 e hf]at z;cases z;exact .inr (.inr (.inr ⟨t,rfl⟩))
 ·obtain⟨u',h'⟩:=a.there q u h;exact b.there q u' h'
theorem Step.wide{fp fq Eh NT:List Addr}(a:Step G H fp G' H' Eh)(h:∀q∈fp,q∈fq)(h':∀q∈NT,q∈Eh\/q∈fq):Step G H fq G' H' NT:=
 ⟨a.gg,fun q u e n=>a.keep q u e fun z=>n (h q z),fun q hq=>(h' q hq).elim (fun z=>(a.fpn q z).imp_left (h q)) .inl,fun q u e=>(a.gnew q u e).imp_right (Or.imp_left (h q)),a.there⟩
theorem Rel.perm{es:Env}{vs:List (Option V)}{fp fq:List Addr}(r:RepE K G H es vs fq)(nd:fp.Nodup)(gn:∀p∈fp,G p=none)(gh:Same G H)(h:fp.Perm fq):Rel K G H es vs fq:=
 ⟨r,h.nodup_iff.mp nd,fun p hp=>gn p (h.mem_iff.mpr hp),gh⟩
theorem Rel.frame{r:R}{v:V}{es:Env}{vs:List (Option V)}{fp:List Addr}(q:Rel K G H (some r::es) (some v::vs) fp):
  ∃a b,fp=a++b/\RepO K G H r.1 r.2 v a/\Rel K G H es vs b/\∀(G' H':Hp) (GO:Env) (Ht:List (Option V)) (b':List Addr),Step G H b G' H' b'->Rel K G' H' GO Ht b'->
   Rel K G' H' (some r::GO) (some v::Ht) (a++b')/\Step G H (a++b) G' H' (a++b'):=by
 obtain⟨y,ys,e,v',a,b,e1,e2,r1,r2⟩:=q.rep;cases e;cases e1;subst e2;have nd:=OV.mp q.nd;refine⟨a,b,rfl,r1,⟨r2,nd.2.1,fun p hp=>q.gn p (Oo _ hp),q.gh⟩,fun G' H' GO Ht b' st k=>?_⟩;have nb:∀p∈a,p∉b:=fun p hp hb=>nd.2.2 p hp p hb rfl
 have same:∀p∈a,H' p=H p:=fun p hp=>by
  obtain⟨u,hu⟩:=r1.live p hp;rw[hu];exact st.keep p u hu (nb p hp)
 refine⟨⟨⟨some v,Ht,rfl,v,a,b',rfl,rfl,r1.step st.gg same,k.rep⟩,?_,fun p hp=>?_,k.gh⟩,st.wide (fun p hp=>Oo _ hp) fun p hp=>?_⟩
 ·rw[OV];refine⟨nd.1,k.nd,fun p hp z hz e=>?_⟩;subst e;obtain⟨u,hu⟩:=r1.live p hp;rcases st.fpn p hz with z|z
  ·exact nb p hp z
  ·rw[z]at hu;cases hu
 ·rcases OK.mp hp with hp|hp
  ·cases e:G' p with
   |none=>rfl
   |some u=>
    exfalso;obtain⟨u',hu⟩:=r1.live p hp;rcases st.gnew p u e with z|z|z|⟨t,z⟩
    ·rw[q.gn p (Ox _ hp)]at z;cases z
    ·exact nb p hp z
    ·rw[z]at hu;cases hu
    ·obtain⟨u2,h2,hm⟩:=r1.mut p hp;rw[z]at h2;cases h2;cases u with
     |tup _=>cases hm
     |frz _ _=>cases hm
     |_=>cases t
  ·exact k.gn p hp
 ·rcases OK.mp hp with hp|hp
  ·exact .inr (Ox _ hp)
  ·exact .inl hp
theorem Rel.freeze{r:R}{v:V}{es:Env}{vs:List (Option V)}{fp:List Addr}(q:Rel K G H (some r::es) (some v::vs) fp):
  ∃G' b,Rep K G' r.2 v/\Rel K G' H es vs b/\Step G H fp G' H b:=by
 obtain⟨y,ys,e,v',a,b,e1,e2,r1,r2⟩:=q.rep;cases e;cases e1;subst e2;have nd:=OV.mp q.nd;have nb:∀p∈a,p∉b:=fun p hp hb=>nd.2.2 p hp p hb rfl
 have hg:Same G (fun p=>if p∈a then H p else G p):=fun p u e=>by
  show(if p∈a then H p else G p)=some u;by_cases hp:p∈a
  ·rw[Ow hp];exact q.gh p u e
  ·rw[OB hp];exact e
 refine⟨fun p=>if p∈a then H p else G p,b,r1.frozen hg fun p hp u e=>?_,⟨r2.step hg fun _ _=>rfl,nd.2.1,fun p hp=>?_,fun p u e=>?_⟩,⟨hg,fun _ _ e _=>e,fun p hp=>.inl (Oo _ hp),fun p u e=>?_,fun _ u e=>⟨u,e⟩⟩⟩
 ·show(if p∈a then H p else G p)=some u;rw[Ow hp];exact e
 ·show(if p∈a then H p else G p)=none;rw[OB (fun z=>nb p z hp)];exact q.gn p (Oo _ hp)
 ·have e:(if p∈a then H p else G p)=some u:=e;by_cases hp:p∈a
  ·rw[Ow hp]at e;exact e
  ·rw[OB hp]at e;exact q.gh p u e
 ·have e:(if p∈a then H p else G p)=some u:=e;by_cases hp:p∈a
  ·exact .inr (.inl (Ox _ hp))
  ·rw[OB hp]at e;exact .inl e
end
section
variable{K:W.Frag}{G G' H H':Hp}{es:Env}{vs:List (Option V)}{fp:List Addr}
theorem pq:∀{ds:List D}{xs:List V}{fp:List Addr},AllO (RepO K G H .f) ds xs fp<->Reps K G ds xs/\fp=[]
 |[],xs,fp=>by simp only[AllO,Reps]
 |d::ds,xs,fp=>by
  simp only[AllO,Reps,RepO];constructor
  ·rintro⟨y,ys,a,b,e1,e2,⟨r,e3⟩,q⟩;obtain⟨q1,q2⟩:=pq.mp q;subst e3;subst q2;exact⟨⟨y,ys,e1,r,q1⟩,e2⟩
  ·rintro⟨⟨y,ys,e1,r,q1⟩,e⟩;exact⟨y,ys,[],[],e1,e,⟨r,rfl⟩,pq.mpr ⟨q1,rfl⟩⟩
theorem fu{d:D}{v:V}{a:List Addr}:RepO K G H .f d v a<->Rep K G d v/\a=[]:=by simp only[RepO]
theorem fw{ds:List D}{v:V}{a:List Addr}:RepO K G H (.l .f) (.lst ds) v a<->∃p xs,v=.ref p/\H p=some (.lst xs)/\a=[p]/\Reps K G ds xs:=by
 rw[RepO];constructor
 ·rintro⟨p,xs,b,e,q,e2,r⟩;obtain⟨r',eb⟩:=pq.mp r;subst eb;exact⟨p,xs,e,q,e2,r'⟩
 ·rintro⟨p,xs,e,q,e2,r⟩;exact⟨p,xs,[],e,q,e2,pq.mpr ⟨r,rfl⟩⟩
theorem Reps.length:∀{ds:List D}{xs:List V},Reps K G ds xs->xs.length=ds.length
 |[],xs,r=>by simp only[Reps]at r;rw[r];rfl
 |d::ds,xs,r=>by
  simp only[Reps]at r;obtain⟨y,ys,e,_,q⟩:=r;rw[e,OC,OC,Reps.length q]
theorem Reps.get:∀{ds:List D}{xs:List V}{i:Nat}{d:D},Reps K G ds xs->ds[i]?=some d->∃v,xs[i]?=some v/\Rep K G d v
 |[],_,_,_,_,e=>by simp at e
 |d'::ds,xs,0,d,r,e=>by
  simp only[Reps]at r;obtain⟨y,ys,e1,q,_⟩:=r;simp at e;subst e;exact⟨y,by rw[e1];rfl,q⟩
 |d'::ds,xs,i+1,d,r,e=>by
  simp only[Reps]at r;obtain⟨y,ys,e1,_,q⟩:=r;obtain⟨v,a,b⟩:=Reps.get q (i:=i) (d:=d) (by simpa using e);exact⟨v,by rw[e1];simpa using a,b⟩
theorem Reps.app:∀{ds es:List D}{xs ys:List V},Reps K G ds xs->Reps K G es ys->Reps K G (ds++es) (xs++ys)
 |[],_,_,_,r,q=>by simp only[Reps]at r;rw[r];exact q
 |d::ds,es,xs,ys,r,q=>by
  simp only[Reps]at r;obtain⟨z,zs,e,r1,r2⟩:=r;rw[e];simp only[P9,Reps];exact⟨z,_,rfl,r1,r2.app q⟩
theorem Reps.one{d:D}{v:V}(r:Rep K G d v):Reps K G [d] [v]:=by
 simp only[Reps];exact⟨v,[],rfl,r,rfl⟩
theorem Reps.nil:Reps K G [] []:=by simp only[Reps]
theorem Reps.cons{d:D}{v:V}{ds:List D}{xs:List V}(r:Rep K G d v)(q:Reps K G ds xs):Reps K G (d::ds) (v::xs):=by
 simp only[Reps];exact⟨v,xs,rfl,r,q⟩
theorem Reps.cons_iff{d:D}{v:V}{ds:List D}{xs:List V}:Reps K G (d::ds) (v::xs)<->Rep K G d v/\Reps K G ds xs:=by
 simp only[Reps];constructor
 ·rintro⟨y,ys,e,r,q⟩;cases e;exact⟨r,q⟩
 ·rintro⟨r,q⟩;exact⟨v,xs,rfl,r,q⟩
theorem Reps.take:∀{ds:List D}{xs:List V}(n:Nat),Reps K G ds xs->Reps K G (ds.take n) (xs.take n)
 |_,_,0,_=>by rw[R8,R8];exact Reps.nil
 |[],xs,n+1,r=>by simp only[Reps]at r;rw[r];exact Reps.nil
 |d::ds,xs,n+1,r=>by
  simp only[Reps]at r;obtain⟨y,ys,e,r1,r2⟩:=r;rw[e,Sd,Sd];exact .cons r1 (r2.take n)
theorem Reps.drop:∀{ds:List D}{xs:List V}(n:Nat),Reps K G ds xs->Reps K G (ds.drop n) (xs.drop n)
 |_,_,0,r=>r
 |[],xs,n+1,r=>by simp only[Reps]at r;rw[r];exact Reps.nil
 |d::ds,xs,n+1,r=>by
  simp only[Reps]at r;obtain⟨y,ys,e,r1,r2⟩:=r;rw[e,Se,Se];exact r2.drop n
theorem Step.cut{fq:List Addr}(h:∀q∈fq,q∈fp):Step G H fp G H fq:=⟨.refl _,fun _ _ e _=>e,fun q hq=>.inl (h q hq),fun _ _ e=>.inl e,fun _ u e=>⟨u,e⟩⟩
theorem Rel.drop{r:R}{y:Option V}(q:Rel K G H (some r::es) (y::vs) fp):∃b,Rel K G H es vs b/\Step G H fp G H b:=by
 obtain⟨y,ys,e,v',a,b,e1,e2,r1,r2⟩:=q.rep;cases e;cases e1;subst e2;have nd:=OV.mp q.nd;exact⟨b,⟨r2,nd.2.1,fun p hp=>q.gn p (Oo _ hp),q.gh⟩,Step.cut fun p hp=>Oo _ hp⟩
theorem Rel.top{r:R}{v:V}(q:Rel K G H (some r::es) (some v::vs) fp):Rep K H r.2 v:=by
 obtain⟨y,ys,e,v',a,b,e1,e2,r1,r2⟩:=q.rep;cases e;cases e1;exact r1.frozen q.gh fun p hp u e=>e
theorem Rel.out{i:Nat}{r:R}(q:Rel K G H es vs fp)(e:es[i]?=some (some r)):∃v fq,vs[i]?=some (some v)/\Rel K G H (some r::es.set i none) (some v::vs) fq/\Step G H fp G H fq/\Step G H fq G H fp:=by
 obtain⟨v,a,b,e1,r1,r2,pm⟩:=q.rep.take e;exact⟨v,a++b,e1,Rel.perm ⟨some v,vs,rfl,v,a,b,rfl,rfl,r1,r2⟩ q.nd q.gn q.gh pm,Step.cut fun p hp=>pm.mem_iff.mpr hp,Step.cut fun p hp=>pm.mem_iff.mp hp⟩
theorem Rel.view{i:Nat}{r:R}(q:Rel K G H es vs fp)(e:es[i]?=some (some r)):∃v,vs[i]?=some (some v)/\Rep K H r.2 v:=by
 obtain⟨v,fq,e1,r1,_⟩:=q.out e;exact⟨v,e1,r1.top⟩
theorem lr{α:Type}{l:List α}{i:Nat}{x:α}(h:l[i]?=some x):l.set i x=l:=by
 apply QF;intro j;by_cases e:i=j
 ·subst e;rw[List.getElem?_set_self (List.getElem?_eq_some_iff.mp h).1,h]
 ·rw[List.getElem?_set_ne e]
theorem Rel.store{i:Nat}{r:R}{v:V}(q:Rel K G H (some r::es) (some v::vs) fp)(hi:i<es.length):∃fq,Rel K G H (es.set i (some r)) (vs.set i (some v)) fq/\Step G H fp G H fq:=by
 obtain⟨y,ys,e,v',a,b,e1,e2,r1,r2⟩:=q.rep;cases e;cases e1;subst e2;obtain⟨c,hc⟩:∃c,es[i]?=some c:=⟨_,List.getElem?_eq_getElem hi⟩
 have nd:=OV.mp q.nd;have key:∃b',RepE K G H (es.set i none) vs b'/\(∀p∈b',p∈b)/\b'.Nodup:=by
  cases c with
  |none=>exact⟨b,by rw[lr hc];exact r2,fun _ h=>h,nd.2.1⟩
  |some r'=>
   obtain⟨v2,a2,b2,_,_,g,pm⟩:=r2.take hc;refine⟨b2,g,fun p hp=>pm.mem_iff.mpr (Oo _ hp),?_⟩;exact(OV.mp (pm.nodup_iff.mp nd.2.1)).2.1
 obtain⟨b',g,sub,ndb⟩:=key;obtain⟨fq,g2,pm⟩:=g.put (i:=i) (r:=r) (v:=v) (by rw[List.getElem?_set_self hi]) r1;rw[Qz]at g2;have hnd:(a++b').Nodup:=by
  rw[OV];exact⟨nd.1,ndb,fun p hp z hz=>nd.2.2 p hp z (sub z hz)⟩
 refine⟨fq,Rel.perm g2 hnd (fun p hp=>?_) q.gh pm.symm,Step.cut fun p hp=>?_⟩
 ·refine q.gn p ?_;rcases OK.mp hp with hp|hp
  ·exact Ox _ hp
  ·exact Oo _ (sub p hp)
 ·rcases OK.mp (pm.mem_iff.mp hp) with hp|hp
  ·exact Ox _ hp
  ·exact Oo _ (sub p hp)
theorem Rel.back{i:Nat}{r:R}{v:V}(q:Rel K G H (some r::es) (some v::vs) fp)(hi:i<es.length)(hv:vs[i]?=some (some v)):∃fq,Rel K G H (es.set i (some r)) vs fq/\Step G H fp G H fq:=by
 obtain⟨fq,g,st⟩:=q.store hi;rw[lr hv]at g;exact⟨fq,g,st⟩
theorem Rel.freezeAt{i:Nat}{r:R}(q:Rel K G H es vs fp)(e:es[i]?=some (some r)):∃v G' fq,vs[i]?=some (some v)/\Rep K G' r.2 v/\Rel K G' H (es.set i (some (.f,r.2))) vs fq/\Step G H fp G' H fq:=by
 obtain⟨v,fq,ev,g,st,_⟩:=q.out e;obtain⟨G',b,rv,g2,El⟩:=g.freeze;have g3:Rel K G' H (some (.f,r.2)::es.set i none) (some v::vs) b:=by
  refine⟨⟨some v,vs,rfl,v,[],b,rfl,rfl,?_,g2.rep⟩,g2.nd,g2.gn,g2.gh⟩;exact fu.mpr ⟨rv,rfl⟩
 obtain⟨fz,g4,FU⟩:=g3.back (i:=i) (by rw[Qq];exact(List.getElem?_eq_some_iff.mp e).1) ev;rw[Qz]at g4;exact⟨v,G',fz,ev,rv,g4,st.trans (El.trans FU)⟩
theorem Rel.push{d:D}{v:V}(q:Rel K G H es vs fp)(r:Rep K G d v):Rel K G H (some (.f,d)::es) (some v::vs) fp:=by
 refine⟨⟨some v,vs,rfl,v,[],fp,rfl,rfl,?_,q.rep⟩,q.nd,q.gn,q.gh⟩;exact fu.mpr ⟨r,rfl⟩
theorem Rel.newF{p:Addr}{u:HO}(q:Rel K G H es vs fp)(hp:H p=none):Rel K (upd G p u) (upd H p u) es vs fp/\Step G H fp (upd G p u) (upd H p u) fp:=by
 have gp:G p=none:=by
  cases e:G p with
  |none=>rfl
  |some o=>rw[q.gh p o e]at hp;cases hp
 have np:p∉fp:=fun z=>by
  obtain⟨u,e⟩:=q.rep.live p z;rw[hp]at e;cases e
 have sg:Same G (upd G p u):=fun b o e=>by rw[aF (a7 e gp)];exact e
 have sh:Same H (upd H p u):=fun b o e=>by rw[aF (a7 e hp)];exact e
 refine⟨⟨q.rep.step sg fun z hz=>aF fun e=>np (e▸hz),q.nd,fun z hz=>?_,fun b o e=>?_⟩,⟨sg,fun b o e _=>sh b o e,fun _ h=>.inl h,fun b o e=>?_,fun b o e=>⟨o,sh b o e⟩⟩⟩
 ·have:z≠p:=fun e=>np (e▸hz)
  rw[aF this];exact q.gn z hz
 ·by_cases hb:b=p
  ·subst hb;rw[br]at e ⊢;exact e
  ·rw[aF hb]at e ⊢;exact q.gh b o e
 ·by_cases hb:b=p
  ·subst hb;exact .inr (.inr (.inl hp))
  ·rw[aF hb]at e;exact .inl e
theorem Rel.newL{p:Addr}{ds:List D}{xs:List V}(q:Rel K G H es vs fp)(hp:H p=none)(r:Reps K G ds xs):
  Rel K G (upd H p (.lst xs)) (some (.l .f,.lst ds)::es) (some (.ref p)::vs) (p::fp)/\Step G H fp G (upd H p (.lst xs)) (p::fp):=by
 have gp:G p=none:=by
  cases e:G p with
  |none=>rfl
  |some o=>rw[q.gh p o e]at hp;cases hp
 have np:p∉fp:=fun z=>by
  obtain⟨u,e⟩:=q.rep.live p z;rw[hp]at e;cases e
 have sh:Same H (upd H p (.lst xs)):=fun b o e=>by rw[aF (a7 e hp)];exact e
 refine⟨⟨⟨some (.ref p),vs,rfl,.ref p,[p],fp,rfl,rfl,fw.mpr ⟨p,xs,rfl,br,rfl,r⟩,q.rep.step (.refl _) fun z hz=>aF fun e=>np (e▸hz)⟩,O5.mpr ⟨np,q.nd⟩,fun z hz=>?_,fun b o e=>?_⟩,
  ⟨.refl _,fun b o e _=>sh b o e,fun b hb=>?_,fun b o e=>.inl e,fun b o e=>⟨o,sh b o e⟩⟩⟩
 ·rcases Oz.mp hz with rfl|hz
  ·exact gp
  ·exact q.gn z hz
 ·exact sh b o (q.gh b o e)
 ·rcases Oz.mp hb with rfl|hb
  ·exact .inr hp
  ·exact .inl hb
theorem Rel.chg{i:Nat}{ds ds':List D}(q:Rel K G H es vs fp)(e:es[i]?=some (some (.l .f,.lst ds))):∃p xs,vs[i]?=some (some (.ref p))/\H p=some (.lst xs)/\Reps K G ds xs/\
  ∀Fu,Reps K G ds' Fu->∃fq,Rel K G (upd H p (.lst Fu)) (es.set i (some (.l .f,.lst ds'))) vs fq/\Step G H fp G (upd H p (.lst Fu)) fq:=by
 obtain⟨v,fq,ev,g,st,Gd⟩:=q.out e;obtain⟨y,ys,e0,v',a,b,e1,e2,r1,r2⟩:=g.rep;cases e0;cases e1;obtain⟨p,xs,e3,hp,e4,rs⟩:=fw.mp r1;subst e3;subst e4;subst e2;have nd:=O5.mp (show(p::b).Nodup from g.nd);refine⟨p,xs,ev,hp,rs,fun Fu Ge=>?_⟩;have g2:Rel K G (upd H p (.lst Fu)) (some (.l .f,.lst ds')::es.set i none) (some (.ref p)::vs) (p::b):=by
  refine⟨⟨some (.ref p),vs,rfl,.ref p,[p],b,rfl,rfl,fw.mpr ⟨p,Fu,rfl,br,rfl,Ge⟩,r2.step (.refl _) fun z hz=>aF fun e=>nd.1 (e▸hz)⟩,g.nd,g.gn,fun z o ez=>?_⟩;have:z≠p:=fun w=>by
   subst w;rw[g.gn z Ol]at ez;cases ez
  rw[aF this];exact g.gh z o ez
 have KR:Step G H (p::b) G (upd H p (.lst Fu)) (p::b):=by
  refine⟨.refl _,fun z o ez nz=>?_,fun z hz=>.inl hz,fun z o ez=>.inl ez,fun z o ez=>?_⟩
  ·have:z≠p:=fun w=>nz (by rw[w];exact Ol)
   rw[aF this];exact ez
  ·by_cases w:z=p
   ·subst w;exact⟨_,br⟩
   ·exact⟨o,by rw[aF w];exact ez⟩
 obtain⟨fz,g3,ET⟩:=g2.back (i:=i) (by rw[Qq];exact(List.getElem?_eq_some_iff.mp e).1) ev;rw[Qz]at g3;exact⟨fz,g3,st.trans (KR.trans ET)⟩
end
mutual
noncomputable def eh:D->Bool
 | .tup ds=>flatDs ds
 | .lst _=>false
 | .dct _ _ _=>false
 |_=>true
noncomputable def flatDs:List D->Bool
 |[]=>true
 |d::ds=>eh d&&flatDs ds
end
mutual
noncomputable def b9:O->D->Bool
 | .f,d=>eh d
 | .l c,.lst ds=>ds.all (b9 c)
 | .t cs,.tup ds=>jC cs ds
 | .d,.dct _ _ vs=>flatDs vs
 | .pin _ c,d=>b9 c d
 |_,_=>false
noncomputable def jC:List O->List D->Bool
 |[],[]=>true
 |c::cs,d::ds=>b9 c d&&jC cs ds
 |_,_=>false
end
def frz:Option R->Option R:=Option.map fun r=>(.f,r.2)
theorem eB:∀ds,flatDs ds=ds.all eh
 |[]=>rfl
 |d::ds=>by rw[flatDs,Q2,eB ds]
section
variable{K:W.Frag}{G G' G2 G3 H H' H2:Hp}{es:Env}{vs:List (Option V)}{fp:List Addr}
mutual
theorem Rep.flat(h:∀p u,Lw u=true->G2 p=some u->G3 p=some u):∀{d:D}{v:V},eh d=true->Rep K G2 d v->Rep K G3 d v
 | .non,_,_,r=>by simpa only[Rep] using r
 | .bl _,_,_,r=>by simpa only[Rep] using r
 | .int _,_,_,r=>by simpa only[Rep] using r
 | .str _,_,_,r=>by simpa only[Rep] using r
 | .tup ds,_,e,r=>by
  simp only[Rep]at r ⊢;simp only[eh]at e;obtain⟨p,xs,ev,q,rs⟩:=r;exact⟨p,xs,ev,h _ _ rfl q,Reps.flat h e rs⟩
 | .lst ds,_,e,r=>by simp only[eh]at e;cases e
 | .dct _ _ _,_,e,r=>by simp only[eh]at e;cases e
theorem Reps.flat(h:∀p u,Lw u=true->G2 p=some u->G3 p=some u):∀{ds:List D}{xs:List V},flatDs ds=true->Reps K G2 ds xs->Reps K G3 ds xs
 |[],_,_,r=>by simpa only[Reps] using r
 |d::ds,_,e,r=>by
  simp only[Reps]at r ⊢;simp only[flatDs,OG]at e;obtain⟨y,ys,ev,r1,r2⟩:=r;exact⟨y,ys,ev,Rep.flat h e.1 r1,Reps.flat h e.2 r2⟩
end
theorem AllO.clean{P P':D->V->List Addr->Prop}{c:D->Bool}:∀{ds:List D}{xs:List V}{fp:List Addr},(∀d v a,c d=true->P d v a->P' d v a)->ds.all c=true->AllO P ds xs fp->AllO P' ds xs fp
 |[],_,_,_,_,r=>r
 |d::ds,xs,fp,h,e,r=>by
  obtain⟨y,ys,a,b,e1,e2,p,q⟩:=r;rw[Q2,OG]at e;exact⟨y,ys,a,b,e1,e2,h _ _ _ e.1 p,AllO.clean h e.2 q⟩
mutual
theorem RepO.clean(h:∀p u,Lw u=true->G2 p=some u->G3 p=some u):∀{o:O}{d:D}{v:V}{fp:List Addr},b9 o d=true->RepO K G2 H o d v fp->RepO K G3 H o d v fp
 | .f,d,v,fp,e,r=>by
  simp only[RepO]at r ⊢;simp only[b9]at e;exact⟨r.1.flat h e,r.2⟩
 | .pin p c,d,v,fp,e,r=>by
  simp only[RepO]at r ⊢;simp only[b9]at e;exact⟨r.1,RepO.clean h e r.2⟩
 | .l c,.lst ds,v,fp,e,r=>by
  rw[RepO]at r ⊢;rw[b9]at e;obtain⟨p,xs,Eh,ev,q,e2,a⟩:=r;exact⟨p,xs,Eh,ev,q,e2,AllO.clean (fun d v a=>RepO.clean h) e a⟩
 | .t cs,.tup ds,v,fp,e,r=>by
  rw[RepO]at r ⊢;rw[b9]at e;obtain⟨p,xs,ev,q,a⟩:=r;exact⟨p,xs,ev,h _ _ rfl q,RepT.clean h e a⟩
 | .d,.dct tk ks vs,v,fp,e,r=>by
  rw[RepO]at r ⊢;rw[b9]at e;obtain⟨p,xs,o,ev,q,dd,e2,rs⟩:=r;exact⟨p,xs,o,ev,q,dd,e2,rs.flat h e⟩
 | .l _,.non,_,_,_,r | .l _,.bl _,_,_,_,r | .l _,.int _,_,_,_,r | .l _,.str _,_,_,_,r | .l _,.tup _,_,_,_,r | .l _,.dct _ _ _,_,_,_,r=>by simp only[RepO]at r
 | .t _,.non,_,_,_,r | .t _,.bl _,_,_,_,r | .t _,.int _,_,_,_,r | .t _,.str _,_,_,_,r | .t _,.lst _,_,_,_,r | .t _,.dct _ _ _,_,_,_,r=>by simp only[RepO]at r
 | .d,.non,_,_,_,r | .d,.bl _,_,_,_,r | .d,.int _,_,_,_,r | .d,.str _,_,_,_,r | .d,.tup _,_,_,_,r | .d,.lst _,_,_,_,r=>by simp only[RepO]at r
theorem RepT.clean(h:∀p u,Lw u=true->G2 p=some u->G3 p=some u):∀{cs:List O}{ds:List D}{xs:List V}{fp:List Addr},jC cs ds=true->RepT K G2 H cs ds xs fp->RepT K G3 H cs ds xs fp
 |[],[],_,_,_,r=>by simpa only[RepT] using r
 |c::cs,d::ds,xs,fp,e,r=>by
  rw[RepT]at r ⊢;rw[jC,OG]at e;obtain⟨y,ys,a,b,e1,e2,r1,r2⟩:=r;exact⟨y,ys,a,b,e1,e2,RepO.clean h e.1 r1,RepT.clean h e.2 r2⟩
 |[],_::_,_,_,_,r=>by simp only[RepT]at r
 |_::_,[],_,_,_,r=>by simp only[RepT]at r
end
theorem RepE.frz(h:Same G G'):∀{es:Env}{vs:List (Option V)}{fp:List Addr},(∀p∈fp,∀u,H p=some u->G' p=some u)->RepE K G H es vs fp->RepE K G' H' (es.map PV.frz) vs []
 |[],_,_,_,r=>⟨r.1,rfl⟩
 |none::es,vs,fp,hk,r=>by
  obtain⟨y,ys,e,r⟩:=r;exact⟨y,ys,e,RepE.frz h hk r⟩
 |some r::es,vs,fp,hk,q=>by
  obtain⟨y,ys,e,v,a,b,e1,e2,r1,r2⟩:=q;subst e2;exact⟨y,ys,e,v,[],[],e1,rfl,fu.mpr ⟨r1.frozen h (fun p hp=>hk p (Ox _ hp)),rfl⟩,RepE.frz h (fun p hp=>hk p (Oo _ hp)) r2⟩
theorem RepE.rep(h:Same G G'):∀{es:Env}{vs:List (Option V)}{fp:List Addr}{i:Nat}{r:R}{v:V},(∀p∈fp,∀u,H p=some u->G' p=some u)->RepE K G H es vs fp->es[i]?=some (some r)->vs[i]?=some (some v)->Rep K G' r.2 v:=fun{es vs fp i r v} hk q e ev=>by
 obtain⟨v',a,b,e1,r1,_,pm⟩:=q.take e;rw[ev]at e1;cases e1;exact r1.frozen h fun p hp=>hk p (pm.mem_iff.mpr (Ox _ hp))
theorem Rel.lend(q:Rel K G H es vs fp):∃G1,Same G G1/\Same G1 H/\(∀(i:Nat) (r:R) (v:V),es[i]?=some (some r)->vs[i]?=some (some v)->Rep K G1 r.2 v)/\
  RepE K G1 H (es.map PV.frz) vs []/\
  ∀(H2 G2:Hp) (E4:List Addr) (r:R) (v:V),Step G1 H [] G2 H2 E4->Rel K G2 H2 [some r] [some v] E4->
   (b9 r.1 r.2=true->∃G3 GZ,Step G H fp G3 H2 GZ/\Rel K G3 H2 (some r::es) (some v::vs) GZ)/\
   ∃G3 GZ,Step G H fp G3 H2 GZ/\Rel K G3 H2 (some r::es.map PV.frz) (some v::vs) GZ:=by
 have hg:Same G (fun p=>if p∈fp then H p else G p):=fun p u e=>by
  show(if p∈fp then H p else G p)=some u;by_cases hp:p∈fp
  ·rw[Ow hp];exact q.gh p u e
  ·rw[OB hp];exact e
 have hh:Same (fun p=>if p∈fp then H p else G p) H:=fun p u e=>by
  have e:(if p∈fp then H p else G p)=some u:=e;by_cases hp:p∈fp
  ·rw[Ow hp]at e;exact e
  ·rw[OB hp]at e;exact q.gh p u e
 have hk:∀p∈fp,∀u,H p=some u->(fun p=>if p∈fp then H p else G p) p=some u:=fun p hp u e=>by
  show(if p∈fp then H p else G p)=some u;rw[Ow hp];exact e
 refine⟨fun p=>if p∈fp then H p else G p,hg,hh,fun i r v e ev=>q.rep.rep hg hk e ev,q.rep.frz hg hk,fun H2 G2 E4 r v st k=>?_⟩;obtain⟨y,ys,e0,v',a,b,e1,e2,r1,r2⟩:=k.rep;cases e0;cases e1;obtain⟨_,e3⟩:=r2;subst e3;rw[OL]at e2;subst e2;have fresh:∀p∈E4,H p=none:=fun p hp=>by
  rcases st.fpn p hp with z|z
  ·cases z
  ·exact z
 have kept:∀p∈fp,H2 p=H p:=fun p hp=>by
  obtain⟨u,hu⟩:=q.rep.live p hp;rw[hu];exact st.keep p u hu (by simp)
 refine⟨fun cl=>?_,⟨G2,E4,⟨hg.trans st.gg,fun p u e n=>st.keep p u e (by simp),fun p hp=>.inr (fresh p hp),fun p u e=>?_,st.there⟩,?_⟩⟩
 ·have apart:∀p∈E4,p∉fp:=fun p hp hf=>by
   obtain⟨u,hu⟩:=q.rep.live p hf;rw[fresh p hp]at hu;cases hu
  have g3:Same G (fun p=>if p∈fp then none else G2 p):=fun p u e=>by
   show(if p∈fp then none else G2 p)=some u;rw[OB (fun z=>by rw[q.gn p z]at e;cases e)];exact st.gg p u (hg p u e)
  refine⟨fun p=>if p∈fp then none else G2 p,E4++fp,⟨g3,fun p u e n=>st.keep p u e (by simp),fun p hp=>?_,fun p u e=>?_,st.there⟩,⟨⟨some v,vs,rfl,v,E4,fp,rfl,rfl,r1.clean (fun p u t e=>?_) cl,q.rep.step g3 kept⟩,?_,fun p hp=>?_,fun p u e=>?_⟩⟩
  ·rcases OK.mp hp with hp|hp
   ·exact .inr (fresh p hp)
   ·exact .inl hp
  ·have e:(if p∈fp then none else G2 p)=some u:=e;by_cases hp:p∈fp
   ·rw[Ow hp]at e;cases e
   ·rw[OB hp]at e;rcases st.gnew p u e with z|z|z
    ·have z:(if p∈fp then H p else G p)=some u:=z;rw[OB hp]at z;exact .inl z
    ·cases z
    ·exact .inr (.inr z)
  ·show(if p∈fp then none else G2 p)=some u;by_cases hp:p∈fp
   ·exfalso;obtain⟨u',hu,hm⟩:=q.rep.mut p hp;have:=st.gg p u' (hk p hp u' hu);rw[e]at this;cases this;cases u with
    |lst _=>cases t
    |dK _=>cases t
    |dT _=>cases t
    |_=>cases hm
   ·rw[OB hp];exact e
  ·rw[OV];exact⟨k.nd,q.nd,fun p hp z hz e=>apart p hp (e▸hz)⟩
  ·show(if p∈fp then none else G2 p)=none;by_cases hf:p∈fp
   ·rw[Ow hf]
   ·rw[OB hf];rcases OK.mp hp with hp|hp
    ·exact k.gn p hp
    ·exact absurd hp hf
  ·have e:(if p∈fp then none else G2 p)=some u:=e;by_cases hp:p∈fp
   ·rw[Ow hp]at e;cases e
   ·rw[OB hp]at e;exact k.gh p u e
 ·rcases st.gnew p u e with z|z|z
  ·have z:(if p∈fp then H p else G p)=some u:=z;by_cases hp:p∈fp
   ·exact .inr (.inl hp)
   ·rw[OB hp]at z;exact .inl z
  ·cases z
  ·exact .inr (.inr z)
 ·refine⟨⟨some v,vs,rfl,v,E4,[],rfl,(OL _).symm,r1,q.rep.frz (hg.trans st.gg) fun p hp u e=>st.gg p u (hk p hp u e)⟩,k.nd,k.gn,k.gh⟩
end
end PV
namespace PV
open PySem PySem.Spec PyProof.Rows L2 NX
def Res.bind{α β:Type}:Res α->(α->Res β)->Res β
 | .ok a,f=>f a
 | .exc c,_=>.exc c
 | .bad,_=>.bad
inductive BindOk{α β:Type}(x:Res α)(f:α->Res β)(b:β):Prop
 |mk (a:α) (h:x=.ok a) (k:f a=.ok b):BindOk x f b
theorem aj{α β:Type}{x:Res α}{f:α->Res β}{b:β}(h:x.bind f=.ok b):BindOk x f b:=by
 cases x with
 |ok a=>exact⟨a,rfl,h⟩
 |exc c=>cases h
 |bad=>cases h
inductive Opd where
 |val (d:D)|var (i:Nat)
def OpdOk(K:W.Frag)(G:Hp)(σ:L2.St):Opd->V->Prop
 | .val d,v=>Rep K G d v
 | .var i,v=>σ[i]?=some (some v)
theorem OpdOk.mono{K:W.Frag}{G G':Hp}{σ:L2.St}{o:Opd}{v:V}(h:Same G G')(r:OpdOk K G σ o v):OpdOk K G' σ o v:=by
 cases o with
 |val d=>exact Rep.mono h r
 |var i=>exact r
def pw(K:W.Frag)(G:Hp)(σ:L2.St):List Opd->List V->Prop
 |[],vs=>vs=[]
 |o::os,vs=>∃y ys,vs=y::ys/\OpdOk K G σ o y/\pw K G σ os ys
def wF:O->Bool
 | .f=>true
 | .l .f=>true
 | .d=>true
 | .pin _ .f=>true
 | .pin _ (.l .f)=>true
 | .pin _ .d=>true
 |_=>false
def Fn(env:PV.Env):Opd->Res D
 | .val d=>.ok d
 | .var i=>match env[i]? with
  |some (some r)=>if wF r.1 then .ok r.2 else .bad
  |_=>.bad
def qz(env:PV.Env):Opd->Res D
 | .val d=>.ok d
 | .var i=>match env[i]? with
  |some (some r)=>.ok r.2
  |_=>.bad
def px(env:PV.Env):List Opd->Res (List D)
 |[]=>.ok []
 |o::os=>(Fn env o).bind fun d=>(px env os).bind fun ds=>.ok (d::ds)
def mL(env:PV.Env):List Opd->Res (List D)
 |[]=>.ok []
 |o::os=>(qz env o).bind fun d=>(mL env os).bind fun ds=>.ok (d::ds)
def Vw(K:W.Frag)(G H:Hp):D->V->Prop
 | .lst ds,v=>∃p xs,v=.ref p/\SqL K H p xs/\Reps K G ds xs
 | .dct tk ks vs,v=>∃p xs o,v=.ref p/\Rd H p o/\DictO o tk ks xs/\Reps K G vs xs
 |d,v=>Rep K G d v
def Lx(K:W.Frag)(G H:Hp):List D->List V->Prop
 |[],vs=>vs=[]
 |d::ds,vs=>∃y ys,vs=y::ys/\Vw K G H d y/\Lx K G H ds ys
section
variable{K:W.Frag}{G G' H H':Hp}{es:PV.Env}{σ:L2.St}{fp:List Addr}
theorem Vw.of{d:D}{v:V}(gh:Same G H)(r:Rep K G d v):Vw K G H d v:=by
 cases d with
 |lst ds=>
  rw[Rep]at r;obtain⟨p,xs,e,q,rs⟩:=r;exact⟨p,xs,e,gc gh q,rs⟩
 |dct tk ks vs=>
  rw[Rep]at r;obtain⟨p,xs,o,e,q,dd,rs⟩:=r;exact⟨p,xs,o,e,PV.Rd.mono gh q,dd,rs⟩
 |_=>exact r
theorem RepO.vw0{o:O}{d:D}{v:V}{a:List Addr}(gh:Same G H)(hs:o=.f\/o=.l .f\/o=.d)(r:RepO K G H o d v a):Vw K G H d v:=by
 rcases hs with rfl|rfl|rfl
 ·exact Vw.of gh (fu.mp r).1
 ·cases d with
  |lst ds=>
   obtain⟨p,xs,e,q,_,rs⟩:=fw.mp r;exact⟨p,xs,e,SqL.of q,rs⟩
  |_=>simp only[RepO]at r
 ·cases d with
  |dct tk ks vs=>
   rw[RepO]at r;obtain⟨p,xs,o,e,q,dd,_,rs⟩:=r;exact⟨p,xs,o,e,.inl q,dd,rs⟩
  |_=>simp only[RepO]at r
theorem RepO.vw{o:O}{d:D}{v:V}{a:List Addr}(gh:Same G H)(hs:wF o=true)(r:RepO K G H o d v a):Vw K G H d v:=by
 unfold wF at hs;split at hs
 ·exact r.vw0 gh (.inl rfl)
 ·exact r.vw0 gh (.inr (.inl rfl))
 ·exact r.vw0 gh (.inr (.inr rfl))
 ·rw[RepO]at r;exact r.2.vw0 gh (.inl rfl)
 ·rw[RepO]at r;exact r.2.vw0 gh (.inr (.inl rfl))
 ·rw[RepO]at r;exact r.2.vw0 gh (.inr (.inr rfl))
 ·cases hs
theorem Rel.vw{o:Opd}{v:V}{d:D}(q:Rel K G H es σ fp)(k:OpdOk K G σ o v)(e:Fn es o=.ok d):Vw K G H d v:=by
 cases o with
 |val d'=>
  cases e;exact Vw.of q.gh k
 |var i=>
  unfold Fn at e;dsimp only at e;split at e
  ·rename_i r hr;split at e
   ·rename_i hs;cases e;obtain⟨v',a,b,ev,r1,_⟩:=q.rep.take hr;have k:σ[i]?=some (some v):=k;rw[k]at ev;cases ev;exact r1.vw q.gh hs
   ·cases e
  ·cases e
theorem Rel.vwA{o:Opd}{v:V}{d:D}(q:Rel K G H es σ fp)(k:OpdOk K G σ o v)(e:qz es o=.ok d):Rep K H d v:=by
 cases o with
 |val d'=>
  cases e;exact Rep.mono q.gh k
 |var i=>
  unfold qz at e;dsimp only at e;split at e
  ·rename_i r hr;cases e;obtain⟨v',ev,r1⟩:=q.view hr;have k:σ[i]?=some (some v):=k;rw[k]at ev;cases ev;exact r1
  ·cases e
theorem Rel.vws(q:Rel K G H es σ fp):∀{os:List Opd}{vs:List V}{ds:List D},pw K G σ os vs->px es os=.ok ds->Lx K G H ds vs
 |[],_,_,k,e=>by
  cases e;exact k
 |o::os,_,_,⟨y,ys,e0,k1,k2⟩,e=>by
  unfold px at e;obtain⟨d,e1,e⟩:=aj e;obtain⟨ds,e2,e⟩:=aj e;cases e;exact⟨y,ys,e0,q.vw k1 e1,Rel.vws q k2 e2⟩
theorem mM{G1:Hp}(gg:Same G G1)(ht:∀(i:Nat) (r:R) (v:V),es[i]?=some (some r)->σ[i]?=some (some v)->Rep K G1 r.2 v):∀{os:List Opd}{vs:List V}{ds:List D},pw K G σ os vs->mL es os=.ok ds->Reps K G1 ds vs
 |[],_,_,k,e=>by
  cases e;have k:_=_:=k;rw[k];exact Reps.nil
 |o::os,_,_,⟨y,ys,e0,k1,k2⟩,e=>by
  unfold mL at e;obtain⟨d,e1,e⟩:=aj e;obtain⟨ds,e2,e⟩:=aj e;cases e;rw[e0];refine .cons ?_ (mM gg ht k2 e2);cases o with
  |val d'=>
   cases e1;exact Rep.mono gg k1
  |var i=>
   unfold qz at e1;dsimp only at e1;split at e1
   ·rename_i r hr;cases e1;exact ht i r y hr k1
   ·cases e1
end
abbrev FX:=PV.Env->Res (R×PV.Env)
abbrev FO:=PV.Env->Res (Opd×PV.Env)
abbrev Fo:=PV.Env->Res (List Opd×PV.Env)
abbrev FT:=PV.Env->Res (Bool×PV.Env)
inductive Out where
 |nx (env:PV.Env)|rt (r:R)|bk (env:PV.Env)|ct (env:PV.Env)
abbrev FS:=PV.Env->Res Out
inductive tQ(K:W.Frag)(f:FX)(σ:L2.St)(H:Hp)(Q:VK):Prop
 |mk:∀G env fp r env',Rel K G H env σ fp->f env=.ok (r,env')->(∀v H' G' Eh,Step G H fp G' H' Eh->Rel K G' H' (some r::env') (some v::σ) Eh->Q v H')->tQ K f σ H Q
inductive tO(K:W.Frag)(f:FO)(σ:L2.St)(H:Hp)(Q:VK):Prop
 |mk:∀G env fp o env',Rel K G H env σ fp->f env=.ok (o,env')->(∀v H' G' Eh,Step G H fp G' H' Eh->Rel K G' H' env' σ Eh->OpdOk K G' σ o v->Q v H')->tO K f σ H Q
inductive tOs(K:W.Frag)(f:Fo)(σ:L2.St)(H:Hp)(Q:List V->Hp->Prop):Prop
 |mk:∀G env fp o env',Rel K G H env σ fp->f env=.ok (o,env')->(∀v H' G' Eh,Step G H fp G' H' Eh->Rel K G' H' env' σ Eh->pw K G' σ o v->Q v H')->tOs K f σ H Q
inductive tQT(K:W.Frag)(f:FT)(σ:L2.St)(H:Hp)(Q:Bool->Hp->Prop):Prop
 |mk:∀G env fp b env',Rel K G H env σ fp->f env=.ok (b,env')->(∀H' G' Eh,Step G H fp G' H' Eh->Rel K G' H' env' σ Eh->Q b H')->tQT K f σ H Q
inductive Mode where
 |plain|mut
def DS(md:Mode)(K:W.Frag)(G H:Hp)(r:R)(v:V)(fp:List Addr):Prop:=match md with
 | .plain=>Rel K G H [some r] [some v] fp
 | .mut=>∃o d p c d0,r=(.t [o,.pin p c],.tup [d,d0])/\Rel K G H [some (o,d),some (.pin p c,d0)] [some v,some (.ref p)] fp
noncomputable def OutOk{md:Mode}(K:W.Frag)(G H:Hp)(fp:List Addr)(Dd:Ends):Res Out->Prop
 | .ok (.nx env')=>∀σ' H' G' Eh,Step G H fp G' H' Eh->Rel K G' H' env' σ' Eh->Dd.nx σ' H'
 | .ok (.bk env')=>∀σ' H' G' Eh,Step G H fp G' H' Eh->Rel K G' H' env' σ' Eh->Dd.bk σ' H'
 | .ok (.ct env')=>∀σ' H' G' Eh,Step G H fp G' H' Eh->Rel K G' H' env' σ' Eh->Dd.ct σ' H'
 | .ok (.rt r)=>∀v H' G' Eh,Step G H fp G' H' Eh->DS md K G' H' r v Eh->Dd.rt v H'
 |_=>False
inductive tQS{md:Mode}(K:W.Frag)(g:FS)(Dd:Ends)(σ:L2.St)(H:Hp):Prop
 |mk:∀G env fp,Rel K G H env σ fp->OutOk (md:=md) K G H fp Dd (g env)->tQS (md:=md) K g Dd σ H
def QE(X:Cx)(e:Expr)(f:FX):Prop:=PE X e (tQ X.K f)
def QO(X:Cx)(e:Expr)(f:FO):Prop:=PE X e (tO X.K f)
def JO(X:Cx)(es:List Expr)(f:Fo):Prop:=PA X es (tOs X.K f)
def QT(X:Cx)(e:Expr)(f:FT):Prop:=PT X e (tQT X.K f)
def QW(X:Cx)(e:Expr)(f:FT):Prop:=PW X e (tQT X.K f)
def QS{md:Mode}(X:Cx)(st:Stmt)(g:FS):Prop:=PS X st (tQS (md:=md) X.K g)
def JC{md:Mode}(X:Cx)(st:List Stmt)(g:FS):Prop:=PSs X st (tQS (md:=md) X.K g)
theorem bo{X:Cx}{e:Expr}{t t':TE}(h:PE X e t)(k:∀σ H Q,t' σ H Q->t σ H Q):PE X e t':=fun py s σ H Q I w=>h py s σ H Q I (k σ H Q w)
theorem mN{X:Cx}{e:Expr}{t t':TT}(h:PT X e t)(k:∀σ H Q,t' σ H Q->t σ H Q):PT X e t':=fun py s σ H Q I w=>h py s σ H Q I (k σ H Q w)
theorem wG{X:Cx}{e:Expr}{t t':TT}(h:PW X e t)(k:∀σ H Q,t' σ H Q->t σ H Q):PW X e t':=fun wh py s σ H Q I w=>h wh py s σ H Q I (k σ H Q w)
theorem pA{X:Cx}{e:List Expr}{t t':TA}(h:PA X e t)(k:∀σ H Q,t' σ H Q->t σ H Q):PA X e t':=fun pos py s σ H Q I w=>h pos py s σ H Q I (k σ H Q w)
theorem iJ{X:Cx}{e:Stmt}{t t':TS}(h:PS X e t)(k:∀D σ H,t' D σ H->t D σ H):PS X e t':=fun py s σ H D I w=>h py s σ H D I (k D σ H w)
theorem su{X:Cx}{e:List Stmt}{t t':TS}(h:PSs X e t)(k:∀D σ H,t' D σ H->t D σ H):PSs X e t':=fun py s σ H D I w=>h py s σ H D I (k D σ H w)
theorem OutOk.imp{md:Mode}{K:W.Frag}{G H G1 H1:Hp}{fp Eu:List Addr}{Dd L0:Ends}{r:Res Out}(st:Step G H fp G1 H1 Eu)(h:OutOk (md:=md) K G H fp Dd r)(n:∀σ H,Dd.nx σ H->L0.nx σ H)(b:∀σ H,Dd.bk σ H->L0.bk σ H)(c:∀σ H,Dd.ct σ H->L0.ct σ H)(t:∀v H,Dd.rt v H->L0.rt v H):OutOk (md:=md) K G1 H1 Eu L0 r:=by
 match r,h with
 | .ok (.nx env'),h=>exact fun σ' H' G' Eh s q=>n _ _ (h σ' H' G' Eh (st.trans s) q)
 | .ok (.bk env'),h=>exact fun σ' H' G' Eh s q=>b _ _ (h σ' H' G' Eh (st.trans s) q)
 | .ok (.ct env'),h=>exact fun σ' H' G' Eh s q=>c _ _ (h σ' H' G' Eh (st.trans s) q)
 | .ok (.rt r),h=>exact fun v H' G' Eh s q=>t _ _ (h v H' G' Eh (st.trans s) q)
theorem OutOk.after{md:Mode}{K:W.Frag}{G H G1 H1:Hp}{fp Eu:List Addr}{Dd:Ends}{r:Res Out}(st:Step G H fp G1 H1 Eu)(h:OutOk (md:=md) K G H fp Dd r):OutOk (md:=md) K G1 H1 Eu Dd r:=h.imp st (fun _ _ z=>z) (fun _ _ z=>z) (fun _ _ z=>z) fun _ _ z=>z
def aB(d:D):FX:=fun env=>.ok ((.f,d),env)
def fz:O->O
 | .pin p .f=>.pin p .f
 |_=>.f
def a8(i:Nat):FX:=fun env=>match env[i]? with
 |some (some r)=>.ok ((.f,r.2),env.set i (some (fz r.1,r.2)))
 |_=>.bad
def i4(i:Nat):FX:=fun env=>match env[i]? with
 |some (some r)=>.ok (r,env.set i none)
 |_=>.bad
def ao(f:FX):FO:=fun env=>(f env).bind fun p=>.ok (.val p.1.2,p.2)
def au(i:Nat):FO:=fun env=>match env[i]? with
 |some (some _)=>.ok (.var i,env)
 |_=>.bad
def ax:Fo:=fun env=>.ok ([],env)
def af(f:FO)(g:Fo):Fo:=fun env=>(f env).bind fun p=>(g p.2).bind fun q=>.ok (p.1::q.1,q.2)
section
variable{X:Cx}
theorem pB{e:Expr}{v:V}{d:D}(h:PE X e (tC v))(r:∀G,Rep X.K G d v):QE X e (aB d):=bo h fun σ H Q Eo=>by
 obtain⟨G,env,fp,rr,env',rel,e,k⟩:=Eo;cases e;exact k v H G fp .refl (rel.push (r G))
theorem aw{i j pos}:QE X (.Constant (.int i) j pos) (aB (.int i)):=pB rm fun G=>by rw[Rep]
theorem i5{i j pos}:QE X (.Constant (.bool i) j pos) (aB (.bl i)):=pB BO fun G=>by rw[Rep]
theorem aU{x j pos}{l:List Nat}(h:x=S l)(hl:l.length<=1000):QE X (.Constant (.str x) j pos) (aB (.str l)):=pB zi fun G=>by
 rw[Rep,h];exact⟨rfl,by rw[line_eq];lia⟩
theorem oi{x:Str}{p:Pos}{n:Int}(h:Gi X.mg x n)(hg:Gl X x)(hd:(x==("__debug__" : Str))=false:=by decide):QE X (.Name x p) (aB (.int n)):=pB (Cc h hg hd) fun G=>by rw[Rep]
theorem aK{i:Nat}{e:Expr}(h:PE X e (qh i)):QE X e (a8 i):=bo h fun σ H Q Eo=>by
 obtain⟨G,env,fp,rr,env',rel,e,k⟩:=Eo;unfold a8 at e;split at e
 ·rename_i r hr;cases e;by_cases hf:fz r.1=.f
  ·obtain⟨v,G',fq,ev,rv,EI,st⟩:=rel.freezeAt hr;rw[hf]at k;exact⟨v,ev,k v H G' fq st (EI.push rv)⟩
  ·have hp:∃p,r.1=.pin p .f:=by
    unfold fz at hf;split at hf
    ·rename_i p hp;exact⟨p,hp⟩
    ·exact absurd rfl hf
   obtain⟨p,hp⟩:=hp;obtain⟨v,a,b,ev,r1,_,_⟩:=rel.rep.take hr;rw[hp,RepO]at r1;have es:env.set i (some (fz r.1,r.2))=env:=by
    refine lr ?_;rw[hr,hp];show some (some r)=some (some (.pin p .f,r.2));rw[<-hp]
   rw[es]at k;exact⟨v,ev,k v H G fp .refl (rel.push (fu.mp r1.2).1)⟩
 ·cases e
theorem eL{i:Nat}{e:Expr}(h:PE X e (qh i)):QE X e (i4 i):=bo h fun σ H Q Eo=>by
 obtain⟨G,env,fp,rr,env',rel,e,k⟩:=Eo;unfold i4 at e;split at e
 ·rename_i r hr;cases e;obtain⟨v,fq,ev,EI,st,_⟩:=rel.out hr;exact⟨v,ev,k v H G fq st EI⟩
 ·cases e
theorem aa{e:Expr}{f:FX}(h:QE X e f):QO X e (ao f):=bo h fun σ H Q Eo=>by
 obtain⟨G,env,fp,o,env',rel,e,k⟩:=Eo;obtain⟨⟨r,Ec⟩,e1,e⟩:=aj e;cases e;refine⟨G,env,fp,r,Ec,rel,e1,fun v H' G' Eh st EI=>?_⟩;obtain⟨G2,b,rv,Ed,El⟩:=EI.freeze;exact k v H' G2 b (st.trans El) Ed rv
theorem ae{i:Nat}{e:Expr}(h:PE X e (qh i)):QO X e (au i):=bo h fun σ H Q Eo=>by
 obtain⟨G,env,fp,o,env',rel,e,k⟩:=Eo;unfold au at e;split at e
 ·rename_i r hr;cases e;obtain⟨v,ev,_⟩:=rel.view hr;exact⟨v,ev,k v H G fp .refl rel ev⟩
 ·cases e
theorem ai:JO X [] ax:=pA iG fun σ H Q Eo=>by
 obtain⟨G,env,fp,o,env',rel,e,k⟩:=Eo;cases e;exact k [] H G fp .refl rel rfl
theorem ab{e:Expr}{es:List Expr}{f:FO}{g:Fo}(h:QO X e f)(hs:JO X es g)(Hw:starEach (e::es) X.env=(false,eval e X.env)::starEach es X.env:=by rfl):JO X (e::es) (af f g):=
 pA (dZ h hs Hw) fun σ H Q Eo=>by
  obtain⟨G,env,fp,o,env',rel,e,k⟩:=Eo;obtain⟨⟨o1,Ec⟩,e1,e⟩:=aj e;obtain⟨⟨os,Es⟩,e2,e⟩:=aj e;cases e;exact⟨G,env,fp,o1,Ec,rel,e1,fun v H1 G1 Eu Ep Ee Gs=>⟨G1,Ec,Eu,os,Es,Ee,e2,fun vs H2 G2 E4 El Ed JD=>k _ H2 G2 E4 (Ep.trans El) Ed ⟨v,vs,rfl,Gs.mono El.gg,JD⟩⟩⟩
def aE(g:D->D->Res R)(fa fb:FO):FX:=fun env=>(fa env).bind fun p=>(fb p.2).bind fun q=>(Fn q.2 p.1).bind fun a=>(Fn q.2 q.1).bind fun b=>(g a b).bind fun r=>.ok (r,q.2)
def bU(g:D->D->Res R)(fa fb:FO):FX:=fun env=>(fa env).bind fun p=>(fb p.2).bind fun q=>(qz q.2 p.1).bind fun a=>(qz q.2 q.1).bind fun b=>(g a b).bind fun r=>.ok (r,q.2)
structure Goes(K:W.Frag)(H:Hp)(G:Hp)(fp:List Addr)(es:PV.Env)(vs:L2.St)(r:R)(Q:VK):Prop where
 rel:Rel K G H es vs fp
 D1:∀v H' G' Eh,Step G H fp G' H' Eh->Rel K G' H' (some r::es) (some v::vs) Eh->Q v H'
inductive rG(K:W.Frag)(g:D->D->Res R)(x:V)(y:V)(H:Hp)(Q:VK):Prop
 |mk:∀G fp es vs a b r,Goes K H G fp es vs r Q->Vw K G H a x->Vw K G H b y->g a b=.ok r->rG K g x y H Q
inductive rGA(K:W.Frag)(g:D->D->Res R)(x:V)(y:V)(H:Hp)(Q:VK):Prop
 |mk:∀G fp es vs a b r,Goes K H G fp es vs r Q->Rep K H a x->Rep K H b y->g a b=.ok r->rGA K g x y H Q
variable{a b c:Expr}{fa fb fc:FO}{pos:Pos}{g g':D->D->Res R}
theorem pC{σ:L2.St}{H:Hp}{Q:VK}(h:tQ X.K (aE g fa fb) σ H Q):Lp (rG X.K g) (tO X.K fa) (tO X.K fb) σ H Q:=by
 obtain⟨G,env,fp,r,env',rel,e,k⟩:=h;obtain⟨⟨oa,e1⟩,ha,e⟩:=aj e;obtain⟨⟨ob,e2⟩,hb,e⟩:=aj e;obtain⟨da,L1,e⟩:=aj e;obtain⟨db,GJ,e⟩:=aj e;obtain⟨r',hr,e⟩:=aj e;cases e;exact⟨G,env,fp,oa,e1,rel,ha,fun x H1 G1 Eu Ep Ee Gs=>⟨G1,e1,Eu,ob,e2,Ee,hb,fun y H2 G2 E4 El Ed JD=>
  ⟨G2,E4,e2,σ,da,db,r,⟨Ed,fun v H' G' Eh st EI=>k v H' G' Eh (Ep.trans (El.trans st)) EI⟩,Ed.vw (Gs.mono El.gg) L1,Ed.vw JD GJ,hr⟩⟩⟩
theorem sv{σ:L2.St}{H:Hp}{Q:VK}(h:tQ X.K (bU g fa fb) σ H Q):Lp (rGA X.K g) (tO X.K fa) (tO X.K fb) σ H Q:=by
 obtain⟨G,env,fp,r,env',rel,e,k⟩:=h;obtain⟨⟨oa,e1⟩,ha,e⟩:=aj e;obtain⟨⟨ob,e2⟩,hb,e⟩:=aj e;obtain⟨da,L1,e⟩:=aj e;obtain⟨db,GJ,e⟩:=aj e;obtain⟨r',hr,e⟩:=aj e;cases e;exact⟨G,env,fp,oa,e1,rel,ha,fun x H1 G1 Eu Ep Ee Gs=>⟨G1,e1,Eu,ob,e2,Ee,hb,fun y H2 G2 E4 El Ed JD=>
  ⟨G2,E4,e2,σ,da,db,r,⟨Ed,fun v H' G' Eh st EI=>k v H' G' Eh (Ep.trans (El.trans st)) EI⟩,Ed.vwA (Gs.mono El.gg) L1,Ed.vwA JD GJ,hr⟩⟩⟩
theorem aM{op:Operator}(ho:EK X (binaryOp op) (rG X.K g))(ha:QO X a fa)(hb:QO X b fb):QE X (.BinOp a op b pos) (aE g fa fb):=bo (B0 ho ha hb) fun _ _ _=>pC
theorem wH{op:CmpOp}(ho:EK X (compareOp op) (rG X.K g))(ha:QO X a fa)(hb:QO X b fb)(hm:behindInMarks op b=false):QE X (.Compare a [op] [b] pos) (aE g fa fb):=bo (rJ ho ha hb hm) fun _ _ _=>pC
theorem jD{op:CmpOp}(ho:EK X (compareOp op) (rGA X.K g))(ha:QO X a fa)(hb:QO X b fb)(hm:behindInMarks op b=false):QE X (.Compare a [op] [b] pos) (bU g fa fb):=bo (rJ ho ha hb hm) fun _ _ _=>sv
def EH(f:FX):FT:=fun env=>(f env).bind fun p=>match p.1.2 with
 | .bl k=>.ok (k,p.2)
 |_=>.bad
theorem vC{f:FX}{σ:L2.St}{H:Hp}{Q:Bool->Hp->Prop}(h:tQT X.K (EH f) σ H Q):tQ X.K f σ H fun x H'=>∃k,x=.bl k/\Q k H':=by
 obtain⟨G,env,fp,k,env',rel,e,q⟩:=h;obtain⟨⟨⟨o,d⟩,Ec⟩,e1,e⟩:=aj e;dsimp only at e;split at e
 ·cases e;refine⟨G,env,fp,_,_,rel,e1,fun v H' G' Eh st EI=>?_⟩;have hv:=EI.top;rw[show((o,D.bl k):R).2=D.bl k from rfl,Rep]at hv;obtain⟨b,Ed,El⟩:=EI.drop;exact⟨k,hv,q H' G' b (st.trans El) Ed⟩
 ·cases e
theorem c7{e:Expr}{f:FX}(h:QE X e f)(he:∀whole,isTrue e X.env whole=(do let v <-whole;standAt e.pos;holding [v] (truthy v)):=by intro _;rfl):QT X e (EH f):=mN (zj h he) fun _ _ _=>vC
theorem eY{op:CmpOp}(ho:EK X (compareOp op) (rG X.K g))(ha:QO X a fa)(hb:QO X b fb)(hm:behindInMarks op b=false):QT X (.Compare a [op] [b] pos) (EH (aE g fa fb)):=
 mN (rK ho ha hb hm) fun _ _ _ h=>pC (vC h)
theorem bu{op:CmpOp}(ho:EK X (compareOp op) (rGA X.K g))(ha:QO X a fa)(hb:QO X b fb)(hm:behindInMarks op b=false):QT X (.Compare a [op] [b] pos) (EH (bU g fa fb)):=
 mN (rK ho ha hb hm) fun _ _ _ h=>sv (vC h)
def uL(f g:FT):FT:=fun env=>(f env).bind fun p=>if p.1 then g p.2 else .ok (false,p.2)
def JE(f g:FT):FT:=fun env=>(f env).bind fun p=>if p.1 then .ok (true,p.2) else g p.2
def nR(f:FT):FT:=fun env=>(f env).bind fun p=>.ok (!p.1,p.2)
variable{ga gb:FT}{c9:List Expr}
theorem jE(h:QT X a ga):QW X (.BoolOp .And [a] pos) ga:=xq h
theorem jF(h:QT X a ga):QW X (.BoolOp .Or [a] pos) ga:=zk h
theorem jG(h:QT X a ga)(h2:QW X (.BoolOp .And (b::c9) pos) gb):QW X (.BoolOp .And (a::b::c9) pos) (uL ga gb):=wG (zl h h2) fun σ H Q Eo=>by
 obtain⟨G,env,fp,k,env',rel,e,q⟩:=Eo;obtain⟨⟨k1,Ec⟩,e1,e⟩:=aj e;refine⟨G,env,fp,k1,Ec,rel,e1,fun H1 G1 Eu Ep Ee=>?_⟩;dsimp only at e;cases k1 with
 |true=>exact⟨G1,Ec,Eu,k,env',Ee,e,fun H2 G2 E4 El Ed=>q H2 G2 E4 (Ep.trans El) Ed⟩
 |false=>
  cases e;exact q H1 G1 Eu Ep Ee
theorem mO(h:QT X a ga)(h2:QW X (.BoolOp .Or (b::c9) pos) gb):QW X (.BoolOp .Or (a::b::c9) pos) (JE ga gb):=wG (BP h h2) fun σ H Q Eo=>by
 obtain⟨G,env,fp,k,env',rel,e,q⟩:=Eo;obtain⟨⟨k1,Ec⟩,e1,e⟩:=aj e;refine⟨G,env,fp,k1,Ec,rel,e1,fun H1 G1 Eu Ep Ee=>?_⟩;dsimp only at e;cases k1 with
 |false=>exact⟨G1,Ec,Eu,k,env',Ee,e,fun H2 G2 E4 El Ed=>q H2 G2 E4 (Ep.trans El) Ed⟩
 |true=>
  cases e;exact q H1 G1 Eu Ep Ee
theorem QW.qt{e:Expr}{f:FT}(h:QW X e f):QT X e f:=h.pt
theorem dP(h:QT X a ga):QT X (.UnaryOp .Not a pos) (nR ga):=mN (zm h) fun σ H Q Eo=>by
 obtain⟨G,env,fp,k,env',rel,e,q⟩:=Eo;obtain⟨⟨k1,Ec⟩,e1,e⟩:=aj e;cases e;exact⟨G,env,fp,k1,Ec,rel,e1,fun H1 G1 Eu Ep Ee=>q H1 G1 Eu Ep Ee⟩
def vD(f g:FX):FX:=fun env=>(f env).bind fun p=>match p.1.2 with
 | .bl true=>g p.2
 | .bl false=>.ok ((.f,.bl false),p.2)
 |_=>.bad
def eOr(f g:FX):FX:=fun env=>(f env).bind fun p=>match p.1.2 with
 | .bl true=>.ok ((.f,.bl true),p.2)
 | .bl false=>g p.2
 |_=>.bad
def D2(f:FX):FX:=fun env=>(f env).bind fun p=>match p.1.2 with
 | .bl k=>.ok ((.f,.bl (!k)),p.2)
 |_=>.bad
def eIf(c:FT)(f g:FX):FX:=fun env=>(c env).bind fun p=>if p.1 then f p.2 else g p.2
variable{ea eb:FX}
theorem sx{op}(h:QE X a ea):QE X (.BoolOp op [a] pos) ea:=zo h
theorem cj{K:W.Frag}{G:Hp}(k:Bool):Rep K G (.bl k) (.bl k):=by rw[Rep]
theorem bq{K:W.Frag}{G:Hp}(k:Int):Rep K G (.int k) (.int k):=by rw[Rep]
theorem gx{K:W.Frag}{G:Hp}:Rep K G .non .non:=by rw[Rep]
theorem dA{K:W.Frag}{G:Hp}{l:List Nat}(h:l.length<=sizeLine):Rep K G (.str l) (.str (S l)):=by
 rw[Rep];exact⟨rfl,h⟩
theorem cD{K:W.Frag}{G:Hp}{k:Bool}{v:V}(h:Rep K G (.bl k) v):v=.bl k:=by rw[Rep]at h;exact h
theorem bz{K:W.Frag}{G:Hp}{k:Int}{v:V}(h:Rep K G (.int k) v):v=.int k:=by rw[Rep]at h;exact h
theorem ck{K:W.Frag}{G:Hp}{v:V}(h:Rep K G .non v):v=.non:=by rw[Rep]at h;exact h
theorem ba{K:W.Frag}{G:Hp}{l:List Nat}{v:V}(h:Rep K G (.str l) v):v=.str (S l)/\l.length<=sizeLine:=by rw[Rep]at h;exact h
inductive OfT(K:W.Frag)(G:Hp)(l:List D)(v:V):Prop
 |mk (p:Addr) (xs:List V) (e:v=.ref p) (q:SqT K G p xs) (r:Reps K G l xs):OfT K G l v
inductive OfL(K:W.Frag)(G:Hp)(l:List D)(v:V):Prop
 |mk (p:Addr) (xs:List V) (e:v=.ref p) (q:SqL K G p xs) (r:Reps K G l xs):OfL K G l v
theorem bA{K:W.Frag}{G:Hp}{l:List D}{v:V}(h:Rep K G (.tup l) v):OfT K G l v:=by
 rw[Rep]at h;obtain⟨p,xs,e,q,r⟩:=h;exact⟨p,xs,e,SqT.of q,r⟩
theorem sy{K:W.Frag}{G:Hp}{l:List D}{v:V}(h:Rep K G (.tup l) v):∃p xs,v=.ref p/\G p=some (.tup xs)/\Reps K G l xs:=by rw[Rep]at h;exact h
theorem bB{K:W.Frag}{G:Hp}{l:List D}{v:V}(h:Rep K G (.lst l) v):OfL K G l v:=by
 rw[Rep]at h;obtain⟨p,xs,e,q,r⟩:=h;exact⟨p,xs,e,q,r⟩
theorem Co{K:W.Frag}{G H:Hp}{k:Bool}{v:V}(h:Vw K G H (.bl k) v):v=.bl k:=cD (K:=K) (G:=G) h
theorem bc{K:W.Frag}{G H:Hp}{k:Int}{v:V}(h:Vw K G H (.int k) v):v=.int k:=bz (K:=K) (G:=G) h
theorem dB{K:W.Frag}{G H:Hp}{l:List Nat}{v:V}(h:Vw K G H (.str l) v):v=.str (S l)/\l.length<=sizeLine:=ba (K:=K) (G:=G) h
theorem iK{K:W.Frag}{G H:Hp}{l:List D}{v:V}(h:Vw K G H (.tup l) v):OfT K G l v:=bA (K:=K) (G:=G) h
theorem mP(h:QE X a ea)(h2:QE X (.BoolOp .And (b::c9) pos) eb):QE X (.BoolOp .And (a::b::c9) pos) (vD ea eb):=bo (zp h h2) fun σ H Q Eo=>by
 obtain⟨G,env,fp,r,env',rel,e,q⟩:=Eo;obtain⟨⟨⟨o,d⟩,Ec⟩,e1,e⟩:=aj e;refine⟨G,env,fp,_,Ec,rel,e1,fun v H1 G1 Eu Ep Ee=>?_⟩;have hv:=Ee.top;obtain⟨b',Ed,El⟩:=Ee.drop;dsimp only at e hv;split at e
 ·exact⟨true,cD hv,zU ⟨G1,Ec,b',r,env',Ed,e,fun v H2 G2 E4 ET EN=>q v H2 G2 E4 (Ep.trans (El.trans ET)) EN⟩⟩
 ·cases e;exact⟨false,cD hv,iteF (q _ H1 G1 b' (Ep.trans El) (Ed.push (cj _)))⟩
 ·cases e
noncomputable def iL(g g':D->D->Res R)(fa fb fc:FO):FX:=fun env=>(fa env).bind fun p=>(fb p.2).bind fun q=>(Fn q.2 p.1).bind fun a=>(Fn q.2 q.1).bind fun b=>(g a b).bind fun r=>match r with
 |(.f,.bl true)=>(fc q.2).bind fun t=>(Fn t.2 q.1).bind fun b=>(Fn t.2 t.1).bind fun c=>(g' b c).bind fun r=>.ok (r,t.2)
 |(.f,.bl false)=>.ok ((.f,.bl false),q.2)
 |_=>.bad
theorem pD{σ:L2.St}{H:Hp}{Q:VK}(h:tQ X.K (iL g g' fa fb fc) σ H Q):rL (rG X.K g) (rG X.K g') (tO X.K fa) (tO X.K fb) (tO X.K fc) σ H Q:=by
 obtain⟨G,env,fp,r,env',rel,e,k⟩:=h;obtain⟨⟨oa,e1⟩,ha,e⟩:=aj e;obtain⟨⟨ob,e2⟩,hb,e⟩:=aj e;obtain⟨da,L1,e⟩:=aj e;obtain⟨db,GJ,e⟩:=aj e;obtain⟨r',hr,e⟩:=aj e;refine⟨G,env,fp,oa,e1,rel,ha,fun x H1 G1 Eu Ep Ee Gs=>⟨G1,e1,Eu,ob,e2,Ee,hb,fun y H2 G2 E4 El Ed JD=>
  ⟨G2,E4,e2,σ,da,db,r',⟨Ed,fun v H3 G3 GZ ET EN=>?_⟩,Ed.vw (Gs.mono El.gg) L1,Ed.vw JD GJ,hr⟩⟩⟩
 have hv:=EN.top;obtain⟨b3,E1,FU⟩:=EN.drop;split at e
 ·refine⟨true,cD hv,zU ?_⟩;obtain⟨⟨oc,e3⟩,hc,e⟩:=aj e;obtain⟨db',hdb',e⟩:=aj e;obtain⟨dc,hdc,e⟩:=aj e;obtain⟨r2,hr2,e⟩:=aj e;cases e;exact⟨G3,e2,b3,oc,e3,E1,hc,fun z H5 G5 KS Gq Fh ok5=>⟨G5,KS,e3,σ,db',dc,r,⟨Fh,fun v H' G' Eh st EI=>k v H' G' Eh (Ep.trans (El.trans (ET.trans (FU.trans (Gq.trans st))))) EI⟩,
   Fh.vw ((JD.mono ET.gg).mono Gq.gg) hdb',Fh.vw ok5 hdc,hr2⟩⟩
 ·cases e;exact⟨false,cD hv,iteF (k _ H3 G3 b3 (Ep.trans (El.trans (ET.trans FU))) (E1.push (cj _)))⟩
 ·cases e
theorem lu{op Hq:CmpOp}(ho:EK X (compareOp op) (rG X.K g))(Hv:EK X (compareOp Hq) (rG X.K g'))(ha:QO X a fa)(hb:QO X b fb)(hc:QO X c fc)(hm:lastMarks [op,Hq] [b,c]=false:=by with_unfolding_all rfl):
  QE X (.Compare a [op,Hq] [b,c] pos) (iL g g' fa fb fc):=bo (uX ho Hv ha hb hc hm) fun _ _ _=>pD
theorem vE{op Hq:CmpOp}(ho:EK X (compareOp op) (rG X.K g))(Hv:EK X (compareOp Hq) (rG X.K g'))(ha:QO X a fa)(hb:QO X b fb)(hc:QO X c fc)(hm:lastMarks [op,Hq] [b,c]=false:=by with_unfolding_all rfl):
  QT X (.Compare a [op,Hq] [b,c] pos) (EH (iL g g' fa fb fc)):=mN (uY ho Hv ha hb hc hm) fun _ _ _ h=>pD (vC h)
inductive rC(K:W.Frag)(g:List D->Res R)(xs:List V)(H:Hp)(Q:VK):Prop
 |mk:∀G fp es vs ds r,Goes K H G fp es vs r Q->Lx K G H ds xs->g ds=.ok r->rC K g xs H Q
def aR(g:List D->Res R)(fs:Fo):FX:=fun env=>(fs env).bind fun p=>(px p.2 p.1).bind fun ds=>(g ds).bind fun r=>.ok (r,p.2)
theorem sH{gg:List D->Res R}{fs:Fo}{σ:L2.St}{H:Hp}{Q:VK}(h:tQ X.K (aR gg fs) σ H Q):M4 (rC X.K gg) (tOs X.K fs) σ H Q:=by
 obtain⟨G,env,fp,r,env',rel,e,k⟩:=h;obtain⟨⟨os,e1⟩,ha,e⟩:=aj e;obtain⟨ds,hd,e⟩:=aj e;obtain⟨r',hr,e⟩:=aj e;cases e;exact⟨G,env,fp,os,e1,rel,ha,fun vs H1 G1 Eu Ep Ee Gs=>⟨G1,Eu,e1,σ,ds,r,⟨Ee,fun v H' G' Eh st EI=>k v H' G' Eh (Ep.trans st) EI⟩,Ee.vws Gs hd,hr⟩⟩
variable{x:Str}{p:Pos}{e:Expr}{es:List Expr}{gg:List D->Res R}{fs:Fo}{id T:String}
theorem aG(hc:c5 X (.builtin id) (rC X.K gg))(hg:Gl X x)(hm:X.mg x=none)(hv:bootBuiltins x=some (.builtin id))(ha:JO X (e::es) fs)(hn:x≠"__name__":=by decide)(GJ:(x==("__debug__" : Str))=false:=by decide)
  (he:starEach (e::es) X.env=(false,eval e X.env)::starEach es X.env:=by rfl) (Gp:(backTo pos (starEach es X.env)).any (·.1)=false:=by rfl):QE X (.Call (.Name x p) (e::es) [] pos) (aR gg fs):=
 bo (o4 hc hg hm hv ha hn GJ he Gp) fun _ _ _=>sH
theorem bR(hc:c5 X (.type T) (rC X.K gg))(hg:Gl X x)(hm:X.mg x=none)(hv:bootBuiltins x=some (.type T))(ha:JO X (e::es) fs)(hn:x≠"__name__":=by decide)(GJ:(x==("__debug__" : Str))=false:=by decide)
  (he:starEach (e::es) X.env=(false,eval e X.env)::starEach es X.env:=by rfl) (Gp:(backTo pos (starEach es X.env)).any (·.1)=false:=by rfl):QE X (.Call (.Name x p) (e::es) [] pos) (aR gg fs):=
 bo (rO hc hg hm hv ha hn GJ he Gp) fun _ _ _=>sH
inductive spF(K:W.Frag)(F:List D->Res R)(vs:List V)(H:Hp)(Q:VK)(zz:XK):Prop
 |mk:∀G ds r,Same G H->Reps K G ds vs->F ds=.ok r->(∀v H' G' Eh,Step G H [] G' H' Eh->Rel K G' H' [some r] [some v] Eh->Q v H')->spF K F vs H Q zz
def cK(F:List D->Res R)(fs:Fo):FX:=fun env=>(fs env).bind fun p=>(mL p.2 p.1).bind fun ds=>(F ds).bind fun r=>.ok (r,if b9 r.1 r.2 then p.2 else p.2.map frz)
theorem aJ{F:List D->Res R}{k:Nat}(C:Ct X.prog X.w X.K X.mg X.base x k (spF X.K F))(hr:Room k X.A)(hg:Gl X x)(ha:JO X (e::es) fs)(GJ:(x==("__debug__" : Str))=false:=by decide)
  (he:starEach (e::es) X.env=(false,eval e X.env)::starEach es X.env:=by rfl) (Gp:(backTo pos (starEach es X.env)).any (·.1)=false:=by rfl):QE X (.Call (.Name x p) (e::es) [] pos) (cK F fs):=
 bo (Cb C hr hg ha GJ he Gp) fun σ H Q Eo=>by
  obtain⟨G,env,fp,r,env',rel,e,k⟩:=Eo;obtain⟨⟨os,e1⟩,ha,e⟩:=aj e;obtain⟨ds,hd,e⟩:=aj e;obtain⟨r',hr,e⟩:=aj e;refine⟨G,env,fp,os,e1,rel,ha,fun vs H1 G1 Eu Ep Ee Gs=>?_⟩;show spF X.K F (vs++[]) H1 Q _;rw[OL];obtain⟨G2,Nj,Nk,Hx,_,Jd⟩:=Ee.lend;refine⟨G2,ds,r',Nk,mM Nj Hx Gs hd,hr,fun v H' G' Eh st EI=>?_⟩;obtain⟨k1,k2⟩:=Jd H' G' Eh r' v st EI;by_cases hc:b9 r'.1 r'.2=true
  ·rw[Ow hc]at e;cases e;obtain⟨G3,GZ,ET,EN⟩:=k1 hc;exact k v H' G3 GZ (Ep.trans ET) EN
  ·rw[OB hc]at e;cases e;obtain⟨G3,GZ,ET,EN⟩:=k2;exact k v H' G3 GZ (Ep.trans ET) EN
end
def sSeq(g1 g2:FS):FS:=fun env=>(g1 env).bind fun o=>match o with
 | .nx e=>g2 e
 |o=>.ok o
def bX:FS:=fun env=>.ok (.nx env)
def eZ:FS:=fun _=>.bad
def cn(i:Nat)(f:FX):FS:=fun env=>(f env).bind fun p=>if i<p.2.length then .ok (.nx (p.2.set i (some p.1))) else .bad
def gy(f:FX):FS:=fun env=>(f env).bind fun p=>.ok (.nx p.2)
def dm(f:FX):FS:=fun env=>(f env).bind fun p=>.ok (.rt p.1)
def E7(c:FT)(g h:FS):FS:=fun env=>(c env).bind fun p=>if p.1 then g p.2 else h p.2
section
variable{md:Mode}{X:Cx}{st:Stmt}{Nl:List Stmt}{g h:FS}{f:FX}{c:FT}{pos:Pos}{e:Expr}
theorem aO:JC (md:=md) X [] bX:=su xr fun D σ H ⟨G,env,fp,rel,k⟩=>k σ H G fp .refl rel
theorem aq(a:QS (md:=md) X st g):JC (md:=md) X [st] g:=xt a
theorem ah(a:QS (md:=md) X st g)(b:JC (md:=md) X Nl h):JC (md:=md) X (st::Nl) (sSeq g h):=su (uS a b) fun D σ H Eo=>by
 obtain⟨G,env,fp,rel,k⟩:=Eo;refine⟨G,env,fp,rel,?_⟩;have k:OutOk X.K G H fp D ((g env).bind fun o=>match o with | .nx e=>h e|o=>.ok o):=k;match q:g env,k with
 | .ok (.nx Ec),k=>exact fun σ1 H1 G1 Eu Ep Ee=>⟨G1,Ec,Eu,Ee,OutOk.after Ep k⟩
 | .ok (.bk Ec),k=>exact k
 | .ok (.ct Ec),k=>exact k
 | .ok (.rt r),k=>exact k
theorem cE:QS (md:=md) X st eZ:=iJ uT fun D σ H ⟨G,env,fp,rel,k⟩=>k
theorem x6{K:W.Frag}{G H:Hp}{fp:List Addr}{D:Ends}{i:Nat}{env:PV.Env}{σ:L2.St}(rel:Rel K G H env σ fp)(k:OutOk (md:=md) K G H fp D (cn i f env)):tQ K f σ H fun v H'=>D.nx (σ.set i (some v)) H':=by
 unfold cn at k;match q:f env,k with
 | .ok (r,Ec),k=>
  have k:OutOk K G H fp D (if i<Ec.length then .ok (.nx (Ec.set i (some r))) else .bad):=k;by_cases hi:i<Ec.length
  ·rw[Ow hi]at k;refine⟨G,env,fp,r,Ec,rel,q,fun v H1 G1 Eu Ep Ee=>?_⟩;obtain⟨fq,Ed,El⟩:=Ee.store hi;exact k _ H1 G1 fq (Ep.trans El) Ed
  ·rw[OB hi]at k;exact k.elim
theorem aI{i:Nat}{x:Str}{pos':Pos}(hN:X.N.Nodup)(hi:X.N[i]?=some x)(hx:Loc X.env.scope x)(he:QE X e f)(hs:swapsWith e (some (.Name x pos')) pos.line X.env=pure false:=by rfl)(hf:X.fn x=true\/X.env.scope.names.lookup x=some .local:=by first|exact .inl rfl|exact .inr rfl|assumption):
  QS (md:=md) X (.Assign [.Name x pos'] e pos) (cn i f):=iJ (zv (i:=i) hN hi hx he hs hf) fun D σ H ⟨G,env,fp,rel,k⟩=>x6 rel k
theorem eM(he:QE X e f)(hs:swapsWith e none pos.line X.env=pure false:=by rfl):QS (md:=md) X (.Expr e pos) (gy f):=iJ (xu he hs) fun D σ H Eo=>by
 obtain⟨G,env,fp,rel,k⟩:=Eo;unfold gy at k;match q:f env,k with
 | .ok (r,Ec),k=>
  refine⟨G,env,fp,r,Ec,rel,q,fun v H1 G1 Eu Ep Ee=>?_⟩;obtain⟨b,Ed,El⟩:=Ee.drop;exact k _ H1 G1 b (Ep.trans El) Ed
theorem Rel.only{K:W.Frag}{G H:Hp}{r:R}{v:V}{es:PV.Env}{vs:L2.St}{fp:List Addr}(q:Rel K G H (some r::es) (some v::vs) fp):∃a,Rel K G H [some r] [some v] a/\Step G H fp G H a:=by
 obtain⟨y,ys,e,v',a,b,e1,e2,r1,r2⟩:=q.rep;cases e;cases e1;subst e2;have nd:=OV.mp q.nd;exact⟨a,⟨⟨some v,[],rfl,v,a,[],rfl,(OL _).symm,r1,rfl,rfl⟩,nd.1,fun p hp=>q.gn p (Ox _ hp),q.gh⟩,Step.cut fun p hp=>Ox _ hp⟩
theorem aP(he:QE X e f):QS (md:=.plain) X (.Return (some e) pos) (dm f):=iJ (zq he) fun D σ H Eo=>by
 obtain⟨G,env,fp,rel,k⟩:=Eo;unfold dm at k;match q:f env,k with
 | .ok (r,Ec),k=>
  refine⟨G,env,fp,r,Ec,rel,q,fun v H1 G1 Eu Ep Ee=>?_⟩;obtain⟨b,Ed,El⟩:=Ee.only;exact k _ H1 G1 b (Ep.trans El) Ed
theorem Rel.nilF{K:W.Frag}{G H:Hp}{es:PV.Env}{vs:L2.St}{fp:List Addr}(q:Rel K G H es vs fp):Rel K G H [] [] []:=⟨⟨rfl,rfl⟩,P0,(fun _ h=>nomatch h),q.gh⟩
theorem cb{a b:List Stmt}{ct:Expr}(hc:QT X ct c)(ha:JC (md:=md) X a g)(hb:JC (md:=md) X b h):QS (md:=md) X (.If ct a b pos) (E7 c g h):=iJ (BU hc ha hb) fun D σ H Eo=>by
 obtain⟨G,env,fp,rel,k⟩:=Eo;unfold E7 at k;match q:c env,k with
 | .ok (true,Ec),k=>exact⟨G,env,fp,true,Ec,rel,q,fun H1 G1 Eu Ep Ee=>zU ⟨G1,Ec,Eu,Ee,OutOk.after Ep k⟩⟩
 | .ok (false,Ec),k=>exact⟨G,env,fp,false,Ec,rel,q,fun H1 G1 Eu Ep Ee=>iteF ⟨G1,Ec,Eu,Ee,OutOk.after Ep k⟩⟩
def dC(c:FT)(g:FS):Nat->FS
 | 0,_=>.bad
 |n+1,env=>(c env).bind fun p=>if p.1 then(g p.2).bind fun o=>match o with
  | .nx e=>dC c g n e
  | .ct e=>dC c g n e
  | .bk e=>.ok (.nx e)
  | .rt r=>.ok (.rt r)
  else .ok (.nx p.2)
theorem ly{ct:Expr}{body:List Stmt}(n:Nat)(hp:PassesOwn (model X.prog X.w) X.A X.env X.xe)(hc:QT X ct c)(hb:JC (md:=md) X body g):QS (md:=md) X (.While ct body [] pos) (dC c g n):=
 iJ (uV hp hc hb) fun D σ H Eo=>by
  obtain⟨G,env,fp,rel,k⟩:=Eo;refine⟨fun m σ' H'=>∃G' env' Eh,Rel X.K G' H' env' σ' Eh/\OutOk X.K G' H' Eh D (dC c g m env'),⟨n,G,env,fp,rel,k⟩,?_⟩;rintro m σ1 H1 ⟨G1,Ec,Eu,Ee,k1⟩;cases m with
  |zero=>exact k1.elim
  |succ m=>
   unfold dC at k1;match q:c Ec,k1 with
   | .ok (false,Es),k1=>exact⟨G1,Ec,Eu,false,Es,Ee,q,fun H2 G2 E4 El Ed=>iteF (k1 _ H2 G2 E4 El Ed)⟩
   | .ok (true,Es),k1=>
    refine⟨G1,Ec,Eu,true,Es,Ee,q,fun H2 G2 E4 El Ed=>zU ?_⟩;refine⟨fun σ' H'=>∃G' env' Eh,Rel X.K G' H' env' σ' Eh/\OutOk X.K G' H' Eh D (dC c g m env'),fun σ' H' z=>⟨m,O8 _,z⟩,G2,Es,E4,Ed,?_⟩;have k2:OutOk X.K G1 H1 Eu D ((g Es).bind fun o=>match o with | .nx e=>dC c g m e | .ct e=>dC c g m e | .bk e=>.ok (.nx e) | .rt r=>.ok (.rt r)):=k1;match q2:g Es,k2 with
    | .ok (.nx e),k2=>exact fun σ' H' G' Eh st rel=>⟨G',e,Eh,rel,OutOk.after (El.trans st) k2⟩
    | .ok (.ct e),k2=>exact fun σ' H' G' Eh st rel=>⟨G',e,Eh,rel,OutOk.after (El.trans st) k2⟩
    | .ok (.bk e),k2=>exact fun σ' H' G' Eh st rel=>k2 σ' H' G' Eh (El.trans st) rel
    | .ok (.rt r),k2=>exact fun v H' G' Eh st rel=>k2 v H' G' Eh (El.trans st) rel
def Walk(K:W.Frag)(G:Hp)(J:It)(ds:List D):Prop:=∀G' H' es vs fp,Same G G'->Rel K G' H' es vs fp->∀i:Nat,
 (∀d,ds[i]?=some d->J.go i H'/\∀x H2,J.yld i H' x H2->∃G2,Rep K G2 d x/\Rel K G2 H2 es vs fp/\Step G' H' fp G2 H2 fp)/\(i=ds.length->J.stop i H')
abbrev FI:=PV.Env->Res (List D×PV.Env)
inductive tQI(K:W.Frag)(f:FI)(σ:L2.St)(H:Hp)(R:It->Hp->Prop):Prop
 |mk:∀G env fp ds env',Rel K G H env σ fp->f env=.ok (ds,env')->(∀J H' G' Eh,Step G H fp G' H' Eh->Rel K G' H' env' σ Eh->Walk K G' J ds->R J H')->tQI K f σ H R
def QI(X:Cx)(tg e:Expr)(f:FI):Prop:=PI X tg e (tQI X.K f)
theorem iM{X:Cx}{tg e:Expr}{t t':TI}(h:PI X tg e t)(k:∀σ H R,t' σ H R->t σ H R):PI X tg e t':=fun py s σ H R I w=>h py s σ H R I (k σ H R w)
abbrev FG:=D->PV.Env->Res PV.Env
inductive tQG(K:W.Frag)(a:FG)(v:V)(σ:L2.St)(H:Hp)(Q:L2.St->Hp->Prop):Prop
 |mk:∀G env fp d env',Rel K G H env σ fp->Rep K G d v->a d env=.ok env'->(∀σ' G' Eh,Step G H fp G' H Eh->Rel K G' H env' σ' Eh->Q σ' H)->tQG K a v σ H Q
def QG(X:Cx)(tg:Expr)(a:FG):Prop:=PG X tg (tQG X.K a)
def aH(i:Nat):FG:=fun d env=>if i<env.length then .ok (env.set i (some (.f,d))) else .bad
theorem wI{X:Cx}{tg:Expr}{t t':TG}(h:PG X tg t)(k:∀v σ H Q,t' v σ H Q->t v σ H Q):PG X tg t':=fun py s σ H v u Q I r w=>h py s σ H v u Q I r (k v σ H Q w)
theorem sI{X:Cx}{tg:List Expr}{t t':Ko}(h:Kx X tg t)(k:∀v σ H Q,t' v σ H Q->t v σ H Q):Kx X tg t':=fun py s σ H v u Q I r w=>h py s σ H v u Q I r (k v σ H Q w)
theorem aN{i:Nat}{x:Str}(hN:X.N.Nodup)(hi:X.N[i]?=some x)(hx:Loc X.env.scope x)(hf:X.fn x=true\/X.env.scope.names.lookup x=some .local:=by first|exact .inl rfl|exact .inr rfl|assumption):QG X (.Name x pos) (aH i):=
 wI (xv (i:=i) hN hi hx hf) fun v σ H Q Eo=>by
  obtain⟨G,env,fp,d,env',rel,r,e,k⟩:=Eo;unfold aH at e;split at e
  ·rename_i hl;cases e;obtain⟨fq,Ed,El⟩:=(rel.push r).store hl;exact k _ G fq El Ed
  ·cases e
abbrev JP:=List D->PV.Env->Res PV.Env
inductive tQGs(K:W.Frag)(a:JP)(vs:List V)(σ:L2.St)(H:Hp)(Q:L2.St->Hp->Prop):Prop
 |mk:∀G env fp ds env',Rel K G H env σ fp->Reps K G ds vs->a ds env=.ok env'->(∀σ' G' Eh,Step G H fp G' H Eh->Rel K G' H env' σ' Eh->Q σ' H)->tQGs K a vs σ H Q
def MK(X:Cx)(tg:List Expr)(a:JP):Prop:=Kx X tg (tQGs X.K a)
def gA:JP:=fun ds env=>match ds with
 |[]=>.ok env
 |_=>.bad
def aS(a:FG)(b:JP):JP:=fun ds env=>match ds with
 |d::ds=>(a d env).bind fun e=>b ds e
 |_=>.bad
theorem ib:MK X [] gA:=sI xw fun vs σ H Q Eo=>by
 obtain⟨G,env,fp,ds,env',rel,r,e,k⟩:=Eo;cases ds with
 |nil=>
  cases e;rw[Reps]at r;exact⟨r,k σ G fp .refl rel⟩
 |cons d ds=>cases e
theorem bC{tg:Expr}{Je:List Expr}{a:FG}{b:JP}(h1:QG X tg a)(h2:MK X Je b)(hs:(assignEach (tg::Je) X.env).map (·.2)=assign tg X.env::(assignEach Je X.env).map (·.2):=by rfl):MK X (tg::Je) (aS a b):=
 sI (uU h1 h2 hs) fun vs σ H Q Eo=>by
  obtain⟨G,env,fp,ds,env',rel,r,e,k⟩:=Eo;cases ds with
  |nil=>cases e
  |cons d ds=>
   rw[Reps]at r;obtain⟨y,ys,ev,r1,r2⟩:=r;obtain⟨Ec,e1,e2⟩:=aj e;exact⟨y,ys,ev,G,env,fp,d,Ec,rel,r1,e1,fun σ1 G1 Eu Ep Ee=>⟨G1,Ec,Eu,ds,env',Ee,r2.mono Ep.gg,e2,fun σ2 G2 E4 El Ed=>k σ2 G2 E4 (Ep.trans El) Ed⟩⟩
def mQ(n:Nat)(a:JP):FG:=fun d env=>match d with
 | .tup ds=>if ds.length=n then a ds env else .bad
 |_=>.bad
theorem kC{Je:List Expr}{k n:Nat}{a:JP}(hc:X.calm=true)(h:MK X Je a)(hn:(assignEach Je X.env).length=n:=by rfl)(Hw:(assignEach Je X.env).findIdx? (·.1)=none:=by rfl):QG X (.Tuple Je k pos) (mQ n a):=
 wI (zu hc h hn Hw) fun v σ H Q Eo=>by
  obtain⟨G,env,fp,d,env',rel,r,e,k⟩:=Eo;unfold mQ at e;split at e
  ·rename_i ds;split at e
   ·rename_i hl;obtain⟨p,xs,ev,sq,rs⟩:=bA r;exact⟨p,xs,ev,bV rel.gh sq,rs.length.trans hl,G,env,fp,ds,env',rel,rs,e,k⟩
   ·cases e
  ·cases e
def i6(a:FG)(g:FS):List D->FS
 |[],env=>.ok (.nx env)
 |d::ds,env=>(a d env).bind fun e=>(g e).bind fun o=>match o with
  | .nx e=>i6 a g ds e
  | .ct e=>i6 a g ds e
  | .bk e=>.ok (.nx e)
  | .rt r=>.ok (.rt r)
def mm(f:FI)(a:FG)(g:FS):FS:=fun env=>(f env).bind fun p=>i6 a g p.1 p.2
theorem eC{tg iter:Expr}{body:List Stmt}{fi:FI}{a:FG}(hp:PassesOwn (model X.prog X.w) X.A X.env X.xe)(hc:X.calm=true)(hi:QI X tg iter fi)(hg:QG X tg a)(hb:JC (md:=md) X body g)(hs:∀x,foldedSetIterable iter X.env x=pure x:=by intro _;rfl):QS (md:=md) X (.For tg iter body [] pos) (mm fi a g):=
 iJ (zy hp hc hi hg hb hs) fun D σ H Eo=>by
  obtain⟨G,env,fp,rel,k⟩:=Eo;unfold mm at k;match q:fi env,k with
  | .ok (ds,Ec),k=>
   refine⟨G,env,fp,ds,Ec,rel,q,fun J H1 G1 Eu Ep Ee wk=>?_⟩;have k:OutOk X.K G H fp D (i6 a g ds Ec):=k;refine⟨fun i m σ' H'=>m=ds.length-i/\i<=ds.length/\∃G' env' Eh,Same G1 G'/\Rel X.K G' H' env' σ' Eh/\OutOk X.K G' H' Eh D (i6 a g (ds.drop i) env'),⟨_,rfl,Pd _,G1,Ec,Eu,.refl _,Ee,OutOk.after Ep k⟩,?_⟩;rintro i m σ2 H2 ⟨rfl,hi,G2,Es,E4,gg,Ed,k2⟩;obtain⟨w1,w2⟩:=wk G2 H2 _ _ _ gg Ed i;by_cases E5:i<ds.length
   ·have hd:ds[i]?=some ds[i]:=List.getElem?_eq_getElem E5;obtain⟨go,yl⟩:=w1 _ hd;rw[Qt E5]at k2;refine .inr ⟨go,fun σ' H'=>∃G' env' Eh,Same G1 G'/\Rel X.K G' H' env' σ' Eh/\OutOk X.K G' H' Eh D (i6 a g (ds.drop (i+1)) env'),fun σ' H' z=>⟨ds.length-(i+1),by lia,rfl,E5,z⟩,fun x H3 y=>?_⟩;obtain⟨G3,rx,EN,ET⟩:=yl x H3 y;unfold i6 at k2;match q3:a ds[i] Es,k2 with
    | .ok Gf,k2=>
     refine⟨G3,Es,E4,ds[i],Gf,EN,rx,q3,fun σ4 G4 fp4 FU E1=>⟨G4,Gf,fp4,E1,?_⟩⟩;have k3:OutOk X.K G2 H2 E4 D ((g Gf).bind fun o=>match o with | .nx e=>i6 a g (ds.drop (i+1)) e | .ct e=>i6 a g (ds.drop (i+1)) e | .bk e=>.ok (.nx e) | .rt r=>.ok (.rt r)):=k2;match q4:g Gf,k3 with
     | .ok (.nx e),k3=>exact fun σ' H' G' Eh st rel=>⟨G',e,Eh,gg.trans (ET.gg.trans (FU.gg.trans st.gg)),rel,OutOk.after (ET.trans (FU.trans st)) k3⟩
     | .ok (.ct e),k3=>exact fun σ' H' G' Eh st rel=>⟨G',e,Eh,gg.trans (ET.gg.trans (FU.gg.trans st.gg)),rel,OutOk.after (ET.trans (FU.trans st)) k3⟩
     | .ok (.bk e),k3=>exact fun σ' H' G' Eh st rel=>k3 σ' H' G' Eh (ET.trans (FU.trans st)) rel
     | .ok (.rt r),k3=>exact fun v H' G' Eh st rel=>k3 v H' G' Eh (ET.trans (FU.trans st)) rel
   ·have e:i=ds.length:=by lia
    subst e;rw[List.drop_length]at k2;exact .inl ⟨w2 rfl,k2 σ2 H2 G2 E4 .refl Ed⟩
def za(f:FX):FI:=fun env=>(f env).bind fun p=>match p.1.2 with
 | .lst ds=>.ok (ds,p.2)
 |_=>.bad
def kr(f:FX):FI:=fun env=>(f env).bind fun p=>match p.1.2 with
 | .tup ds=>.ok (ds,p.2)
 |_=>.bad
variable{tg l:Expr}
theorem mR{K:W.Frag}{G:Hp}{a:Addr}{xs:List V}{ds:List D}(sq:SqL K G a xs)(rs:Reps K G ds xs):Walk K G (Lo K a) ds:=by
 intro G' H' es vs fp gg rel i;have Fi:SqL K H' a xs:=gc rel.gh (gc gg sq);refine⟨fun d hd=>?_,fun e=>⟨xs,Fi,by rw[rs.length];lia⟩⟩;obtain⟨x,hx,rx⟩:=rs.get hd;refine⟨⟨xs,x,Fi,hx⟩,fun y H2 ⟨e,hy⟩=>?_⟩;subst e;have:=hy xs Fi;rw[hx]at this;cases this;exact⟨G',Rep.mono gg rx,rel,.refl⟩
theorem vF{K:W.Frag}{G:Hp}{a:Addr}{xs:List V}{ds:List D}(sq:SqT K G a xs)(rs:Reps K G ds xs):Walk K G (MY K a) ds:=by
 intro G' H' es vs fp gg rel i;have Fi:SqT K H' a xs:=bV rel.gh (bV gg sq);refine⟨fun d hd=>?_,fun e=>⟨xs,Fi,by rw[rs.length];lia⟩⟩;obtain⟨x,hx,rx⟩:=rs.get hd;refine⟨⟨xs,x,Fi,hx⟩,fun y H2 ⟨e,hy⟩=>?_⟩;subst e;have:=hy xs Fi;rw[hx]at this;cases this;exact⟨G',Rep.mono gg rx,rel,.refl⟩
theorem x9(h:QE X l f):QI X tg l (za f):=iM (rA h) fun σ H R Eo=>by
 obtain⟨G,env,fp,ds,env',rel,e,k⟩:=Eo;obtain⟨⟨⟨o,d⟩,Ec⟩,e1,e⟩:=aj e;dsimp only at e;split at e
 ·cases e;refine⟨G,env,fp,_,_,rel,e1,fun v H1 G1 Eu Ep Ee=>?_⟩;obtain⟨G2,b,rv,Ed,El⟩:=Ee.freeze;obtain⟨p,xs,ev,sq,rs⟩:=bB rv;exact⟨p,ev,⟨xs,gc Ed.gh sq⟩,k _ H1 G2 b (Ep.trans El) Ed (mR sq rs)⟩
 ·cases e
theorem pE(h:QE X l f):QI X tg l (kr f):=iM (zx h) fun σ H R Eo=>by
 obtain⟨G,env,fp,ds,env',rel,e,k⟩:=Eo;obtain⟨⟨⟨o,d⟩,Ec⟩,e1,e⟩:=aj e;dsimp only at e;split at e
 ·cases e;refine⟨G,env,fp,_,_,rel,e1,fun v H1 G1 Eu Ep Ee=>?_⟩;obtain⟨G2,b,rv,Ed,El⟩:=Ee.freeze;obtain⟨p,xs,ev,sq,rs⟩:=bA rv;exact⟨p,ev,⟨xs,bV Ed.gh sq⟩,k _ H1 G2 b (Ep.trans El) Ed (vF sq rs)⟩
 ·cases e
def ku(f:FX):FI:=fun env=>(f env).bind fun p=>match p.1.2 with
 | .str l=>.ok (l.map fun c=>.str [c],p.2)
 |_=>.bad
theorem pF(h:QE X l f):QI X tg l (ku f):=iM (z0 h) fun σ H R Eo=>by
 obtain⟨G,env,fp,ds,env',rel,e,k⟩:=Eo;obtain⟨⟨⟨o,d⟩,Ec⟩,e1,e⟩:=aj e;dsimp only at e;split at e
 ·rename_i cs;cases e;refine⟨G,env,fp,_,_,rel,e1,fun v H1 G1 Eu Ep Ee=>?_⟩;obtain⟨G2,b,rv,Ed,El⟩:=Ee.freeze;obtain⟨ev,hl⟩:=ba rv;refine⟨cs,ev,k _ H1 G2 b (Ep.trans El) Ed fun G' H' es vs Eh gg EI i=>⟨fun d hd=>?_,fun e=>?_⟩⟩
  ·rw[List.getElem?_map]at hd;cases hc:cs[i]? with
   |none=>rw[hc]at hd;cases hd
   |some c=>
    rw[hc]at hd;cases hd;refine⟨(List.getElem?_eq_some_iff.mp hc).1,fun x H2 ⟨e1,e2⟩=>?_⟩;subst e1;refine⟨G',?_,EI,.refl⟩;rw[e2];show Rep X.K G' (.str [c]) (.str (S [cs.getD i 0]));rw[List.getD_eq_getElem?_getD,hc];exact dA (by rw[line_eq];simp)
  ·rw[Om]at e;exact e
 ·cases e
def eN(f:FO):FI:=fun env=>(f env).bind fun p=>(Fn p.2 p.1).bind fun d=>match d with
 | .int j=>if -4611686018427387904<=j/\j<4611686018427387904 then .ok ((List.range j.toNat).map fun(k:Nat)=>D.int (k:Int),p.2) else .bad
 |_=>.bad
theorem kF{K:W.Frag}{G:Hp}(lo:Int)(n:Nat):Walk K G (LI lo n) ((List.range n).map fun(k:Nat)=>D.int (lo+(k:Int))):=by
 intro G' H' es vs fp gg rel i;refine⟨fun d hd=>?_,fun e=>?_⟩
 ·rw[List.getElem?_map]at hd;cases hc:(List.range n)[i]? with
  |none=>rw[hc]at hd;cases hd
  |some c=>
   rw[hc]at hd;cases hd;obtain⟨h1,h2⟩:=List.getElem?_eq_some_iff.mp hc;rw[OJ]at h1;rw[Qo]at h2;subst h2;refine⟨h1,fun x H2 ⟨e1,e2⟩=>?_⟩;subst e1;exact⟨G',by rw[e2];exact bq _,rel,.refl⟩
 ·rw[Om,OJ]at e;exact RO e.symm
theorem gT{a:Expr}{fa:FO}{p pos:Pos}(hg:Gl X "range")(hm:X.mg "range" = none)(ha:QO X a fa)(hs:starEach [a] X.env=[(false,eval a X.env)]:=by rfl):QI X tg (.Call (.Name "range" p) [a] [] pos) (eN fa):=
 iM (rB hg hm (ab ha ai hs) hs) fun σ H R Eo=>by
  obtain⟨G,env,fp,ds,env',rel,e,k⟩:=Eo;obtain⟨⟨o,Ec⟩,e1,e⟩:=aj e;obtain⟨d,e2,e⟩:=aj e;dsimp only at e;split at e
  ·rename_i j;split at e
   ·rename_i hj;cases e;refine⟨G,env,fp,[o],_,rel,by show(fa env).bind _=_;rw[e1];rfl,fun vs H1 G1 Eu Ep Ee Gs=>?_⟩;obtain⟨y,ys,ev,k1,k2⟩:=Gs;have k2:ys=[]:=k2;subst k2;have hv:=bc (Ee.vw k1 e2);subst hv;refine⟨j,ev,by lia,by lia,k _ H1 G1 Eu Ep Ee ?_⟩;have w:=kF (K:=X.K) (G:=G1) 0 j.toNat
    simpa using w
   ·cases e
  ·cases e
noncomputable def lz(fs:Fo):FI:=fun env=>(fs env).bind fun p=>(px p.2 p.1).bind fun d=>match d with
 |[.int i,.int j]=>if(-4611686018427387904<=i/\i<4611686018427387904)/\-4611686018427387904<=j/\j<4611686018427387904 then .ok ((List.range (j-i).toNat).map fun(k:Nat)=>D.int (i+(k:Int)),p.2) else .bad
 |_=>.bad
theorem sJ{a b:Expr}{fs:Fo}{p pos:Pos}(hg:Gl X "range")(hm:X.mg "range" = none)(ha:JO X [a,b] fs)(hs:starEach [a,b] X.env=[(false,eval a X.env),(false,eval b X.env)]:=by rfl)(IF:starEach [b] X.env=[(false,eval b X.env)]:=by rfl):
  QI X tg (.Call (.Name "range" p) [a,b] [] pos) (lz fs):=
 iM (rD hg hm ha hs IF) fun σ H R Eo=>by
  obtain⟨G,env,fp,ds,env',rel,e,k⟩:=Eo;obtain⟨⟨o,Ec⟩,e1,e⟩:=aj e;obtain⟨d,e2,e⟩:=aj e;dsimp only at e;split at e
  ·rename_i i j;split at e
   ·rename_i hj;cases e;refine⟨G,env,fp,o,_,rel,e1,fun vs H1 G1 Eu Ep Ee Gs=>?_⟩;obtain⟨y,ys,ev,v1,z,zs,Ly,v2,e3⟩:=Ee.vws Gs e2;have e3:zs=[]:=e3;subst e3;have h1:=bc v1;have h2:=bc v2;subst h1;subst h2;subst Ly;exact⟨i,j,ev,⟨by lia,by lia,by lia,by lia⟩,k _ H1 G1 Eu Ep Ee (kF i _)⟩
   ·cases e
  ·cases e
def gB(k:Bool):D->Res (List D)
 | .lst ds=>if k then .ok ds else .bad
 | .tup ds=>if k then .bad else .ok ds
 |_=>.bad
def kx(k1 k2:Bool)(fs:Fo):FI:=fun env=>(fs env).bind fun p=>match p.1 with
 |[.val d1,.val d2]=>(gB k1 d1).bind fun a=>(gB k2 d2).bind fun b=>.ok ((a.zip b).map fun z=>D.tup [z.1,z.2],p.2)
 |_=>.bad
theorem pG{K:W.Frag}{G:Hp}{k:Bool}{d:D}{ds:List D}{v:V}(e:gB k d=.ok ds)(r:Rep K G d v):∃p xs,v=.ref p/\(if k then SqL K G p xs else SqT K G p xs)/\Reps K G ds xs:=by
 cases d with
 |lst es=>
  cases k with
  |true=>
   cases e;obtain⟨p,xs,e1,q,rs⟩:=bB r;exact⟨p,xs,e1,q,rs⟩
  |false=>cases e
 |tup es=>
  cases k with
  |true=>cases e
  |false=>
   cases e;obtain⟨p,xs,e1,q,rs⟩:=bA r;exact⟨p,xs,e1,q,rs⟩
 |_=>cases e
theorem lA{K:W.Frag}{G G':Hp}{k:Bool}{p:Addr}{xs:List V}(h:Same G G')(r:if k then SqL K G p xs else SqT K G p xs):if k then SqL K G' p xs else SqT K G' p xs:=by
 cases k with
 |true=>exact gc h r
 |false=>exact bV h r
theorem vG{K:W.Frag}{G:Hp}{k1 k2:Bool}{p1 p2:Addr}{xs ys:List V}{as bs:List D}(s1:if k1 then SqL K G p1 xs else SqT K G p1 xs)(s2:if k2 then SqL K G p2 ys else SqT K G p2 ys)(r1:Reps K G as xs)(r2:Reps K G bs ys):
  Walk K G (Na K k1 k2 p1 p2) ((as.zip bs).map fun z=>D.tup [z.1,z.2]):=by
 intro G' H' es vs fp gg rel i;have g1:=lA (gg.trans rel.gh) s1;have g2:=lA (gg.trans rel.gh) s2;refine⟨fun d hd=>?_,fun e=>⟨xs,ys,g1,g2,?_⟩⟩
 ·rw[List.getElem?_map]at hd;cases hz:(as.zip bs)[i]? with
  |none=>rw[hz]at hd;cases hd
  |some z=>
   rw[hz]at hd;cases hd;obtain⟨h1,h2⟩:=List.getElem?_zip_eq_some.mp hz;obtain⟨x,hx,rx⟩:=r1.get h1;obtain⟨y,hy,ry⟩:=r2.get h2;refine⟨⟨xs,ys,x,y,g1,g2,hx,hy⟩,fun v H2 ⟨T,hT,ev,hh⟩=>?_⟩;have e2:=hh xs ys x y g1 g2 hx hy;subst e2;obtain⟨Ed,El⟩:=rel.newF (u:=.tup [x,y]) hT;refine⟨_,?_,Ed,El⟩;rw[Rep];exact⟨T,[x,y],ev,br,.cons (Rep.mono (gg.trans El.gg) rx) (.one (Rep.mono (gg.trans El.gg) ry))⟩
 ·rw[Om,List.length_zip]at e;rw[r1.length,r2.length];exact e
theorem pH(k1 k2:Bool){Je:List Expr}{kt:Nat}{pt:Pos}{e1 e2:Expr}{fs:Fo}{p pos:Pos}(hg:Gl X "zip")(hm:X.mg "zip" = none)(ha:JO X [e1,e2] fs)(he:starEach [e1,e2] X.env=(false,eval e1 X.env)::starEach [e2] X.env:=by rfl)(Gp:(backTo pos (starEach [e2] X.env)).any (·.1)=false:=by rfl):
  QI X (.Tuple Je kt pt) (.Call (.Name "zip" p) [e1,e2] [] pos) (kx k1 k2 fs):=
 iM (z7 k1 k2 hg hm ha he Gp) fun σ H R Eo=>by
  obtain⟨G,env,fp,ds,env',rel,e,k⟩:=Eo;obtain⟨⟨o,Ec⟩,e1,e⟩:=aj e;dsimp only at e;split at e
  ·rename_i d1 d2;obtain⟨a,ea,e⟩:=aj e;obtain⟨b,eb,e⟩:=aj e;cases e;refine⟨G,env,fp,_,_,rel,e1,fun vs H1 G1 Eu Ep Ee Gs=>?_⟩;obtain⟨y,ys,ev,v1,z,zs,Ly,v2,e3⟩:=Gs;have e3:zs=[]:=e3;subst e3;obtain⟨p1,xs1,ep1,q1,r1⟩:=pG ea v1;obtain⟨p2,Lz,ep2,q2,r2⟩:=pG eb v2;subst ep1;subst ep2;subst Ly;exact⟨p1,p2,xs1,Lz,ev,lA Ee.gh q1,lA Ee.gh q2,k _ H1 G1 Eu Ep Ee (vG q1 q2 r1 r2)⟩
  ·cases e
end
def fBody(np nn:Nat)(g:FS):List D->Res R:=fun ds=>if ds.length=np then(g (ds.map (fun d=>some (O.f,d))++List.replicate nn none)).bind fun o=>match o with
 | .rt r=>.ok r
 | .nx _=>.ok (.f,.non)
 |_=>.bad
 else .bad
theorem jH{K:W.Frag}{G H:Hp}(n:Nat):∀{ds:List D}{vs:List V},Reps K G ds vs->RepE K G H (ds.map (fun d=>some (O.f,d))++List.replicate n none) (vs.map some++List.replicate n none) []
 |[],vs,r=>by
  rw[Reps]at r;subst r;show RepE K G H (List.replicate n none) (List.replicate n none) [];induction n with
  |zero=>exact⟨rfl,rfl⟩
  |succ n ih=>exact⟨none,_,rfl,ih⟩
 |d::ds,vs,r=>by
  rw[Reps]at r;obtain⟨y,ys,e,r1,r2⟩:=r;subst e;exact⟨some y,_,rfl,y,[],[],rfl,rfl,fu.mpr ⟨r1,rfl⟩,jH n r2⟩
theorem cM{P:Program}{w:World}{K:W.Frag}{mg:Str->Option Value}{base:Heap}{x:Str}{st:Stmt}{N ps:List Str}{k:Nat}{g:FS}(Df:Def K mg x st)(sc:FnScope N ps (defScope st))
  (hb:∀(kV doc pm:Value) (an:Option Addr) (ED ct:Value) (us:List Value),us.length=ps.length->bindArgs (PySem.W.fnOf x x (ft st) (dy st) (defScope st) .none kV doc pm an ED ct) ⟨us,[]⟩=pure (ps.zip us))
  (body:∀(f:Addr) (ED:Value) (A:Around) (outer:List PySem.Env) (s:Shared) (H:Hp) (E:XK),Room k (A.deeper (envOfC x (defScope st) s.heap.objs.size f ED))->JC (md:=.plain) (wm Ja P w K mg base N x (defScope st) f ED A outer s H E).nox (dy st) g):
  Ct P w K mg base x (k+1) (spF K (fBody ps.length (N.length-ps.length) g)):=by
 obtain⟨f,fd,F,m⟩:=Df;refine⟨f,fd,ps,F.ok sc (fun vs H Q E h=>?_) (fun ED A outer s H vs Q E hr h=>?_),m,F.kp,F.binds hb⟩
 ·obtain⟨G,ds,r,_,rs,e,_⟩:=h;unfold fBody at e;split at e
  ·rename_i hl;rw[rs.length,hl]
  ·cases e
 ·obtain⟨G,ds,r,gh,rs,e,q⟩:=h;unfold fBody at e;split at e
  ·rename_i hl;refine⟨_,body f ED A outer s H E hr,G,ds.map (fun d=>some (O.f,d))++List.replicate (N.length-ps.length) none,[],⟨?_,P0,(fun _ h=>nomatch h),gh⟩,?_⟩
   ·have:=jH (K:=K) (G:=G) (H:=H) (N.length-ps.length) rs;unfold L2.start;rw[rs.length,hl];exact this
   ·obtain⟨o,eo,e⟩:=aj e;rw[eo];cases o with
    |rt r'=>
     cases e;exact fun v H' G' Eh st rel=>q v H' G' Eh st rel
    |nx env'=>
     cases e;exact fun σ' H' G' Eh st rel=>q .non H' G' [] (st.trans (Step.cut fun _ h=>nomatch h)) (rel.nilF.push gx)
    |bk env'=>cases e
    |ct env'=>cases e
  ·cases e
def dD(ix:List (Option Nat))(env:PV.Env):PV.Env:=ix.map fun j=>j.bind fun j=>match env[j]? with
 |some (some r)=>some (O.f,r.2)
 |_=>none
def mn:FT:=fun env=>.ok (true,env)
def fA(a:FG)(c:FT)(f:FX):List D->PV.Env->Res (List D)
 |[],_=>.ok []
 |d::ds,env=>(a d env).bind fun e=>(c e).bind fun p=>if p.1 then(f p.2).bind fun q=>(fA a c f ds q.2).bind fun rs=>.ok (q.1.2::rs) else fA a c f ds p.2
def i7(fi:FI)(ix:List (Option Nat))(a:FG)(c:FT)(f:FX):FX:=fun env=>(fi env).bind fun p=>(fA a c f p.1 (dD ix p.2)).bind fun ds=>if ds.length<=sizeLine then .ok ((.l .f,.lst ds),if flatDs ds then p.2 else p.2.map frz) else .bad
theorem lB:∀ds,ds.all (b9 .f)=flatDs ds
 |[]=>rfl
 |d::ds=>by rw[Q2,flatDs,lB ds,b9]
theorem fB{K:W.Frag}{G1 H:Hp}{es:PV.Env}{σ:L2.St}(ht:∀(i:Nat) (r:R) (v:V),es[i]?=some (some r)->σ[i]?=some (some v)->Rep K G1 r.2 v)(hv:∀(i:Nat) (r:R),es[i]?=some (some r)->∃v,σ[i]?=some (some v)):
  ∀ix:List (Option Nat),RepE K G1 H (dD ix es) (kB ix σ) []
 |[]=>⟨rfl,rfl⟩
 |none::ix=>⟨none,_,rfl,fB ht hv ix⟩
 |some j::ix=>by
  show RepE K G1 H ((match es[j]? with|some (some r)=>some (O.f,r.2)|_=>none)::dD ix es) ((σ[j]?).bind id::kB ix σ) [];cases e:es[j]? with
  |none=>exact⟨_,_,rfl,fB ht hv ix⟩
  |some r=>
   cases r with
   |none=>exact⟨_,_,rfl,fB ht hv ix⟩
   |some r=>
    obtain⟨v,ev⟩:=hv j r e;refine⟨_,_,rfl,v,[],[],?_,rfl,fu.mpr ⟨ht j r v e ev,rfl⟩,fB ht hv ix⟩;rw[ev];rfl
section
variable{md:Mode}{X:Cx}{scope:Scope}{N:List Str}{tg iter elt:Expr}{ifs:List Expr}{pos:Pos}{fi:FI}{a:FG}{c:FT}{f:FX}
def NU(X:Cx)(ifs:List Expr)(c:FT):Prop:=MH X ifs (tQT X.K c)
theorem eO:NU X [] mn:=fun py s σ H Q I Eo=>by
 obtain⟨G,env,fp,b,env',rel,e,k⟩:=Eo;cases e;exact xP py s σ H Q I (k H G fp .refl rel)
end
section
variable{X:Cx}
inductive rCatS(K:W.Frag)(x:V)(y:V)(H:Hp)(Q:VK):Prop
 |mk:∀l b xs zs,x=.ref l->y=.ref b->SqL K H l xs->SqL K H b zs->xs.length+zs.length<=sizeLine->(∀p,H p=none->Q (.ref p) (upd H p (.lst (xs++zs))))->rCatS K x y H Q
theorem ya:EK X (binaryOp .Add) (rCatS X.K):=by
 intro py s σ H x y v u Q I rx ry h;obtain⟨l,b,xs,zs,rfl,rfl,hH,hB,hz,q⟩:=h;cases rx;cases ry;obtain⟨Eg,r1,p1,_⟩:=I.list hH;obtain⟨II,r2,p2,_⟩:=I.list hB;have l1:=r1.length;have l2:=r2.length;obtain⟨⟨cls,dd,data,sl⟩,ho,hc,n,hd⟩:=id p1.isList;obtain⟨⟨Kz,IU,data2,IV⟩,Fs,IH,n2,hd2⟩:=id p2.isList;simp only at hc hd IH hd2;subst hc hd IH hd2;have e:Eg.toArray++II.toArray=(Eg++II).toArray:=by simp
 refine concat_meets ⟨_,ho,rfl⟩ ⟨_,Fs,rfl⟩ noFill_list_add seq_list_add PySem.F.slot_list_add PySem.F.entry_list_add (PySem.F.args_list_add_2 _ _) (list_addW l b Eg.toArray II.toArray n n2 dd IU sl IV (by rw[Ov,Ov];lia)) ⟨ho,Fs,?_⟩;rw[e];exact⟨.ref _,_,I.lnew (t':=s.toks) (r1.append r2) (by rw[OW];lia),rfl,q _ I.fresh⟩
end
noncomputable def addD:D->D->Res R
 | .int i,.int j=>.ok (.f,.int (i+j))
 | .str a,.str b=>if a.length+b.length<=sizeLine then .ok (.f,.str (a++b)) else .bad
 | .lst a,.lst b=>if a.length+b.length<=sizeLine then .ok (.l .f,.lst (a++b)) else .bad
 | .tup a,.tup b=>if a≠[]/\a.length+b.length<=sizeLine then .ok (.f,.tup (a++b)) else .bad
 |_,_=>.bad
section
variable{X:Cx}
theorem lC{K:W.Frag}{G H:Hp}{fp:List Addr}{es:PV.Env}{vs:L2.St}{ds:List D}{xs:List V}{p:Addr}(rel:Rel K G H es vs fp)(hp:H p=none)(r:Reps K G ds xs):
  ∃G',Rel K G' (upd H p (.tup xs)) (some (.f,.tup ds)::es) (some (.ref p)::vs) fp/\Step G H fp G' (upd H p (.tup xs)) fp:=by
 obtain⟨Ed,El⟩:=rel.newF (u:=.tup xs) hp;refine⟨_,Ed.push ?_,El⟩;rw[Rep];exact⟨p,xs,rfl,br,r.mono El.gg⟩
theorem bg:EK X (binaryOp .Add) (rG X.K addD):=by
 rintro py s σ H x y v u Q I rx ry ⟨G,fp,es,vs,a,b,r,⟨rel,k⟩,va,vb,e⟩;unfold addD at e;split at e
 ·rename_i i j;cases e;cases bc va;cases bc vb;exact zH py s σ H _ _ v u Q I rx ry ⟨i,j,rfl,rfl,k _ H G fp .refl (rel.push (bq _))⟩
 ·rename_i i j;split at e
  ·rename_i hl;cases e;obtain⟨e1,h1⟩:=dB va;obtain⟨e2,h2⟩:=dB vb;subst e1;subst e2;refine qk py s σ H _ _ v u Q I rx ry ⟨_,_,rfl,rfl,by rw[gu,gu];exact hl,?_⟩;rw[zX];exact k _ H G fp .refl (rel.push (dA (by rw[OW];exact hl)))
  ·cases e
 ·rename_i i j;split at e
  ·rename_i hl;cases e;obtain⟨p,xs,e1,h1,r1⟩:=va;obtain⟨p2,Lz,e2,h2,r2⟩:=vb;subst e1;subst e2;refine ya py s σ H _ _ v u Q I rx ry ⟨p,p2,xs,Lz,rfl,rfl,h1,h2,by rw[r1.length,r2.length];exact hl,fun q hq=>?_⟩;obtain⟨Ed,El⟩:=rel.newL hq (r1.app r2);exact k _ _ G _ El Ed
  ·cases e
 ·rename_i i j;split at e
  ·rename_i hl;cases e;obtain⟨p,xs,e1,h1,r1⟩:=iK va;obtain⟨p2,Lz,e2,h2,r2⟩:=iK vb;subst e1;subst e2;have hx:xs≠[]:=fun z=>hl.1 (Po (by rw[<-r1.length,z];rfl))
   refine xG py s σ H _ _ v u Q I rx ry ⟨p,p2,xs,Lz,rfl,rfl,bV rel.gh h1,bV rel.gh h2,hx,by rw[r1.length,r2.length];exact hl.2,fun z=>?_,fun z q hq=>?_⟩
   ·have:j=[]:=Po (by rw[<-r2.length,z];rfl);subst this;rw[OL]at k;exact k _ H G fp .refl (rel.push va)
   ·obtain⟨G',Ed,El⟩:=lC rel hq (r1.app r2);exact k _ _ G' _ El Ed
  ·cases e
 ·cases e
def zb:D->D->Res R
 | .int i,.int j=>.ok (.f,.int (i-j))
 |_,_=>.bad
theorem sL:EK X (binaryOp .Sub) (rG X.K zb):=by
 rintro py s σ H x y v u Q I rx ry ⟨G,fp,es,vs,a,b,r,⟨rel,k⟩,va,vb,e⟩;unfold zb at e;split at e
 ·rename_i i j;cases e;cases bc va;cases bc vb;exact zI py s σ H _ _ v u Q I rx ry ⟨i,j,rfl,rfl,k _ H G fp .refl (rel.push (bq _))⟩
 ·cases e
def dE(i:Int):Bool:=decide (-(2 ^ 64)<i/\i<2 ^ 64)
def Cp:D->D->Res R
 | .int i,.int j=>if dE i||dE j then .ok (.f,.int (i*j)) else .bad
 |_,_=>.bad
theorem Ae:EK X (binaryOp .Mult) (rG X.K Cp):=by
 rintro py s σ H x y v u Q I rx ry ⟨G,fp,es,vs,a,b,r,⟨rel,k⟩,va,vb,e⟩;unfold Cp at e;split at e
 ·rename_i i j;split at e
  ·rename_i hc;cases e;cases bc va;cases bc vb;have hc:CMul i j:=by
    rw[RQ]at hc;exact hc.imp QC QC
   exact zJ py s σ H _ _ v u Q I rx ry ⟨i,j,rfl,rfl,hc,k _ H G fp .refl (rel.push (bq _))⟩
  ·cases e
 ·cases e
def gU:D->D->Res R
 | .int i,.int j=>if 0<j/\j<1073741824 then .ok (.f,.int (i / j)) else .bad
 |_,_=>.bad
theorem ic:EK X (binaryOp .FloorDiv) (rG X.K gU):=by
 rintro py s σ H x y v u Q I rx ry ⟨G,fp,es,vs,a,b,r,⟨rel,k⟩,va,vb,e⟩;unfold gU at e;split at e
 ·rename_i i j;split at e
  ·rename_i hc;cases e;cases bc va;cases bc vb;exact xx py s σ H _ _ v u Q I rx ry ⟨i,j,rfl,rfl,hc,k _ H G fp .refl (rel.push (bq _))⟩
  ·cases e
 ·cases e
def fg:D->D->Res R
 | .int i,.int j=>if 0<j then .ok (.f,.int (i%j)) else .bad
 |_,_=>.bad
theorem cF:EK X (binaryOp .Mod) (rG X.K fg):=by
 rintro py s σ H x y v u Q I rx ry ⟨G,fp,es,vs,a,b,r,⟨rel,k⟩,va,vb,e⟩;unfold fg at e;split at e
 ·rename_i i j;split at e
  ·rename_i hc;cases e;cases bc va;cases bc vb;exact zL py s σ H _ _ v u Q I rx ry ⟨i,j,rfl,rfl,hc,k _ H G fp .refl (rel.push (bq _))⟩
  ·cases e
 ·cases e
def uM:D->D->Res R
 | .int i,.int j=>if 0<=j/\j<=1000000/\i.natAbs<2 ^ 64 then .ok (.f,.int (i ^ j.toNat)) else .bad
 |_,_=>.bad
theorem sM:EK X (binaryOp .Pow) (rG X.K uM):=by
 rintro py s σ H x y v u Q I rx ry ⟨G,fp,es,vs,a,b,r,⟨rel,k⟩,va,vb,e⟩;unfold uM at e;split at e
 ·rename_i i j;split at e
  ·rename_i hc;cases e;cases bc va;cases bc vb;exact zM py s σ H _ _ v u Q I rx ry ⟨i,j,rfl,rfl,hc,k _ H G fp .refl (rel.push (bq _))⟩
  ·cases e
 ·cases e
def Ls:D->D->Res R
 | .int i,.int j=>.ok (.f,.bl (decide (i<j)))
 | .str a,.str b=>.ok (.f,.bl (decide (a<b)))
 |_,_=>.bad
theorem Cq:EK X (compareOp .Lt) (rG X.K Ls):=by
 rintro py s σ H x y v u Q I rx ry ⟨G,fp,es,vs,a,b,r,⟨rel,k⟩,va,vb,e⟩;unfold Ls at e;split at e
 ·rename_i i j;cases e;cases bc va;cases bc vb;exact B2 py s σ H _ _ v u Q I rx ry ⟨i,j,rfl,rfl,k _ H G fp .refl (rel.push (cj _))⟩
 ·rename_i i j;cases e;obtain⟨e1,h1⟩:=dB va;obtain⟨e2,h2⟩:=dB vb;subst e1;subst e2;refine rF py s σ H _ _ v u Q I rx ry ⟨_,_,rfl,rfl,?_⟩;rw[cN,cN];exact k _ H G fp .refl (rel.push (cj _))
 ·cases e
def IW:D->D->Res R
 | .int i,.int j=>.ok (.f,.bl (decide (i<=j)))
 | .str a,.str b=>.ok (.f,.bl (!decide (b<a)))
 |_,_=>.bad
theorem mS:EK X (compareOp .LtE) (rG X.K IW):=by
 rintro py s σ H x y v u Q I rx ry ⟨G,fp,es,vs,a,b,r,⟨rel,k⟩,va,vb,e⟩;unfold IW at e;split at e
 ·rename_i i j;cases e;cases bc va;cases bc vb;exact L2.B3 py s σ H _ _ v u Q I rx ry ⟨i,j,rfl,rfl,k _ H G fp .refl (rel.push (cj _))⟩
 ·rename_i i j;cases e;obtain⟨e1,h1⟩:=dB va;obtain⟨e2,h2⟩:=dB vb;subst e1;subst e2;refine rW py s σ H _ _ v u Q I rx ry ⟨_,_,rfl,rfl,?_⟩;rw[cN,cN];exact k _ H G fp .refl (rel.push (cj _))
 ·cases e
def JQ:D->D->Res R
 | .int i,.int j=>.ok (.f,.bl (decide (j<i)))
 |_,_=>.bad
theorem qA:EK X (compareOp .Gt) (rG X.K JQ):=by
 rintro py s σ H x y v u Q I rx ry ⟨G,fp,es,vs,a,b,r,⟨rel,k⟩,va,vb,e⟩;unfold JQ at e;split at e
 ·rename_i i j;cases e;cases bc va;cases bc vb;exact B4 py s σ H _ _ v u Q I rx ry ⟨i,j,rfl,rfl,k _ H G fp .refl (rel.push (cj _))⟩
 ·cases e
def Nm:D->D->Res R
 | .int i,.int j=>.ok (.f,.bl (decide (j<=i)))
 |_,_=>.bad
theorem Cr:EK X (compareOp .GtE) (rG X.K Nm):=by
 rintro py s σ H x y v u Q I rx ry ⟨G,fp,es,vs,a,b,r,⟨rel,k⟩,va,vb,e⟩;unfold Nm at e;split at e
 ·rename_i i j;cases e;cases bc va;cases bc vb;exact B5 py s σ H _ _ v u Q I rx ry ⟨i,j,rfl,rfl,k _ H G fp .refl (rel.push (cj _))⟩
 ·cases e
end
abbrev FDs:=PV.Env->Res (List D×PV.Env)
inductive tDs(K:W.Frag)(f:FDs)(σ:L2.St)(H:Hp)(Q:List V->Hp->Prop):Prop
 |mk:∀G env fp ds env',Rel K G H env σ fp->f env=.ok (ds,env')->(∀vs H' G' Eh,Step G H fp G' H' Eh->Rel K G' H' env' σ Eh->Reps K G' ds vs->Q vs H')->tDs K f σ H Q
def L3(X:Cx)(es:List Expr)(f:FDs):Prop:=PA X es (tDs X.K f)
def bK:FDs:=fun env=>.ok ([],env)
def aA(f:FX)(g:FDs):FDs:=fun env=>(f env).bind fun p=>(g p.2).bind fun q=>.ok (p.1.2::q.1,q.2)
section
variable{X:Cx}
theorem aV:L3 X [] bK:=pA iG fun σ H Q Eo=>by
 obtain⟨G,env,fp,o,env',rel,e,k⟩:=Eo;cases e;exact k [] H G fp .refl rel .nil
theorem az{e:Expr}{es:List Expr}{f:FX}{g:FDs}(h:QE X e f)(hs:L3 X es g)(Hw:starEach (e::es) X.env=(false,eval e X.env)::starEach es X.env:=by rfl):L3 X (e::es) (aA f g):=
 pA (dZ h hs Hw) fun σ H Q Eo=>by
  obtain⟨G,env,fp,o,env',rel,e,k⟩:=Eo;obtain⟨⟨r,Ec⟩,e1,e⟩:=aj e;obtain⟨⟨ds,Es⟩,e2,e⟩:=aj e;cases e;refine⟨G,env,fp,r,Ec,rel,e1,fun v H1 G1 Eu Ep Ee=>?_⟩;obtain⟨G2,b,rv,Ed,El⟩:=Ee.freeze;exact⟨G2,Ec,b,ds,Es,Ed,e2,fun vs H3 G3 GZ ET EN rs=>k _ H3 G3 GZ (Ep.trans (El.trans ET)) EN (.cons (Rep.mono ET.gg rv) rs)⟩
def sN(fs:FDs):FX:=fun env=>(fs env).bind fun p=>if p.1.length<=1000 then .ok ((.f,.tup p.1),p.2) else .bad
def ie(fs:FDs):FX:=fun env=>(fs env).bind fun p=>if p.1.length<=1000 then .ok ((.l .f,.lst p.1),p.2) else .bad
variable{es:List Expr}{fs:FDs}{pos:Pos}
theorem jI{x1}(h:L3 X es fs):QE X (.Tuple es x1 pos) (sN fs):=bo (wg h) fun σ H Q Eo=>by
 obtain⟨G,env,fp,r,env',rel,e,k⟩:=Eo;obtain⟨⟨ds,Ec⟩,e1,e⟩:=aj e;dsimp only at e;split at e
 ·rename_i hl;cases e;refine⟨G,env,fp,ds,env',rel,e1,fun vs H1 G1 Eu Ep Ee rs=>⟨by rw[rs.length,line_eq];lia,fun p hp=>?_⟩⟩;obtain⟨G2,Ed,El⟩:=lC Ee hp rs;exact k _ _ G2 _ (Ep.trans El) Ed
 ·cases e
theorem cG(h:L3 X es fs):QE X (.List es pos) (ie fs):=bo (wj h) fun σ H Q Eo=>by
 obtain⟨G,env,fp,r,env',rel,e,k⟩:=Eo;obtain⟨⟨ds,Ec⟩,e1,e⟩:=aj e;dsimp only at e;split at e
 ·rename_i hl;cases e;refine⟨G,env,fp,ds,env',rel,e1,fun vs H1 G1 Eu Ep Ee rs=>⟨by rw[rs.length,line_eq];lia,fun p hp=>?_⟩⟩;obtain⟨Ed,El⟩:=Ee.newL hp rs;exact k _ _ G1 _ (Ep.trans El) Ed
 ·cases e
noncomputable def EG:D->D->Res R
 | .lst ds,.int i=>match Ft ds i with
  |some d=>.ok (.f,d)
  |none=>.bad
 | .tup ds,.int i=>match Ft ds i with
  |some d=>.ok (.f,d)
  |none=>.bad
 | .str l,.int i=>match Ft l i with
  |some c=>.ok (.f,.str [c])
  |none=>.bad
 |_,_=>.bad
theorem pI{K:W.Frag}{G:Hp}{ds:List D}{xs:List V}{i:Int}{d:D}(r:Reps K G ds xs)(e:Ft ds i=some d):∃v,Ft xs i=some v/\Rep K G d v:=by
 unfold Ft at e ⊢;rw[r.length];cases hn:ixN ds.length i with
 |none=>rw[hn]at e;cases e
 |some j=>
  rw[hn]at e;exact r.get e
theorem Cs:LO X (rG X.K EG):=by
 rintro value slice py s σ H x y v u Q I rx ry ⟨G,fp,es,vs,a,b,r,⟨rel,k⟩,va,vb,e⟩ hs;unfold EG at e;split at e
 ·rename_i ds i;split at e
  ·rename_i d hd;cases e;obtain⟨p,xs,ev,sq,rs⟩:=va;subst ev;cases bc vb;obtain⟨w',hw,KD⟩:=pI rs hd;exact rR value slice py s σ H _ _ v u Q I rx ry ⟨p,xs,i,w',rfl,rfl,sq,hw,k _ H G fp .refl (rel.push KD)⟩ hs
  ·cases e
 ·rename_i ds i;split at e
  ·rename_i d hd;cases e;obtain⟨p,xs,ev,sq,rs⟩:=iK va;subst ev;cases bc vb;obtain⟨w',hw,KD⟩:=pI rs hd;exact wq value slice py s σ H _ _ v u Q I rx ry ⟨p,xs,i,w',rfl,rfl,bV rel.gh sq,hw,k _ H G fp .refl (rel.push KD)⟩ hs
  ·cases e
 ·rename_i l i;split at e
  ·rename_i c hc;cases e;obtain⟨ev,hl⟩:=dB va;subst ev;cases bc vb;refine zS value slice py s σ H _ _ v u Q I rx ry ⟨_,i,c,rfl,rfl,by rw[gu];exact hl,by rw[cN];exact hc,?_⟩ hs;exact k _ H G fp .refl (rel.push (dA (l:=[c]) (by rw[line_eq];simp)))
  ·cases e
 ·cases e
variable{a b:Expr}{fa fb:FO}
theorem cf(ha:QO X a fa)(hb:QO X b fb)(hs:nX b:=by exact fun _ _=>rfl):QE X (.Subscript a b pos) (aE EG fa fb):=bo (xI Cs ha hb hs) fun _ _ _=>pC
abbrev FP:=PV.Env->Res (Option Int×PV.Env)
inductive tQP(K:W.Frag)(f:FP)(σ:L2.St)(H:Hp)(Q:Option Int->Hp->Prop):Prop
 |mk:∀G env fp i env',Rel K G H env σ fp->f env=.ok (i,env')->(∀H' G' Eh,Step G H fp G' H' Eh->Rel K G' H' env' σ Eh->Q i H')->tQP K f σ H Q
def QP(X:Cx)(e:Option Expr)(f:FP):Prop:=PO X e (tQP X.K f)
def de:FP:=fun env=>.ok (none,env)
def cV(f:FX):FP:=fun env=>(f env).bind fun p=>match p.1.2 with
 | .int i=>.ok (some i,p.2)
 |_=>.bad
theorem wJ{X:Cx}{e:Option Expr}{t t':TO}(h:PO X e t)(k:∀σ H Q,t' σ H Q->t σ H Q):PO X e t':=fun py s σ H Q I w=>h py s σ H Q I (k σ H Q w)
theorem cP:QP X none de:=wJ xE fun σ H Q Eo=>by
 obtain⟨G,env,fp,i,env',rel,e,k⟩:=Eo;cases e;exact k H G fp .refl rel
theorem cw{e:Expr}{f:FX}(h:QE X e f):QP X (some e) (cV f):=wJ (xF h) fun σ H Q Eo=>by
 obtain⟨G,env,fp,i,env',rel,e,k⟩:=Eo;obtain⟨⟨⟨o,d⟩,Ec⟩,e1,e⟩:=aj e;dsimp only at e;split at e
 ·rename_i j;cases e;refine⟨G,env,fp,_,_,rel,e1,fun v H1 G1 Eu Ep Ee=>?_⟩;have hv:=Ee.top;obtain⟨b,Ed,El⟩:=Ee.drop;exact⟨j,bz hv,k H1 G1 b (Ep.trans El) Ed⟩
 ·cases e
def ig{α:Type}(xs:List α)(lo hi:Option Int):List α:=(xs.drop (HT.sIx xs.length 0 lo)).take (HT.sIx xs.length xs.length hi-HT.sIx xs.length 0 lo)
noncomputable def LA(k:D)(lo hi:Option Int):Res R:=match k with
 | .lst ds=>.ok (.l .f,.lst (ig ds lo hi))
 | .tup ds=>if ¬ (HT.sIx ds.length 0 lo=0/\HT.sIx ds.length ds.length hi=ds.length) then .ok (.f,.tup (ig ds lo hi)) else .bad
 | .str l=>.ok (.f,.str (ig l lo hi))
 |_=>.bad
def eSl(fa:FO)(lo hi:FP):FX:=fun env=>(fa env).bind fun p=>(lo p.2).bind fun q=>(hi q.2).bind fun t=>(Fn t.2 p.1).bind fun d=>(LA d q.1 t.1).bind fun r=>.ok (r,t.2)
theorem pJ{K:W.Frag}{G:Hp}{ds:List D}{xs:List V}{lo hi:Option Int}(r:Reps K G ds xs):Reps K G (ig ds lo hi) (wo xs lo hi):=by
 unfold ig wo;rw[r.length];exact(r.drop _).take _
theorem yb{α:Type}(xs:List α)(lo hi:Option Int):(ig xs lo hi).length<=xs.length:=by
 unfold ig;rw[O3,Px];lia
inductive rSl(K:W.Frag)(x:V)(lo:Option Int)(hi:Option Int)(H:Hp)(Q:VK):Prop
 |mk:∀G fp es vs d r,Goes K H G fp es vs r Q->Vw K G H d x->LA d lo hi=.ok r->rSl K x lo hi H Q
theorem Af:KC X (rSl X.K):=by
 rintro py s σ H x v vl vu lo hi sl Q I rx hs pl pu ⟨G,fp,es,vs,d,r,⟨rel,k⟩,vd,e⟩;unfold LA at e;split at e
 ·rename_i ds;cases e;obtain⟨p,xs,ev,sq,rs⟩:=vd;subst ev;refine xJ py s σ H _ v vl vu lo hi sl Q I rx hs pl pu ⟨p,xs,rfl,sq,fun q hq=>?_⟩;obtain⟨Ed,El⟩:=rel.newL hq (pJ (lo:=lo) (hi:=hi) rs);exact k _ _ G _ El Ed
 ·rename_i ds;split at e
  ·rename_i hw;cases e;obtain⟨p,xs,ev,sq,rs⟩:=iK vd;subst ev;refine zR py s σ H _ v vl vu lo hi sl Q I rx hs pl pu ⟨p,xs,rfl,bV rel.gh sq,by rw[rs.length];exact hw,fun q hq=>?_⟩;obtain⟨G2,Ed,El⟩:=lC rel hq (pJ (lo:=lo) (hi:=hi) rs);exact k _ _ G2 _ El Ed
  ·cases e
 ·rename_i l;cases e;obtain⟨ev,hl⟩:=dB vd;subst ev;exact zY py s σ H _ v vl vu lo hi sl Q I rx hs pl pu ⟨l,rfl,hl,k _ H G fp .refl (rel.push (dA (l:=zW l lo hi) (Pc (yb l lo hi) hl)))⟩
 ·cases e
def lD(env:PV.Env)(i:Nat):Bool:=match env[i]? with
 |some (some (_,.lst _))=>true
 |_=>false
theorem lE{K:W.Frag}{G H:Hp}{es:PV.Env}{σ:L2.St}{fp:List Addr}{i:Nat}(rel:Rel K G H es σ fp)(h:lD es i=true):∃v,σ[i]?=some (some v)/\M7 K "list" v H:=by
 unfold lD at h;split at h
 ·rename_i o ds hr;obtain⟨v,ev,rv⟩:=rel.view hr;obtain⟨p,xs,e,sq,_⟩:=bB rv;subst e;exact⟨_,ev,.inl ⟨rfl,xs,sq⟩⟩
 ·cases h
def uN(i:Nat)(f:FX):FX:=fun env=>if lD env i then(f env).bind fun p=>match p.2[i]? with
 |some (some (.l .f,.lst ds))=>if ds.length<sizeLine then .ok ((.f,.non),p.2.set i (some (.l .f,.lst (ds++[p.1.2])))) else .bad
 |_=>.bad
 else .bad
theorem gW{i:Nat}{o e:Expr}{f:FX}{apos Er:Pos}(ho:PE X o (qh i))(he:QE X e f)
  (E2:attributeBase o "append" X.env (eval o X.env)=eval o X.env:=by rfl)
  (FN:((backTo Er (starEach [e] X.env)).all (fun x=>!x.1)&&(backToKw Er (keywordEach [] X.env)).all (fun x=>x.1.isSome)&&decide ([e].length+([]:List Keyword).length+(if([]:List Keyword).isEmpty then 0 else 1)<30))=true:=by rfl)
  (E3:(apos.endLine==Er.line)=true:=by rfl) (hs:starEach [e] X.env=(false,eval e X.env)::starEach [] X.env:=by rfl) (EL:(backTo Er (starEach [] X.env)).any (·.1)=false:=by rfl):
  QE X (.Call (.Attribute o "append" apos) [e] [] Er) (uN i f):=by
 refine bo (qo PX Qh Qi fm ho (az he aV hs) E2 FN E3 hs EL) fun σ H Q Ex=>?_
 obtain⟨G,env,fp,r,env',rel,e,k⟩:=Ex;unfold uN at e;split at e
 ·rename_i hil;obtain⟨v,ev,ty⟩:=lE rel hil;obtain⟨⟨r1,Ec⟩,e1,e⟩:=aj e;dsimp only at e;split at e
  ·rename_i ds Iq;split at e
   ·rename_i hl;cases e;refine⟨v,ev,ty,G,env,fp,[r1.2],Ec,rel,by show(f env).bind _=_;rw[e1];rfl,fun vs H1 G1 Eu Ep Ee rs=>?_⟩;rw[Reps]at rs;obtain⟨y,ys,L4,ry,rn⟩:=rs;rw[Reps]at rn;subst rn;obtain⟨p,xs,ep,hp,JF,cg⟩:=Ee.chg (ds':=ds++[r1.2]) Iq;rw[ev]at ep;cases ep;obtain⟨fq,Ed,El⟩:=cg (xs++[y]) (JF.app (.one ry));exact⟨p,xs,y,rfl,L4,hp,by rw[JF.length];exact hl,k _ _ G1 fq (Ep.trans El) (Ed.push gx)⟩
   ·cases e
  ·cases e
 ·cases e
def Cu:List D->Res R
 |[.lst ds]=>.ok (.f,.int ds.length)
 |[.tup ds]=>.ok (.f,.int ds.length)
 |[.str l]=>.ok (.f,.int l.length)
 |_=>.bad
theorem lF{K:W.Frag}{G H:Hp}{d:D}{xs:List V}(h:Lx K G H [d] xs):∃v,xs=[v]/\Vw K G H d v:=by
 obtain⟨y,ys,e,v1,e2⟩:=h;have e2:ys=[]:=e2;subst e2;exact⟨y,e,v1⟩
theorem DT{K:W.Frag}{G H:Hp}{d d':D}{xs:List V}(h:Lx K G H [d,d'] xs):∃v w,xs=[v,w]/\Vw K G H d v/\Vw K G H d' w:=by
 obtain⟨y,ys,e,v1,h2⟩:=h;obtain⟨z,e2,v2⟩:=lF h2;subst e2;exact⟨y,z,e,v1,v2⟩
theorem Ah:c5 X (.builtin "len") (rC X.K Cu):=by
 rintro py s σ H xs us Q I rx ⟨G,fp,es,vs,ds,r,⟨rel,k⟩,vd,e⟩;unfold Cu at e;split at e
 ·rename_i ds;cases e;obtain⟨v,ev,p,ys,ep,sq,rs⟩:=lF vd;subst ev;subst ep;refine iH py s σ H _ us Q I rx ⟨p,ys,rfl,.inl sq,?_⟩;rw[rs.length];exact k _ H G fp .refl (rel.push (bq _))
 ·rename_i ds;cases e;obtain⟨v,ev,vt⟩:=lF vd;obtain⟨p,ys,ep,sq,rs⟩:=iK vt;subst ev;subst ep;refine iH py s σ H _ us Q I rx ⟨p,ys,rfl,.inr (bV rel.gh sq),?_⟩;rw[rs.length];exact k _ H G fp .refl (rel.push (bq _))
 ·rename_i l;cases e;obtain⟨v,ev,vt⟩:=lF vd;obtain⟨ep,hl⟩:=dB vt;subst ev;subst ep;refine mC py s σ H _ us Q I rx ⟨S l,rfl,by rw[gu];exact hl,?_⟩;rw[gu];exact k _ H G fp .refl (rel.push (bq _))
 ·cases e
def qB:List D->Res R
 |[.lst ds]=>.ok (.l .f,.lst ds)
 |[.tup ds]=>.ok (.l .f,.lst ds)
 |_=>.bad
theorem sO:c5 X (.type "list") (rC X.K qB):=by
 rintro py s σ H xs us Q I rx ⟨G,fp,es,vs,ds,r,⟨rel,k⟩,vd,e⟩;unfold qB at e;split at e
 ·rename_i ds;cases e;obtain⟨v,ev,p,ys,ep,sq,rs⟩:=lF vd;subst ev;subst ep;refine iI py s σ H _ us Q I rx ⟨p,ys,rfl,.inl sq,fun q hq=>?_⟩;obtain⟨Ed,El⟩:=rel.newL hq rs;exact k _ _ G _ El Ed
 ·rename_i ds;cases e;obtain⟨v,ev,vt⟩:=lF vd;obtain⟨p,ys,ep,sq,rs⟩:=iK vt;subst ev;subst ep;refine iI py s σ H _ us Q I rx ⟨p,ys,rfl,.inr (bV rel.gh sq),fun q hq=>?_⟩;obtain⟨Ed,El⟩:=rel.newL hq rs;exact k _ _ G _ El Ed
 ·cases e
def kG:List D->Res R
 |[.lst ds]=>.ok (.f,.tup ds)
 |[.tup ds]=>.ok (.f,.tup ds)
 |_=>.bad
theorem lG:c5 X (.type "tuple") (rC X.K kG):=by
 rintro py s σ H xs us Q I rx ⟨G,fp,es,vs,ds,r,⟨rel,k⟩,vd,e⟩;unfold kG at e;split at e
 ·rename_i ds;cases e;obtain⟨v,ev,p,ys,ep,sq,rs⟩:=lF vd;subst ev;subst ep;refine gQ py s σ H _ us Q I rx ⟨p,ys,rfl,.inl ⟨sq,fun q hq=>?_⟩⟩;obtain⟨G2,Ed,El⟩:=lC rel hq rs;exact k _ _ G2 _ El Ed
 ·rename_i ds;cases e;obtain⟨v,ev,vt⟩:=lF vd;obtain⟨p,ys,ep,sq,rs⟩:=iK vt;subst ev;subst ep;exact gQ py s σ H _ us Q I rx ⟨p,ys,rfl,.inr ⟨bV rel.gh sq,k _ H G fp .refl (rel.push vt)⟩⟩
 ·cases e
def mT:List D->Option (List Bool)
 |[]=>some []
 | .bl b::ds=>(mT ds).map (b:: ·)
 |_=>none
def c8:List D->Option (List Int)
 |[]=>some []
 | .int b::ds=>(c8 ds).map (b:: ·)
 |_=>none
theorem kH{K:W.Frag}{G:Hp}:∀{ds:List D}{bs:List Bool}{xs:List V},mT ds=some bs->Reps K G ds xs->xs=bs.map V.bl
 |[],_,_,e,r=>by
  cases e;rw[Reps]at r;exact r
 | .bl b::ds,_,_,e,r=>by
  rw[mT,ON]at e;obtain⟨bs,e1,e2⟩:=e;subst e2;rw[Reps]at r;obtain⟨y,ys,e3,r1,r2⟩:=r;rw[e3,cD r1,kH e1 r2];rfl
 | .non::_,_,_,e,_ | .int _::_,_,_,e,_ | .str _::_,_,_,e,_ | .tup _::_,_,_,e,_ | .lst _::_,_,_,e,_ | .dct _ _ _::_,_,_,e,_=>by simp[mT]at e
theorem gC{K:W.Frag}{G:Hp}:∀{ds:List D}{bs:List Int}{xs:List V},c8 ds=some bs->Reps K G ds xs->xs=bs.map V.int
 |[],_,_,e,r=>by
  cases e;rw[Reps]at r;exact r
 | .int b::ds,_,_,e,r=>by
  rw[c8,ON]at e;obtain⟨bs,e1,e2⟩:=e;subst e2;rw[Reps]at r;obtain⟨y,ys,e3,r1,r2⟩:=r;rw[e3,bz r1,gC e1 r2];rfl
 | .non::_,_,_,e,_ | .bl _::_,_,_,e,_ | .str _::_,_,_,e,_ | .tup _::_,_,_,e,_ | .lst _::_,_,_,e,_ | .dct _ _ _::_,_,_,e,_=>by simp[c8]at e
theorem qC(ns:List Int):c8 (ns.map D.int)=some ns:=by
 induction ns with
 |nil=>rfl
 |cons n ns ih=>rw[OI,c8,ih];rfl
theorem sP(ns:List Bool):mT (ns.map D.bl)=some ns:=by
 induction ns with
 |nil=>rfl
 |cons n ns ih=>rw[OI,mT,ih];rfl
def pK:D->Option (List D)
 | .lst ds=>some ds
 | .tup ds=>some ds
 |_=>none
theorem sQ{K:W.Frag}{G H:Hp}{d:D}{ds:List D}{v:V}(gh:Same G H)(e:pK d=some ds)(h:Vw K G H d v):∃p xs,v=.ref p/\(SqL K H p xs\/SqT K H p xs)/\Reps K G ds xs:=by
 cases d with
 |lst es=>
  cases e;obtain⟨p,xs,ev,sq,rs⟩:=h;exact⟨p,xs,ev,.inl sq,rs⟩
 |tup es=>
  cases e;obtain⟨p,xs,ev,sq,rs⟩:=bA h;exact⟨p,xs,ev,.inr (bV gh sq),rs⟩
 |_=>cases e
def wK:List D->Res R
 |[d]=>match(pK d).bind mT with
  |some bs=>.ok (.f,.bl (bs.all id))
  |none=>.bad
 |_=>.bad
theorem vH(bs:List Bool):(bs.map V.bl).all Cd=true:=by
 rw[PJ,OM];intro b _;rfl
theorem yc(bs:List Bool):(bs.map V.bl).all z4=bs.all id:=by
 rw[PJ];rfl
theorem pL(hc:X.calm=true):c5 X (.builtin "all") (rC X.K wK):=by
 rintro py s σ H xs us Q I rx ⟨G,fp,es,vs,ds,r,⟨rel,k⟩,vd,e⟩;unfold wK at e;split at e
 ·rename_i d;split at e
  ·rename_i bs hb;cases e;obtain⟨l,hl,hb⟩:=PY.mp hb;obtain⟨v,ev,vt⟩:=lF vd;obtain⟨p,ys,ep,sq,rs⟩:=sQ rel.gh hl vt;have:=kH hb rs;subst this;subst ev;subst ep;refine vk hc py s σ H _ us Q I rx ⟨p,_,rfl,sq,vH bs,?_⟩;rw[yc];exact k _ H G fp .refl (rel.push (cj _))
  ·cases e
 ·cases e
def maxD:List D->Res R
 |[d]=>match(pK d).bind c8 with
  |some (n::ns)=>.ok (.f,.int (qq (n::ns)))
  |_=>.bad
 |[.int i,.int j]=>.ok (.f,.int (if i<j then j else i))
 |_=>.bad
theorem mU{K:W.Frag}{G H:Hp}{d:D}{ns:List Int}{v:V}(gh:Same G H)(hb:(pK d).bind c8=some ns)(vt:Vw K G H d v):∃p,v=.ref p/\(SqL K H p (ns.map V.int)\/SqT K H p (ns.map V.int)):=by
 obtain⟨l,hl,hb⟩:=PY.mp hb;obtain⟨p,ys,ep,sq,rs⟩:=sQ gh hl vt;have:=gC hb rs;subst this;exact⟨p,ep,sq⟩
end
mutual
noncomputable def Ej:D->D->Bool
 | .non,.non=>true
 | .bl a,.bl b=>a==b
 | .bl a,.int j=>(if a then 1 else 0)==j
 | .int i,.bl b=>i==(if b then 1 else 0)
 | .int i,.int j=>i==j
 | .str a,.str b=>a==b
 | .tup a,.tup b=>gD a b
 | .lst a,.lst b=>gD a b
 |_,_=>false
noncomputable def gD:List D->List D->Bool
 |[],[]=>true
 |a::as,b::bs=>Ej a b&&gD as bs
 |_,_=>false
end
mutual
noncomputable def plainD:Nat->D->Bool
 |n+1,.tup ds=>plainDs n ds
 |n+1,.lst ds=>plainDs n ds
 | 0,.tup _=>false
 | 0,.lst _=>false
 |_,.dct _ _ _=>false
 |_,_=>true
noncomputable def plainDs:Nat->List D->Bool
 |_,[]=>true
 |n,d::ds=>plainD n d&&plainDs n ds
end
theorem plainDs_mem:∀{n:Nat}{ds:List D},plainDs n ds=true->∀{i:Nat}{d:D},ds[i]?=some d->plainD n d=true
 |_,[],_,_,_,e=>by simp at e
 |n,a::ds,h,0,d,e=>by
  rw[plainDs,OG]at h;simp at e;rw[<-e];exact h.1
 |n,a::ds,h,i+1,d,e=>by
  rw[plainDs,OG]at h;exact plainDs_mem h.2 (i:=i) (by simpa using e)
theorem gX:∀{a b:List D},a.length≠b.length->gD a b=false
 |[],[],h=>absurd rfl h
 |[],_::_,_=>by simp only[gD]
 |_::_,[],_=>by simp only[gD]
 |x::xs,y::ys,h=>by
  rw[gD,gX (fun e=>h (by simp[e])),R9]
theorem eD:∀{a b:List D},a.length=b.length->(List.range a.length).all (fun j=>Ej (a.getD j .non) (b.getD j .non))=gD a b
 |[],[],_=>rfl
 |[],_::_,h=>by simp at h
 |_::_,[],h=>by simp at h
 |x::xs,y::ys,h=>by
  rw[gD,<-eD (a:=xs) (b:=ys) (by simpa using h),OC,List.range_succ_eq_map,Q2,PJ];rfl
section
variable{X:Cx}{py:List (Addr×Obj)}{σ:L2.St}{H:Hp}{s:Shared}
theorem jJ(I:Inv X py σ H s){p:Addr}{xs ys:List V}(h:SqL X.K H p xs)(h':SqT X.K H p ys):False:=by
 obtain⟨us,_,p1,_⟩:=I.list h;obtain⟨ws,_,p2,_⟩:=I.tuple h';exact SeqAt.ne_of_list_tuple p1.isList (show s.heap.IsTuple p ws.toArray from p2) rfl
mutual
theorem lH(I:Inv X py σ H s):∀(d e:D) (x:V) (n:Nat),plainD n d=true->Rep X.K H d x->Rep X.K H e x->d=e
 | .non,e,x,n,_,r,q=>by
  cases ck r;cases e with
  |non=>rfl
  |bl b=>cases cD q
  |int i=>cases bz q
  |str l=>cases(ba q).1
  |tup l=>obtain⟨p,xs,ev,_⟩:=bA q;cases ev
  |lst l=>obtain⟨p,xs,ev,_⟩:=bB q;cases ev
  |dct tk ks vs=>rw[Rep]at q;obtain⟨p,xs,o,ev,_⟩:=q;cases ev
 | .bl b,e,x,n,_,r,q=>by
  cases cD r;cases e with
  |non=>cases ck q
  |bl b=>cases cD q;rfl
  |int i=>cases bz q
  |str l=>cases(ba q).1
  |tup l=>obtain⟨p,xs,ev,_⟩:=bA q;cases ev
  |lst l=>obtain⟨p,xs,ev,_⟩:=bB q;cases ev
  |dct tk ks vs=>rw[Rep]at q;obtain⟨p,xs,o,ev,_⟩:=q;cases ev
 | .int i,e,x,n,_,r,q=>by
  cases bz r;cases e with
  |non=>cases ck q
  |bl b=>cases cD q
  |int i=>cases bz q;rfl
  |str l=>cases(ba q).1
  |tup l=>obtain⟨p,xs,ev,_⟩:=bA q;cases ev
  |lst l=>obtain⟨p,xs,ev,_⟩:=bB q;cases ev
  |dct tk ks vs=>rw[Rep]at q;obtain⟨p,xs,o,ev,_⟩:=q;cases ev
 | .str l,e,x,n,_,r,q=>by
  have hr:=(ba r).1;subst hr;cases e with
  |non=>cases ck q
  |bl b=>cases cD q
  |int i=>cases bz q
  |str l'=>
   have hq:=(ba q).1;injection hq with hq;rw[S_inj hq]
  |tup l=>obtain⟨p,xs,ev,_⟩:=bA q;cases ev
  |lst l=>obtain⟨p,xs,ev,_⟩:=bB q;cases ev
  |dct tk ks vs=>rw[Rep]at q;obtain⟨p,xs,o,ev,_⟩:=q;cases ev
 | .tup l,e,x,n,h,r,q=>by
  obtain⟨p,xs,ev,sq,rs⟩:=bA r;subst ev;cases e with
  |non=>cases ck q
  |bl b=>cases cD q
  |int i=>cases bz q
  |str l=>cases(ba q).1
  |tup l'=>
   obtain⟨p',Fu,FV,Fi,Ge⟩:=bA q;cases FV;have:=I.tuple_inj sq Fi;subst this;cases n with
   |zero=>simp only[plainD]at h;cases h
   |succ n=>
    simp only[plainD]at h;rw[lI I l l' xs n h rs Ge]
  |lst l'=>
   obtain⟨p',Fu,FV,Fi,Ge⟩:=bB q;cases FV;exact(jJ I Fi sq).elim
  |dct tk ks vs=>
   exfalso;rw[Rep]at q;obtain⟨p',Fu,o,FV,rd,dd,_⟩:=q;cases FV;obtain⟨Eg,_,ip,_⟩:=I.tuple sq;obtain⟨ob,ho,hc,_⟩:=ip;have L5:=rd.ok I.hok;cases tk with
   |true=>
    obtain⟨Ef,eo,_⟩:=dd;subst eo;obtain⟨_,_,_,_,o2,_,_,Fs,ex,_⟩:=L5;rw[ho]at Fs;cases Fs;rw[ex.1]at hc;exact absurd hc (by decide)
   |false=>
    obtain⟨Ef,eo,_⟩:=dd;subst eo;obtain⟨_,_,_,_,o2,_,_,Fs,ex,_⟩:=L5;rw[ho]at Fs;cases Fs;rw[ex.1]at hc;exact absurd hc (by decide)
 | .lst l,e,x,n,h,r,q=>by
  obtain⟨p,xs,ev,sq,rs⟩:=bB r;subst ev;cases e with
  |non=>cases ck q
  |bl b=>cases cD q
  |int i=>cases bz q
  |str l=>cases(ba q).1
  |tup l'=>
   obtain⟨p',Fu,FV,Fi,Ge⟩:=bA q;cases FV;exact(jJ I sq Fi).elim
  |lst l'=>
   obtain⟨p',Fu,FV,Fi,Ge⟩:=bB q;cases FV;have:=I.list_inj sq Fi;subst this;cases n with
   |zero=>simp only[plainD]at h;cases h
   |succ n=>
    simp only[plainD]at h;rw[lI I l l' xs n h rs Ge]
  |dct tk ks vs=>
   exfalso;rw[Rep]at q;obtain⟨p',Fu,o,FV,rd,dd,_⟩:=q;cases FV;obtain⟨Eg,_,ip,_⟩:=I.list sq;obtain⟨ob,_,ho,hc,_⟩:=ip;have L5:=rd.ok I.hok;cases tk with
   |true=>
    obtain⟨Ef,eo,_⟩:=dd;subst eo;obtain⟨_,_,_,_,o2,_,_,Fs,ex,_⟩:=L5;rw[ho]at Fs;cases Fs;rw[ex.1]at hc;exact absurd hc (by decide)
   |false=>
    obtain⟨Ef,eo,_⟩:=dd;subst eo;obtain⟨_,_,_,_,o2,_,_,Fs,ex,_⟩:=L5;rw[ho]at Fs;cases Fs;rw[ex.1]at hc;exact absurd hc (by decide)
 | .dct _ _ _,_,_,n,h,_,_=>by cases n <;> (simp only[plainD]at h;cases h)
theorem lI(I:Inv X py σ H s):∀(ds es:List D) (xs:List V) (n:Nat),plainDs n ds=true->Reps X.K H ds xs->Reps X.K H es xs->ds=es
 |[],es,xs,n,_,r,q=>by
  rw[Reps]at r;subst r;cases es with
  |nil=>rfl
  |cons e es=>
   rw[Reps]at q;obtain⟨y,ys,ev,_⟩:=q;cases ev
 |d::ds,es,xs,n,h,r,q=>by
  rw[Reps]at r;obtain⟨y,ys,ev,r1,r2⟩:=r;subst ev;rw[plainDs,OG]at h;cases es with
  |nil=>
   rw[Reps]at q;cases q
  |cons e es=>
   rw[Reps]at q;obtain⟨y',ys',ev,q1,q2⟩:=q;cases ev;rw[lH I d e y n h.1 r1 q1,lI I ds es ys n h.2 r2 q2]
end
mutual
theorem lJ:∀(d:D) (n:Nat),plainD n d=true->Ej d d=true
 | .non,_,_=>by simp only[Ej]
 | .bl _,_,_=>by simp only[Ej,O4]
 | .int _,_,_=>by simp only[Ej,O4]
 | .str _,_,_=>by simp only[Ej,O4]
 | .tup ds,0,h=>by simp only[plainD]at h;cases h
 | .tup ds,n+1,h=>by simp only[plainD]at h;simp only[Ej];exact jK ds n h
 | .lst ds,0,h=>by simp only[plainD]at h;cases h
 | .lst ds,n+1,h=>by simp only[plainD]at h;simp only[Ej];exact jK ds n h
 | .dct _ _ _,n,h=>by cases n <;> (simp only[plainD]at h;cases h)
theorem jK:∀(ds:List D) (n:Nat),plainDs n ds=true->gD ds ds=true
 |[],_,_=>by simp only[gD]
 |d::ds,n,h=>by
  rw[plainDs,OG]at h;rw[gD,lJ d n h.1,jK ds n h.2];rfl
end
open PySem.SeqAt
theorem bD{n:Nat}{tk:Bool}{ks vs:List D}(h:plainD n (.dct tk ks vs)=true):False:=by cases n <;> (simp only[plainD]at h;cases h)
mutual
theorem Ai(I:Inv X py σ H s):∀(d e:D) (x y:V) (v u:Value) (A:Around) (n:Nat),plainD n d=true->plainD n e=true->A.units+n<cLine->Rep X.K H d x->Rep X.K H e y->RelV x v->RelV y u->EqAt A s v u (Ej d e)
 | .non,e,x,y,v,u,A,n,h,h',hu,r,q,rx,ry=>by
  cases ck r;cases rx;cases e with
  |non=>cases ck q;cases ry;simp only[Ej];exact .same _
  |bl b=>cases cD q;cases ry;simp only[Ej];exact .none_bool _
  |int i=>cases bz q;obtain⟨t,rfl⟩:=ry;simp only[Ej];exact .none_int _ _
  |str l=>cases(ba q).1;obtain⟨t,rfl⟩:=ry;simp only[Ej];exact .none_str _ _
  |tup l=>obtain⟨p,xs,rfl,sq,_⟩:=bA q;cases ry;obtain⟨Eg,_,ip,_⟩:=I.tuple sq;simp only[Ej];exact .none_tuple (show s.heap.IsTuple p Eg.toArray from ip) (by lia)
  |lst l=>obtain⟨p,xs,rfl,sq,_⟩:=bB q;cases ry;obtain⟨Eg,_,ip,_⟩:=I.list sq;simp only[Ej];exact .none_list ip.isList (by lia)
  |dct tk ks vs=>exact(bD h').elim
 | .bl b,e,x,y,v,u,A,n,h,h',hu,r,q,rx,ry=>by
  cases cD r;cases rx;cases e with
  |non=>cases ck q;cases ry;simp only[Ej];exact .bool_none _
  |bl b=>cases cD q;cases ry;simp only[Ej];exact .bool_bool _ _
  |int i=>cases bz q;obtain⟨t,rfl⟩:=ry;simp only[Ej];exact .bool_int _ _ _
  |str l=>cases(ba q).1;obtain⟨t,rfl⟩:=ry;simp only[Ej];exact .bool_str _ _ _
  |tup l=>obtain⟨p,xs,rfl,sq,_⟩:=bA q;cases ry;obtain⟨Eg,_,ip,_⟩:=I.tuple sq;simp only[Ej];exact .bool_tuple _ (show s.heap.IsTuple p Eg.toArray from ip) (by lia)
  |lst l=>obtain⟨p,xs,rfl,sq,_⟩:=bB q;cases ry;obtain⟨Eg,_,ip,_⟩:=I.list sq;simp only[Ej];exact .bool_list _ ip.isList (by lia)
  |dct tk ks vs=>exact(bD h').elim
 | .int b,e,x,y,v,u,A,n,h,h',hu,r,q,rx,ry=>by
  cases bz r;obtain⟨t0,rfl⟩:=rx;cases e with
  |non=>cases ck q;cases ry;simp only[Ej];exact .int_none _ _
  |bl b=>cases cD q;cases ry;simp only[Ej];exact .int_bool _ _ _
  |int i=>cases bz q;obtain⟨t,rfl⟩:=ry;simp only[Ej];exact .int_int _ _ _ _
  |str l=>cases(ba q).1;obtain⟨t,rfl⟩:=ry;simp only[Ej];exact .int_str _ _ _ _
  |tup l=>obtain⟨p,xs,rfl,sq,_⟩:=bA q;cases ry;obtain⟨Eg,_,ip,_⟩:=I.tuple sq;simp only[Ej];exact .int_tuple _ _ (show s.heap.IsTuple p Eg.toArray from ip) (by lia)
  |lst l=>obtain⟨p,xs,rfl,sq,_⟩:=bB q;cases ry;obtain⟨Eg,_,ip,_⟩:=I.list sq;simp only[Ej];exact .int_list _ _ ip.isList (by lia)
  |dct tk ks vs=>exact(bD h').elim
 | .str b,e,x,y,v,u,A,n,h,h',hu,r,q,rx,ry=>by
  have hr:=(ba r).1;subst hr;obtain⟨t0,rfl⟩:=rx;cases e with
  |non=>cases ck q;cases ry;simp only[Ej];exact .str_none _ _
  |bl b=>cases cD q;cases ry;simp only[Ej];exact .str_bool _ _ _
  |int i=>cases bz q;obtain⟨t,rfl⟩:=ry;simp only[Ej];exact .str_int _ _ _ _
  |str l=>
   have hq:=(ba q).1;subst hq;obtain⟨t,rfl⟩:=ry;have e1:(b==l)=(S b==S l):=by
    rw[OQ,O6,O6];exact⟨fun z=>by rw[z],S_inj⟩
   simp only[Ej,e1];exact .str_str _ _ _ _
  |tup l=>obtain⟨p,xs,rfl,sq,_⟩:=bA q;cases ry;obtain⟨Eg,_,ip,_⟩:=I.tuple sq;simp only[Ej];exact .str_tuple _ _ (show s.heap.IsTuple p Eg.toArray from ip) (by lia)
  |lst l=>obtain⟨p,xs,rfl,sq,_⟩:=bB q;cases ry;obtain⟨Eg,_,ip,_⟩:=I.list sq;simp only[Ej];exact .str_list _ _ ip.isList (by lia)
  |dct tk ks vs=>exact(bD h').elim
 | .tup l,e,x,y,v,u,A,n,h,h',hu,r,q,rx,ry=>by
  have rr:=r;obtain⟨p,xs,ev,sq,rs⟩:=bA r;subst ev;cases rx;obtain⟨Eg,vl,ip,_⟩:=I.tuple sq;have ip:s.heap.IsTuple p Eg.toArray:=ip;cases e with
  |non=>cases ck q;cases ry;simp only[Ej];exact .tuple_none ip (by lia)
  |bl b=>cases cD q;cases ry;simp only[Ej];exact .tuple_bool _ ip (by lia)
  |int i=>cases bz q;obtain⟨t,rfl⟩:=ry;simp only[Ej];exact .tuple_int _ _ ip (by lia)
  |str l=>cases(ba q).1;obtain⟨t,rfl⟩:=ry;simp only[Ej];exact .tuple_str _ _ ip (by lia)
  |tup l'=>
   obtain⟨p',Fu,FV,Fi,Ge⟩:=bA q;subst FV;cases ry;by_cases hp:p=p'
   ·subst hp;have hz:=lH I _ _ _ n h rr q;rw[<-hz,lJ _ n h];exact .same _
   ·obtain⟨its',Jf,Fq,_⟩:=I.tuple Fi;have Fq:s.heap.IsTuple p' its'.toArray:=Fq;cases n with
    |zero=>simp only[plainD]at h;cases h
    |succ n=>
     simp only[plainD]at h h';have l1:=vl.length;have l2:=Jf.length;have l3:=rs.length;have l4:=Ge.length;have key:=RcAt.tuples (A:=A) (e:=fun j=>Ej (l.getD j .non) (l'.getD j .non)) ip Fq (by lia) fun j h1 h2=>by
      simp only[Ov]at h1 h2;have g1:l[j]?=some (l[j]'(by lia)):=List.getElem?_eq_getElem _;have g2:l'[j]?=some (l'[j]'(by lia)):=List.getElem?_eq_getElem _;obtain⟨w1,Jg,Jh⟩:=rs.get g1;obtain⟨w2,JR,JS⟩:=Ge.get g2;obtain⟨u1,Hy,Ji⟩:=vl.get Jg;obtain⟨u2,Iv,JT⟩:=Jf.get JR;have q1:Eg.toArray[j]=u1:=by rw[List.getElem?_eq_getElem h1]at Hy;simpa using Hy
      have q2:its'.toArray[j]=u2:=by rw[List.getElem?_eq_getElem h2]at Iv;simpa using Iv
      rw[q1,q2,List.getD_eq_getElem?_getD,List.getD_eq_getElem?_getD,g1,g2];exact mV I l j _ g1 _ w1 w2 u1 u2 A.in1 n (plainDs_mem h g1) (plainDs_mem h' g2) (by show A.units+1+n<cLine;lia) Jh JS Ji JT
     simp only[Ej];have fin:((List.range (min Eg.toArray.size its'.toArray.size)).all (fun j=>Ej (l.getD j .non) (l'.getD j .non))&&Eg.toArray.size==its'.toArray.size)=gD l l':=by
      simp only[Ov];by_cases hl:l.length=l'.length
      ·rw[<-eD hl,show min Eg.length its'.length=l.length by lia,show(Eg.length==its'.length)=true by rw[O6];lia,Bool.and_true]
      ·rw[gX hl,show(Eg.length==its'.length)=false by rw[O1];lia,R9]
     rw[<-fin];exact .of_refs hp key
  |lst l'=>obtain⟨p',Fu,FV,Fi,_⟩:=bB q;subst FV;cases ry;obtain⟨its',_,Fq,_⟩:=I.list Fi;simp only[Ej];exact .tuple_list ip Fq.isList (by lia)
  |dct tk ks vs=>exact(bD h').elim
 | .lst l,e,x,y,v,u,A,n,h,h',hu,r,q,rx,ry=>by
  have rr:=r;obtain⟨p,xs,ev,sq,rs⟩:=bB r;subst ev;cases rx;obtain⟨Eg,vl,ip,_⟩:=I.list sq;have ip:=ip.isList;cases e with
  |non=>cases ck q;cases ry;simp only[Ej];exact .list_none ip (by lia)
  |bl b=>cases cD q;cases ry;simp only[Ej];exact .list_bool _ ip (by lia)
  |int i=>cases bz q;obtain⟨t,rfl⟩:=ry;simp only[Ej];exact .list_int _ _ ip (by lia)
  |str l=>cases(ba q).1;obtain⟨t,rfl⟩:=ry;simp only[Ej];exact .list_str _ _ ip (by lia)
  |lst l'=>
   obtain⟨p',Fu,FV,Fi,Ge⟩:=bB q;subst FV;cases ry;by_cases hp:p=p'
   ·subst hp;have hz:=lH I _ _ _ n h rr q;rw[<-hz,lJ _ n h];exact .same _
   ·obtain⟨its',Jf,Fq,_⟩:=I.list Fi;have Fq:=Fq.isList;cases n with
    |zero=>simp only[plainD]at h;cases h
    |succ n=>
     simp only[plainD]at h h';have l1:=vl.length;have l2:=Jf.length;have l3:=rs.length;have l4:=Ge.length;simp only[Ej];by_cases hl:l.length=l'.length
     ·have key:=RcAt.lists (A:=A) (e:=fun j=>Ej (l.getD j .non) (l'.getD j .non)) ip Fq (by simp only[Ov];lia) (by lia) fun j h1 h2=>by
       simp only[Ov]at h1 h2;have g1:l[j]?=some (l[j]'(by lia)):=List.getElem?_eq_getElem _;have g2:l'[j]?=some (l'[j]'(by lia)):=List.getElem?_eq_getElem _;obtain⟨w1,Jg,Jh⟩:=rs.get g1;obtain⟨w2,JR,JS⟩:=Ge.get g2;obtain⟨u1,Hy,Ji⟩:=vl.get Jg;obtain⟨u2,Iv,JT⟩:=Jf.get JR;have q1:Eg.toArray[j]=u1:=by rw[List.getElem?_eq_getElem h1]at Hy;simpa using Hy
       have q2:its'.toArray[j]=u2:=by rw[List.getElem?_eq_getElem h2]at Iv;simpa using Iv
       rw[q1,q2,List.getD_eq_getElem?_getD,List.getD_eq_getElem?_getD,g1,g2];exact mV I l j _ g1 _ w1 w2 u1 u2 A.in1 n (plainDs_mem h g1) (plainDs_mem h' g2) (by show A.units+1+n<cLine;lia) Jh JS Ji JT
      rw[<-eD hl,show l.length=Eg.toArray.size by simp only[Ov];lia];exact .of_refs hp key
     ·rw[gX hl];exact .of_refs hp (RcAt.lists_lengths ip Fq (by simp only[Ov,TN];lia) (by lia))
  |tup l'=>obtain⟨p',Fu,FV,Fi,_⟩:=bA q;subst FV;cases ry;obtain⟨its',_,Fq,_⟩:=I.tuple Fi;simp only[Ej];exact .list_tuple ip (show s.heap.IsTuple p' its'.toArray from Fq) (by lia)
  |dct tk ks vs=>exact(bD h').elim
 | .dct _ _ _,_,_,_,_,_,_,n,h,_,_,_,_,_,_=>(bD h).elim
theorem mV(I:Inv X py σ H s):∀(ds:List D) (j:Nat) (d:D),ds[j]?=some d->∀(e:D) (x y:V) (v u:Value) (A:Around) (n:Nat),plainD n d=true->plainD n e=true->A.units+n<cLine->Rep X.K H d x->Rep X.K H e y->RelV x v->RelV y u->EqAt A s v u (Ej d e)
 |[],_,_,hj=>by simp at hj
 |d'::ds,0,d,hj=>by
  simp at hj;subst hj;exact Ai I d'
 |d'::ds,j+1,d,hj=>mV I ds j d (by simpa using hj)
end
end
section
variable{X:Cx}
def FW(a b:D):Res R:=if plainD 40 a&&plainD 40 b then .ok (.f,.bl (Ej a b)) else .bad
def GH(a b:D):Res R:=if plainD 40 a&&plainD 40 b then .ok (.f,.bl (!Ej a b)) else .bad
open PySem.SeqAt in
theorem Aj{py:List (Addr×Obj)}{σ:L2.St}{H:Hp}{s:Shared}(I:Inv X py σ H s){d e:D}{x y:V}{v u:Value}{A:Around}(h:plainD 40 d=true)(h':plainD 40 e=true)(hu:A.units+64<cLine)(r:Rep X.K H d x)(q:Rep X.K H e y)(rx:RelV x v)(ry:RelV y u):
  RcAt A s v u (Ej d e)/\RcNeAt A s v u (!Ej d e):=by
 cases d with
 |non=>
  cases ck r;cases rx;cases e with
  |non=>cases ck q;cases ry;simp only[Ej];exact⟨.none_none,.none_none⟩
  |bl b=>cases cD q;cases ry;simp only[Ej];exact⟨.none_bool _,.none_bool _⟩
  |int i=>cases bz q;obtain⟨t,rfl⟩:=ry;simp only[Ej];exact⟨.none_int _ _,.none_int _ _⟩
  |str l=>cases(ba q).1;obtain⟨t,rfl⟩:=ry;simp only[Ej];exact⟨.none_str _ _,.none_str _ _⟩
  |tup l=>obtain⟨p,xs,rfl,sq,_⟩:=bA q;cases ry;obtain⟨Eg,_,ip,_⟩:=I.tuple sq;simp only[Ej];exact⟨.none_tuple (show s.heap.IsTuple p Eg.toArray from ip) (by lia),.none_tuple (show s.heap.IsTuple p Eg.toArray from ip) (by lia)⟩
  |lst l=>obtain⟨p,xs,rfl,sq,_⟩:=bB q;cases ry;obtain⟨Eg,_,ip,_⟩:=I.list sq;simp only[Ej];exact⟨.none_list ip.isList (by lia),.none_list ip.isList (by lia)⟩
  |dct tk ks vs=>exact(bD h').elim
 |bl b=>
  cases cD r;cases rx;cases e with
  |non=>cases ck q;cases ry;simp only[Ej];exact⟨.bool_none _,.bool_none _⟩
  |bl b=>cases cD q;cases ry;simp only[Ej];exact⟨.bool_bool _ _,.bool_bool _ _⟩
  |int i=>cases bz q;obtain⟨t,rfl⟩:=ry;simp only[Ej];exact⟨.bool_int _ _ _,.bool_int _ _ _⟩
  |str l=>cases(ba q).1;obtain⟨t,rfl⟩:=ry;simp only[Ej];exact⟨.bool_str _ _ _,.bool_str _ _ _⟩
  |tup l=>obtain⟨p,xs,rfl,sq,_⟩:=bA q;cases ry;obtain⟨Eg,_,ip,_⟩:=I.tuple sq;simp only[Ej];exact⟨.bool_tuple _ (show s.heap.IsTuple p Eg.toArray from ip) (by lia),.bool_tuple _ (show s.heap.IsTuple p Eg.toArray from ip) (by lia)⟩
  |lst l=>obtain⟨p,xs,rfl,sq,_⟩:=bB q;cases ry;obtain⟨Eg,_,ip,_⟩:=I.list sq;simp only[Ej];exact⟨.bool_list _ ip.isList (by lia),.bool_list _ ip.isList (by lia)⟩
  |dct tk ks vs=>exact(bD h').elim
 |int b=>
  cases bz r;obtain⟨t0,rfl⟩:=rx;cases e with
  |non=>cases ck q;cases ry;simp only[Ej];exact⟨.int_none _ _,.int_none _ _⟩
  |bl b=>cases cD q;cases ry;simp only[Ej];exact⟨.int_bool _ _ _,.int_bool _ _ _⟩
  |int i=>cases bz q;obtain⟨t,rfl⟩:=ry;simp only[Ej];exact⟨.int_int _ _ _ _,.int_int _ _ _ _⟩
  |str l=>cases(ba q).1;obtain⟨t,rfl⟩:=ry;simp only[Ej];exact⟨.int_str _ _ _ _,.int_str _ _ _ _⟩
  |tup l=>obtain⟨p,xs,rfl,sq,_⟩:=bA q;cases ry;obtain⟨Eg,_,ip,_⟩:=I.tuple sq;simp only[Ej];exact⟨.int_tuple _ _ (show s.heap.IsTuple p Eg.toArray from ip) (by lia),.int_tuple _ _ (show s.heap.IsTuple p Eg.toArray from ip) (by lia)⟩
  |lst l=>obtain⟨p,xs,rfl,sq,_⟩:=bB q;cases ry;obtain⟨Eg,_,ip,_⟩:=I.list sq;simp only[Ej];exact⟨.int_list _ _ ip.isList (by lia),.int_list _ _ ip.isList (by lia)⟩
  |dct tk ks vs=>exact(bD h').elim
 |str b=>
  have hr:=(ba r).1;subst hr;obtain⟨t0,rfl⟩:=rx;cases e with
  |non=>cases ck q;cases ry;simp only[Ej];exact⟨.str_none _ _,.str_none _ _⟩
  |bl b=>cases cD q;cases ry;simp only[Ej];exact⟨.str_bool _ _ _,.str_bool _ _ _⟩
  |int i=>cases bz q;obtain⟨t,rfl⟩:=ry;simp only[Ej];exact⟨.str_int _ _ _ _,.str_int _ _ _ _⟩
  |str l=>
   have hq:=(ba q).1;subst hq;obtain⟨t,rfl⟩:=ry;have e1:(b==l)=(S b==S l):=by
    rw[OQ,O6,O6];exact⟨fun z=>by rw[z],S_inj⟩
   simp only[Ej,e1];exact⟨.str_str _ _ _ _,.str_str _ _ _ _⟩
  |tup l=>obtain⟨p,xs,rfl,sq,_⟩:=bA q;cases ry;obtain⟨Eg,_,ip,_⟩:=I.tuple sq;simp only[Ej];exact⟨.str_tuple _ _ (show s.heap.IsTuple p Eg.toArray from ip) (by lia),.str_tuple _ _ (show s.heap.IsTuple p Eg.toArray from ip) (by lia)⟩
  |lst l=>obtain⟨p,xs,rfl,sq,_⟩:=bB q;cases ry;obtain⟨Eg,_,ip,_⟩:=I.list sq;simp only[Ej];exact⟨.str_list _ _ ip.isList (by lia),.str_list _ _ ip.isList (by lia)⟩
  |dct tk ks vs=>exact(bD h').elim
 |tup l=>
  obtain⟨p,xs,ev,sq,rs⟩:=bA r;subst ev;cases rx;obtain⟨Eg,vl,ip,_⟩:=I.tuple sq;have ip:s.heap.IsTuple p Eg.toArray:=ip;cases e with
  |non=>cases ck q;cases ry;simp only[Ej];exact⟨.tuple_none ip (by lia),.tuple_none ip (by lia)⟩
  |bl b=>cases cD q;cases ry;simp only[Ej];exact⟨.tuple_bool _ ip (by lia),.tuple_bool _ ip (by lia)⟩
  |int i=>cases bz q;obtain⟨t,rfl⟩:=ry;simp only[Ej];exact⟨.tuple_int _ _ ip (by lia),.tuple_int _ _ ip (by lia)⟩
  |str l=>cases(ba q).1;obtain⟨t,rfl⟩:=ry;simp only[Ej];exact⟨.tuple_str _ _ ip (by lia),.tuple_str _ _ ip (by lia)⟩
  |tup l'=>
   obtain⟨p',Fu,FV,Fi,Ge⟩:=bA q;subst FV;cases ry;obtain⟨its',Jf,Fq,_⟩:=I.tuple Fi;have Fq:s.heap.IsTuple p' its'.toArray:=Fq;simp only[plainD]at h h';have l1:=vl.length;have l2:=Jf.length;have l3:=rs.length;have l4:=Ge.length;have el:∀j (h1:j<Eg.toArray.size) (h2:j<its'.toArray.size),EqAt A.in1 s Eg.toArray[j] its'.toArray[j] ((fun j=>Ej (l.getD j .non) (l'.getD j .non)) j):=fun j h1 h2=>by
    simp only[Ov]at h1 h2;have g1:l[j]?=some (l[j]'(by lia)):=List.getElem?_eq_getElem _;have g2:l'[j]?=some (l'[j]'(by lia)):=List.getElem?_eq_getElem _;obtain⟨w1,Jg,Jh⟩:=rs.get g1;obtain⟨w2,JR,JS⟩:=Ge.get g2;obtain⟨u1,Hy,Ji⟩:=vl.get Jg;obtain⟨u2,Iv,JT⟩:=Jf.get JR;have q1:Eg.toArray[j]=u1:=by rw[List.getElem?_eq_getElem h1]at Hy;simpa using Hy
    have q2:its'.toArray[j]=u2:=by rw[List.getElem?_eq_getElem h2]at Iv;simpa using Iv
    dsimp only;rw[q1,q2,List.getD_eq_getElem?_getD,List.getD_eq_getElem?_getD,g1,g2];exact mV I l j _ g1 _ w1 w2 u1 u2 A.in1 39 (plainDs_mem h g1) (plainDs_mem h' g2) (by show A.units+1+39<cLine;lia) Jh JS Ji JT
   simp only[Ej];have fin:((List.range (min Eg.toArray.size its'.toArray.size)).all (fun j=>Ej (l.getD j .non) (l'.getD j .non))&&Eg.toArray.size==its'.toArray.size)=gD l l':=by
    simp only[Ov];by_cases hl:l.length=l'.length
    ·rw[<-eD hl,show min Eg.length its'.length=l.length by lia,show(Eg.length==its'.length)=true by rw[O6];lia,Bool.and_true]
    ·rw[gX hl,show(Eg.length==its'.length)=false by rw[O1];lia,R9]
   rw[<-fin];exact⟨.tuples ip Fq (by lia) el,.tuples ip Fq (by lia) el⟩
  |lst l'=>obtain⟨p',Fu,FV,Fi,_⟩:=bB q;subst FV;cases ry;obtain⟨its',_,Fq,_⟩:=I.list Fi;simp only[Ej];exact⟨.tuple_list ip Fq.isList (by lia),.tuple_list ip Fq.isList (by lia)⟩
  |dct tk ks vs=>exact(bD h').elim
 |lst l=>
  obtain⟨p,xs,ev,sq,rs⟩:=bB r;subst ev;cases rx;obtain⟨Eg,vl,ip,_⟩:=I.list sq;have ip:=ip.isList;cases e with
  |non=>cases ck q;cases ry;simp only[Ej];exact⟨.list_none ip (by lia),.list_none ip (by lia)⟩
  |bl b=>cases cD q;cases ry;simp only[Ej];exact⟨.list_bool _ ip (by lia),.list_bool _ ip (by lia)⟩
  |int i=>cases bz q;obtain⟨t,rfl⟩:=ry;simp only[Ej];exact⟨.list_int _ _ ip (by lia),.list_int _ _ ip (by lia)⟩
  |str l=>cases(ba q).1;obtain⟨t,rfl⟩:=ry;simp only[Ej];exact⟨.list_str _ _ ip (by lia),.list_str _ _ ip (by lia)⟩
  |lst l'=>
   obtain⟨p',Fu,FV,Fi,Ge⟩:=bB q;subst FV;cases ry;obtain⟨its',Jf,Fq,_⟩:=I.list Fi;have Fq:=Fq.isList;simp only[plainD]at h h';have l1:=vl.length;have l2:=Jf.length;have l3:=rs.length;have l4:=Ge.length;simp only[Ej];by_cases hl:l.length=l'.length
   ·have el:∀j (h1:j<Eg.toArray.size) (h2:j<its'.toArray.size),EqAt A.in1 s Eg.toArray[j] its'.toArray[j] ((fun j=>Ej (l.getD j .non) (l'.getD j .non)) j):=fun j h1 h2=>by
     simp only[Ov]at h1 h2;have g1:l[j]?=some (l[j]'(by lia)):=List.getElem?_eq_getElem _;have g2:l'[j]?=some (l'[j]'(by lia)):=List.getElem?_eq_getElem _;obtain⟨w1,Jg,Jh⟩:=rs.get g1;obtain⟨w2,JR,JS⟩:=Ge.get g2;obtain⟨u1,Hy,Ji⟩:=vl.get Jg;obtain⟨u2,Iv,JT⟩:=Jf.get JR;have q1:Eg.toArray[j]=u1:=by rw[List.getElem?_eq_getElem h1]at Hy;simpa using Hy
     have q2:its'.toArray[j]=u2:=by rw[List.getElem?_eq_getElem h2]at Iv;simpa using Iv
     dsimp only;rw[q1,q2,List.getD_eq_getElem?_getD,List.getD_eq_getElem?_getD,g1,g2];exact mV I l j _ g1 _ w1 w2 u1 u2 A.in1 39 (plainDs_mem h g1) (plainDs_mem h' g2) (by show A.units+1+39<cLine;lia) Jh JS Ji JT
    rw[<-eD hl,show l.length=Eg.toArray.size by simp only[Ov];lia];exact⟨.lists ip Fq (by simp only[Ov];lia) (by lia) el,.lists ip Fq (by simp only[Ov];lia) (by lia) el⟩
   ·rw[gX hl];exact⟨.lists_lengths ip Fq (by simp only[Ov,TN];lia) (by lia),.lists_lengths ip Fq (by simp only[Ov,TN];lia) (by lia)⟩
  |tup l'=>obtain⟨p',Fu,FV,Fi,_⟩:=bA q;subst FV;cases ry;obtain⟨its',_,Fq,_⟩:=I.tuple Fi;simp only[Ej];exact⟨.list_tuple ip (show s.heap.IsTuple p' its'.toArray from Fq) (by lia),.list_tuple ip (show s.heap.IsTuple p' its'.toArray from Fq) (by lia)⟩
  |dct tk ks vs=>exact(bD h').elim
 |dct tk ks vs=>exact(bD h).elim
theorem gE(hu:X.A.units+64<cLine):EK X (compareOp .Eq) (rGA X.K FW):=by
 rintro py s σ H x y v u Q I rx ry ⟨G,fp,es,vs,a,b,r,⟨rel,k⟩,va,vb,e⟩;unfold FW at e;split at e
 ·rename_i hp;cases e;rw[OG]at hp;exact(Aj I hp.1 hp.2 hu va vb rx ry).1 _ _ _ _ ⟨.bl _,H,I,rfl,k _ H G fp .refl (rel.push (cj _))⟩
 ·cases e
theorem mW(hu:X.A.units+64<cLine):EK X (compareOp .NotEq) (rGA X.K GH):=by
 rintro py s σ H x y v u Q I rx ry ⟨G,fp,es,vs,a,b,r,⟨rel,k⟩,va,vb,e⟩;unfold GH at e;split at e
 ·rename_i hp;cases e;rw[OG]at hp;exact(Aj I hp.1 hp.2 hu va vb rx ry).2 _ _ _ _ ⟨.bl _,H,I,rfl,k _ H G fp .refl (rel.push (cj _))⟩
 ·cases e
def wL(a:D)(ds:List D):Bool:=ds.any fun d=>Ej d a
noncomputable def HY(a b:D):Res R:=match b with
 | .lst ds=>if plainD 40 a&&plainDs 40 ds then .ok (.f,.bl (wL a ds)) else .bad
 | .tup ds=>if plainD 40 a&&plainDs 40 ds then .ok (.f,.bl (wL a ds)) else .bad
 | .str l=>match a with
  | .str [c]=>.ok (.f,.bl (decide (c∈l)))
  |_=>.bad
 |_=>.bad
def zc(a b:D):Res R:=(HY a b).bind fun r=>match r.2 with
 | .bl k=>.ok (.f,.bl (!k))
 |_=>.bad
open PySem.SeqAt in
theorem pM{py:List (Addr×Obj)}{σ:L2.St}{H:Hp}{s:Shared}(I:Inv X py σ H s){a:D}{x:V}{v:Value}{A:Around}(h:plainD 40 a=true)(hu:A.units+64<cLine)(r:Rep X.K H a x)(rx:RelV x v):
  ∀(ds:List D) (xs:List V) (us:List Value),plainDs 40 ds=true->Reps X.K H ds xs->Vals xs us->∃e:Value->Bool,us.any e=wL a ds/\∀u∈us,EqAt A s u v (e u):=by
 classical
 intro ds xs us hp rs vl;refine⟨fun u=>decide (∃(j:Nat) (d:D),ds[j]?=some d/\us[j]?=some u/\Ej d a=true),?_,fun u hu'=>?_⟩
 ·rw[OQ,Qu];unfold wL;rw[Qu];constructor
  ·rintro⟨u,_,hd⟩;obtain⟨j,d,h1,_,h2⟩:=QC hd;exact⟨d,O2 h1,h2⟩
  ·rintro⟨d,hd,h2⟩;obtain⟨j,hj⟩:=PH.mp hd;obtain⟨w1,Jg,Jh⟩:=rs.get hj;obtain⟨u1,Hy,Ji⟩:=vl.get Jg;exact⟨u1,O2 Hy,OP ⟨j,d,hj,Hy,h2⟩⟩
 ·obtain⟨j,hj⟩:=PH.mp hu';have l1:=vl.length;have l2:=rs.length;have NV:=(List.getElem?_eq_some_iff.mp hj).1;have g1:ds[j]?=some (ds[j]'(by lia)):=List.getElem?_eq_getElem _;obtain⟨w1,Jg,Jh⟩:=rs.get g1;obtain⟨u1,Hy,Ji⟩:=vl.get Jg;rw[hj]at Hy;cases Hy;have z:=Ai I _ _ w1 x u v A 40 (plainDs_mem hp g1) h (by lia) Jh r Ji rx;have e:decide (∃(j:Nat) (d:D),ds[j]?=some d/\us[j]?=some u/\Ej d a=true)=Ej (ds[j]'(by lia)) a:=by
   rw[OQ,OE];constructor
   ·rintro⟨j2,d2,k1,k2,k3⟩;obtain⟨w2,JR,JS⟩:=rs.get k1;obtain⟨u2,Iv,JT⟩:=vl.get JR;rw[k2]at Iv;cases Iv;have:=Ji.inj JT;subst this;rw[lH I _ _ _ 40 (plainDs_mem hp g1) Jh JS];exact k3
   ·intro k3;exact⟨j,_,g1,hj,k3⟩
  show EqAt A s u v (decide (∃(j:Nat) (d:D),ds[j]?=some d/\us[j]?=some u/\Ej d a=true));rw[e];exact z
theorem mX(l:List Nat)(c:Nat):(!(Builtin.Str.occurrences (S l) (S [c]) 0 (S l).length 1).isEmpty)=decide (c∈l):=by
 have h:=PySem.StrLaws.found_one (S l) c;rw[cN]at h;exact h
theorem lK{e:Value->Bool}(us:List Value):us.toArray.any e=us.any e:=by simp
theorem yd(hu:X.A.units+65<cLine):EK X (compareOp .In) (rGA X.K HY):=by
 rintro py s σ H x y v u Q I rx ry ⟨G,fp,es,vs,a,b,r,⟨rel,k⟩,va,vb,e⟩;unfold HY at e;split at e
 ·rename_i ds;split at e
  ·rename_i hp;cases e;rw[OG]at hp;obtain⟨p,xs,ev,sq,rs⟩:=bB vb;subst ev;cases ry;obtain⟨Eg,vl,ip,_⟩:=I.list sq;obtain⟨ef,e1,e2⟩:=pM (A:=X.A.in1) I hp.1 (by show X.A.units+1+64<cLine;lia) va rx ds xs Eg hp.2 rs vl;refine SeqAt.in_listAt ef ip.isList (fun z hz=>e2 z (by simpa using hz)) ?_;rw[lK,e1];exact⟨.bl _,H,I,rfl,k _ H G fp .refl (rel.push (cj _))⟩
  ·cases e
 ·rename_i ds;split at e
  ·rename_i hp;cases e;rw[OG]at hp;obtain⟨p,xs,ev,sq,rs⟩:=bA vb;subst ev;cases ry;obtain⟨Eg,vl,ip,_⟩:=I.tuple sq;obtain⟨ef,e1,e2⟩:=pM (A:=X.A.in1) I hp.1 (by show X.A.units+1+64<cLine;lia) va rx ds xs Eg hp.2 rs vl;refine SeqAt.in_tupleAt ef (show s.heap.IsTuple p Eg.toArray from ip) (fun z hz=>e2 z (by simpa using hz)) ?_;rw[lK,e1];exact⟨.bl _,H,I,rfl,k _ H G fp .refl (rel.push (cj _))⟩
  ·cases e
 ·rename_i l;split at e
  ·rename_i c;cases e;obtain⟨e1,h1⟩:=ba va;obtain⟨e2,h2⟩:=ba vb;subst e1;subst e2;refine rH py s σ H _ _ v u Q I rx ry ⟨_,_,rfl,rfl,?_⟩;rw[mX];exact k _ H G fp .refl (rel.push (cj _))
  ·cases e
 ·cases e
theorem Ak(hu:X.A.units+65<cLine):EK X (compareOp .NotIn) (rGA X.K zc):=by
 rintro py s σ H x y v u Q I rx ry ⟨G,fp,es,vs,a,b,r,⟨rel,k⟩,va,vb,e⟩;unfold zc at e;obtain⟨r0,e0,e⟩:=aj e;unfold HY at e0;split at e0
 ·rename_i ds;split at e0
  ·rename_i hp;cases e0;cases e;rw[OG]at hp;obtain⟨p,xs,ev,sq,rs⟩:=bB vb;subst ev;cases ry;obtain⟨Eg,vl,ip,_⟩:=I.list sq;obtain⟨ef,e1,e2⟩:=pM (A:=X.A.in1) I hp.1 (by show X.A.units+1+64<cLine;lia) va rx ds xs Eg hp.2 rs vl;refine SeqAt.notIn_listAt ef ip.isList (fun z hz=>e2 z (by simpa using hz)) ?_;rw[lK,e1];exact⟨.bl _,H,I,rfl,k _ H G fp .refl (rel.push (cj _))⟩
  ·cases e0
 ·rename_i ds;split at e0
  ·rename_i hp;cases e0;cases e;rw[OG]at hp;obtain⟨p,xs,ev,sq,rs⟩:=bA vb;subst ev;cases ry;obtain⟨Eg,vl,ip,_⟩:=I.tuple sq;obtain⟨ef,e1,e2⟩:=pM (A:=X.A.in1) I hp.1 (by show X.A.units+1+64<cLine;lia) va rx ds xs Eg hp.2 rs vl;refine SeqAt.notIn_tupleAt ef (show s.heap.IsTuple p Eg.toArray from ip) (fun z hz=>e2 z (by simpa using hz)) ?_;rw[lK,e1];exact⟨.bl _,H,I,rfl,k _ H G fp .refl (rel.push (cj _))⟩
  ·cases e0
 ·rename_i l;split at e0
  ·rename_i c;cases e0;cases e;obtain⟨e1,h1⟩:=ba va;obtain⟨e2,h2⟩:=ba vb;subst e1;subst e2;refine mr py s σ H _ _ v u Q I rx ry ⟨_,_,rfl,rfl,?_⟩;rw[mX];exact k _ H G fp .refl (rel.push (cj _))
  ·cases e0
 ·cases e0
def isO(a b:D):Res R:=match b with
 | .bl k=>.ok (.f,.bl (match a with | .bl j=>j==k|_=>false))
 | .non=>.ok (.f,.bl (match a with | .non=>true|_=>false))
 |_=>.bad
def D3(a b:D):Res R:=(isO a b).bind fun r=>match r.2 with
 | .bl k=>.ok (.f,.bl (!k))
 |_=>.bad
end
section
variable{X:Cx}
theorem Al(hc:X.calm=true):c5 X (.builtin "max") (rC X.K maxD):=by
 rintro py s σ H xs us Q I rx ⟨G,fp,es,vs,ds,r,⟨rel,k⟩,vd,e⟩;unfold maxD at e;split at e
 ·rename_i d;split at e
  ·rename_i n ns hb;cases e;obtain⟨v,ev,vt⟩:=lF vd;obtain⟨p,ep,sq⟩:=mU rel.gh hb vt;subst ev;subst ep;exact r9 hc py s σ H _ us Q I rx ⟨p,n::ns,rfl,sq,by simp,k _ H G fp .refl (rel.push (bq _))⟩
  ·cases e
 ·rename_i i j;cases e;obtain⟨v,w',ev,v1,v2⟩:=DT vd;subst ev;cases bc v1;cases bc v2;obtain⟨u,u',rfl,⟨t,rfl⟩,t',rfl⟩:=xy rx;refine max_two_ints (I.ok.hd hc) fun h' tk kk=>?_
  have I2:Inv X py σ H {s with heap:=h',toks:=tk}:=I.kept kk;refine⟨.int (if i<j then j else i),H,I2,?_,k _ H G fp .refl (rel.push (bq _))⟩;by_cases JA:i<j
  ·rw[Ow JA,Ow (show j>i from JA)];exact⟨_,rfl⟩
  ·rw[OB JA,OB (show ¬ j>i from JA)];exact⟨_,rfl⟩
 ·cases e
def ye(f g:FX):FX:=fun env=>(f env).bind fun p=>(g p.2).bind fun q=>match(pK p.1.2).bind c8,q.1.2 with
 |some ns,.int d=>.ok ((.f,.int (NX.maxD ns d)),q.2)
 |_,_=>.bad
theorem yf{e k:Expr}{f g:FX}{p pos IG:Pos}(hc:X.calm=true)(hg:Gl X "max")(hm:X.mg "max" = none)(he:QE X e f)(hk:QE X k g)(hs:starEach [e] X.env=[(false,eval e X.env)]:=by rfl):
  QE X (.Call (.Name "max" p) [e] [⟨some "default",k,IG⟩] pos) (ye f g):=bo (xR hc hg hm he hk hs) fun σ H Q Eo=>by
 obtain⟨G,env,fp,r,env',rel,e,k⟩:=Eo;obtain⟨⟨r1,Ec⟩,e1,e⟩:=aj e;obtain⟨⟨r2,Es⟩,e2,e⟩:=aj e;dsimp only at e;split at e
 ·rename_i ns d I0 hd;cases e;refine⟨G,env,fp,r1,Ec,rel,e1,fun v H1 G1 Eu Ep Ee=>?_⟩;obtain⟨G2,b,rv,Ed,El⟩:=Ee.freeze;refine⟨G2,Ec,b,r2,_,Ed,e2,fun w' H3 G3 GZ ET EN=>?_⟩;have hw:=EN.top;obtain⟨b3,E1,FU⟩:=EN.drop;rw[hd]at hw;obtain⟨p',ep,sq⟩:=mU E1.gh I0 (Vw.of E1.gh (Rep.mono ET.gg rv));subst ep;exact⟨p',ns,d,rfl,by rw[bz hw],sq,k _ H3 G3 b3 (Ep.trans (El.trans (ET.trans FU))) (E1.push (bq _))⟩
 ·cases e
def vI:List D->Res R
 |[.bl b]=>.ok (.f,.int (if b then 1 else 0))
 |[.int i]=>.ok (.f,.int i)
 |_=>.bad
theorem sR:c5 X (.type "int") (rC X.K vI):=by
 rintro py s σ H xs us Q I rx ⟨G,fp,es,vs,ds,r,⟨rel,k⟩,vd,e⟩;unfold vI at e;split at e
 ·rename_i b;cases e;obtain⟨v,ev,v1⟩:=lF vd;subst ev;cases Co v1;obtain⟨u,rfl,ru⟩:=eJ rx;cases ru;exact call_int_bool ⟨.int _,H,I.tok _,⟨_,rfl⟩,k _ H G fp .refl (rel.push (bq _))⟩
 ·rename_i i;cases e;obtain⟨v,ev,v1⟩:=lF vd;subst ev;cases bc v1;obtain⟨u,rfl,t,rfl⟩:=eJ rx;first
   |exact So ⟨.int _,H,I.tok _,⟨_,rfl⟩,k _ H G fp .refl (rel.push (bq _))⟩
   |exact So ⟨.int _,H,I,⟨_,rfl⟩,k _ H G fp .refl (rel.push (bq _))⟩
 ·cases e
def oj:D->String
 | .non=>"NoneType"
 | .bl _=>"bool"
 | .int _=>"int"
 | .str _=>"str"
 | .tup _=>"tuple"
 | .lst _=>"list"
 | .dct _ _ _=>"dict"
def pN(T:String)(d:D):Bool:=oj d==T||(oj d == "bool" && T == "int")
def JG(T:String)(f:FO):FX:=fun env=>(f env).bind fun p=>(qz p.2 p.1).bind fun d=>.ok ((.f,.bl (pN T d)),p.2)
theorem Am(K:W.Frag)(d:D){T:String}(hT:T = "int"\/T = "bool"\/T = "str"\/T = "list"\/T = "tuple"\/T = "dict"):PySem.W.kitOne K (.type (oj d)) (.type T)=some (pN T d):=by
 rcases hT with rfl|rfl|rfl|rfl|rfl|rfl <;> cases d <;> (unfold PySem.W.kitOne PySem.W.kitCls PySem.W.subIn;kernel_rfl)
theorem vJ:c5 X (.builtin "isinstance") (fun xs H Q=>∃d x T,xs=[x,.ty T]/\Rep X.K H d x/\(T = "int"\/T = "bool"\/T = "str"\/T = "list"\/T = "tuple"\/T = "dict")/\Q (.bl (pN T d)) H):=by
 intro py s σ H xs us Q I r h;obtain⟨d,x,T,rfl,rd,hT,q⟩:=h;obtain⟨u,w',rfl,r1,r2⟩:=xy r;cases(show w'=Value.type T from r2);have e:=Am X.K d hT;have fin:∀tk,EP X py σ Q (.bool (pN T d)) {s with toks:=tk}:=fun tk=>⟨.bl (pN T d),H,I.tok tk,rfl,q⟩
 cases d with
 |non=>cases ck rd;cases(show u=Value.none from r1);exact P6 PySem.W.kitx_none I.kIn True.intro e (fun z=>nomatch z) fin
 |bl y=>cases cD rd;cases(show u=Value.bool y from r1);exact P6 PySem.W.kitx_bool I.kIn True.intro e (fun z=>nomatch z) fin
 |int i=>cases bz rd;obtain⟨t,z⟩:=(show ∃t,u=Value.int i t from r1);cases z;exact P6 PySem.W.kitx_int I.kIn True.intro e (fun z=>nomatch z) fin
 |str l=>
  have hr:=(ba rd).1;subst hr;obtain⟨t,z⟩:=(show ∃t,u=Value.str (S l) t from r1)
  cases z;exact P6 PySem.W.kitx_str I.kIn True.intro e (fun z=>nomatch z) fin
 |lst l=>
  obtain⟨p,xs,ev,sq,_⟩:=bB rd;subst ev;cases(show u=Value.ref p from r1);obtain⟨Eg,_,ip,_⟩:=I.list sq;obtain⟨o,ho,hc,_⟩:=ip.isList;exact P6 PySem.W.kitx_list I.kIn ⟨o,ho,hc⟩ e (fun z=>nomatch z) fin
 |tup l=>
  obtain⟨p,xs,ev,sq,_⟩:=bA rd;subst ev;cases(show u=Value.ref p from r1);obtain⟨Eg,_,ip,_⟩:=I.tuple sq;obtain⟨o,ho,hc,_⟩:=ip;exact P6 PySem.W.kitx_tuple I.kIn ⟨o,ho,hc⟩ e (fun z=>nomatch z) fin
 |dct tk ks vs=>
  rw[Rep]at rd;obtain⟨p,xs,o,ev,hr,dd,_⟩:=rd;subst ev;cases(show u=Value.ref p from r1);have ok:=hr.ok I.hok;cases tk with
  |true=>
   obtain⟨Ef,eo,_⟩:=dd;subst eo;obtain⟨_,_,_,_,o2,_,_,Fs,ex,_⟩:=ok;exact P6 PySem.W.kitx_dict I.kIn ⟨o2,Fs,ex.1⟩ e (fun z=>nomatch z) fin
  |false=>
   obtain⟨Ef,eo,_⟩:=dd;subst eo;obtain⟨_,_,_,_,o2,_,_,Fs,ex,_⟩:=ok;exact P6 PySem.W.kitx_dict I.kIn ⟨o2,Fs,ex.1⟩ e (fun z=>nomatch z) fin
theorem mY{T:String}{x:Str}{e:Expr}{f:FO}{p q pos:Pos}(hT:T = "int"\/T = "bool"\/T = "str"\/T = "list"\/T = "tuple"\/T = "dict")(he:QO X e f)(hg:Gl X "isinstance")(hm:X.mg "isinstance" = none)(hg2:Gl X x)(hm2:X.mg x=none)(hv2:bootBuiltins x=some (.type T))(hn:x≠"__name__":=by decide)(GJ:(x==("__debug__" : Str))=false:=by decide)
  (hs:starEach [e,.Name x q] X.env=(false,eval e X.env)::starEach [.Name x q] X.env:=by rfl) (IF:starEach [.Name x q] X.env=(false,eval (.Name x q) X.env)::starEach [] X.env:=by rfl) (Gp:(backTo pos (starEach [.Name x q] X.env)).any (·.1)=false:=by rfl):
  QE X (.Call (.Name "isinstance" p) [e,.Name x q] [] pos) (JG T f):=
 bo (o4 vJ hg hm k8 (dZ he (dZ (xp (v:=.ty T) hg2 hm2 hv2 rfl hn GJ) iG IF) hs) (by decide) (by decide) hs Gp) fun σ H Q Eo=>by
  obtain⟨G,env,fp,r,env',rel,e,k⟩:=Eo;obtain⟨⟨o,Ec⟩,e1,e⟩:=aj e;obtain⟨d,e2,e⟩:=aj e;cases e;exact⟨G,env,fp,o,_,rel,e1,fun v H1 G1 Eu Ep Ee Gs=>⟨d,v,T,rfl,Ee.vwA Gs e2,hT,k _ H1 G1 Eu Ep (Ee.push (cj _))⟩⟩
def FK{α:Type}(f g:PV.Env->Res α):PV.Env->Res α:=fun env=>match f env with
 | .ok a=>.ok a
 |_=>g env
theorem wM{α:Type}{f g:PV.Env->Res α}{env:PV.Env}{a:α}(h:FK f g env=.ok a):f env=.ok a\/g env=.ok a:=by
 unfold FK at h;split at h
 ·rename_i b hb;cases h;exact .inl hb
 ·exact .inr h
theorem sS{tg e:Expr}{f g:FI}(h:QI X tg e f)(h2:QI X tg e g):QI X tg e (FK f g):=fun py s σ H R I Eo=>by
 obtain⟨G,env,fp,ds,env',rel,ee,k⟩:=Eo;rcases wM ee with z|z
 ·exact h py s σ H R I ⟨G,env,fp,ds,env',rel,z,k⟩
 ·exact h2 py s σ H R I ⟨G,env,fp,ds,env',rel,z,k⟩
end
section
variable{α:Type}
def ins(lt:α->α->Bool)(x:α):List α->List α
 |[]=>[x]
 |y::ys=>if lt y x then y::ins lt x ys else x::y::ys
def bG(lt:α->α->Bool)(l:List α):List α:=l.foldr (ins lt) []
structure Ord(lt:α->α->Bool):Prop where
 irr:∀a,lt a a=false
 trans:∀a b c,lt a b=true->lt b c=true->lt a c=true
 tot:∀a b,lt a b=false->lt b a=false->a=b
theorem lM(lt:α->α->Bool)(x:α):∀l,(ins lt x l).Perm (x::l)
 |[]=>.refl _
 |y::ys=>by
  unfold ins;split
  ·exact(List.Perm.cons y (lM lt x ys)).trans (List.Perm.swap x y ys)
  ·exact .refl _
theorem dn(lt:α->α->Bool):∀l,(bG lt l).Perm l
 |[]=>.refl _
 |x::l=>(lM lt x _).trans (List.Perm.cons x (dn lt l))
theorem kI{lt:α->α->Bool}(o:Ord lt)(x:α):∀l:List α,l.Pairwise (fun a b=>lt b a=false)->(ins lt x l).Pairwise (fun a b=>lt b a=false)
 |[],_=>by simp[ins]
 |y::ys,h=>by
  rw[PM]at h;unfold ins;split
  ·rename_i hy;rw[PM];refine⟨fun z hz=>?_,kI o x ys h.2⟩;rcases Oz.mp ((lM lt x ys).mem_iff.mp hz) with rfl|hz
   ·cases e:lt z y with
    |false=>rfl
    |true=>
     have:=o.trans y z y hy e;rw[o.irr]at this;cases this
   ·exact h.1 z hz
  ·rename_i hy;have hy:lt y x=false:=by simpa using hy
   rw[PM,PM];refine⟨fun z hz=>?_,h⟩;rcases Oz.mp hz with rfl|LB
   ·exact hy
   ·cases e:lt z x with
    |false=>rfl
    |true=>
     exfalso;cases e2:lt x y with
     |true=>
      have:=o.trans z x y e e2;rw[h.1 z LB]at this;cases this
     |false=>
      have hxy:=o.tot x y e2 hy;rw[hxy,h.1 z LB]at e;cases e
theorem fC{lt:α->α->Bool}(o:Ord lt):∀l:List α,(bG lt l).Pairwise (fun a b=>lt b a=false)
 |[]=>.nil
 |x::l=>kI o x _ (fC o l)
theorem mZ{lt:α->α->Bool}(o:Ord lt):∀{a b:List α},a.Perm b->a.Pairwise (fun a b=>lt b a=false)->b.Pairwise (fun a b=>lt b a=false)->a=b
 |[],_,p,_,_=>p.nil_eq
 |x::xs,[],p,_,_=>absurd p.length_eq (by simp)
 |x::xs,y::ys,p,ha,hb=>by
  rw[PM]at ha hb;have hx:x∈y::ys:=p.mem_iff.mp Ol;have hy:y∈x::xs:=p.mem_iff.mpr Ol;have e:x=y:=by
   rcases Oz.mp hx with e|hx
   ·exact e
   ·rcases Oz.mp hy with e|hy
    ·exact e.symm
    ·exact o.tot x y (hb.1 x hx) (ha.1 y hy)
  subst e;rw[mZ o p.cons_inv ha.2 hb.2]
theorem gY{lt:α->α->Bool}(o:Ord lt){l ms:List α}(p:ms.Perm l)(h:ms.Pairwise (fun a b=>lt b a=false)):ms=bG lt l:=mZ o (p.trans (dn lt l).symm) h (fC o l)
end
def ltI(a b:Int):Bool:=decide (a<b)
def Fv(a b:List Nat):Bool:=decide (a<b)
theorem yg:Ord ltI:=⟨fun a=>by simp[ltI],fun a b c=>by simp only[ltI,OE];lia,fun a b=>by simp only[ltI,Pk];lia⟩
theorem lN:Ord Fv:=by
 refine⟨fun a=>?_,fun a b c h1 h2=>?_,fun a b h1 h2=>?_⟩
 ·unfold Fv;rw[Pk];exact List.lt_irrefl a
 ·unfold Fv at *;rw[OE] at *;exact List.lt_trans h1 h2
 ·unfold Fv at *;rw[Pk] at *;exact List.le_antisymm (Ry.mp h2) (Ry.mp h1)
theorem jL:Ord cZ:=⟨gw,f6,f7⟩
def cW:List D->Option (List (List Nat))
 |[]=>some []
 | .str b::ds=>(cW ds).map (b:: ·)
 |_=>none
def m5:D->Option Key
 | .int i=>some (.inl i)
 | .str l=>some (.inr (S l))
 |_=>none
def eP:List D->Option (List Key)
 |[]=>some []
 |d::ds=>(m5 d).bind fun k=>(eP ds).map (k:: ·)
def gF:D->Option (List Key)
 | .tup ds=>eP ds
 |_=>none
def gZ:List D->Option (List (List Key))
 |[]=>some []
 |d::ds=>(gF d).bind fun k=>(gZ ds).map (k:: ·)
def kT(k:List Key):D:=.tup (k.map kD)
section
variable{K:W.Frag}{G:Hp}
theorem jM:∀{ds:List D}{bs:List (List Nat)}{xs:List V},cW ds=some bs->Reps K G ds xs->xs=bs.map (fun l=>V.str (S l))/\∀l∈bs,l.length<=sizeLine
 |[],_,_,e,r=>by
  cases e;rw[Reps]at r;exact⟨r,fun _ h=>nomatch h⟩
 |d::ds,_,_,e,r=>by
  cases d with
  |str b=>
   rw[cW,ON]at e;obtain⟨bs,e1,e2⟩:=e;subst e2;rw[Reps]at r;obtain⟨y,ys,e3,r1,r2⟩:=r;obtain⟨h1,h2⟩:=jM e1 r2;obtain⟨h3,h4⟩:=ba r1;subst h3;refine⟨by rw[e3,h1];rfl,fun l hl=>?_⟩;rcases Oz.mp hl with rfl|hl
   ·exact h4
   ·exact h2 l hl
  |_=>simp[cW]at e
theorem kJ{d:D}{k:Key}{v:V}(e:m5 d=some k)(r:Rep K G d v):v=kV k/\d=kD k:=by
 cases d with
 |int i=>
  cases e;exact⟨bz r,rfl⟩
 |str l=>
  cases e;refine⟨(ba r).1,?_⟩;show D.str l=D.str (S l).cps.toList;rw[cN]
 |_=>cases e
theorem iN:∀{ds:List D}{ks:List Key}{xs:List V},eP ds=some ks->Reps K G ds xs->xs=ks.map kV/\ds=ks.map kD
 |[],_,_,e,r=>by
  cases e;rw[Reps]at r;exact⟨r,rfl⟩
 |d::ds,_,_,e,r=>by
  rw[eP,PY]at e;obtain⟨k,e1,e⟩:=e;rw[ON]at e;obtain⟨ks,e2,e3⟩:=e;subst e3;rw[Reps]at r;obtain⟨y,ys,e4,r1,r2⟩:=r;obtain⟨h1,h2⟩:=kJ e1 r1;obtain⟨h3,h4⟩:=iN e2 r2;rw[e4,h1,h2,h3,h4];exact⟨rfl,rfl⟩
theorem cQ{d:D}{ks:List Key}{v:V}(e:gF d=some ks)(r:Rep K G d v):∃p,v=.ref p/\G p=some (.tup (ks.map kV))/\d=kT ks:=by
 cases d with
 |tup ds=>
  obtain⟨p,xs,ev,g,rs⟩:=sy r;obtain⟨h1,h2⟩:=iN e rs;subst h1;exact⟨p,ev,g,by rw[h2];rfl⟩
 |_=>cases e
theorem jN:∀{ds:List D}{Gu:List (List Key)}{xs:List V},gZ ds=some Gu->Reps K G ds xs->∃al:List (Addr×List Key),xs=al.map (fun a=>V.ref a.1)/\Gu=al.map (·.2)/\ds=al.map (fun a=>kT a.2)/\∀a∈al,G a.1=some (.tup (a.2.map kV))/\Rep K G (kT a.2) (.ref a.1)
 |[],_,_,e,r=>by
  cases e;rw[Reps]at r;exact⟨[],r,rfl,rfl,fun _ h=>nomatch h⟩
 |d::ds,_,_,e,r=>by
  rw[gZ,PY]at e;obtain⟨k,e1,e⟩:=e;rw[ON]at e;obtain⟨ks,e2,e3⟩:=e;subst e3;rw[Reps]at r;obtain⟨y,ys,e4,r1,r2⟩:=r;obtain⟨p,h1,h2,h5⟩:=cQ e1 r1;obtain⟨al,h3,h4,h6,h7⟩:=jN e2 r2;subst h1;refine⟨(p,k)::al,by rw[e4,h3];rfl,by rw[h4];rfl,by rw[h5,h6];rfl,fun a ha=>?_⟩;rcases Oz.mp ha with rfl|ha
  ·exact⟨h2,by rw[<-h5];exact r1⟩
  ·exact h7 a ha
theorem eQ{α:Type}{f:α->D}{g:α->V}:∀{l:List α},(∀a∈l,Rep K G (f a) (g a))->Reps K G (l.map f) (l.map g)
 |[],_=>Reps.nil
 |a::l,h=>.cons (h a Ol) (eQ fun b hb=>h b (Ot _ hb))
end
def sameKinds(k:List Key)(Gu:List (List Key)):Bool:=!k.isEmpty&&Gu.all fun j=>kinds j==kinds k
noncomputable def lO(ds:List D):Option (List D):=match c8 ds with
 |some ns=>some ((bG ltI ns).map D.int)
 |none=>match cW ds with
  |some ls=>some ((bG Fv ls).map D.str)
  |none=>match gZ ds with
   |some (k::Gu)=>if sameKinds k Gu then some ((bG cZ (k::Gu)).map kT) else none
   |_=>none
noncomputable def cx:List D->Res R
 |[.lst ds]=>if ds.length<64 then match lO ds with
  |some l=>.ok (.l .f,.lst l)
  |none=>.bad
  else .bad
 |[.dct true ks _]=>if ks.length<64 then match ks,gZ ks with
  |[],_=>.ok (.l .f,.lst [])
  |_,some (k::Gu)=>if sameKinds k Gu then .ok (.l .f,.lst ((bG cZ (k::Gu)).map kT)) else .bad
  |_,_=>.bad
  else .bad
 |_=>.bad
theorem g0{k:List Key}{Gu:List (List Key)}(h:sameKinds k Gu=true):∃top t,∀j∈k::Gu,kinds j=top::t:=by
 unfold sameKinds at h;rw[OG,OM]at h;cases k with
 |nil=>simp at h
 |cons a k=>
  refine⟨a.isLeft,kinds k,fun j hj=>?_⟩;rcases Oz.mp hj with rfl|hj
  ·rfl
  ·exact O6.mp (h.2 j hj)
def iO(H G:Hp):Hp:=fun p=>match H p with
 |some (HO.tup xs)=>some (HO.tup xs)
 |_=>G p
theorem qD{H G:Hp}{p:Addr}{xs:List V}(e:H p=some (.tup xs)):iO H G p=some (.tup xs):=by
 unfold iO;rw[e]
theorem jO{H G:Hp}{p:Addr}{u:HO}(e:iO H G p=some u):G p=some u\/(Lw u=true/\H p=some u):=by
 unfold iO at e;split at e
 ·rename_i xs hx;cases e;exact .inr ⟨rfl,hx⟩
 ·exact .inl e
theorem sT{H G:Hp}(gh:Same G H):Same G (iO H G):=fun p u e=>by
 unfold iO;rw[gh p u e];cases u with
 |tup xs=>rfl
 |_=>exact e
theorem Rel.addT{K:W.Frag}{G H:Hp}{es:PV.Env}{vs:L2.St}{fp:List Addr}(q:Rel K G H es vs fp):∃G',Rel K G' H es vs fp/\Step G H fp G' H fp/\∀p xs,H p=some (.tup xs)->G' p=some (.tup xs):=by
 have gg:=sT q.gh;refine⟨iO H G,⟨q.rep.step gg fun _ _=>rfl,q.nd,fun p hp=>?_,fun p u e=>?_⟩,⟨gg,fun _ _ e _=>e,fun _ h=>.inl h,fun p u e=>(jO e).imp_right fun z=>.inr (.inr z),fun _ u e=>⟨u,e⟩⟩,fun p xs e=>qD e⟩
 ·cases e:iO H G p with
  |none=>rfl
  |some u=>
   exfalso;rcases jO e with z|⟨t,z⟩
   ·rw[q.gn p hp]at z;cases z
   ·obtain⟨u2,h2,hm⟩:=q.rep.mut p hp;rw[z]at h2;cases h2;cases u with
    |tup _=>cases hm
    |frz _ _=>cases hm
    |_=>cases t
 ·rcases jO e with z|z
  ·exact q.gh p u z
  ·exact z.2
theorem An{K:W.Frag}{G:Hp}{k:Key}(h:wD k):Rep K G (kD k) (kV k):=by
 cases k with
 |inl i=>exact bq i
 |inr x=>
  have:=dA (K:=K) (G:=G) (l:=x.cps.toList) h;rw[mE]at this;exact this
theorem Ao(k:Key):m5 (kD k)=some k:=by
 cases k with
 |inl i=>rfl
 |inr x=>
  show some (Sum.inr (S x.cps.toList))=_;rw[mE]
theorem jP:∀ks:List Key,eP (ks.map kD)=some ks
 |[]=>rfl
 |k::ks=>by
  rw[OI,eP,Ao,jP ks];rfl
theorem gf:∀Gu:List (List Key),gZ (Gu.map kT)=some Gu
 |[]=>rfl
 |k::Gu=>by
  rw[OI,gZ];show(eP (k.map kD)).bind _=_;rw[jP,gf Gu];rfl
section
variable{X:Cx}
theorem NW{α:Type}{lt:α->α->Bool}{p:α->α->Prop}(h:∀a b,p a b->lt b a=false){l:List α}(q:l.Pairwise p):l.Pairwise (fun a b=>lt b a=false):=q.imp (h _ _)
theorem fD(hc:X.calm=true):c5 X (.builtin "sorted") (rC X.K cx):=by
 rintro py s σ H xs us Q I rx ⟨G,fp,es,vs,ds,r,⟨rel,k⟩,vd,e⟩;unfold cx at e;split at e
 ·rename_i ds;split at e
  ·rename_i IL;split at e
   ·rename_i l hl;cases e;obtain⟨v,ev,p,ys,ep,sq,rs⟩:=lF vd;subst ev;subst ep;unfold lO at hl;split at hl
    ·rename_i ns I0;cases hl;have hy:=gC I0 rs;subst hy;have hlen:ns.length<64:=by have:=rs.length;rw[Om]at this;lia
     refine iX hc py s σ H _ us Q I rx ⟨p,ns,rfl,sq,hlen,fun q ms hq pm sm=>?_⟩;have em:=gY yg pm (NW (fun a b h=>by unfold ltI;rw[Pk];lia) sm);subst em;obtain⟨Ed,El⟩:=rel.newL hq (eQ (K:=X.K) (G:=G) (f:=D.int) (g:=V.int) fun a _=>bq a);exact k _ _ G _ El Ed
    ·split at hl
     ·rename_i ls hls;cases hl;obtain⟨hy,hz⟩:=jM hls rs;subst hy;have hlen:ls.length<64:=by have:=rs.length;rw[Om]at this;lia
      refine iY hc py s σ H _ us Q I rx ⟨p,ls,rfl,sq,hlen,fun q ms hq pm sm=>?_⟩;have em:=gY lN pm (NW (fun a b h=>by unfold Fv;rw[Pk];exact h) sm);obtain⟨Ed,El⟩:=rel.newL hq (eQ (K:=X.K) (G:=G) (f:=D.str) (g:=fun l=>V.str (S l)) (l:=ms) fun a ha=>dA (hz a (pm.mem_iff.mp ha)));rw[<-em]at k;exact k _ _ G _ El Ed
     ·split at hl
      ·rename_i kk Gu hk;split at hl
       ·rename_i hsk;cases hl;obtain⟨al,h1,h2,h3,h4⟩:=jN hk rs;obtain⟨top,t,Gv⟩:=g0 hsk;subst h1;have hlen:al.length<64:=by have:=rs.length;rw[Om]at this;lia
        refine iZ hc py s σ H _ us Q I rx ⟨p,al,top,t,rfl,sq,fun a ha=>⟨SqT.of (rel.gh _ _ (h4 a ha).1),Gv a.2 (by rw[h2];exact Py.mpr ⟨a,ha,rfl⟩)⟩,hlen,fun q ms hq pm sm=>?_⟩;have em:ms.map (·.2)=bG cZ (kk::Gu):=by
         rw[h2];refine gY jL (pm.map _) ?_;rw[Rp];exact sm
        obtain⟨Ed,El⟩:=rel.newL hq (eQ (K:=X.K) (G:=G) (f:=fun a:Addr×List Key=>kT a.2) (g:=fun a=>V.ref a.1) (l:=ms) fun a ha=>(h4 a (pm.mem_iff.mp ha)).2);have ek:ms.map (fun a=>kT a.2)=(bG cZ (kk::Gu)).map kT:=by rw[<-em,OU];rfl
        rw[ek]at Ed;exact k _ _ G _ El Ed
       ·cases hl
      ·cases hl
   ·cases e
  ·cases e
 ·rename_i ks vv;split at e
  ·rename_i IL;obtain⟨v,ev,vt⟩:=lF vd;obtain⟨p,ys,o,ep,rd,dd,rs⟩:=vt;subst ev;subst ep;obtain⟨Ef,eo,ek,ex,Jj⟩:=dd;subst eo;have ek:ks=(Ef.map (·.1)).map kT:=by rw[ek,OU];rfl
   have hlen:Ef.length<64:=by rw[ek,Om,Om]at IL;exact IL
   have go:∀(top:Bool) (t:List Bool),(∀kv∈Ef,kinds kv.1=top::t)->r=(.l .f,.lst ((bG cZ (Ef.map (·.1))).map kT))->wpAny (model X.prog X.w) X.A (call (.builtin "sorted") us) (EP X py σ Q) X.xe s:=fun top t Gv er=>by
    subst er;refine kq hc py s σ H _ us Q I rx ⟨p,Ef,top,t,rfl,rd,Gv,hlen,fun q ms hq hm pm sm=>?_⟩;have em:ms.map (·.2)=bG cZ (Ef.map (·.1)):=by
     refine gY jL pm ?_;rw[Rp];exact sm
    obtain⟨G2,Ed,El,ht⟩:=rel.addT;have Hx:∀a∈ms,Rep X.K G2 (kT a.2) (.ref a.1):=fun a ha=>by
     unfold kT;rw[Rep];refine⟨a.1,_,rfl,ht _ _ (hm a ha),?_⟩;refine eQ (f:=kD) (g:=kV) fun key hkey=>An ?_
     have:a.2∈Ef.map (·.1):=pm.mem_iff.mp (Py.mpr ⟨a,ha,rfl⟩);obtain⟨kv,HW,e2⟩:=Py.mp this;exact Jj kv HW key (by rw[e2];exact hkey)
    obtain⟨EN,ET⟩:=Ed.newL hq (eQ (K:=X.K) (G:=G2) (f:=fun a:Addr×List Key=>kT a.2) (g:=fun a=>V.ref a.1) (l:=ms) Hx);have ek:ms.map (fun a=>kT a.2)=(bG cZ (Ef.map (·.1))).map kT:=by rw[<-em,OU];rfl
    rw[ek]at EN;exact k _ _ G2 _ (El.trans ET) EN
   rw[ek,gf]at e;split at e
   ·rename_i hnil;cases e;have:Ef=[]:=by
     cases Ef with
     |nil=>rfl
     |cons a b=>cases hnil
    subst this;exact go true [] (fun _ h=>nomatch h) rfl
   ·rename_i kk Gu heq Hr;split at e
    ·rename_i hsk;cases e;obtain⟨top,t,Gv⟩:=g0 hsk;have heq:Ef.map (·.1)=kk::Gu:=by
      injection heq
     refine go top t (fun kv HW=>Gv kv.1 ?_) (by rw[heq]);rw[<-heq];exact Py.mpr ⟨kv,HW,rfl⟩
    ·cases e
   ·cases e
  ·cases e
 ·cases e
def GP(a b:D):Res R:=match gF a,gF b with
 |some ks,some js=>if kinds ks==kinds js then .ok (.f,.bl (cZ ks js)) else .bad
 |_,_=>Ls a b
def ML(a b:D):Res R:=match gF a,gF b with
 |some ks,some js=>if kinds ks==kinds js then .ok (.f,.bl (!cZ ks js)) else .bad
 |_,_=>match a,b with
  | .str a,.str b=>.ok (.f,.bl (!decide (a<b)))
  |a,b=>Nm a b
theorem jQ(hu:X.A.units<cLine):EK X (compareOp .Lt) (rG X.K GP):=by
 rintro py s σ H x y v u Q I rx ry ⟨G,fp,es,vs,a,b,r,⟨rel,k⟩,va,vb,e⟩;unfold GP at e;split at e
 ·rename_i ks js h1 h2;split at e
  ·rename_i hk;cases e;have ra:Rep X.K G a x:=by cases a <;> first|exact va|cases h1
   have rb:Rep X.K G b y:=by cases b <;> first|exact vb|cases h2
   obtain⟨p,e1,g1,_⟩:=cQ h1 ra;obtain⟨p2,e2,g2,_⟩:=cQ h2 rb;subst e1;subst e2;exact Ac hu py s σ H _ _ v u Q I rx ry ⟨p,p2,ks,js,rfl,rfl,SqT.of (rel.gh _ _ g1),SqT.of (rel.gh _ _ g2),O6.mp hk,k _ H G fp .refl (rel.push (cj _))⟩
  ·cases e
 ·exact Cq py s σ H x y v u Q I rx ry ⟨G,fp,es,vs,a,b,r,⟨rel,k⟩,va,vb,e⟩
theorem Ap(hu:X.A.units<cLine):EK X (compareOp .GtE) (rG X.K ML):=by
 rintro py s σ H x y v u Q I rx ry ⟨G,fp,es,vs,a,b,r,⟨rel,k⟩,va,vb,e⟩;unfold ML at e;split at e
 ·rename_i ks js h1 h2;split at e
  ·rename_i hk;cases e;have ra:Rep X.K G a x:=by cases a <;> first|exact va|cases h1
   have rb:Rep X.K G b y:=by cases b <;> first|exact vb|cases h2
   obtain⟨p,e1,g1,_⟩:=cQ h1 ra;obtain⟨p2,e2,g2,_⟩:=cQ h2 rb;subst e1;subst e2;exact Ad hu py s σ H _ _ v u Q I rx ry ⟨p,p2,ks,js,rfl,rfl,SqT.of (rel.gh _ _ g1),SqT.of (rel.gh _ _ g2),O6.mp hk,k _ H G fp .refl (rel.push (cj _))⟩
  ·cases e
 ·split at e
  ·rename_i l l';cases e;obtain⟨e1,h1⟩:=dB va;obtain⟨e2,h2⟩:=dB vb;subst e1;subst e2;obtain⟨t,rfl⟩:=rx;obtain⟨t',rfl⟩:=ry;refine PySem.P.ge_str ?_;rw[cN,cN];exact⟨.bl _,H,I,rfl,k _ H G fp .refl (rel.push (cj _))⟩
  ·exact Cr py s σ H x y v u Q I rx ry ⟨G,fp,es,vs,_,_,r,⟨rel,k⟩,va,vb,e⟩
end
def eNewD(tk:Bool):FX:=fun env=>.ok ((.d,.dct tk [] []),env)
section
variable{md:Mode}{X:Cx}
theorem Rel.newD{K:W.Frag}{G H:Hp}{es:PV.Env}{vs:L2.St}{fp:List Addr}{p:Addr}{u:HO}{tk:Bool}(q:Rel K G H es vs fp)(hp:H p=none)(h:DictO u tk [] []):
  Rel K G (upd H p u) (some (.d,.dct tk [] [])::es) (some (.ref p)::vs) (p::fp)/\Step G H fp G (upd H p u) (p::fp):=by
 have gp:G p=none:=by
  cases e:G p with
  |none=>rfl
  |some o=>rw[q.gh p o e]at hp;cases hp
 have np:p∉fp:=fun z=>by
  obtain⟨u,e⟩:=q.rep.live p z;rw[hp]at e;cases e
 have sh:Same H (upd H p u):=fun b o e=>by rw[aF (a7 e hp)];exact e
 refine⟨⟨⟨some (.ref p),vs,rfl,.ref p,[p],fp,rfl,rfl,?_,q.rep.step (.refl _) fun z hz=>aF fun e=>np (e▸hz)⟩,O5.mpr ⟨np,q.nd⟩,fun z hz=>?_,fun b o e=>?_⟩,
  ⟨.refl _,fun b o e _=>sh b o e,fun b hb=>?_,fun b o e=>.inl e,fun b o e=>⟨o,sh b o e⟩⟩⟩
 ·rw[RepO];exact⟨p,[],u,rfl,br,h,rfl,Reps.nil⟩
 ·rcases Oz.mp hz with rfl|hz
  ·exact gp
  ·exact q.gn z hz
 ·exact sh b o (q.gh b o e)
 ·rcases Oz.mp hb with rfl|hb
  ·exact .inr hp
  ·exact .inl hb
theorem yh{pos:Pos}:QE X (.Dict [] [] pos) (eNewD true):=bo vx fun σ H Q Eo p hp=>by
 obtain⟨G,env,fp,r,env',rel,e,k⟩:=Eo;cases e;obtain⟨Ed,El⟩:=rel.newD (tk:=true) (u:=.dT []) hp ⟨[],rfl,rfl,rfl,fun _ h=>nomatch h⟩;exact k _ _ G _ El Ed
def qE(ks vs:List D)(k v:D):List D×List D:=if ks.any (Ej k) then(ks,(ks.zip vs).map fun p=>if Ej k p.1 then v else p.2) else(ks++[k],vs++[v])
def i8(tk:Bool)(k:D):Bool:=if tk then(gF k).isSome else(m5 k).isSome
noncomputable def yi(i:Nat)(fk fv:FX):FS:=fun env=>(fv env).bind fun p=>(fk p.2).bind fun q=>match p.2[i]?,q.2[i]? with
 |some (some _),some (some (.d,.dct tk ks vs))=>if i8 tk q.1.2&&decide (ks.length<sizeLine) then .ok (.nx (q.2.set i (some (.d,.dct tk (qE ks vs q.1.2 p.1.2).1 (qE ks vs q.1.2 p.1.2).2)))) else .bad
 |_,_=>.bad
theorem wN(a b:Key):Ej (kD a) (kD b)=decide (a=b):=by
 cases a with
 |inl i=>
  cases b with
  |inl j=>simp only[kD,Ej];rw[OQ];simp
  |inr y=>simp only[kD,Ej];simp
 |inr x=>
  cases b with
  |inl j=>simp only[kD,Ej];simp
  |inr y=>
   simp only[kD,Ej];rw[OQ];simp only[O6,OE,Sum.inr.injEq];exact⟨fun h=>by rw[<-mE x,<-mE y,h],fun h=>by rw[h]⟩
theorem sU:∀a b:List Key,gD (a.map kD) (b.map kD)=decide (a=b)
 |[],[]=>by simp[gD]
 |[],_::_=>by simp[gD]
 |_::_,[]=>by simp[gD]
 |a::r,b::t=>by
  rw[OI,OI,gD,wN,sU r t,OQ];simp
theorem Aq(a b:List Key):Ej (kT a) (kT b)=decide (a=b):=by
 unfold kT;rw[Ej];exact sU a b
theorem m6{κ:Type}[DecidableEq κ]{K:W.Frag}{G:Hp}(f:κ->D)(hf:∀a b,Ej (f a) (f b)=decide (a=b)){Ef:List (κ×V)}{vs:List D}{k:κ}{v:D}{y:V}(r:Reps K G vs (Ef.map (·.2)))(ry:Rep K G v y):
  (ko Ef k y).map (fun kv=>f kv.1)=(qE (Ef.map fun kv=>f kv.1) vs (f k) v).1/\Reps K G (qE (Ef.map fun kv=>f kv.1) vs (f k) v).2 ((ko Ef k y).map (·.2)):=by
 have e:(Ef.map fun kv=>f kv.1).any (Ej (f k))=Ef.any fun kv=>decide (kv.1=k):=by
  rw[R0];congr 1
  funext kv
  show Ej (f k) (f kv.1)=_;rw[hf,OQ];simp only[OE];exact⟨fun z=>z.symm,fun z=>z.symm⟩
 unfold qE ko;rw[e];split
 ·refine⟨?_,?_⟩
  ·rw[OU];refine PD fun kv _=>?_
   show f (if kv.1=k then(kv.1,y) else kv).1=f kv.1;split <;> rfl
  ·rename_i hany;clear e hany;induction Ef generalizing vs with
   |nil=>
    have:vs=[]:=Po (by rw[<-r.length];rfl);subst this;exact Reps.nil
   |cons kv Ef ih=>
    cases vs with
    |nil=>have:=r.length;simp at this
    |cons d vs=>
     rw[OI,Reps.cons_iff]at r;rw[OI,Qn,OI,OI,OI];refine .cons ?_ (ih r.2);show Rep K G (if Ej (f k) (f kv.1)=true then v else d) (if kv.1=k then(kv.1,y) else kv).2;rw[hf];by_cases hk:kv.1=k
     ·rw[Ow (by simp[hk]),Ow hk];exact ry
     ·rw[OB (by simp;exact fun z=>hk z.symm),OB hk];exact r.1
 ·refine⟨?_,?_⟩
  ·rw[OT];rfl
  ·rw[OT];exact r.app (.one ry)
theorem Rel.chgD{K:W.Frag}{G H:Hp}{es:PV.Env}{vs:L2.St}{fp:List Addr}{i:Nat}{tk:Bool}{ks ws:List D}(q:Rel K G H es vs fp)(e:es[i]?=some (some (.d,.dct tk ks ws))):∃p xs u,vs[i]?=some (some (.ref p))/\H p=some u/\DictO u tk ks xs/\Reps K G ws xs/\
  ∀u' FJ Fu Lv,DictO u' tk FJ Fu->Reps K G Lv Fu->∃fq,Rel K G (upd H p u') (es.set i (some (.d,.dct tk FJ Lv))) vs fq/\Step G H fp G (upd H p u') fq:=by
 obtain⟨v,fq,ev,g,st,Gd⟩:=q.out e;obtain⟨y,ys,e0,v',a,b,e1,e2,r1,r2⟩:=g.rep;cases e0;cases e1;rw[RepO]at r1;obtain⟨p,xs,u,e3,hp,dd,e4,rs⟩:=r1;subst e3;subst e4;subst e2;have nd:=O5.mp (show(p::b).Nodup from g.nd);refine⟨p,xs,u,ev,hp,dd,rs,fun u' FJ Fu Lv Lu Ge=>?_⟩;have g2:Rel K G (upd H p u') (some (.d,.dct tk FJ Lv)::es.set i none) (some (.ref p)::vs) (p::b):=by
  refine⟨⟨some (.ref p),vs,rfl,.ref p,[p],b,rfl,rfl,?_,r2.step (.refl _) fun z hz=>aF fun e=>nd.1 (e▸hz)⟩,g.nd,g.gn,fun z o ez=>?_⟩
  ·rw[RepO];exact⟨p,Fu,u',rfl,br,Lu,rfl,Ge⟩
  ·have:z≠p:=fun w=>by
    subst w;rw[g.gn z Ol]at ez;cases ez
   rw[aF this];exact g.gh z o ez
 have KR:Step G H (p::b) G (upd H p u') (p::b):=by
  refine⟨.refl _,fun z o ez nz=>?_,fun z hz=>.inl hz,fun z o ez=>.inl ez,fun z o ez=>?_⟩
  ·have:z≠p:=fun w=>nz (by rw[w];exact Ol)
   rw[aF this];exact ez
  ·by_cases w:z=p
   ·subst w;exact⟨_,br⟩
   ·exact⟨o,by rw[aF w];exact ez⟩
 obtain⟨fz,g3,ET⟩:=g2.back (i:=i) (by rw[Qq];exact(List.getElem?_eq_some_iff.mp e).1) ev;rw[Qz]at g3;exact⟨fz,g3,st.trans (KR.trans ET)⟩
theorem wO{K:W.Frag}{G:Hp}{d:D}{k:Key}{v:V}(e:m5 d=some k)(r:Rep K G d v):wD k:=by
 cases d with
 |int i=>cases e;trivial
 |str l=>
  cases e;show(S l).cps.toList.length<=sizeLine;rw[cN];exact(ba r).2
 |_=>cases e
theorem sV{K:W.Frag}{G:Hp}:∀{ds:List D}{ks:List Key}{xs:List V},eP ds=some ks->Reps K G ds xs->∀k∈ks,wD k
 |[],_,_,e,_=>by
  cases e;exact fun _ h=>nomatch h
 |d::ds,_,_,e,r=>by
  rw[eP,PY]at e;obtain⟨k,e1,e⟩:=e;rw[ON]at e;obtain⟨ks,e2,e3⟩:=e;subst e3;rw[Reps]at r;obtain⟨y,ys,e4,r1,r2⟩:=r;intro z hz;rcases Oz.mp hz with rfl|hz
  ·exact wO e1 r1
  ·exact sV e2 r2 z hz
theorem pO{κ:Type}[DecidableEq κ]{P:κ->Prop}{Ef:List (κ×V)}{k:κ}{y:V}(h:∀kv∈Ef,P kv.1)(hk:P k):∀kv∈ko Ef k y,P kv.1:=by
 intro kv HW;unfold ko at HW;split at HW
 ·obtain⟨z,hz,e⟩:=Py.mp HW;rw[<-e];split
  ·exact h z hz
  ·exact h z hz
 ·rcases OK.mp HW with HW|HW
  ·exact h kv HW
  ·rw[Pb]at HW;rw[HW];exact hk
theorem wQ{i:Nat}{o ix value:Expr}{fk fv:FX}{pos pos':Pos}(hu:X.A.units+1<cLine)(ho:PE X o (qh i))(hi:QE X ix fk)(hv:QE X value fv)(hs:swapsWith value (some (.Subscript o ix pos')) pos.line X.env=pure false:=by rfl):
  QS (md:=md) X (.Assign [.Subscript o ix pos'] value pos) (yi i fk fv):=iJ (xY hu ho hi hv hs) fun Dd σ H Eo=>by
 obtain⟨G,env,fp,rel,k⟩:=Eo;unfold yi at k;match q1:fv env,k with
 | .ok (r1,Ec),k=>
  have k:OutOk X.K G H fp Dd ((fk Ec).bind fun q=>match Ec[i]?,q.2[i]? with
   |some (some _),some (some (.d,.dct tk ks vs))=>if i8 tk q.1.2&&decide (ks.length<sizeLine) then .ok (.nx (q.2.set i (some (.d,.dct tk (qE ks vs q.1.2 r1.2).1 (qE ks vs q.1.2 r1.2).2)))) else .bad
   |_,_=>.bad):=k
  match q2:fk Ec,k with
  | .ok (r2,Es),k=>
   have k:OutOk X.K G H fp Dd (match Ec[i]?,Es[i]? with
    |some (some _),some (some (.d,.dct tk ks vs))=>if i8 tk r2.2&&decide (ks.length<sizeLine) then .ok (.nx (Es.set i (some (.d,.dct tk (qE ks vs r2.2 r1.2).1 (qE ks vs r2.2 r1.2).2)))) else .bad
    |_,_=>.bad):=k
   split at k
   ·rename_i rr tk ks ws h1 h2;split at k
    ·rename_i hc;rw[OG,OE]at hc;refine⟨G,env,fp,r1,Ec,rel,q1,fun y H1 G1 Eu Ep Ee=>?_⟩;obtain⟨G2,b,ry,Ed,El⟩:=Ee.freeze;obtain⟨v0,NY,_⟩:=Ed.view h1;refine⟨v0,NY,G2,Ec,b,r2,Es,Ed,q2,fun z H3 G3 GZ ET EN=>?_⟩;obtain⟨G4,b4,rz,E1,FU⟩:=EN.freeze;obtain⟨p,xs,u,ep,hp,dd,rs,cg⟩:=E1.chgD h2;rw[NY]at ep;cases ep;have NZ:Rep X.K G4 r1.2 y:=Rep.mono (ET.gg.trans FU.gg) ry;cases tk with
     |true=>
      obtain⟨Ef,eu,ek,ex,Jj⟩:=dd;subst eu;subst ex;have hk:=hc.1;unfold i8 at hk;rw[Ow rfl,Qx]at hk;obtain⟨kk,hk⟩:=hk;obtain⟨pz,ez,gz,dz⟩:=cQ hk rz;subst ez;obtain⟨t1,t2⟩:=m6 (K:=X.K) (G:=G4) kT Aq (k:=kk) rs NZ;have ek:ks=Ef.map fun kv=>kT kv.1:=ek
      rw[<-ek,<-dz]at t1 t2;have hfk:∀key∈kk,wD key:=by
       cases hd:r2.2 with
       |tup ds=>
        rw[hd]at hk rz;obtain⟨_,Fu,_,_,Ge⟩:=sy rz;exact sV hk Ge
       |_=>rw[hd]at hk;cases hk
      obtain⟨fq,Fh,Gq⟩:=cg (.dT (ko Ef kk y)) _ _ _ ⟨ko Ef kk y,rfl,t1.symm,rfl,pO (P:=fun ks=>∀k∈ks,wD k) Jj hfk⟩ t2;have hlen:Ef.length<sizeLine:=by have:=hc.2;rw[ek,Om]at this;exact this
      exact⟨p,_,rfl,DPut.t hp (E1.gh _ _ gz) hlen,k _ _ G4 fq (Ep.trans (El.trans (ET.trans (FU.trans Gq)))) Fh⟩
     |false=>
      obtain⟨Ef,eu,ek,ex,Jj⟩:=dd;subst eu;subst ex;have hk:=hc.1;unfold i8 at hk;rw[OB Oy,Qx]at hk;obtain⟨kk,hk⟩:=hk;obtain⟨ez,dz⟩:=kJ hk rz;subst ez;obtain⟨t1,t2⟩:=m6 (K:=X.K) (G:=G4) kD wN (k:=kk) rs NZ;rw[<-ek,<-dz]at t1 t2;obtain⟨fq,Fh,Gq⟩:=cg (.dK (ko Ef kk y)) _ _ _ ⟨ko Ef kk y,rfl,t1.symm,rfl,pO (P:=wD) Jj (wO hk rz)⟩ t2;have hlen:Ef.length<sizeLine:=by have:=hc.2;rw[ek,Om]at this;exact this
      exact⟨p,_,rfl,DPut.k hp hlen,k _ _ G4 fq (Ep.trans (El.trans (ET.trans (FU.trans Gq)))) Fh⟩
    ·exact k.elim
   ·exact k.elim
end
end PV
namespace NX
open PySem PySem.Spec PyProof.Rows L2
section
variable{prog:Program}{w:World}{A:Around}{E:Value->Shared->Prop}{s:Shared}{d:Addr}{es:Array DictEntry}{ep:Nat}
theorem lP(nm:(d==sysModules)=false):MeetsIn prog w (Builtin.«dict.__len__» ⟨[.ref d],[]⟩) (fun _ R s=>RawD s.heap d es ep/\R (.ok (.ret (.int es.size s.toks))) {s with toks:=s.toks+1}):=
 .of_wp fun A R s Eo=>by
  obtain⟨⟨o,g,_,dat⟩,h⟩:=Eo;show wpAny _ _ (dictSize d >>= fun _=>_) _ _ s;unfold dictSize;refine Oj (Oj (QH g dat (Oq ?_)));show wpAny _ _ (Builtin.Dict.pendingCount d >>= fun _=>_) _ _ s;refine Oj (wpAny_pendingCount_other nm (wpAny_ret_mkInt ?_));rw[Nat.add_zero];exact h
theorem yj{Q:Value->Shared->Prop}(nm:(d==sysModules)=false)(x:RawD s.heap d es ep)(hf:(es.size:Int)<2 ^ 63)(h:Q (.int es.size (s.toks+1)) {s with toks:=s.toks+1+1}):wpAny (model prog w) A (call (.builtin "len") [.ref d]) Q E s:=by
 have ty:=jj x;refine Qs kind_len plain_len entry_len (args_len1 _) ?_;unfold Builtin.«len»;refine Oj (m:=oneArg "len" _) (Oq (Oj (m:=callSpecial? (.ref d) (Str.ofString "__len__")) (wpAny_callSpecial?_slot (name:=Str.ofString "__len__") ty F.slot_dict_len
  (call_meetsIn F.slot_dict_len ty F.entry_dict_len (F.args_dict_len_1 _) (lP (es:=es) (ep:=ep) nm) ⟨x,?_⟩))))
 show wpAny _ _ _ _ _ {s with toks:=s.toks+1};refine Oj (Qc (Oq (Oj (Qv ?_))));show wpAny _ _ (if((es.size:Nat):Int)<0 then _ else _) _ _ _;rw[OB (Int.not_lt.mpr (Int.natCast_nonneg _))];show wpAny _ _ (if((es.size:Nat):Int)>=2 ^ 63 then _ else _) _ _ _;rw[OB (Int.not_le.mpr hf)];exact Oj (wpAny_mkInt (Oq ⟨_,rfl,h⟩))
end
end NX
namespace PV
open PySem PySem.Spec PyProof.Rows L2 NX
section
variable{X:Cx}
def eR:List D->Res R
 |[.dct _ ks _]=>.ok (.f,.int ks.length)
 |ds=>Cu ds
theorem Ar{py:List (Addr×Obj)}{σ:L2.St}{H:Hp}{s:Shared}(I:Inv X py σ H s){p:Addr}{o:HO}{tk:Bool}{ks:List D}{xs:List V}(rd:Rd H p o)(dd:DictO o tk ks xs):(p==sysModules)=false/\∃es ep,RawD s.heap p es ep/\es.size=ks.length/\ks.length<=sizeLine:=by
 have ok:=rd.ok I.hok;cases tk with
 |true=>
  obtain⟨Ef,eo,ek,_⟩:=dd;subst eo;obtain⟨z,nm,ws,r,o2,es,ep,h1,h2,h3,h4,_⟩:=ok;refine⟨nm,es,ep,⟨o2,h1,h2,h3⟩,?_,by rw[ek,Om];exact z⟩;have:=PF List.length h4;rw[Om,Pz,<-Q0 r]at this;rw[ek,Om];exact this
 |false=>
  obtain⟨Ef,eo,ek,_⟩:=dd;subst eo;obtain⟨z,nm,ws,r,o2,es,ep,h1,h2,h3,h4,h5,_⟩:=ok;refine⟨nm,es,ep,⟨o2,h1,h2,h3⟩,?_,by rw[ek,Om];exact z⟩;have l1:=h5.length;have l2:Ef.length=ws.length:=Q0 r;rw[ek,Om];rw[Pz]at l1;lia
theorem bx:c5 X (.builtin "len") (rC X.K eR):=by
 rintro py s σ H xs us Q I rx ⟨G,fp,es,vs,ds,r,⟨rel,k⟩,vd,e⟩;unfold eR at e;split at e
 ·rename_i tk ks ws;cases e;obtain⟨v,ev,p,ys,o,ep,rd,dd,_⟩:=lF vd;subst ev;subst ep;obtain⟨u,rfl,ru⟩:=eJ rx;cases ru;obtain⟨nm,en,ep,raw,h1,h2⟩:=Ar I rd dd;refine yj nm raw (by rw[h1];rw[Pq]at h2;lia) ?_;refine⟨.int ks.length,H,I.tok _,⟨_,by rw[h1]⟩,k _ H G fp .refl (rel.push (bq _))⟩
 ·exact Ah py s σ H xs us Q I rx ⟨G,fp,es,vs,_,r,⟨rel,k⟩,vd,e⟩
def wR(g:List Nat->List D->Res R)(fa:FO)(fs:Fo):FX:=fun env=>(fa env).bind fun p=>match Fn p.2 p.1 with
 | .ok (.str l)=>(fs p.2).bind fun q=>(px q.2 q.1).bind fun ds=>(g l ds).bind fun r=>.ok (r,q.2)
 |_=>.bad
inductive rMtS(K:W.Frag)(g:List Nat->List D->Res R)(x:V)(xs:List V)(H:Hp)(Q:VK):Prop
 |mk:∀G fp es vs l ds r,Goes K H G fp es vs r Q->x=.str (S l)->l.length<=sizeLine->Lx K G H ds xs->g l ds=.ok r->rMtS K g x xs H Q
theorem pP{g:List Nat->List D->Res R}{id:String}{name:Str}{o e:Expr}{es:List Expr}{fa:FO}{fs:Fo}{apos Er:Pos}(slot:Slot "str" name id)(LP:typeOf (.builtin id)=pure (.type "method_descriptor"))(hm:MD X id (rMtS X.K g))(ho:QO X o fa)(ha:JO X (e::es) fs)
  (E2:attributeBase o name X.env (eval o X.env)=eval o X.env:=by rfl)
  (FN:((backTo Er (starEach (e::es) X.env)).all (fun x=>!x.1)&&(backToKw Er (keywordEach [] X.env)).all (fun x=>x.1.isSome)&&decide ((e::es).length+([]:List Keyword).length+(if([]:List Keyword).isEmpty then 0 else 1)<30))=true:=by rfl)
  (E3:(apos.endLine==Er.line)=true:=by rfl) (hs:starEach (e::es) X.env=(false,eval e X.env)::starEach es X.env:=by rfl) (EL:(backTo Er (starEach es X.env)).any (·.1)=false:=by rfl):
  QE X (.Call (.Attribute o name apos) (e::es) [] Er) (wR g fa fs):=by
 refine bo (qo PySem.F.plainAttrs_str slot LP hm ho ha E2 FN E3 hs EL) fun σ H Q Ex=>?_
 obtain⟨G,env,fp,r,env',rel,e,k⟩:=Ex;obtain⟨⟨oa,Ec⟩,e1,e⟩:=aj e;dsimp only at e;split at e
 ·rename_i l hl;obtain⟨⟨os,Es⟩,e2,e⟩:=aj e;obtain⟨ds,e3,e⟩:=aj e;obtain⟨r',e4,e⟩:=aj e;cases e;refine⟨G,env,fp,oa,Ec,rel,e1,fun v H1 G1 Eu Ep Ee Gs=>?_⟩;obtain⟨ev,hz⟩:=dB (Ee.vw Gs hl);subst ev;exact⟨rfl,G1,Ec,Eu,os,Es,Ee,e2,fun vs H2 G2 E4 El Ed JD=>⟨G2,E4,Es,σ,l,ds,r,⟨Ed,fun v H' G' Eh st EI=>k v H' G' Eh (Ep.trans (El.trans st)) EI⟩,rfl,hz,Ed.vws JD e3,e4⟩⟩
 ·cases e
def om(l:List Nat):List D->Res R
 |[.str c]=>match Builtin.Str.occurrences (S l) (S c) 0 (S l).length 1 with
  |i::_=>.ok (.f,.int i)
  |[]=>.bad
 |_=>.bad
theorem vK:MD X "str.index" (rMtS X.K om):=by
 rintro py s σ H x xs v us Q I rx rv ⟨G,fp,es,vs,l,ds,r,⟨rel,k⟩,ex,hz,vd,e⟩;unfold om at e;split at e
 ·rename_i c;split at e
  ·rename_i i c9 ho;cases e;subst ex;obtain⟨w',ew,vc⟩:=lF vd;obtain⟨ev,_⟩:=dB vc;subst ew;subst ev;obtain⟨t,rfl⟩:=rx;obtain⟨u,rfl,t',rfl⟩:=eJ rv;exact call_gives RH (Rk _ _ _) PySem.F.entry_str_index (PySem.F.args_str_index_2 _ _) (gives_str_index (S l) (S c) t t' i c9 ho) ⟨.int i,H,I.tok _,⟨_,rfl⟩,k _ H G fp .refl (rel.push (bq _))⟩
  ·cases e
 ·cases e
end
theorem fnok_of{P:Program}{w:World}{K:W.Frag}{mg:Str->Option Value}{base:Heap}{x:Str}{st:Stmt}{N ps:List Str}{k:Nat}{g:FS}{f:Addr}{fd:FuncData}(F:Fun K x x st f fd)(sc:FnScope N ps (defScope st))
  (body:∀(ED:Value) (A:Around) (outer:List PySem.Env) (s:Shared) (H:Hp) (E:XK),Room k (A.deeper (envOfC x (defScope st) s.heap.objs.size f ED))->JC (md:=.plain) (wm Ja P w K mg base N x (defScope st) f ED A outer s H E).nox (dy st) g):
  FnOk P w K mg base Ja (k+1) f fd ps (spF K (fBody ps.length (N.length-ps.length) g)):=by
 refine F.ok sc (fun vs H Q E h=>?_) (fun ED A outer s H vs Q E hr h=>?_)
 ·obtain⟨G,ds,r,_,rs,e,_⟩:=h;unfold fBody at e;split at e
  ·rename_i hl;rw[rs.length,hl]
  ·cases e
 ·obtain⟨G,ds,r,gh,rs,e,q⟩:=h;unfold fBody at e;split at e
  ·rename_i hl;refine⟨_,body ED A outer s H E hr,G,ds.map (fun d=>some (O.f,d))++List.replicate (N.length-ps.length) none,[],⟨?_,P0,(fun _ h=>nomatch h),gh⟩,?_⟩
   ·have:=jH (K:=K) (G:=G) (H:=H) (N.length-ps.length) rs;unfold L2.start;rw[rs.length,hl];exact this
   ·obtain⟨o,eo,e⟩:=aj e;rw[eo];cases o with
    |rt r'=>
     cases e;exact fun v H' G' Eh st rel=>q v H' G' Eh st rel
    |nx env'=>
     cases e;exact fun σ' H' G' Eh st rel=>q .non H' G' [] (st.trans (Step.cut fun _ h=>nomatch h)) (rel.nilF.push gx)
    |bk env'=>cases e
    |ct env'=>cases e
  ·cases e
def vL(K:W.Frag):Sp:=fun vs H Q _=>∃(a:Addr) (ns:List Int),vs=[.ref a]/\SqL K H a (ns.map V.int)/\ns.length<=63/\∀H',Q (.bl true) H'
theorem As{K:W.Frag}{F:List D->Res R}(h:∀ns:List Int,ns.length<=63->∃o,F [.lst (ns.map D.int)]=.ok (o,.bl true)):∀vs H Q E,vL K vs H Q E->spF K F vs H Q E:=by
 rintro vs H Q E ⟨a,ns,rfl,sq,hl,q⟩;obtain⟨o,e⟩:=h ns hl;refine⟨H,_,_,.refl _,?_,e,fun v H' G' Eh st rel=>?_⟩
 ·refine .one ?_;rw[Rep];exact⟨a,_,rfl,sq,eQ fun n _=>bq n⟩
 ·rw[cD rel.top];exact q H'
theorem _root_.L2.Room.u65{k:Nat}{A:Around}(r:Room k A):A.units+65<cLine:=by have:=r.un;lia
def D4(f:FX)(a:FG):FS:=fun env=>(f env).bind fun p=>(a p.1.2 p.2).bind fun e=>.ok (.nx e)
theorem DU{l:PySem.W.OpenLaw}{q:Program}{loose:List Str}{XP:(Str->Option Value)->Heap->Prop}{YP:World->Heap->Prop}{d:DefRec}{K:Params->W.Frag}{k:Nat}{x:Str}(hn:l.most=some 63)(LQ:d.params.defaults=[])(hr:Room k PySem.callerA)
  (hY:∀(w:World) (h:Heap),YP w h->(K w.params).In h)
  (F:∀(w:World) (mg:Str->Option Value) (fa:Addr) (h:Heap),(K w.params).In h->h.Ns mainGlobals mg->mg d.name=some (.ref fa)->
   ∃fd:FuncData,(∀(s:Shared) (u:Value),BindsTo s fd ⟨[u],[]⟩ [(x,u)])/\∀base:Heap,(K w.params).In base->base.Ns mainGlobals mg->FnOk l.prog w (K w.params) mg base Ja k fa fd [x] (vL (K w.params))):
  PySem.W.WalkO q loose XP YP l.row.toRowW d [] (fun f vs=>PySem.call f vs):=
 L2.xM (n:=63) (k:=k) (x:=x) (CX:=fun _=>Ja) (sp:=fun w=>vL (K w.params)) hn (by decide) LQ hr hY F (fun _ _ a ns hl _ hS=>⟨a,ns,rfl,hS,hl,fun _=>rfl⟩) fun _ _ _ _ _ z=>z
theorem Au:bootBuiltins "max" = some (.builtin "max"):=by decide +kernel
theorem pQ:bootBuiltins "all" = some (.builtin "all"):=by decide +kernel
theorem fE:bootBuiltins "sorted" = some (.builtin "sorted"):=by decide +kernel
theorem Av{K:W.Frag}{h:Heap}{mg:Str->Option Value}{x:Str}{st:Stmt}{f:Addr}{oc:Value}{od an:Option Addr}{Jx:Array (Option Value)}{kV doc pm ED ct:Value}(X:K.In h)(G:h.Ns mainGlobals mg)
  (a:PySem.W.nsIn K mainGlobals x=some (some (.ref f))) (l:K.lookup f=some ⟨oc,od,.func (PySem.W.fnOf x x (ft st) (dy st) (defScope st) .none kV doc pm an ED ct),Jx⟩)
  (c:PySem.W.codeIn K ED x=true) (k:PySem.W.keepIn K (.ref f)=true):Def K mg x st:=⟨f,_,wu l c k,Sq X G a⟩
theorem sW{K:W.Frag}{h:Heap}{mg:Str->Option Value}{x:Str}{n:Int}{t:Tok}(X:K.In h)(G:h.Ns mainGlobals mg)(a:PySem.W.nsIn K mainGlobals x=some (some (.int n t))):Gi mg x n:=⟨t,Sq X G a⟩
inductive tQL(K:W.Frag)(f:FI)(σ:L2.St)(H:Hp)(R:It->Hp->Prop):Prop
 |mk:∀G env fp ds env',Rel K G H env σ fp->f env=.ok (ds,env')->(∀J H' G' Eh,Step G H fp G' H' Eh->Rel K G' H' env' σ Eh->(∀G2,Same G' G2->(∀(i:Nat) (r:PV.R) (v:V),env'[i]?=some (some r)->σ[i]?=some (some v)->Rep K G2 r.2 v)->Walk K G2 J ds)->R J H')->tQL K f σ H R
def LC(X:Cx)(tg e:Expr)(f:FI):Prop:=PI X tg e (tQL X.K f)
theorem Walk.mono{K:W.Frag}{G G2:Hp}{J:It}{ds:List D}(w:Walk K G J ds)(gg:Same G G2):Walk K G2 J ds:=fun G' H' es vs fp g rel=>w G' H' es vs fp (gg.trans g) rel
theorem Aw{K:W.Frag}{fi:FI}{ix:List (Option Nat)}{a:FG}{c:FT}{f:FX}{σ:L2.St}{H:Hp}{Q:VK}(h:tQ K (i7 fi ix a c f) σ H Q):zZ (tQL K fi) ix (tQG K a) (tQT K c) (tQ K f) σ H Q:=by
 obtain⟨G,env,fp,r,env',rel,e,k⟩:=h;obtain⟨⟨ds,Ec⟩,e1,e⟩:=aj e;obtain⟨rs,e2,e⟩:=aj e;refine⟨G,env,fp,ds,Ec,rel,e1,fun J H1 G1 Eu Ep Ee wk D hD=>?_⟩;dsimp only at e e2;split at e
 ·rename_i hz;have er:r=(.l .f,.lst rs):=by cases e;rfl
  have ee:env'=if flatDs rs then Ec else Ec.map frz:=by cases e;rfl
  subst er;obtain⟨G2,Nj,Nk,Hx,hrE,Jd⟩:=Ee.lend;have wk2:=wk G2 Nj Hx;have Ed:Rel K G2 H1 (dD ix Ec) (kB ix σ) []:=⟨fB Hx (fun i r er=>let⟨v,ev,_⟩:=Ee.view er;⟨v,ev⟩) ix,P0,(fun _ h=>nomatch h),Nk⟩
  obtain⟨EN,ET⟩:=Ed.newL (ds:=[]) (xs:=[]) hD .nil;refine⟨fun i m σ1 H2=>m=ds.length-i/\i<=ds.length/\∃G' es Eh acc c9,Step G2 H1 [] G' H2 Eh/\Rel K G' H2 (some (.l .f,.lst acc)::es) (some (.ref D)::σ1) Eh/\fA a c f (ds.drop i) es=.ok c9/\acc++c9=rs,
   ⟨_,rfl,Pd _,G2,dD ix Ec,_,[],rs,ET,EN,e2,rfl⟩,?_⟩
  rintro i m σ1 H2 ⟨rfl,hi,G3,es,GZ,acc,c9,FU,E1,e4,Jk⟩;obtain⟨w1,w2⟩:=wk2 G3 H2 _ _ _ FU.gg E1 i;by_cases E5:i<ds.length
  ·have hd:ds[i]?=some ds[i]:=List.getElem?_eq_getElem E5;obtain⟨go,yl⟩:=w1 _ hd;rw[Qt E5]at e4;unfold fA at e4;obtain⟨N0,h1,e4⟩:=aj e4;obtain⟨⟨b,L6⟩,h2,e4⟩:=aj e4;dsimp only at e4;refine .inr ⟨go,fun x H3 y=>?_⟩;obtain⟨G4,rx,Fh,Gq⟩:=yl x H3 y;obtain⟨fa,fb,MM,ra,KU,bk⟩:=Fh.frame;refine⟨G4,es,fb,ds[i],N0,KU,rx,h1,fun σ2 G5 KS st6 rel6=>?_⟩;refine⟨G5,N0,KS,b,L6,rel6,h2,fun H6 G6 N4 st7 L7=>?_⟩;have L8:=st6.trans st7;cases b with
   |false=>
    refine iteF ⟨ds.length-(i+1),by lia,rfl,E5,?_⟩;obtain⟨HZ,Ks⟩:=bk G6 H6 L6 σ2 N4 L8 L7;rw[<-MM]at Ks;exact⟨G6,L6,_,acc,c9,FU.trans (Gq.trans Ks),HZ,e4,Jk⟩
   |true=>
    have e4:((f L6).bind fun q=>(fA a c f (ds.drop (i+1)) q.2).bind fun rs=>.ok (q.1.2::rs))=.ok c9:=e4;obtain⟨⟨r,Nn⟩,h3,e4⟩:=aj e4;obtain⟨L9,h4,e4⟩:=aj e4;cases e4;refine zU ⟨G6,L6,N4,r,Nn,L7,h3,fun v H7 G7 fp7 st8 rel8=>?_⟩;obtain⟨G8,fp8,rv,rel9,st9⟩:=rel8.freeze;obtain⟨HZ,Ks⟩:=bk G8 H7 Nn σ2 fp8 (L8.trans (st8.trans st9)) rel9;rw[<-MM]at Ks;obtain⟨p,xs,ep,hp,JF,cg⟩:=HZ.chg (i:=0) (ds:=acc) (ds':=acc++[r.2]) rfl;have ep:some (some (V.ref D))=some (some (V.ref p)):=ep;cases ep;obtain⟨fq,rely,sty⟩:=cg (xs++[v]) (JF.app (.one rv));refine⟨xs,hp,?_,ds.length-(i+1),by lia,rfl,E5,G8,Nn,fq,acc++[r.2],L9,FU.trans (Gq.trans (Ks.trans sty)),rely,h4,?_⟩
    ·rw[JF.length];have:=PF List.length Jk;rw[OW,OC]at this;lia
    ·rw[<-Jk,OD];rfl
  ·have ei:i=ds.length:=by lia
   subst ei;rw[List.drop_length]at e4;cases e4;rw[OL]at Jk;subst Jk;refine .inl ⟨w2 rfl,?_⟩;obtain⟨fa,relo,sto⟩:=E1.only;obtain⟨k1,k2⟩:=Jd H2 G3 fa _ _ (FU.trans sto) relo;rw[ee]at k;by_cases hc:flatDs acc=true
   ·rw[Ow hc]at k;obtain⟨G5,KS,Gq,Fh⟩:=k1 (by rw[b9,lB];exact hc);exact k _ H2 G5 KS (Ep.trans Gq) Fh
   ·rw[OB hc]at k;obtain⟨G5,KS,Gq,Fh⟩:=k2;exact k _ H2 G5 KS (Ep.trans Gq) Fh
 ·cases e
section
variable{md:Mode}{X:Cx}{scope:Scope}{N:List Str}{tg iter elt:Expr}{ifs:List Expr}{pos:Pos}{fi:FI}{a:FG}{c:FT}{f:FX}
variable{l e:Expr}{g fj:FI}
theorem e8(h:QI X tg e fi):LC X tg e fi:=iM h fun σ H R ⟨G,env,fp,ds,env',rel,e,k⟩=>⟨G,env,fp,ds,env',rel,e,fun J H' G' Eh st EI wk=>k J H' G' Eh st EI fun _ gg _=>wk.mono gg⟩
theorem kK(h:LC X tg e fi)(h2:LC X tg e fj):LC X tg e (FK fi fj):=fun py s σ H R I Eo=>by
 obtain⟨G,env,fp,ds,env',rel,ee,k⟩:=Eo;rcases wM ee with z|z
 ·exact h py s σ H R I ⟨G,env,fp,ds,env',rel,z,k⟩
 ·exact h2 py s σ H R I ⟨G,env,fp,ds,env',rel,z,k⟩
def oq(i:Nat):FI:=fun env=>match env[i]? with
 |some (some (_,.lst ds))=>.ok (ds,env)
 |_=>.bad
theorem ot{i:Nat}(h:PE X l (qh i)):LC X tg l (oq i):=iM (rA h) fun σ H R Eo=>by
 obtain⟨G,env,fp,ds,env',rel,e,k⟩:=Eo;unfold oq at e;split at e
 ·rename_i o ds hr;cases e;obtain⟨v,ev,rv⟩:=rel.view hr;obtain⟨p,xs,N5,sq,rs⟩:=bB rv;refine⟨v,ev,p,N5,⟨xs,sq⟩,k _ H G fp .refl rel fun G2 gg Hx=>?_⟩;obtain⟨p',Fu,Ma,Fi,Ge⟩:=bB (Hx i _ v hr ev);rw[N5]at Ma;cases Ma;exact mR Fi Ge
 ·cases e
theorem df(ix:List (Option Nat))(N:List Str)(hc:X.calm=true)(hi:LC X tg iter fi)(hg:∀C s H fp pn,QG (cC X scope N C s H fp pn) tg a)(ht:∀C s H fp pn,NU (cC X scope N C s H fp pn) ifs c)(he:∀C s H fp pn,QE (cC X scope N C s H fp pn) elt f)
  (hf:jw scope X.env=true:=by rfl) (hk:scope.kind=.function:=by rfl) (Fb:∀y∈scope.names,y.2≠.cell:=by decide +kernel) (HU:∀y∈scope.names,y.2=.local->scope.names.lookup y.1=some .local:=by decide +kernel) (HR:y9 X scope N ix=true:=by rfl)
  (hs:∀x,foldedSetIterable iter X.env x=pure x:=by intro _;rfl):QE X (.ListComp elt [⟨tg,iter,ifs,0⟩] scope pos) (i7 fi ix a c f):=
 bo (xQ (g:=tQG X.K a) (tc:=tQT X.K c) (te:=tQ X.K f) ix N hc hi hg ht he hf hk Fb HU HR hs) fun _ _ _=>Aw
end
section
variable{X:Cx}{a:Expr}{pos:Pos}{fa:FO}
def D5(fa:FO):FX:=fun env=>(fa env).bind fun p=>(Fn p.2 p.1).bind fun d=>match d with
 | .int i=>.ok ((.f,.int (-i)),p.2)
 |_=>.bad
theorem sX{i:Int}(h:i.natAbs<2 ^ 1000):Builtin.Int.intBits i<=2 ^ 20:=by
 unfold Builtin.Int.intBits;split
 ·exact Pd _
 ·rename_i h0;have h1:i.natAbs≠0:=by
   intro e;rw[Int.natAbs_eq_zero]at e;exact h0 (by rw[e];rfl)
  have:=(Nat.log2_lt h1).mpr h;have e:(2:Nat) ^ 20=1048576:=by decide
  lia
theorem yk:EK X (binaryOp .Mult) (rI (fun i j=>i.natAbs<2 ^ 1000/\j.natAbs<2 ^ 1000) fun i j=>.int (i*j)):=LK fun _ _ _ _ _ _ _ hc q=>mul_int q (.of_bits (sX hc.1) (sX hc.2))
theorem m7{α:Type}:∀(ls:List (Array α)) (acc:Array α),(ls.foldl (·++·) acc).toList=acc.toList++(ls.map Array.toList).flatten
 |[],acc=>by simp
 |a::ls,acc=>by
  rw[QA,m7 ls,Array.toList_append,OI,Qg,OD]
theorem Cv(l:List Nat)(n:Nat):(⟨(List.replicate n (S l).cps).foldl (·++·) #[]⟩:Str)=S (List.replicate n l).flatten:=by
 have h:((List.replicate n (S l).cps).foldl (·++·) #[]).toList=(List.replicate n l).flatten:=by
  rw[m7,List.map_replicate];simp only[cN,Rb]
 show Str.mk _=Str.mk _;rw[<-h]
theorem ym(a b:Int):Cp (.int a) (.int b)=if dE a||dE b then .ok (.f,.int (a*b)) else .bad:=rfl
noncomputable def uO:D->D->Res R
 | .int i,.int j=>if dE i||dE j then .ok (.f,.int (i*j)) else if i.natAbs<2 ^ 1000/\j.natAbs<2 ^ 1000 then .ok (.f,.int (i*j)) else .bad
 | .str l,.int k=>if 2<=k/\k<=1000/\1<=l.length/\l.length<=1000 then .ok (.f,.str (List.replicate k.toNat l).flatten) else .bad
 |_,_=>.bad
theorem ou:EK X (binaryOp .Mult) (rG X.K uO):=by
 rintro py s σ H x y v u Q I rx ry ⟨G,fp,es,vs,a,b,r,⟨rel,k⟩,va,vb,e⟩;unfold uO at e;split at e
 ·rename_i i j;split at e
  ·rename_i hc;exact Ae py s σ H x y v u Q I rx ry ⟨G,fp,es,vs,.int i,.int j,r,⟨rel,k⟩,va,vb,by rw[ym,Ow hc];exact e⟩
  ·split at e
   ·rename_i hc;cases e;cases bc va;cases bc vb;exact yk py s σ H _ _ v u Q I rx ry ⟨i,j,rfl,rfl,hc,k _ H G fp .refl (rel.push (bq _))⟩
   ·cases e
 ·rename_i l j;split at e
  ·rename_i hc;cases e;obtain⟨ev,hl⟩:=dB va;subst ev;cases bc vb;obtain⟨t,rfl⟩:=rx;obtain⟨t',rfl⟩:=ry;have hlen:(S l).length=l.length:=gu l;have hz:(List.replicate j.toNat l).flatten.length<=1000000:=by
    rw[rS];exact Nat.mul_le_mul (by lia:j.toNat<=1000) hc.2.2.2
   have LB:(List.replicate j.toNat l).flatten.length<=sizeLine:=Pc hz (by decide);refine PySem.P.mul_str ?_ ?_ ?_ ?_
   ·rw[OH (by lia),OH (by lia)];rfl
   ·intro _ _;rw[hlen];have h1:1000<=(2 ^ 63-1) / j:=(Int.le_ediv_iff_mul_le (by lia)).mpr (by lia);lia
   ·intro _ _;unfold Builtin.Str.tooLong;rw[Pk,hlen,Nat.mul_comm,<-rS];lia
   ·rw[OB (by lia),OB (by rw[hlen,RQ,O6,O6];lia),Cv];refine⟨?_,?_⟩
    ·rw[gu];exact LB
    ·exact⟨.str (S (List.replicate j.toNat l).flatten),H,I.tok _,⟨_,rfl⟩,k _ H G fp .refl (rel.push (dA LB))⟩
  ·cases e
 ·cases e
end
end PV
namespace HT
open PySem PySem.Spec PyProof.Rows L2
variable{prog:Program}{w:World}{A:Around}{E:Value->Shared->Prop}{s:Shared}
theorem g5{t sl:Addr}{items:Array Value}{vl vu:Value}{lo hi:Option Int}{Q:Value->Shared->Prop}(ht:IsTup s.heap t items)(hs:s.heap.IsSliceOf sl vl vu .none)(pl:IsPart vl lo)(pu:IsPart vu hi)
  (hw:sIx items.size 0 lo=0/\sIx items.size items.size hi=items.size) (h:Q (.ref t) s):wpAny (model prog w) A (getItem (.ref t) (.ref sl)) Q E s:=by
 obtain⟨os,KA,MC,Iq⟩:=id hs;have M5:s.TypeIs (.ref sl) "slice":=⟨os,KA,MC⟩
 unfold getItem;try with_reducible refine Qc ?_
 first|refine Oj (Oq ?_)|skip
 refine Oj (wpAny_sequenceKey ht.typeIs (by decide) ?_);refine Oj (wpAny_callSpecial?_slot (name:=Str.ofString "__getitem__") ht.typeIs PB
  (Ph PB ht.typeIs entry_tuple_getitem ?_ (args_tuple_getitem _ _)))
 show wpAny _ _ (Builtin.Tuple.tupleItemsOf (.ref t) >>= _) _ _ s;refine Oj (tupleItemsOf_ ht ?_);refine Oj (Qy M5 ?_);rw[Ow (by decide)];refine Oj (eX hs pl pu ?_);have hyes:(((sIx items.size 0 lo:Nat):Int)==0&&(1:Int)==1&&(sIx items.size items.size hi-sIx items.size 0 lo)==items.size)=true:=by
  rw[hw.1,hw.2];simp
 show wpAny _ _ (if(((sIx items.size 0 lo:Nat):Int)==0&&(1:Int)==1&&(sIx items.size items.size hi-sIx items.size 0 lo)==items.size)=true then _ else _) _ _ s;rw[Ow hyes];refine Oj (m:=Builtin.Tuple.tupleIsExact _) ?_;unfold Builtin.Tuple.tupleIsExact;refine Oj (Qy ht.typeIs (Oq ?_));rw[Ow (by decide)];exact Oj (R5 (Oq ⟨_,rfl,Oq h⟩))
end HT
namespace PV
open PySem PySem.Spec PyProof.Rows L2 NX
section
variable{X:Cx}{pos:Pos}{fa:FO}
theorem yn:KC X (fun x lo hi H Q=>∃a xs,x=.ref a/\SqT X.K H a xs/\(HT.sIx xs.length 0 lo=0/\HT.sIx xs.length xs.length hi=xs.length)/\Q x H):=by
 intro py s σ H x v vl vu lo hi sl Q I rx hs pl pu h;obtain⟨a,xs,rfl,hx,hw,q⟩:=h;cases rx;obtain⟨Eg,r,ht,hz⟩:=I.tuple hx;have hlen:Eg.toArray.size=xs.length:=by rw[Ov];exact r.length.symm
 refine⟨"tuple",_,PyProof.Rows.slot_tuple_getitem.lookup,ht.typeIs,?_⟩;exact HT.g5 ht hs pl pu (by rw[hlen];exact hw) ⟨.ref a,H,I,rfl,q⟩
def Kt(k:D)(lo hi:Option Int):Res R:=match k with
 | .tup ds=>if HT.sIx ds.length 0 lo=0/\HT.sIx ds.length ds.length hi=ds.length then .ok (.f,.tup ds) else LA k lo hi
 |_=>LA k lo hi
def i9(fa:FO)(lo hi:FP):FX:=fun env=>(fa env).bind fun p=>(lo p.2).bind fun q=>(hi q.2).bind fun t=>(Fn t.2 p.1).bind fun d=>(Kt d q.1 t.1).bind fun r=>.ok (r,t.2)
inductive rSlW(K:W.Frag)(x:V)(lo:Option Int)(hi:Option Int)(H:Hp)(Q:VK):Prop
 |mk:∀G fp es vs d r,Goes K H G fp es vs r Q->Vw K G H d x->Kt d lo hi=.ok r->rSlW K x lo hi H Q
theorem Ax:KC X (rSlW X.K):=by
 rintro py s σ H x v vl vu lo hi sl Q I rx hs pl pu ⟨G,fp,es,vs,d,r,⟨rel,k⟩,vd,e⟩;unfold Kt at e;split at e
 ·rename_i ds;split at e
  ·rename_i hw;cases e;obtain⟨p,xs,ev,sq,rs⟩:=iK vd;subst ev;refine yn py s σ H _ v vl vu lo hi sl Q I rx hs pl pu ⟨p,xs,rfl,bV rel.gh sq,by rw[rs.length];exact hw,?_⟩;exact k _ H G fp .refl (rel.push vd)
  ·exact Af py s σ H x v vl vu lo hi sl Q I rx hs pl pu ⟨G,fp,es,vs,_,r,⟨rel,k⟩,vd,e⟩
 ·exact Af py s σ H x v vl vu lo hi sl Q I rx hs pl pu ⟨G,fp,es,vs,_,r,⟨rel,k⟩,vd,e⟩
theorem dQ{e:Expr}{lo hi:Option Expr}{p2:Pos}{fl fh:FP}(he:QO X e fa)(hl:QP X lo fl)(hh:QP X hi fh):QE X (.Subscript e (.Slice lo hi none p2) pos) (i9 fa fl fh):=
 bo (u9 Ax he hl hh) fun σ H Q Eo=>by
  obtain⟨G,env,fp,r,env',rel,e,k⟩:=Eo;obtain⟨⟨o,Ec⟩,e1,e⟩:=aj e;obtain⟨⟨i,Es⟩,e2,e⟩:=aj e;obtain⟨⟨j,Gf⟩,e3,e⟩:=aj e;obtain⟨d,e4,e⟩:=aj e;obtain⟨r',e5,e⟩:=aj e;cases e;exact⟨G,env,fp,o,Ec,rel,e1,fun v H1 G1 Eu Ep Ee Gs=>⟨G1,Ec,Eu,i,Es,Ee,e2,fun H2 G2 E4 El Ed=>⟨G2,Es,E4,j,Gf,Ed,e3,fun H3 G3 GZ ET EN=>
   ⟨G3,GZ,Gf,σ,d,r,⟨EN,fun v H' G' Eh st EI=>k v H' G' Eh (Ep.trans (El.trans (ET.trans st))) EI⟩,EN.vw ((Gs.mono El.gg).mono ET.gg) e4,e5⟩⟩⟩⟩
end
end PV
namespace L2
open PySem PySem.Spec PyProof.Rows
section
variable{X:Cx}{tg:Expr}
def sY(i j c:Int):Prop:=(-1048576<=i/\i<=1048576)/\(-1048576<=j/\j<=1048576)/\(c = -1\/1<=c)/\c<=1048576
instance (i j c:Int):Decidable (sY i j c):=by unfold sY;infer_instance
end
end L2
namespace PV
open PySem PySem.Spec PyProof.Rows L2 NX
section
variable{X:Cx}{tg:Expr}
def D6:List D->Res R
 |[d]=>match(pK d).bind c8 with
  |some (n::ns)=>.ok (.f,.int (Ce (n::ns)))
  |_=>.bad
 |[.int i,.int j]=>.ok (.f,.int (if j<i then j else i))
 |_=>.bad
def D7:List D->Res R
 |[.int i]=>.ok (.f,.int (if i<0 then -i else i))
 |_=>.bad
noncomputable def Cw(fs:Fo):FI:=fun env=>(fs env).bind fun p=>(px p.2 p.1).bind fun d=>match d with
 |[.int i,.int j,.int c]=>if sY i j c then .ok ((List.range (Builtin.Range.rangeSize i j c).toNat).map fun(k:Nat)=>D.int (i+(k:Int)*c),p.2) else .bad
 |_=>.bad
end
end PV
namespace NX
open PySem PySem.Spec PyProof.Rows L2
section
open PySem.SeqAt
open PySem.AutoSeq1 (wpAny_loadPart')
end
end NX
namespace L2
open PySem PySem.Spec PyProof.Rows
section
variable{X:Cx}{o e:Expr}{es:List Expr}{to:TE}{t:TA}{name:Str}{apos Er:Pos}{id:String}{r:V->List V->Hp->VK->Prop}
end
end L2
namespace PV
open PySem PySem.Spec PyProof.Rows L2 NX
section
variable{X:Cx}
noncomputable def D8(g:List D->List D->Res R)(fa:FO)(fs:Fo):FX:=fun env=>(fa env).bind fun p=>(Fn p.2 p.1).bind fun a=>match a with
 | .tup _=>(fs p.2).bind fun q=>(Fn q.2 p.1).bind fun a2=>match a2 with
  | .tup l=>(px q.2 q.1).bind fun ds=>(g l ds).bind fun r=>.ok (r,q.2)
  |_=>.bad
 |_=>.bad
def DV(l:List D):List D->Res R
 |[.str c]=>match cW l with
  |some bs=>if c∈bs then .ok (.f,.int (bs.idxOf c:Nat)) else .bad
  |none=>.bad
 |_=>.bad
def D9(a b:D):Res R:=match a,b with
 | .tup [],.tup l=>.ok (.f,.tup l)
 |a,b=>addD a b
def DW(fs:Fo):FI:=FK (kx true true fs) (FK (kx true false fs) (FK (kx false true fs) (kx false false fs)))
end
end PV
namespace NX
open PySem PySem.Spec PyProof.Rows L2
section
open PySem.AutoSeq1 (wpAny_loadPart')
end
end NX
namespace PV
open PySem PySem.Spec PyProof.Rows L2 NX
section
variable{md:Mode}{X:Cx}
def Ea(a b:D):Res R:=match a,b with
 | .lst ds,.int k=>if 0<=k/\k<1000000/\ds.length*k.toNat<=sizeLine then .ok (.l .f,.lst (List.replicate k.toNat ds).flatten) else .bad
 |a,b=>uO a b
noncomputable def DX(i:Nat)(fk fv:FX):FS:=fun env=>(fv env).bind fun p=>(fk p.2).bind fun q=>match p.2[i]?,q.2[i]? with
 |some (some _),some (some (.l .f,.lst ds))=>(match q.1.2 with
  | .int k=>(match ixN ds.length k with
   |some j=>.ok (.nx (q.2.set i (some (.l .f,.lst (ds.set j p.1.2)))))
   |none=>.bad)
  |_=>.bad)
 |_,_=>.bad
end
section
variable{X:Cx}
def C9(fk fv:FX):FX:=fun env=>(fk env).bind fun p=>(fv p.2).bind fun q=>if i8 false p.1.2 then .ok ((.d,.dct false [p.1.2] [q.1.2]),q.2) else .bad
def getD(ks vs:List D)(k:D):Option D:=((ks.zip vs).find? fun p=>Ej k p.1).map (·.2)
def dgD(a b:D):Res R:=match a with
 | .dct tk ks vs=>if i8 tk b then(match getD ks vs b with
  |some d=>.ok (.f,d)
  |none=>.bad) else .bad
 |_=>.bad
def inP(a b:D):Res R:=match b with
 | .dct tk ks vs=>if i8 tk a then .ok (.f,.bl (getD ks vs a).isSome) else .bad
 |_=>HY a b
def Eb(a b:D):Res R:=match b with
 | .dct tk ks vs=>if i8 tk a then .ok (.f,.bl (!(getD ks vs a).isSome)) else .bad
 |_=>zc a b
end
section
variable{K:W.Frag}{G G' H H':Hp}{es:PV.Env}{vs:L2.St}{fp:List Addr}
end
section
variable{X:Cx}
end
section
variable{X:Cx}{x:Str}{p pos:Pos}{e:Expr}{es:List Expr}{fs:Fo}
end
section
variable{K:W.Frag}{G G' H H':Hp}
end
section
variable{X:Cx}{md:Mode}
end
end PV
namespace NX
open PySem PySem.Spec PyProof.Rows L2
end NX
namespace PV
open PySem PySem.Spec PyProof.Rows L2 NX
section
variable{X:Cx}
def yo(fa fb:FX):FX:=fun env=>(fa env).bind fun p=>(fb p.2).bind fun q=>.ok ((.t [.f,q.1.1],.tup [p.1.2,q.1.2]),q.2)
theorem yp{a b:Expr}{fa fb:FX}{x1}{pos:Pos}(ha:QE X a fa)(hb:QE X b fb)(h1:starEach [a,b] X.env=(false,eval a X.env)::starEach [b] X.env:=by rfl)(h2:starEach [b] X.env=(false,eval b X.env)::starEach [] X.env:=by rfl):
  QE X (.Tuple [a,b] x1 pos) (yo fa fb):=
 bo (wg (dZ ha (dZ hb iG h2) h1)) fun σ H Q Eo=>by
  obtain⟨G,env,fp,r,env',rel,e,k⟩:=Eo;obtain⟨⟨r1,Ec⟩,e1,e⟩:=aj e;obtain⟨⟨⟨o2,d2⟩,Es⟩,e2,e⟩:=aj e;cases e;refine⟨G,env,fp,r1,Ec,rel,e1,fun v H1 G1 Eu Ep Ee=>?_⟩;obtain⟨G2,b,rv,Ed,El⟩:=Ee.freeze;refine⟨G2,Ec,b,(o2,d2),Es,Ed,e2,fun v2 H3 G3 GZ ET EN=>⟨by rw[line_eq];exact(by decide:2<=16777216),fun p hp=>?_⟩⟩;obtain⟨E1,FU⟩:=EN.newF (u:=.tup [v,v2]) hp;refine k _ _ _ GZ (Ep.trans (El.trans (ET.trans FU))) ?_;obtain⟨y,ys,ey,v',a',b',ey2,ef,q1,q2⟩:=E1.rep;cases ey;cases ey2;subst ef;refine⟨⟨some (.ref p),σ,rfl,.ref p,a',b',rfl,rfl,?_,q2⟩,E1.nd,E1.gn,E1.gh⟩;show RepO X.K _ _ (.t [.f,o2]) (.tup [r1.2,d2]) (.ref p) a';rw[RepO];refine⟨p,[v,v2],rfl,br,?_⟩;rw[RepT];refine⟨v,[v2],[],a',rfl,rfl,fu.mpr ⟨Rep.mono (ET.gg.trans FU.gg) rv,rfl⟩,?_⟩;rw[RepT];refine⟨v2,[],a',[],rfl,by rw[OL],q1,?_⟩;rw[RepT];exact⟨rfl,rfl⟩
end
end PV
namespace NX
open PySem PySem.Spec PyProof.Rows L2
section
variable{prog:Program}{w:World}{A:Around}{E:Value->Shared->Prop}{s:Shared}
end
section
variable{prog:Program}{w:World}{A:Around}{E:Value->Shared->Prop}{s:Shared}
end
section
variable{X:Cx}{e:Expr}{ta:TA}{p p2 pos Mb:Pos}
end
end NX
namespace PV
open PySem PySem.Spec PyProof.Rows L2 NX
section
variable{X:Cx}{e:Expr}{fs:Fo}{p p2 pos Mb:Pos}
end
end PV
namespace NX
open PySem PySem.Spec PyProof.Rows L2
section
open PySem.AutoSeq1 (wpAny_loadPart')
end
end NX
namespace PV
open PySem PySem.Spec PyProof.Rows L2 NX
section
variable{X:Cx}
end
section
variable{md:Mode}{X:Cx}{scope:Scope}{N:List Str}{tg iter elt:Expr}{ifs:List Expr}{pos:Pos}{fi:FI}{a:FG}{c:FT}{f:FX}{j k0:Nat}
end
section
variable{X:Cx}{x:Str}{p pos:Pos}{e:Expr}{es:List Expr}{f0:FX}{fs:Fo}
end
def joinL(sep:List Nat):List (List Nat)->List Nat
 |[]=>[]
 |[x]=>x
 |x::y::r=>x++sep++joinL sep (y::r)
def m8(sep:List Nat):List D->Res R
 |[.lst ds]=>match cW ds with
  |some ys=>if(ys.map List.length).sum+ys.length*sep.length<=16777216 then .ok (.f,.str (joinL sep ys)) else .bad
  |none=>.bad
 |_=>.bad
theorem sZ(sep:List Nat):∀ys:List (List Nat),Str.join (S sep) (ys.map S)=S (joinL sep ys)
 |[]=>rfl
 |[x]=>rfl
 |x::y::r=>by
  have ih:=sZ sep (y::r);show S x++S sep++Str.join (S sep) ((y::r).map S)=S (x++sep++joinL sep (y::r));rw[ih];apply Str.ext';simp[Str.cps_append]
theorem Ay(sep:List Nat):∀ys:List (List Nat),Txt.join (S sep) (ys.map S)=S (joinL sep ys)
 |ys=>by
  show Builtin.Str.glued (S sep) (ys.map S)=_;rw[StrLaws.glued_eq_join];exact sZ sep ys
theorem jR(sep:List Nat):∀ys:List (List Nat),(joinL sep ys).length<=(ys.map List.length).sum+ys.length*sep.length
 |[]=>Pd _
 |[x]=>by
  show x.length<=_;rw[OI,Sr];lia
 |x::y::r=>by
  have ih:=jR sep (y::r);show(x++sep++joinL sep (y::r)).length<=_;rw[OW,OW,OI,Sr,OC,Nat.add_mul];lia
theorem m9{K:W.Frag}{G:Hp}:∀{ds:List D}{ys:List (List Nat)}{xs:List V}{us:List Value},cW ds=some ys->Reps K G ds xs->Vals xs us->StrsAre us (ys.map S)
 |[],ys,xs,us,e,r,v=>by
  cases e;rw[Reps]at r;subst r;cases v;exact .nil
 | .str b::ds,ys,xs,us,e,r,v=>by
  rw[Reps]at r;obtain⟨y,zs,ex,r1,r2⟩:=r;subst ex;cases v with
  |cons h t=>
   rw[cW,ON]at e;obtain⟨ws,hw,rfl⟩:=e;rw[Rep]at r1;obtain⟨r1,_⟩:=r1;subst r1;obtain⟨tk,rfl⟩:=h;exact .cons _ tk (m9 hw r2 t)
 | .non::_,_,_,_,e,_,_ | .bl _::_,_,_,_,e,_,_ | .int _::_,_,_,_,e,_,_ | .tup _::_,_,_,_,e,_,_ | .lst _::_,_,_,_,e,_,_ | .dct _ _ _::_,_,_,_,e,_,_=>by cases e
section
variable{X:Cx}
theorem ov:MD X "str.join" (rMtS X.K m8):=by
 rintro py s σ H x xs v us Q I rx rv ⟨G,fp,es,vs,l,ds,r,⟨rel,k⟩,ex,hz,vd,e⟩;unfold m8 at e;split at e
 ·rename_i ds;split at e
  ·rename_i ys M9;split at e
   ·rename_i hb;cases e;subst ex;obtain⟨w',ew,p,zs,ep,sq,rs⟩:=lF vd;subst ew ep;obtain⟨t,rfl⟩:=rx;obtain⟨u,rfl,ru⟩:=eJ rv;cases ru;obtain⟨Eg,r',pl,LB⟩:=I.list sq;refine join_list pl.isList (ys:=ys.map S) (m9 M9 rs r') ?_ fun t' kk=>?_
    ·rw[OU,Om];have e1:((fun x:Str=>x.length)∘S)=List.length:=by funext z;exact gu z
     rw[e1,gu];exact hb
    ·rw[Ay];refine⟨.str (S (joinL l ys)),H,I.tok _,⟨_,rfl⟩,k _ H G fp .refl (rel.push ?_)⟩;rw[Rep];have:=jR l ys;exact⟨rfl,by rw[line_eq];lia⟩
   ·cases e
  ·cases e
 ·cases e
end
end PV
namespace NX
open PySem PySem.Spec PyProof.Rows L2
section
variable{prog:Program}{w:World}{A:Around}{R:Result->Shared->Prop}{it:Addr}{fp wr:List Addr}{n:Nat}{Pv:Nat->Value->Prop}{Sx:Nat->Heap->Prop}{kw:List (Str×Value)}
end
section
variable{X:Cx}{e k:Expr}{te tk:TE}{p pos IG:Pos}
end
end NX
namespace PV
open PySem PySem.Spec PyProof.Rows L2 NX
section
variable{X:Cx}
end
section
variable{X:Cx}
end
section
variable{K:W.Frag}{G G' H H':Hp}{es:PV.Env}{vs:L2.St}{fp:List Addr}
end
section
variable{X:Cx}{x:Str}{p pos:Pos}{e:Expr}{es:List Expr}{f0:FX}{fs:Fo}
end
theorem vals_pick{xs:List V}{us:List Value}(r:Vals xs us):∀ix:List Nat,Vals (ix.filterMap fun i=>xs[i]?) (ix.filterMap fun i=>us[i]?)
 |[]=>.nil
 |i::ix=>by
  have ih:=vals_pick r ix;cases e:xs[i]? with
  |none=>
   rw[Rq e,Rq (r.none_of e)];exact ih
  |some d=>
   obtain⟨v,e2,rv⟩:=r.get e;rw[Rr e,Rr e2];exact .cons rv ih
section
variable{X:Cx}{pos:Pos}{fa:FO}
end
section
variable{X:Cx}
end
section
variable{X:Cx}{scope:Scope}{N:List Str}{tg iter elt:Expr}{ifs:List Expr}{pos:Pos}{fi:FI}{a:FG}{c:FT}{f:FX}
end
end PV
namespace L2
open PySem PySem.Spec PyProof.Rows NX
section
variable{X:Cx}{tg:Expr}
end
end L2
namespace PV
open PySem PySem.Spec PyProof.Rows L2 NX
section
variable{X:Cx}{tg:Expr}
end
abbrev FB:=PV.Env->Bool
section
variable{X:Cx}{st:Stmt}{Nl:List Stmt}{g:FS}{x:FB}{Ww:Hp->Prop}{c:FT}{pos np Er:Pos}{e:Expr}{es:List Expr}{fs:Fo}{C:Addr}{y:Str}
end
abbrev FXE:=PV.Env->Option PV.Env
section
variable{md:Mode}{X:Cx}{x:Str}{p pos:Pos}{e a b:Expr}{es:List Expr}{C:Addr}{F:List D->Bool}{fs:Fo}{k:Nat}{xe:FXE}{c9:List Stmt}
end
section
variable{X:Cx}{x:Str}{p pos:Pos}{e:Expr}{es:List Expr}{fs:Fo}
end
section
variable{X:Cx}{x:Str}{p pos:Pos}{e:Expr}{es:List Expr}{f0:FX}{fs:Fo}
end
end PV
namespace NX
open PySem PySem.Spec PyProof.Rows L2
end NX
namespace PV
open PySem PySem.Spec PyProof.Rows L2 NX
section
variable{K:W.Frag}{G H:Hp}{es:PV.Env}{vs:L2.St}{fp:List Addr}
end
section
variable{md:Mode}{X:Cx}
end
section
variable{X:Cx}
end
end PV
namespace NX
open PySem PySem.Spec PyProof.Rows L2
section
variable{X:Cx}
def yq:V->List V->Hp->VK->Prop:=fun x vs H Q=>∃l xs y k,x=.ref l/\vs=[.int k,y]/\H l=some (.lst xs)/\xs.length<sizeLine/\(0<=k/\k.toNat<=xs.length)/\Q .non (upd H l (.lst (xs.take k.toNat++y::xs.drop k.toNat)))
theorem ij:∀{vs:List V}{us:List Value},Vals vs us->∀k:Nat,Vals (vs.take k) (us.take k)/\Vals (vs.drop k) (us.drop k)
 |_,_,.nil,k=>⟨by rw[Ss,Ss];exact .nil,by rw[List.drop_nil,List.drop_nil];exact .nil⟩
 |_,_,.cons h r,0=>⟨.nil,.cons h r⟩
 |_,_,.cons h r,k+1=>⟨.cons h (ij r k).1,(ij r k).2⟩
theorem tf:MtM X "list.insert" yq:=by
 intro py s σ H x vs v us Q I rx rv h;obtain⟨l,xs,y,k,rfl,rfl,hH,hz,hk,q⟩:=h;cases rx;obtain⟨u1,u,rfl,r1,ru⟩:=rv.two;obtain⟨t,rfl⟩:=r1;obtain⟨z,Eg,n,r,hl,e⟩:=I.lstM hH;have hln:Eg.length=xs.length:=by have:=r.length;lia
 have hf:¬ (!Builtin.List.listFitsIndex k)=true:=by
  have HL:k.toNat<9223372036854775808:=Sj hk.2 (OF hz (by rw[Pq];decide));have:Builtin.List.listFitsIndex k=true:=by
   unfold Builtin.List.listFitsIndex;rw[OG,OE,OE];lia
  rw[this];exact Oy
 have hsz:Eg.toArray.size<=sizeLine:=by rw[Ov];lia
 refine call_meets F.slot_list_insert ⟨_,e,rfl⟩ F.entry_list_insert (F.args_list_insert_3 _ _ _) (PySem.AutoSeq1.list_insert_list_int_val_1 l Eg.toArray n k t u hf hsz) ⟨e,?_⟩;obtain⟨t1,t2⟩:=ij r k.toNat
 refine⟨.non,_,I.lset (its':=Eg.take k.toNat++u::Eg.drop k.toNat) hH e ?_ (t1.append (.cons ru t2)) ?_,rfl,q⟩
 ·dsimp only;rw[OB (by lia),Ov,Rc (by lia)];apply Array.ext';simp;exact Pm (by rw[Px];lia)
 ·rw[OW,OC,O3,Px];lia
end
end NX
namespace PV
open PySem PySem.Spec PyProof.Rows L2 NX
noncomputable def BK(i:Nat)(f g:FX):FX:=fun env=>if lD env i then(f env).bind fun p=>(g p.2).bind fun q=>match q.2[i]?,p.1.2 with
 |some (some (.l .f,.lst ds)),.int k=>if ds.length<sizeLine/\0<=k/\k.toNat<=ds.length then .ok ((.f,.non),q.2.set i (some (.l .f,.lst (ds.take k.toNat++q.1.2::ds.drop k.toNat)))) else .bad
 |_,_=>.bad
 else .bad
section
variable{X:Cx}
theorem tj{i:Nat}{o a e:Expr}{f g:FX}{apos Er:Pos}(ho:PE X o (qh i))(ha:QE X a f)(he:QE X e g)
  (E2:attributeBase o "insert" X.env (eval o X.env)=eval o X.env:=by rfl)
  (FN:((backTo Er (starEach [a,e] X.env)).all (fun x=>!x.1)&&(backToKw Er (keywordEach [] X.env)).all (fun x=>x.1.isSome)&&decide ([a,e].length+([]:List Keyword).length+(if([]:List Keyword).isEmpty then 0 else 1)<30))=true:=by rfl)
  (E3:(apos.endLine==Er.line)=true:=by rfl) (hs:starEach [a,e] X.env=(false,eval a X.env)::starEach [e] X.env:=by rfl) (IF:starEach [e] X.env=(false,eval e X.env)::starEach [] X.env:=by rfl) (EL:(backTo Er (starEach [e] X.env)).any (·.1)=false:=by rfl):
  QE X (.Call (.Attribute o "insert" apos) [a,e] [] Er) (BK i f g):=by
 refine bo (qo PX PySem.F.slot_list_insert PySem.F.type_list_insert tf ho (az ha (az he aV IF) hs) E2 FN E3 hs EL) fun σ H Q Ex=>?_
 obtain⟨G,env,fp,r,env',rel,e,k⟩:=Ex;unfold BK at e;split at e
 ·rename_i hil;obtain⟨v,ev,ty⟩:=lE rel hil;obtain⟨⟨r1,Ec⟩,e1,e⟩:=aj e;obtain⟨⟨r2,Es⟩,e2,e⟩:=aj e;dsimp only at e e2;split at e
  ·rename_i ds kk Iq HX;split at e
   ·rename_i hl;cases e;refine⟨v,ev,ty,G,env,fp,[r1.2,r2.2],Es,rel,by show(f env).bind _=_;rw[e1];show((g Ec).bind _).bind _=_;rw[e2];rfl,fun vs H1 G1 Eu Ep Ee rs=>?_⟩;rw[Reps]at rs;obtain⟨y1,ys1,eys1,N6,rs⟩:=rs;rw[Reps]at rs;obtain⟨y,ys,L4,ry,rn⟩:=rs;rw[Reps]at rn;subst rn L4;rw[HX]at N6;have hz:=bz N6;obtain⟨p,xs,ep,hp,JF,cg⟩:=Ee.chg (ds':=ds.take kk.toNat++r2.2::ds.drop kk.toNat) Iq;rw[ev]at ep;cases ep;obtain⟨fq,Ed,El⟩:=cg (xs.take kk.toNat++y::xs.drop kk.toNat) ((JF.take _).app (.cons ry (JF.drop _)));exact⟨p,xs,y,kk,rfl,by rw[eys1,hz],hp,by rw[JF.length];exact hl.1,⟨hl.2.1,by rw[JF.length];exact hl.2.2⟩,k _ _ G1 fq (Ep.trans El) (Ed.push gx)⟩
   ·cases e
  ·cases e
 ·cases e
end
inductive BExp where
 |con (b:Bool)|var (j:Nat)|not (x:BExp)|and (x y:BExp)
section
variable{X:Cx}{a:Addr}{o:Obj}{i:Nat}{e b:Expr}{c9:List Expr}{x y:BExp}{pos p q:Pos}{n:Str}
inductive Cls(mg:Str->Option Value):List Expr->List Addr->Prop
 |nil:Cls mg [] []
 |cons {x:Str}{p:Pos}{es:List Expr}{c:Addr}{cs:List Addr}:mg x=some (.ref c)->Cls mg es cs->Cls mg (.Name x p::es) (c::cs)
variable{C:Addr}{vs:Array Value}
end
section
variable{md:Mode}{X:Cx}{x:Str}{pos:Pos}{C:Addr}{xe:FXE}
end
end PV
namespace PV
open PySem PySem.Spec L2 NX
section
variable{X:Cx}
end
end PV
namespace PV
open PySem PySem.Spec PyProof.Rows L2 NX
section
variable{K:W.Frag}{G H:Hp}
theorem AllO.app{P:D->V->List Addr->Prop}{d:D}{v:V}{a:List Addr}(q:P d v a):∀{ds:List D}{xs:List V}{fp:List Addr},AllO P ds xs fp->AllO P (ds++[d]) (xs++[v]) (fp++a)
 |[],xs,fp,r=>by
  obtain⟨e1,e2⟩:=r;subst e1 e2;exact⟨v,[],a,[],rfl,by simp,q,rfl,rfl⟩
 |d'::ds,xs,fp,r=>by
  obtain⟨y,ys,a1,b1,e1,e2,p,r⟩:=r;subst e1 e2;exact⟨y,ys++[v],a1,b1++a,rfl,by rw[OD],p,AllO.app q r⟩
theorem AllO.length{P:D->V->List Addr->Prop}:∀{ds:List D}{xs:List V}{fp:List Addr},AllO P ds xs fp->xs.length=ds.length
 |[],xs,fp,r=>by
  rw[r.1];rfl
 |d'::ds,xs,fp,r=>by
  obtain⟨y,ys,a1,b1,e1,e2,p,r⟩:=r;subst e1;rw[OC,OC,r.length]
theorem ow{p:Addr}{u:HO}(gh:Same G H)(gp:G p=none):Same G (upd H p u):=fun z o ez=>by
 have:z≠p:=fun w=>by
  subst w;rw[gp]at ez;cases ez
 rw[aF this];exact gh z o ez
theorem lQ{p:Addr}{u:HO}{fp:List Addr}(hp:p∈fp):Step G H fp G (upd H p u) fp:=by
 refine⟨.refl _,fun z o ez nz=>?_,fun z hz=>.inl hz,fun z o ez=>.inl ez,fun z o ez=>?_⟩
 ·have:z≠p:=fun w=>nz (w▸hp)
  rw[aF this];exact ez
 ·by_cases w:z=p
  ·subst w;exact⟨_,br⟩
  ·exact⟨o,by rw[aF w];exact ez⟩
theorem Rel.pushO{c:O}{acc:List D}{d v:_}{es:PV.Env}{vs:L2.St}{p:Addr}{fp:List Addr}(q:Rel K G H (some (.l c,.lst acc)::some (c,d)::es) (some (.ref p)::some v::vs) fp):
  ∃xs,H p=some (.lst xs)/\xs.length=acc.length/\Rel K G (upd H p (.lst (xs++[v]))) (some (.l c,.lst (acc++[d]))::es) (some (.ref p)::vs) fp/\Step G H fp G (upd H p (.lst (xs++[v]))) fp:=by
 obtain⟨y,ys,e,v',a,b,e1,e2,r1,r2⟩:=q.rep;cases e;cases e1;have r1:RepO K G H (.l c) (.lst acc) (.ref p) a:=r1;rw[RepO]at r1;obtain⟨p',xs,fa,ep,hp,ea,al⟩:=r1;cases ep;subst ea;obtain⟨y,ys,e,v',a2,b2,e1,e3,r3,r4⟩:=r2;cases e;cases e1;subst e3;subst e2;have nd:=O5.mp (show(p::(fa++(a2++b2))).Nodup from q.nd);have out:∀z∈fa++(a2++b2),upd H p (.lst (xs++[v])) z=H z:=fun z hz=>aF fun e=>nd.1 (e▸hz)
 have r3:RepO K G (upd H p (.lst (xs++[v]))) c d v a2:=RepO.step (.refl _) (fun z hz=>out z (by simp[hz])) r3;have al:AllO (RepO K G (upd H p (.lst (xs++[v]))) c) acc xs fa:=AllO.imp (fun d v c hc=>RepO.step (.refl _) fun z hz=>out z (Ox _ (hc z hz))) al;refine⟨xs,hp,al.length,⟨⟨some (.ref p),vs,rfl,.ref p,p::(fa++a2),b2,rfl,by simp,?_,r4.step (.refl _) fun z hz=>out z (by simp[hz])⟩,q.nd,q.gn,ow q.gh (q.gn p (by simp))⟩,lQ (by simp)⟩;show RepO K G _ (.l c) (.lst (acc++[d])) (.ref p) _;rw[RepO];exact⟨p,xs++[v],fa++a2,rfl,br,rfl,al.app r3⟩
theorem AllO.chg:∀{ds:List D}{xs:List V}{fp:List Addr}{m:Nat}{es:List D},fp.Nodup->AllO (RepO K G H (.l .f)) ds xs fp->ds[m]?=some (.lst es)->∃l zs,xs[m]?=some (.ref l)/\l∈fp/\H l=some (.lst zs)/\Reps K G es zs/\
  ∀GO Iw,Reps K G GO Iw->AllO (RepO K G (upd H l (.lst Iw)) (.l .f)) (ds.set m (.lst GO)) xs fp
 |[],xs,fp,m,es,nd,r,e=>by rw[List.getElem?_nil]at e;cases e
 |d::ds,xs,fp,m,es,nd,r,e=>by
  obtain⟨y,ys,a,b,e1,e2,p,q⟩:=r;subst e1 e2;obtain⟨n1,n2,n3⟩:=OV.mp nd;cases m with
  |zero=>
   rw[List.getElem?_cons_zero]at e;cases e;obtain⟨l,zs,el,hl,ea,rz⟩:=fw.mp p;subst el ea;refine⟨l,zs,rfl,by simp,hl,rz,fun GO Iw Mc=>?_⟩;refine⟨.ref l,ys,[l],b,rfl,rfl,fw.mpr ⟨l,Iw,rfl,br,rfl,Mc⟩,AllO.imp (fun d v c hc=>RepO.step (.refl _) fun z hz=>aF fun e=>?_) q⟩;subst e;exact n3 z (by simp) z (hc z hz) rfl
  |succ m=>
   rw[List.getElem?_cons_succ]at e;obtain⟨l,zs,el,ml,hl,rz,k⟩:=AllO.chg n2 q e;refine⟨l,zs,el,Oo _ ml,hl,rz,fun GO Iw Mc=>?_⟩;refine⟨y,ys,a,b,rfl,rfl,RepO.step (.refl _) (fun z hz=>aF fun e=>?_) p,k GO Iw Mc⟩;subst e;exact n3 z hz z ml rfl
theorem Rel.chgAt{i m:Nat}{ds es:List D}{env:PV.Env}{vs:L2.St}{fp:List Addr}(q:Rel K G H env vs fp)(e:env[i]?=some (some (.l (.l .f),.lst ds)))(em:ds[m]?=some (.lst es)):
  ∃p xs l zs,vs[i]?=some (some (.ref p))/\H p=some (.lst xs)/\xs.length=ds.length/\xs[m]?=some (.ref l)/\H l=some (.lst zs)/\Reps K G es zs/\
   ∀GO Iw,Reps K G GO Iw->∃fq,Rel K G (upd H l (.lst Iw)) (env.set i (some (.l (.l .f),.lst (ds.set m (.lst GO))))) vs fq/\Step G H fp G (upd H l (.lst Iw)) fq:=by
 obtain⟨v,fq,ev,g,st,Gd⟩:=q.out e;obtain⟨y,ys,e0,v',a,b,e1,e2,r1,r2⟩:=g.rep;cases e0;cases e1;have r1:RepO K G H (.l (.l .f)) (.lst ds) v a:=r1;rw[RepO]at r1;obtain⟨p,xs,fa,ep,hp,ea,al⟩:=r1;subst ep ea e2;have nd0:(p::(fa++b)).Nodup:=g.nd;have nd:=O5.mp nd0;obtain⟨n1,n2,n3⟩:=OV.mp nd.2;obtain⟨l,zs,el,ml,hl,rz,k⟩:=AllO.chg n1 al em;refine⟨p,xs,l,zs,ev,hp,al.length,el,hl,rz,fun GO Iw Mc=>?_⟩;have pl:p≠l:=fun z=>nd.1 (by rw[z];exact Ox _ ml)
 have g2:Rel K G (upd H l (.lst Iw)) (some (.l (.l .f),.lst (ds.set m (.lst GO)))::env.set i none) (some (.ref p)::vs) (p::(fa++b)):=by
  refine⟨⟨some (.ref p),vs,rfl,.ref p,p::fa,b,rfl,rfl,?_,r2.step (.refl _) fun z hz=>aF fun e=>?_⟩,g.nd,g.gn,ow g.gh (g.gn l (by simp[ml]))⟩
  ·show RepO K G _ (.l (.l .f)) (.lst (ds.set m (.lst GO))) (.ref p) (p::fa);rw[RepO];exact⟨p,xs,fa,rfl,by rw[aF pl];exact hp,rfl,k GO Iw Mc⟩
  ·subst e;exact n3 z ml z hz rfl
 have KR:Step G H (p::(fa++b)) G (upd H l (.lst Iw)) (p::(fa++b)):=lQ (by simp[ml]);obtain⟨fz,g3,ET⟩:=g2.back (i:=i) (by rw[Qq];exact(List.getElem?_eq_some_iff.mp e).1) ev;rw[Qz]at g3;exact⟨fz,g3,st.trans (KR.trans ET)⟩
end
section
variable{md:Mode}{X:Cx}{scope:Scope}{N:List Str}{tg iter elt:Expr}{ifs:List Expr}{pos:Pos}{fi:FI}{a:FG}{c:FT}{f:FX}
theorem Rel.fz{K:W.Frag}{G H:Hp}{env:PV.Env}{σ:L2.St}{fp:List Addr}{i:Nat}{d:D}(q:Rel K G H env σ fp)(e:env[i]?=some (some (.f,d))):∃v,σ[i]?=some (some v)/\Rep K G d v:=by
 obtain⟨v,fq,ev,g,_⟩:=q.out e;obtain⟨y,ys,e0,v',a,b,e1,e2,r1,r2⟩:=g.rep;cases e0;cases e1;exact⟨v,ev,(fu.mp r1).1⟩
end
section
variable{X:Cx}{x:Str}{p pos Ky:Pos}{e1 e2 e3:Expr}{fo:FO}{fb:FX}
end
section
variable{X:Cx}{x:Str}{p pos p1 p2 q1 q2:Pos}{o o':Expr}{j1 j2:_}
end
section
variable{K:W.Frag}{G H:Hp}
end
section
variable{X:Cx}{a b:Expr}{fa fb:FX}{pos:Pos}
end
abbrev tL:O:=.t [.f,.l .f]
section
variable{K:W.Frag}{G H:Hp}
theorem ox{a:D}{l:List D}{v:V}{fp:List Addr}:RepO K G H tL (.tup [a,.lst l]) v fp<->∃t y q zs,v=.ref t/\G t=some (.tup [y,.ref q])/\Rep K G a y/\H q=some (.lst zs)/\fp=[q]/\Reps K G l zs:=by
 unfold tL;rw[RepO];constructor
 ·rintro⟨t,xs,et,gt,rt⟩;rw[RepT]at rt;obtain⟨y1,t1,a1,b1,ex1,ea1,q1,rt⟩:=rt;rw[RepT]at rt;obtain⟨y2,t2,a2,b2,ex2,ea2,q2,rt⟩:=rt;rw[RepT]at rt;obtain⟨ett,eb⟩:=rt;obtain⟨rep1,ea⟩:=fu.mp q1;obtain⟨q,zs,el,hl,eal,rz⟩:=fw.mp q2;subst ea ett eb ex2 ex1 el eal ea2 ea1;exact⟨t,y1,q,zs,et,gt,rep1,hl,rfl,rz⟩
 ·rintro⟨t,y,q,zs,et,gt,ra,hq,ef,rz⟩;refine⟨t,[y,.ref q],et,gt,?_⟩;subst ef;rw[RepT];refine⟨y,[.ref q],[],[q],rfl,rfl,fu.mpr ⟨ra,rfl⟩,?_⟩;rw[RepT];refine⟨.ref q,[],[q],[],rfl,rfl,fw.mpr ⟨q,zs,rfl,hq,rfl,rz⟩,?_⟩;rw[RepT];exact⟨rfl,rfl⟩
end
section
variable{X:Cx}
end
section
variable{X:Cx}
end
section
variable{K:W.Frag}{G H:Hp}
theorem Rel.chgV{i:Nat}{o:O}{d:D}{env:PV.Env}{vs:L2.St}{fp:List Addr}(q:Rel K G H env vs fp)(e:env[i]?=some (some (o,d))):
  ∃v a,vs[i]?=some (some v)/\RepO K G H o d v a/\a.Nodup/\∀u x o' d',u∈a->RepO K G (upd H u x) o' d' v a->∃fq,Rel K G (upd H u x) (env.set i (some (o',d'))) vs fq/\Step G H fp G (upd H u x) fq:=by
 obtain⟨v,fq,ev,g,st,Gd⟩:=q.out e;obtain⟨y,ys,e0,v',c,b,e1,e2,r1,r2⟩:=g.rep;cases e0;cases e1;subst e2;obtain⟨n1,n2,n3⟩:=OV.mp g.nd;refine⟨v,c,ev,r1,n1,fun u x o' d' hu r'=>?_⟩;have g2:Rel K G (upd H u x) (some (o',d')::env.set i none) (some v::vs) (c++b):=by
  refine⟨⟨some v,vs,rfl,v,c,b,rfl,rfl,r',r2.step (.refl _) fun z hz=>aF fun e=>?_⟩,g.nd,g.gn,ow g.gh (g.gn u (Ox _ hu))⟩;subst e;exact n3 z hu z hz rfl
 have KR:Step G H (c++b) G (upd H u x) (c++b):=lQ (Ox _ hu);obtain⟨fz,g3,ET⟩:=g2.back (i:=i) (by rw[Qq];exact(List.getElem?_eq_some_iff.mp e).1) ev;rw[Qz]at g3;exact⟨fz,g3,st.trans (KR.trans ET)⟩
end
section
variable{X:Cx}{a b:Expr}{fa fb:FX}{pos:Pos}
end
section
variable{md:Mode}{X:Cx}{pos Ky:Pos}
end
section
variable{X:Cx}{C:Addr}{pos:Pos}{c9 a b:List Stmt}{ct:Expr}
end
section
variable{X:Cx}{x y:Str}{p pos pos' Er:Pos}{e:Expr}{es:List Expr}{C:Addr}{F:List D->Bool}{fs:Fo}{k:Nat}{c9:List Stmt}{Ww:Hp->Prop}
end
section
variable{X:Cx}{a:Addr}{i j jc:Nat}{x1 x2:BExp}{e1 e2 vc:Expr}{n nc:Str}{pos pos1 Mb pos' pos'' bp p:Pos}
end
section
variable{md:Mode}{X:Cx}{x:Str}{pos:Pos}{C:Addr}{xe:FXE}
end
def dg(i:Int):List Nat:=(Str.ofString (toString i)).cps.toList
theorem BL(i:Int):S (dg i)=Str.ofString (toString i):=by
 apply Str.ext';unfold dg;simp[S]
theorem wU{i:Int}(h:i.natAbs.log2<1920):(dg i).length<=sizeLine:=by
 have h2:(Str.ofString (toString i)).length<=sizeLine:=int_text_fits h;rw[<-BL,gu]at h2;exact h2
def wV:List D->Res R
 |[.int i]=>if i.natAbs.log2<1920 then .ok (.f,.str (dg i)) else .bad
 |_=>.bad
def Az:List D->Res R
 |[.str l]=>(match PySem.intText? (S l) with
  |some n=>if l.length<=640 then .ok (.f,.int n) else .bad
  |none=>.bad)
 |ds=>vI ds
section
variable{X:Cx}
theorem pR:c5 X (.type "str") (rC X.K wV):=by
 rintro py s σ H xs us Q I rx ⟨G,fp,es,vs,ds,r,⟨rel,k⟩,vd,e⟩;unfold wV at e;split at e
 ·rename_i i;split at e
  ·rename_i hl;cases e;obtain⟨v,ev,v1⟩:=lF vd;subst ev;cases bc v1;obtain⟨u,rfl,t,rfl⟩:=eJ rx;exact PySem.P.str_of_int hl ⟨.str (S (dg i)),H,I.tok _,⟨_,by rw[BL]⟩,k _ H G fp .refl (rel.push (dA (wU hl)))⟩
  ·cases e
 ·cases e
theorem yr:c5 X (.type "int") (rC X.K Az):=by
 rintro py s σ H xs us Q I rx ⟨G,fp,es,vs,ds,r,⟨rel,k⟩,vd,e⟩;unfold Az at e;split at e
 ·rename_i l;split at e
  ·rename_i n hn;split at e
   ·rename_i hl;cases e;obtain⟨v,ev,v1⟩:=lF vd;subst ev;obtain⟨ev,_⟩:=dB v1;subst ev;obtain⟨u,rfl,t,rfl⟩:=eJ rx;exact PySem.W.KIN.call_text hn (by rw[gu];exact hl) ⟨.int n,H,I.tok _,⟨_,rfl⟩,k _ H G fp .refl (rel.push (bq _))⟩
   ·cases e
  ·cases e
 ·exact sR py s σ H xs us Q I rx ⟨G,fp,es,vs,ds,r,⟨rel,k⟩,vd,e⟩
def tm(f:FX):FX:=fun env=>(f env).bind fun p=>match p.1.2 with
 | .int i=>if i.natAbs.log2<1920 then .ok ((.f,.str (dg i)),p.2) else .bad
 | .str l=>.ok ((.f,.str l),p.2)
 |_=>.bad
theorem tq{v:Expr}{f:FX}{pos:Pos}(h:QE X v f):QE X (.FormattedValue v (-1) none pos) (tm f):=fun py s σ H Q I Eo=>by
 obtain⟨G,env,fp,r,env',rel,e,k⟩:=Eo;obtain⟨⟨r1,Ec⟩,e1,e⟩:=aj e;refine FormattedValue_plain (Ez (h py s σ H (fun x H1=>∃G1 Eu,Step G H fp G1 H1 Eu/\Rel X.K G1 H1 (some r1::Ec) (some x::σ) Eu) I ⟨G,env,fp,r1,Ec,rel,e1,fun v H1 G1 Eu Ep Ee=>⟨G1,Eu,Ep,Ee⟩⟩) fun u s1 Ex=>?_);obtain⟨x,H1,I1,rx,G1,Eu,Ep,Ee⟩:=Ex;obtain⟨b,Ed,El⟩:=Ee.drop;have rt:=Ee.top;dsimp only at e;split at e
 ·rename_i i hi;split at e
  ·rename_i hl;cases e;rw[hi]at rt;cases bz rt;obtain⟨t,rfl⟩:=rx;exact wpAny_formatField_int hl ⟨.str (S (dg i)),H1,I1.tok _,⟨_,by rw[BL]⟩,k _ H1 G1 b (Ep.trans El) (Ed.push (dA (wU hl)))⟩
  ·cases e
 ·rename_i l hi;cases e;rw[hi]at rt;obtain⟨ex,hz⟩:=ba rt;subst ex;obtain⟨t,rfl⟩:=rx;exact formatField_str (fun t' tk=>⟨.str (S l),H1,I1.tok _,⟨_,rfl⟩,k _ H1 G1 b (Ep.trans El) (Ed.push (dA hz))⟩) (by rw[gu];exact hz)
 ·cases e
def QJ(X:Cx)(es:List Expr)(fs:FDs):Prop:=∀(acc:List Nat) (py:List (Addr×Obj)) (s:Shared) (σ:L2.St) (H:Hp) (Q:VK),Inv X py σ H s->
 (∃G env fp ds env' ls,Rel X.K G H env σ fp/\fs env=.ok (ds,env')/\cW ds=some ls/\(acc++ls.flatten).length<=sizeLine/\∀H' G' Eh,Step G H fp G' H' Eh->Rel X.K G' H' env' σ Eh->Q (.str (S (acc++ls.flatten))) H')->
 wpAny (model X.prog X.w) X.A (joinParts (S acc) (evalEach es X.env)) (EP X py σ Q) X.xe s
theorem AA:QJ X [] bK:=fun acc py s σ H Q I Eo=>by
 obtain⟨G,env,fp,ds,env',ls,rel,e,hs,hl,k⟩:=Eo;cases e;cases hs;rw[RB,OL]at hl k;exact joinParts_nil ⟨.str (S acc),H,I.tok _,⟨_,rfl⟩,k H G fp .refl rel⟩ (by rw[gu];exact hl)
theorem jS{e:Expr}{es:List Expr}{f:FX}{g:FDs}(h:QE X e f)(hs:QJ X es g)(he:evalEach (e::es) X.env=eval e X.env::evalEach es X.env:=by rfl):QJ X (e::es) (aA f g):=fun acc py s σ H Q I Eo=>by
 obtain⟨G,env,fp,ds,env',ls,rel,e0,MN,hl,k⟩:=Eo;obtain⟨⟨r1,Ec⟩,e1,e0⟩:=aj e0;obtain⟨⟨ds1,Es⟩,e2,e0⟩:=aj e0;cases e0;rw[he];refine joinParts_cons (Ez (h py s σ H (fun x H1=>∃G1 Eu,Step G H fp G1 H1 Eu/\Rel X.K G1 H1 (some r1::Ec) (some x::σ) Eu) I ⟨G,env,fp,r1,Ec,rel,e1,fun v H1 G1 Eu Ep Ee=>⟨G1,Eu,Ep,Ee⟩⟩) fun u s1 Ex=>?_);obtain⟨x,H1,I1,rx,G1,Eu,Ep,Ee⟩:=Ex;obtain⟨b,Ed,El⟩:=Ee.drop;have rt:=Ee.top;dsimp only at MN;obtain⟨o1,d1⟩:=r1;cases d1 with
 |str l=>
  rw[cW,ON]at MN;obtain⟨ls1,MO,rfl⟩:=MN;obtain⟨ex,hz⟩:=ba rt;subst ex;obtain⟨t,rfl⟩:=rx;rw[Qg,<-OD]at hl k;show(S acc++S l).length<=sizeLine/\wpAny _ _ (joinParts (S acc++S l) _) _ _ _;rw[zX];refine⟨?_,hs (acc++l) py s1 σ H1 Q I1 ⟨G1,Ec,b,ds1,Es,ls1,Ed,e2,MO,hl,fun H' G' Eh st EI=>k H' G' Eh (Ep.trans (El.trans st)) EI⟩⟩;rw[gu];rw[OW]at hl;lia
 |_=>cases MN
def tu(fs:FDs):FX:=fun env=>(fs env).bind fun p=>match cW p.1 with
 |some ls=>if ls.flatten.length<=sizeLine then .ok ((.f,.str ls.flatten),p.2) else .bad
 |none=>.bad
theorem yt{a b:Expr}{es:List Expr}{fs:FDs}{pos:Pos}(h:QJ X (a::b::es) fs):QE X (.JoinedStr (a::b::es) pos) (tu fs):=fun py s σ H Q I Eo=>by
 obtain⟨G,env,fp,r,env',rel,e,k⟩:=Eo;obtain⟨⟨ds,Ec⟩,e1,e⟩:=aj e;dsimp only at e;split at e
 ·rename_i ls hls;split at e
  ·rename_i hl;cases e;exact JoinedStr_many (h [] py s σ H Q I ⟨G,env,fp,ds,_,ls,rel,e1,hls,hl,fun H' G' Eh st EI=>k _ H' G' Eh st (EI.push (dA hl))⟩)
  ·cases e
 ·cases e
def Cy(f:FX):FX:=fun env=>(f env).bind fun p=>.ok ((.f,p.1.2),p.2)
theorem AB{e:Expr}{f:FX}(h:QE X e f):QE X e (Cy f):=bo h fun σ H Q Eo=>by
 obtain⟨G,env,fp,r,env',rel,e,k⟩:=Eo;obtain⟨⟨r1,Ec⟩,e1,e⟩:=aj e;cases e;refine⟨G,env,fp,r1,_,rel,e1,fun v H1 G1 Eu Ep Ee=>?_⟩;obtain⟨G2,b,rv,Ed,El⟩:=Ee.freeze;exact k v H1 G2 b (Ep.trans El) (Ed.push rv)
end
section
variable{K:W.Frag}{G H:Hp}
theorem Rel.newO1{c:O}{d1:D}{v1:V}{es:PV.Env}{vs:L2.St}{t:Addr}{fp:List Addr}(q:Rel K G H (some (c,d1)::es) (some v1::vs) fp)(ht:H t=none):
  Rel K G (upd H t (.lst [v1])) (some (.l c,.lst [d1])::es) (some (.ref t)::vs) (t::fp)/\Step G H fp G (upd H t (.lst [v1])) (t::fp):=by
 have gt:G t=none:=by
  cases e:G t with
  |none=>rfl
  |some o=>rw[q.gh t o e]at ht;cases ht
 have nt:t∉fp:=fun z=>by
  obtain⟨u,e⟩:=q.rep.live t z;rw[ht]at e;cases e
 have sh:Same H (upd H t (.lst [v1])):=fun b o e=>by rw[aF (a7 e ht)];exact e
 obtain⟨y,ys,e,v',a,b,e1,e2,r1,r2⟩:=q.rep;cases e;cases e1;subst e2;have out:∀z∈a++b,upd H t (.lst [v1]) z=H z:=fun z hz=>aF fun e=>nt (e▸hz)
 refine⟨⟨⟨some (.ref t),vs,rfl,.ref t,t::a,b,rfl,rfl,?_,r2.step (.refl _) fun z hz=>out z (Oo _ hz)⟩,O5.mpr ⟨nt,q.nd⟩,fun z hz=>?_,fun b o e=>sh b o (q.gh b o e)⟩,
  ⟨.refl _,fun b o e _=>sh b o e,fun b hb=>?_,fun b o e=>.inl e,fun b o e=>⟨o,sh b o e⟩⟩⟩
 ·show RepO K G _ (.l c) (.lst [d1]) (.ref t) _;rw[RepO];exact⟨t,[v1],a,rfl,br,rfl,v1,[],a,[],rfl,(OL _).symm,RepO.step (.refl _) (fun z hz=>out z (Ox _ hz)) r1,rfl,rfl⟩
 ·rcases Oz.mp hz with rfl|hz
  ·exact gt
  ·exact q.gn z hz
 ·rcases Oz.mp hb with rfl|hb
  ·exact .inr ht
  ·exact .inl hb
end
section
variable{X:Cx}{pos:Pos}
def yu(f:FX):FX:=fun env=>(f env).bind fun p=>match p.1.1 with
 | .l .f=>.ok ((.l (.l .f),.lst [p.1.2]),p.2)
 |_=>.bad
theorem yv{a:Expr}{fa:FX}(ha:QE X a fa)(h1:starEach [a] X.env=(false,eval a X.env)::starEach [] X.env:=by rfl):QE X (.List [a] pos) (yu fa):=
 bo (wj (dZ ha iG h1)) fun σ H Q Eo=>by
  obtain⟨G,env,fp,r,env',rel,e,k⟩:=Eo;obtain⟨⟨⟨o1,d1⟩,Ec⟩,e1,e⟩:=aj e;dsimp only at e;split at e
  ·cases e;refine⟨G,env,fp,_,_,rel,e1,fun v H1 G1 Eu Ep Ee=>⟨by rw[line_eq];exact(by decide:1<=16777216),fun t ht=>?_⟩⟩;obtain⟨E1,FU⟩:=Ee.newO1 ht;exact k _ _ G1 _ (Ep.trans FU) E1
  ·cases e
noncomputable def vM(i:Nat)(f:FX):FX:=fun env=>if lD env i then(f env).bind fun p=>(match p.1.1,p.2[i]? with
 | .l .f,some (some (.l (.l .f),.lst ds))=>if ds.length<sizeLine then .ok ((.f,.non),p.2.set i (some (.l (.l .f),.lst (ds++[p.1.2])))) else .bad
 |_,_=>.bad)
 else .bad
theorem yw{i:Nat}{o e:Expr}{f:FX}{apos Er:Pos}(ho:PE X o (qh i))(he:QE X e f)
  (E2:attributeBase o "append" X.env (eval o X.env)=eval o X.env:=by rfl)
  (FN:((backTo Er (starEach [e] X.env)).all (fun x=>!x.1)&&(backToKw Er (keywordEach [] X.env)).all (fun x=>x.1.isSome)&&decide ([e].length+([]:List Keyword).length+(if([]:List Keyword).isEmpty then 0 else 1)<30))=true:=by rfl)
  (E3:(apos.endLine==Er.line)=true:=by rfl) (hs:starEach [e] X.env=(false,eval e X.env)::starEach [] X.env:=by rfl) (EL:(backTo Er (starEach [] X.env)).any (·.1)=false:=by rfl):
  QE X (.Call (.Attribute o "append" apos) [e] [] Er) (vM i f):=by
 refine bo (qo PX Qh Qi fm ho (dZ he iG hs) E2 FN E3 hs EL) fun σ H Q Ex=>?_
 obtain⟨G,env,fp,r,env',rel,e,k⟩:=Ex;unfold vM at e;split at e
 ·rename_i hil;obtain⟨v,ev,ty⟩:=lE rel hil;obtain⟨⟨⟨o1,d1⟩,Ec⟩,e1,e⟩:=aj e;dsimp only at e;split at e
  ·rename_i ds Iq;split at e
   ·rename_i hl;cases e;refine⟨v,ev,ty,G,env,fp,_,Ec,rel,e1,fun y H1 G1 Eu Ep Ee=>?_⟩;obtain⟨fa,fb,MM,ra,KU,bk⟩:=Ee.frame;obtain⟨w,fq,ew,g,st,Gd⟩:=KU.out Iq;rw[ev]at ew;cases ew;obtain⟨HZ,Ks⟩:=bk G1 H1 _ _ fq st g;rw[<-MM]at Ks;obtain⟨z,zs,ez,v',a',b',ez1,Np,MP,MQ⟩:=g.rep;cases ez;cases ez1;have MP:RepO X.K G1 H1 (.l (.l .f)) (.lst ds) v a':=MP;rw[RepO]at MP;obtain⟨p,xs,Eh,ep,hp,ea,al⟩:=MP;subst ep;have relw:Rel X.K G1 H1 (some (.l (.l .f),.lst ds)::some (.l .f,d1)::Ec.set i none) (some (.ref p)::some y::σ) ((a'++fa)++b'):=by
     refine⟨⟨some (.ref p),_,rfl,.ref p,a',fa++b',rfl,by rw[OD],?_,some y,σ,rfl,y,fa,b',rfl,rfl,ra,MQ⟩,?_,fun w hw=>?_,HZ.gh⟩
     ·rw[RepO];exact⟨p,xs,Eh,rfl,hp,ea,al⟩
     ·have nd:=HZ.nd;rw[Np]at nd;rw[OD];have pm:(fa++(a'++b')).Perm (a'++(fa++b')):=by
       rw[<-OD,<-OD];exact List.perm_append_comm.append_right b'
      exact pm.nodup_iff.mp nd
     ·refine HZ.gn w ?_;rw[Np];rcases OK.mp hw with hw|hw
      ·rcases OK.mp hw with hw|hw
       ·exact Oo _ (Ox _ hw)
       ·exact Ox _ hw
      ·exact Oo _ (Oo _ hw)
    obtain⟨Lz,N7,lx,relp,stp⟩:=relw.pushO;rw[hp]at N7;cases N7;obtain⟨fz,Fh,Gq⟩:=relp.back (i:=i) (by rw[Qq];exact(List.getElem?_eq_some_iff.mp Iq).1) ev;rw[Qz]at Fh;have stw:Step G1 H1 (fa++fq) G1 H1 ((a'++fa)++b'):=Step.cut fun w hw=>by
     rw[Np];rcases OK.mp hw with hw|hw
     ·rcases OK.mp hw with hw|hw
      ·exact Oo _ (Ox _ hw)
      ·exact Ox _ hw
     ·exact Oo _ (Oo _ hw)
    exact⟨p,xs,y,rfl,rfl,hp,by rw[lx];exact hl,k _ _ G1 fz (Ep.trans (Ks.trans (stw.trans (stp.trans Gq)))) (Fh.push gx)⟩
   ·cases e
  ·cases e
 ·cases e
noncomputable def qF(i:Nat)(c:Int)(l:Nat):FX:=fun env=>match env[i]?,env[l]? with
 |some (some (.l (.l .f),.lst ds)),some (some (.f,d))=>(match ixN ds.length c with
  |some m=>(match ds[m]? with
   |some (.lst es)=>if es.length<sizeLine then .ok ((.f,.non),env.set i (some (.l (.l .f),.lst (ds.set m (.lst (es++[d])))))) else .bad
   |_=>.bad)
  |none=>.bad)
 |_,_=>.bad
theorem Cz{j p q}:PE X (.UnaryOp .USub (.Constant (.int 1) j p) q) (tC (.int (-1))):=bo (B1 zN rm) fun σ H Q h=>⟨1,rfl,h⟩
theorem yx{i l:Nat}{c:Int}{o ke e:Expr}{G0 apos Er:Pos}(ho:PE X o (qh i))(hk:PE X ke (tC (.int c)))(he:PE X e (qh l))(Gp:nX ke:=by exact fun _ _=>rfl)
  (E2:attributeBase (.Subscript o ke G0) "append" X.env (eval (.Subscript o ke G0) X.env)=eval (.Subscript o ke G0) X.env:=by rfl)
  (FN:((backTo Er (starEach [e] X.env)).all (fun x=>!x.1)&&(backToKw Er (keywordEach [] X.env)).all (fun x=>x.1.isSome)&&decide ([e].length+([]:List Keyword).length+(if([]:List Keyword).isEmpty then 0 else 1)<30))=true:=by rfl)
  (E3:(apos.endLine==Er.line)=true:=by rfl) (hs:starEach [e] X.env=(false,eval e X.env)::starEach [] X.env:=by rfl) (EL:(backTo Er (starEach [] X.env)).any (·.1)=false:=by rfl):
  QE X (.Call (.Attribute (.Subscript o ke G0) "append" apos) [e] [] Er) (qF i c l):=by
 refine bo (qo PX Qh Qi fm (xI rR ho hk Gp) (dZ he iG hs) E2 FN E3 hs EL) fun σ H Q Ex=>?_
 obtain⟨G,env,fp,r,env',rel,e,k⟩:=Ex;unfold qF at e;split at e
 ·rename_i ds d hi hl;split at e
  ·rename_i m hm;split at e
   ·rename_i es hes;split at e
    ·rename_i hz;cases e;obtain⟨p,xs,q,zs,ev,hp,lx,ex,hq,rz,kk⟩:=rel.chgAt hi hes;obtain⟨vd,evd,rd⟩:=rel.fz hl;obtain⟨fq,Ed,El⟩:=kk (es++[d]) (zs++[vd]) (rz.app (.one rd));refine⟨.ref p,ev,p,xs,c,.ref q,rfl,rfl,SqL.of hp,?_,.inl ⟨rfl,zs,SqL.of hq⟩,vd,evd,q,zs,vd,rfl,rfl,hq,by rw[rz.length];exact hz,k _ _ G fq El (Ed.push gx)⟩;unfold Ft;rw[lx,hm];exact ex
    ·cases e
   ·cases e
  ·cases e
 ·cases e
noncomputable def vN(i:Nat)(f:FX):FX:=fun env=>match env[i]? with
 |some (some (.t [.f,.l .f],.tup [_,.lst _]))=>(f env).bind fun q=>(match q.2[i]? with
  |some (some (.t [.f,.l .f],.tup [d,.lst ds]))=>if ds.length<sizeLine then .ok ((.f,.non),q.2.set i (some (.t [.f,.l .f],.tup [d,.lst (ds++[q.1.2])]))) else .bad
  |_=>.bad)
 |_=>.bad
theorem yy{i:Nat}{o e:Expr}{f:FX}{j G0 ipos apos Er}(ho:PE X o (qh i))(he:QE X e f)
  (E2:attributeBase (.Subscript o (.Constant (.int 1) j ipos) G0) "append" X.env (eval (.Subscript o (.Constant (.int 1) j ipos) G0) X.env)=eval (.Subscript o (.Constant (.int 1) j ipos) G0) X.env:=by rfl)
  (FN:((backTo Er (starEach [e] X.env)).all (fun x=>!x.1)&&(backToKw Er (keywordEach [] X.env)).all (fun x=>x.1.isSome)&&decide ([e].length+([]:List Keyword).length+(if([]:List Keyword).isEmpty then 0 else 1)<30))=true:=by rfl)
  (E3:(apos.endLine==Er.line)=true:=by rfl) (hs:starEach [e] X.env=(false,eval e X.env)::starEach [] X.env:=by rfl) (EL:(backTo Er (starEach [] X.env)).any (·.1)=false:=by rfl):
  QE X (.Call (.Attribute (.Subscript o (.Constant (.int 1) j ipos) G0) "append" apos) [e] [] Er) (vN i f):=by
 refine bo (qo PX Qh Qi fm (xI wq ho rm (by exact fun _ _=>rfl)) (az he aV hs) E2 FN E3 hs EL) fun σ H Q Ex=>?_
 obtain⟨G,env,fp,r,env',rel,e,k⟩:=Ex;unfold vN at e;split at e
 ·rename_i d0 l0 hi;obtain⟨⟨r1,Ec⟩,e1,e⟩:=aj e;dsimp only at e;split at e
  ·rename_i d ds Iq;split at e
   ·rename_i hl;cases e;obtain⟨v,a,b,ev,r0,_,_⟩:=rel.rep.take hi;obtain⟨t,y,q,zs,et,gt,rd,hq,ef,rz⟩:=ox.mp r0;subst et;refine⟨.ref t,ev,t,[y,.ref q],1,.ref q,rfl,rfl,SqT.of (rel.gh _ _ gt),rfl,.inl ⟨rfl,zs,SqL.of hq⟩,G,env,fp,[r1.2],Ec,rel,by show(f env).bind _=_;rw[e1];rfl,fun vs H1 G1 Eu Ep Ee rs=>?_⟩;rw[Reps]at rs;obtain⟨x,ys,L4,ry,rn⟩:=rs;rw[Reps]at rn;subst rn;obtain⟨v2,c,Ly,r2,nd,cg⟩:=Ee.chgV Iq;rw[ev]at Ly;cases Ly;obtain⟨t2,y2,q2,Nq,et2,N8,rd2,hq2,ef2,MQ⟩:=ox.mp r2;cases et2;have:=Ep.gg _ _ gt;rw[N8]at this;cases this;subst ef2;obtain⟨fq,Ed,El⟩:=cg q (.lst (Nq++[x])) tL (.tup [d,.lst (ds++[r1.2])]) (by simp) (ox.mpr ⟨t,y,q,Nq++[x],rfl,N8,rd2,br,rfl,MQ.app (.one ry)⟩);exact⟨q,Nq,x,rfl,L4,hq2,by rw[MQ.length];exact hl,k _ _ G1 fq (Ep.trans El) (Ed.push gx)⟩
   ·cases e
  ·cases e
 ·cases e
end
end PV
namespace LW
open PySem L2 NX PV
abbrev qG(f:FX):FI:=FK (za f) (FK (kr f) (ku f))
def jT:FS:=(dm (iL IW IW (ao (aB (.str [97]))) (au 0) (ao (aB (.str [122])))))
def bP:List D->Res R:=fBody 1 0 jT
def jU:FS:=(dm (iL IW IW (ao (aB (.str [48]))) (au 0) (ao (aB (.str [57])))))
def bY:List D->Res R:=fBody 1 0 jU
noncomputable def ng:FS:=(sSeq (E7 (EH (cK bP (af (au 0) ax)))
  (dm (aB (.str [108,101,116,116,101,114])))
  bX)
  (sSeq (E7 (EH (cK bY (af (au 0) ax)))
  (dm (aB (.str [102,105,103,117,114,101])))
  bX)
  (sSeq (E7 (EH (bU FW (au 0) (ao (aB (.str [32])))))
  (dm (aB (.str [98,108,97,110,107])))
  bX)
  (sSeq (E7 (EH (bU FW (au 0) (ao (aB (.str [59])))))
  (dm (aB (.str [115,101,109,105,99,111,108,111,110])))
  bX)
  eZ))))
def cH:List D->Res R:=fBody 1 0 ng
def dF:FS:=(cn 3 (aE addD (au 3) (ao (aB (.int 1)))))
def gq:FS:=(dC (uL (EH (aE GP (au 3) (ao (aR eR (af (au 0) ax))))) (EH (bU FW (ao (cK cH (af (ao (aE EG (au 0) (au 3))) ax))) (au 2))))
  dF 100000)
def fF:FS:=(dm (i4 3))
def fG:FS:=(sSeq (cn 3 (aE addD (au 1) (ao (aB (.int 1)))))
  (sSeq (E7 (EH (bU FW (au 2) (ao (aB (.str [115,101,109,105,99,111,108,111,110])))))
  (dm (i4 3))
  bX)
  (sSeq gq
  fF)))
def bE:List D->Res R:=fBody 3 1 fG
noncomputable def fH:FS:=(sSeq (E7 (EH (aE JQ (ao (aR eR (af (au 0) ax))) (ao (aB (.int 60)))))
  eZ
  bX)
  (E7 (uL (EH (aE JQ (ao (aR eR (af (au 0) ax))) (ao (aB (.int 1))))) (EH (bU FW (ao (aE EG (au 0) (ao (aB (.int 0))))) (ao (aB (.str [48]))))))
  eZ
  bX))
def bI:List D->Res R:=fBody 1 0 fH
noncomputable def gj:FS:=(sSeq (cn 3 (cK cH (af (ao (aE EG (au 0) (au 2))) ax)))
  (sSeq (cn 4 (cK bE (af (au 0) (af (au 2) (af (au 3) ax)))))
  (sSeq (cn 5 (i9 (au 0) (cV (a8 2)) (cV (a8 4))))
  (sSeq (E7 (EH (bU FW (au 3) (ao (aB (.str [102,105,103,117,114,101])))))
  (gy (cK bI (af (au 5) ax)))
  bX)
  (sSeq (E7 (EH (bU GH (au 3) (ao (aB (.str [98,108,97,110,107])))))
  (gy (uN 1 (a8 5)))
  bX)
  (cn 2 (a8 4)))))))
def nh:FS:=(dC (EH (aE GP (au 2) (ao (aR eR (af (au 0) ax)))))
  gj 100000)
def kM:FS:=(dm (i4 1))
def tw:FS:=(sSeq (E7 (nR (EH (JG "str" (au 0))))
  eZ
  bX)
  (sSeq (cn 1 (ie bK))
  (sSeq (cn 2 (aB (.int 0)))
  (sSeq nh
  kM))))
def ik:List D->Res R:=fBody 1 5 tw
def jV:FS:=(dm (aE addD (ao (aB (.int 1))) (ao (ye (i7 (qG (aE EG (au 0) (ao (aB (.int 1))))) [none,none,none] (mQ 3 (aS (aH 0) (aS (aH 1) (aS (aH 2) gA)))) mn (aR maxD (af (au 0) (af (au 2) ax)))) (aB (.int 0))))))
def cR:List D->Res R:=fBody 1 0 jV
noncomputable def ni:FS:=(sSeq (E7 (JE (EH (bU FW (au 0) (ao (aB (.str [109,111,118,101,115]))))) (nR (EH (iL IW IW (ao (aB (.int 1))) (ao (aR eR (af (au 0) ax))) (ao (aB (.int 8)))))))
  (dm (aB (.bl false)))
  bX)
  (dm (aR wK (af (ao (i7 (FK (oq 0) (FK (kr (a8 0)) (ku (a8 0)))) [none] (aH 0) mn (cK bP (af (au 0) ax)))) ax))))
def cX:List D->Res R:=fBody 1 0 ni
noncomputable def oy:FS:=(dm (aR wK (af (ao (i7 (FK (kx true true (af (ao (a8 0)) (af (ao (i9 (au 0) (cV (aB (.int 1))) de)) ax))) (FK (kx true false (af (ao (a8 0)) (af (ao (i9 (au 0) (cV (aB (.int 1))) de)) ax))) (FK (kx false true (af (ao (a8 0)) (af (ao (i9 (au 0) (cV (aB (.int 1))) de)) ax))) (kx false false (af (ao (a8 0)) (af (ao (i9 (au 0) (cV (aB (.int 1))) de)) ax)))))) [none,none] (mQ 2 (aS (aH 0) (aS (aH 1) gA))) mn (aE GP (au 0) (au 1)))) ax)))
def d7:List D->Res R:=fBody 1 0 oy
def jW:FS:=(dm (vD (aE IW (ao (aR eR (af (au 0) ax))) (ao (aB (.int 5)))) (vD (cK d7 (af (au 0) ax)) (aR wK (af (ao (i7 (FK (oq 0) (FK (kr (a8 0)) (ku (a8 0)))) [none] (aH 0) mn (cK cX (af (au 0) ax)))) ax)))))
def cS:List D->Res R:=fBody 1 0 jW
def kN:FS:=(dm (iL IW GP (ao (aB (.int 0))) (au 0) (ao (aB (.int 12)))))
def b7:List D->Res R:=fBody 1 0 kN
noncomputable def kO:FS:=(sSeq (E7 (JE (EH (aE JQ (ao (aR eR (af (au 0) ax))) (ao (aB (.int 60))))) (nR (EH (cK d7 (af (au 0) ax)))))
  (dm (aB (.bl false)))
  bX)
  (dm (aR wK (af (ao (i7 (FK (oq 0) (FK (kr (a8 0)) (ku (a8 0)))) [none,none,none,some 1] (mQ 3 (aS (aH 0) (aS (aH 1) (aS (aH 2) gA)))) mn (vD (cK b7 (af (au 0) ax)) (vD (bU HY (au 1) (au 3)) (cK b7 (af (au 2) ax)))))) ax))))
def dq:List D->Res R:=fBody 2 0 kO
noncomputable def dR:FS:=(E7 (uL (EH (bU FW (ao (aE EG (au 4) (ao (aB (.int 0))))) (ao (aE EG (au 1) (au 3))))) (EH (bU zc (ao (aE EG (au 4) (ao (aB (.int 2))))) (au 1))))
  (sSeq (gy (uN 1 (aE EG (au 4) (ao (aB (.int 2))))))
  (gy (uN 2 (a8 4))))
  bX)
def jX:FS:=(mm (qG (a8 0)) (aH 4)
  dR)
def iP:FS:=(cn 3 (aE addD (au 3) (ao (aB (.int 1)))))
def fI:FS:=(sSeq jX
  iP)
def jY:FS:=(dC (EH (aE GP (au 3) (ao (aR eR (af (au 1) ax)))))
  fI 100000)
def iQ:FS:=(dm (i4 2))
def nj:FS:=(sSeq (cn 1 (ie (aA (aB (.int 0)) bK)))
  (sSeq (cn 2 (ie bK))
  (sSeq (cn 3 (aB (.int 0)))
  (sSeq jY
  iQ))))
def dG:List D->Res R:=fBody 1 4 nj
noncomputable def kP:FS:=(sSeq (E7 (JE (nR (EH (cK cS (af (au 0) ax)))) (nR (EH (cK dq (af (au 1) (af (au 0) ax))))))
  (dm (aB (.bl false)))
  bX)
  (dm (bU FW (ao (aE addD (ao (aB (.int 1))) (ao (aR eR (af (ao (cK dG (af (au 1) ax))) ax))))) (ao (cK cR (af (ao (sN (aA (a8 0) (aA (a8 1) bK)))) ax))))))
def dr:List D->Res R:=fBody 2 0 kP
def dh:FS:=(E7 (EH (bU FW (au 2) (ao (aB (.str [59])))))
  (gy (vM 1 (ie bK)))
  (gy (qF 1 (-1) 2)))
def iR:FS:=(mm (qG (cK ik (af (au 0) ax))) (aH 2)
  dh)
def g6:FS:=(dm (i4 1))
def kQ:FS:=(sSeq (cn 1 (yu (ie bK)))
  (sSeq iR
  g6))
def dt:List D->Res R:=fBody 1 2 kQ
def jZ:FS:=(sSeq (E7 (nR (EH (cK bY (af (ao (aE EG (au 0) (ao (aB (.int 0))))) ax))))
  eZ
  bX)
  (dm (aR Az (af (au 0) ax))))
def cy:List D->Res R:=fBody 1 0 jZ
def nq:FS:=(sSeq (E7 (nR (EH (cK cX (af (au 0) ax))))
  eZ
  bX)
  (dm (i4 0)))
def cp:List D->Res R:=fBody 1 0 nq
noncomputable def kR:FS:=(sSeq (E7 (EH (bU GH (ao (i9 (au 0) de (cV (aB (.int 1))))) (ao (ie (aA (aB (.str [109,111,118,101,115])) bK)))))
  eZ
  bX)
  (sSeq (E7 (EH (aE JQ (ao (aE zb (ao (aR eR (af (au 0) ax))) (ao (aB (.int 1))))) (ao (aB (.int 5)))))
  eZ
  bX)
  (dm (i7 (qG (i9 (au 0) (cV (aB (.int 1))) de)) [none] (aH 0) mn (cK cp (af (au 0) ax))))))
def du:List D->Res R:=fBody 1 0 kR
def iS:FS:=(dm (wR m8 (ao (aB (.str [59,32]))) (af (ao (aE addD (ao (ie (aA (wR m8 (ao (aB (.str [32]))) (af (ao (aE addD (ao (ie (aA (aB (.str [109,111,118,101,115])) bK))) (ao (aR qB (af (au 0) ax))))) ax)) bK))) (au 1))) ax)))
def cA:List D->Res R:=fBody 2 0 iS
noncomputable def pS:FS:=(sSeq (E7 (EH (bU GH (ao (aR eR (af (au 0) ax))) (ao (aB (.int 3)))))
  eZ
  bX)
  (dm (sN (aA (cK cy (af (ao (aE EG (au 0) (ao (aB (.int 0))))) ax)) (aA (cK cp (af (ao (aE EG (au 0) (ao (aB (.int 1))))) ax)) (aA (cK cy (af (ao (aE EG (au 0) (ao (aB (.int 2))))) ax)) bK))))))
def dS:List D->Res R:=fBody 1 0 pS
noncomputable def iT:FS:=(sSeq (cn 1 (Cy (cK dt (af (au 0) ax))))
  (sSeq (cn 2 (aR kG (af (ao (aR cx (af (ao (cK du (af (ao (aE EG (au 1) (ao (aB (.int 0))))) ax))) ax))) ax)))
  (sSeq (E7 (EH (aE JQ (ao (aE zb (ao (aR eR (af (au 1) ax))) (ao (aB (.int 1))))) (ao (aB (.int 60)))))
  eZ
  bX)
  (sSeq (cn 3 (aR cx (af (ao (i7 (qG (i9 (au 1) (cV (aB (.int 1))) de)) [none] (aH 0) mn (cK dS (af (au 0) ax)))) ax)))
  (sSeq (E7 (nR (EH (cK dr (af (au 2) (af (au 3) ax)))))
  eZ
  bX)
  (dm (yo (a8 2) (i4 3))))))))
def bL:List D->Res R:=fBody 1 3 iT
noncomputable def iU:FS:=(dm (cK cA (af (ao (aE EG (au 0) (ao (aB (.int 0))))) (af (ao (i7 (qG (aE EG (au 0) (ao (aB (.int 1))))) [none,none,none] (mQ 3 (aS (aH 0) (aS (aH 1) (aS (aH 2) gA)))) mn (tu (aA (tm (a8 0)) (aA (aB (.str [32])) (aA (tm (a8 1)) (aA (aB (.str [32])) (aA (tm (a8 2)) bK)))))))) ax))))
def bM:List D->Res R:=fBody 1 0 iU
def gr:FS:=(sSeq (E7 (EH (aE GP (au 1) (ao (aR eR (af (au 0) ax)))))
  (dm (aE EG (au 0) (au 1)))
  bX)
  (dm (aB (.int 0))))
def ay:List D->Res R:=fBody 2 0 gr
noncomputable def iV:FS:=(sSeq (cn 3 (aB (.str [97,98,99,100,101,102,103,104,105,106,107,108,109,110,111,112,113,114,115,116,117,118,119,120,121,122])))
  (sSeq (cn 4 (aE fg (au 0) (ao (aE uM (ao (aB (.int 10))) (ao (aB (.int 20)))))))
  (sSeq (cn 5 (aB (.str [])))
  (sSeq (mm (eN (ao (aE addD (ao (aB (.int 1))) (ao (aE fg (au 4) (ao (aB (.int 8)))))))) (aH 6)
  (cn 5 (aE addD (au 5) (ao (aE EG (au 3) (ao (aE fg (ao (aE addD (ao (aE gU (au 4) (ao (aE addD (au 6) (ao (aB (.int 1))))))) (ao (aE uO (ao (aE uO (ao (aB (.int 3))) (au 6))) (au 6))))) (ao (aB (.int 26))))))))))
  (sSeq (E7 (uL (EH (bU FW (ao (aE fg (au 4) (ao (aB (.int 3))))) (ao (aB (.int 1))))) (EH (aE ML (ao (aR eR (af (au 5) ax))) (au 2))))
  (dm (aR cx (af (ao (i7 (eN (au 2)) [none,some 5] (aH 0) mn (aE EG (ao (ie (aA (i9 (au 1) de (cV (aE addD (au 0) (ao (aB (.int 1)))))) (aA (aB (.str [109,111,118,101,115,97])) bK)))) (ao (aR vI (af (ao (bU FW (ao (i9 (au 1) de (cV (aE addD (au 0) (ao (aB (.int 1))))))) (ao (aB (.str [109,111,118,101,115]))))) ax)))))) ax)))
  bX)
  (sSeq (cn 7 (aE fg (au 1) (ao (aR eR (af (au 5) ax)))))
  (sSeq (cn 8 (wR om (au 3) (af (ao (aE EG (au 5) (au 7))) ax)))
  (sSeq (cn 9 (ie bK))
  (sSeq (mm (eN (au 2)) (aH 6)
  (sSeq (cn 10 (aE addD (ao (aE addD (ao (i9 (au 5) de (cV (a8 7)))) (ao (aE EG (au 3) (ao (aE fg (ao (aE addD (au 8) (au 6))) (ao (aB (.int 26))))))))) (ao (i9 (au 5) (cV (aE addD (au 7) (ao (aB (.int 1))))) de))))
  (gy (uN 9 (aE EG (ao (ie (aA (a8 10) (aA (aB (.str [109,111,118,101,115,97])) bK)))) (ao (aR vI (af (ao (bU FW (au 10) (ao (aB (.str [109,111,118,101,115]))))) ax))))))))
  (dm (aR cx (af (au 9) ax))))))))))))
def cB:List D->Res R:=fBody 3 8 iV
noncomputable def j0:FS:=(sSeq (cn 2 (aE addD (ao (aB (.int 1))) (ao (aE fg (ao (cK ay (af (au 0) (af (ao (aB (.int 2))) ax)))) (ao (aB (.int 12)))))))
  (sSeq (cn 3 (eNewD true))
  (sSeq (mm (lz (af (ao (aB (.int 1))) (af (au 2) ax))) (aH 4)
  (sSeq (cn 5 (aE fg (ao (cK ay (af (au 0) (af (ao (aE addD (ao (aB (.int 2))) (au 4))) ax)))) (ao (aE uM (ao (aB (.int 10))) (ao (aB (.int 12)))))))
  (yi 3 (sN (aA (aE fg (au 5) (au 4)) (aA (aE EG (au 1) (ao (aE fg (ao (aE gU (au 5) (ao (aB (.int 12))))) (ao (aR eR (af (au 1) ax)))))) (aA (a8 4) bK)))) (aB (.bl true)))))
  (sSeq (mm (qG (i9 (au 0) (cV (aB (.int 14))) de)) (aH 6)
  (sSeq (cn 5 (aE fg (au 6) (ao (aE uM (ao (aB (.int 10))) (ao (aB (.int 12)))))))
  (sSeq (cn 7 (sN (aA (aE fg (au 5) (au 2)) (aA (aE EG (au 1) (ao (aE fg (ao (aE gU (au 5) (ao (aB (.int 12))))) (ao (aR eR (af (au 1) ax)))))) (aA (aE fg (ao (aE gU (au 5) (ao (aB (.int 60))))) (au 2)) bK)))))
  (E7 (EH (aE GP (ao (aR eR (af (au 3) ax))) (ao (aB (.int 60)))))
  (yi 3 (a8 7) (aB (.bl true)))
  bX))))
  (dm (aR cx (af (au 3) ax)))))))
def cz:List D->Res R:=fBody 2 6 j0
noncomputable def cI:FS:=(sSeq (cn 3 (aE fg (ao (aE addD (ao (aE uO (au 3) (ao (aB (.int 48271))))) (ao (aB (.int 11))))) (ao (aB (.int 2147483647)))))
  (gy (BK 2 (aE fg (ao (aE gU (au 3) (ao (aB (.int 7))))) (ao (aE addD (ao (aR eR (af (au 2) ax))) (ao (aB (.int 1)))))) (a8 4))))
def gs:FS:=(mm (qG (a8 0)) (aH 4)
  cI)
def fJ:FS:=(dm (i4 2))
def iW:FS:=(sSeq (cn 2 (ie bK))
  (sSeq (cn 3 (aE addD (ao (aE fg (au 1) (ao (aB (.int 2147483629))))) (ao (aB (.int 1)))))
  (sSeq gs
  fJ)))
def bZ:List D->Res R:=fBody 2 3 iW
noncomputable def cu:FS:=(sSeq (cn 5 (i9 (ao (aB (.str [32,32]))) de (cV (a8 1))))
  (sSeq (E7 (uL (EH (aE JQ (au 4) (ao (aB (.int 0))))) (uL (EH (bU FW (au 1) (ao (aB (.int 0))))) (uL (EH (bU HY (ao (aE EG (ao (aE EG (au 0) (au 4))) (ao (aB (.int 0))))) (au 2))) (EH (bU HY (ao (aE EG (ao (aE EG (au 0) (ao (aE zb (au 4) (ao (aB (.int 1))))))) (ao (aB (.int 0))))) (au 2))))))
  (cn 5 (aB (.str [32])))
  bX)
  (cn 3 (aE addD (ao (aE addD (au 3) (au 5))) (ao (aE EG (au 0) (au 4)))))))
def fK:FS:=(mm (eN (ao (aR eR (af (au 0) ax)))) (aH 4)
  cu)
def e9:FS:=(dm (i4 3))
def g7:FS:=(sSeq (cn 2 (aB (.str [97,98,99,100,101,102,103,104,105,106,107,108,109,110,111,112,113,114,115,116,117,118,119,120,121,122])))
  (sSeq (cn 3 (aB (.str [])))
  (sSeq fK
  e9)))
def b8:List D->Res R:=fBody 2 4 g7
def bF:FS:=(E7 (JE (nR (EH (JG "int" (au 2)))) (EH (JG "bool" (au 2))))
  (dm (aB (.bl false)))
  bX)
def eE:FS:=(mm (qG (ie (aA (aE EG (au 1) (ao (aB (.int 0)))) (aA (aE EG (au 1) (ao (aB (.int 2)))) bK)))) (aH 2)
  bF)
def bW:FS:=(sSeq (E7 (JE (nR (EH (JG "tuple" (au 1)))) (EH (bU GH (ao (aR eR (af (au 1) ax))) (ao (aB (.int 3))))))
  (dm (aB (.bl false)))
  bX)
  eE)
def eF:FS:=(mm (qG (aE EG (au 0) (ao (aB (.int 1))))) (aH 1)
  bW)
def dU:FS:=(dm (aB (.bl true)))
noncomputable def fL:FS:=(sSeq (E7 (JE (nR (EH (JG "tuple" (au 0)))) (JE (EH (bU GH (ao (aR eR (af (au 0) ax))) (ao (aB (.int 2))))) (nR (EH (JG "tuple" (ao (aE EG (au 0) (ao (aB (.int 0))))))))))
  (dm (aB (.bl false)))
  bX)
  (sSeq (E7 (nR (EH (JG "list" (ao (aE EG (au 0) (ao (aB (.int 1))))))))
  (dm (aB (.bl false)))
  bX)
  (sSeq eF
  dU)))
def bJ:List D->Res R:=fBody 1 2 fL
noncomputable def lR:FS:=(sSeq (cn 10 (cK bL (af (au 9) ax)))
  (sSeq (E7 (JE (nR (EH (cK bJ (af (au 10) ax)))) (EH (bU GH (au 10) (au 3))))
  (dm (aB (.bl false)))
  bX)
  (gy (vN 10 (sN (aA (aB (.int 0)) (aA (aB (.str [97])) (aA (aB (.int 0)) bK))))))))
def tF:FS:=(mm (qG (ie (aA (a8 4) (aA (cK b8 (af (au 8) (af (ao (aE fg (ao (cK ay (af (au 0) (af (ao (aB (.int 15))) ax)))) (ao (aB (.int 3))))) ax))) bK)))) (aH 9)
  lR)
def pT:FS:=(sSeq (cn 11 (cK bL (af (au 4) ax)))
  (dm (vD (bU FW (au 11) (au 3)) (JG "str" (ao (cK bM (af (au 11) ax)))))))
def jk:FS:=(cn 8 (aE addD (au 8) (ao (ie (aA (aB (.str [59])) (aA (aR wV (af (au 5) ax)) (aA (a8 6) (aA (aR wV (af (au 7) ax)) bK))))))))
def tG:FS:=(mm (qG (cK bZ (af (au 2) (af (ao (cK ay (af (au 0) (af (ao (aB (.int 14))) ax)))) ax)))) (mQ 3 (aS (aH 5) (aS (aH 6) (aS (aH 7) gA))))
  jk)
def pU:FS:=(sSeq tF
  pT)
noncomputable def jl:FS:=(cn 4 (aE addD (ao (aE addD (ao (aE addD (ao (aE addD (ao (aE addD (ao (aE addD (au 4) (ao (aB (.str [59,32]))))) (ao (aR wV (af (au 5) ax))))) (ao (aB (.str [32]))))) (au 6))) (ao (aB (.str [32]))))) (ao (aR wV (af (au 7) ax)))))
def tH:FS:=(mm (qG (a8 2)) (mQ 3 (aS (aH 5) (aS (aH 6) (aS (aH 7) gA))))
  jl)
noncomputable def pV:FS:=(sSeq (E7 (EH (bU GH (ao (cK bM (af (ao (sN (aA (aR kG (af (au 1) ax)) (aA (aR qB (af (au 2) ax)) bK)))) ax))) (au 4)))
  (dm (aB (.bl false)))
  bX)
  (sSeq (cn 8 (aE addD (ao (ie (aA (aB (.str [109,111,118,101,115])) bK))) (ao (cK bZ (af (au 1) (af (ao (cK ay (af (au 0) (af (ao (aB (.int 13))) ax)))) ax))))))
  (sSeq tG
  pU)))
noncomputable def AD:FS:=(sSeq (cn 1 (cK cB (af (ao (aE gU (ao (cK ay (af (au 0) (af (ao (aB (.int 0))) ax)))) (ao (aB (.int 6))))) (af (ao (cK ay (af (au 0) (af (ao (aB (.int 1))) ax)))) (af (ao (aE fg (ao (cK ay (af (au 0) (af (ao (aB (.int 0))) ax)))) (ao (aB (.int 6))))) ax)))))
  (sSeq (cn 2 (ie bK))
  (sSeq (E7 (EH (bU GH (au 1) (ao (ie bK))))
  (cn 2 (cK cz (af (au 0) (af (au 1) ax))))
  bX)
  (sSeq (cn 3 (sN (aA (aR kG (af (au 1) ax)) (aA (a8 2) bK))))
  (sSeq (cn 4 (wR m8 (ao (aB (.str [32]))) (af (ao (aE addD (ao (ie (aA (aB (.str [109,111,118,101,115])) bK))) (au 1))) ax)))
  (sSeq tH
  pV))))))
def yz:List D->Res R:=fBody 1 11 AD
end LW
namespace LW
open PySem PySem.Spec PyProof.Rows L2 NX PV
theorem lS{α:Type}{Q:List α->Prop}(h:∀a,Q [a]):∀us,us.length=1->Q us
 |[a],_=>h a
theorem yA{α:Type}{Q:List α->Prop}(h:∀a b,Q [a,b]):∀us,us.length=2->Q us
 |[a,b],_=>h a b
theorem Dc{α:Type}{Q:List α->Prop}(h:∀a b c,Q [a,b,c]):∀us,us.length=3->Q us
 |[a,b,c],_=>h a b c
theorem eG{X:Cx}{tg e:Expr}{f:FX}(h:QE X e f):QI X tg e (FK (za f) (FK (kr f) (ku f))):=sS (x9 h) (sS (pE h) (pF h))
def top(i:Nat):Stmt:=PySem.Challenge.pw_netfinder_k04_charts_read_and_shown.main.body.getD i (.Pass ⟨0,0,0,0⟩)
theorem De:Str.ofString "a" = S [97]:=by decide +kernel
theorem DY:Str.ofString "z" = S [122]:=by decide +kernel
theorem Dg:Str.ofString "0" = S [48]:=by decide +kernel
theorem DZ:Str.ofString "9" = S [57]:=by decide +kernel
theorem CA:Str.ofString ";" = S [59]:=by decide +kernel
theorem Dh:Str.ofString "semicolon" = S [115,101,109,105,99,111,108,111,110]:=by decide +kernel
theorem wW:Str.ofString " " = S [32]:=by decide +kernel
theorem Di:Str.ofString "blank" = S [98,108,97,110,107]:=by decide +kernel
theorem Dj:Str.ofString "figure" = S [102,105,103,117,114,101]:=by decide +kernel
theorem D0:Str.ofString "letter" = S [108,101,116,116,101,114]:=by decide +kernel
theorem oz:Str.ofString "moves" = S [109,111,118,101,115]:=by decide +kernel
theorem AE:Str.ofString "; " = S [59,32]:=by decide +kernel
theorem AF:Str.ofString "movesa" = S [109,111,118,101,115,97]:=by decide +kernel
theorem AG:Str.ofString "" = S []:=by decide +kernel
theorem AH:Str.ofString "abcdefghijklmnopqrstuvwxyz" = S [97,98,99,100,101,102,103,104,105,106,107,108,109,110,111,112,113,114,115,116,117,118,119,120,121,122]:=by decide +kernel
theorem CB:Str.ofString "  " = S [32,32]:=by decide +kernel
section
variable{P:Program}{w:World}{K:W.Frag}{mg:Str->Option Value}{base:Heap}
abbrev gG:Stmt:=top 6
theorem nu:FnScope ["sign"] ["sign"] (defScope gG):=fs
theorem nv(Df:Def K mg "is_letter" gG):Ct P w K mg base "is_letter" 1 (spF K bP):=
 cM Df nu (fun _ _ _ _ _ _=>lS fun _=>rfl) fun f ED A outer s H E hr=>
  (aq (aP (lu mS mS (aa (aU De (by decide))) (ae (pv 0)) (aa (aU DY (by decide))))))
abbrev gH:Stmt:=top 7
theorem ny:FnScope ["sign"] ["sign"] (defScope gH):=fs
theorem nE(Df:Def K mg "is_figure" gH):Ct P w K mg base "is_figure" 1 (spF K bY):=
 cM Df ny (fun _ _ _ _ _ _=>lS fun _=>rfl) fun f ED A outer s H E hr=>
  (aq (aP (lu mS mS (aa (aU Dg (by decide))) (ae (pv 0)) (aa (aU DZ (by decide))))))
abbrev j3:Stmt:=top 8
theorem qH:FnScope ["sign"] ["sign"] (defScope j3):=fs
theorem qI(Df:Def K mg "kind_of" j3)(Fc:Ct P w K mg base "is_figure" 1 (spF K bY))(Fd:Ct P w K mg base "is_letter" 1 (spF K bP)):Ct P w K mg base "kind_of" 2 (spF K cH):=
 cM Df qH (fun _ _ _ _ _ _=>lS fun _=>rfl) fun f ED A outer s H E hr=>
  (ah (cb (c7 (aJ Fd hr.m (by rfl) (ab (ae (pv 0)) ai)))
  (aq (aP (aU D0 (by decide))))
  aO)
  (ah (cb (c7 (aJ Fc hr.m (by rfl) (ab (ae (pv 0)) ai)))
  (aq (aP (aU Dj (by decide))))
  aO)
  (ah (cb (bu (gE hr.units) (ae (pv 0)) (aa (aU wW (by decide))) (aY _))
  (aq (aP (aU Di (by decide))))
  aO)
  (ah (cb (bu (gE hr.units) (ae (pv 0)) (aa (aU CA (by decide))) (aY _))
  (aq (aP (aU Dh (by decide))))
  aO)
  (aq cE)))))
abbrev fM:Stmt:=top 9
theorem eS:FnScope ["text","start","kind","end"] ["text","start","kind"] (defScope fM):=fs
theorem lT(Df:Def K mg "end_of_run" fM)(FY:Ct P w K mg base "kind_of" 2 (spF K cH))(Ek:mg "len" = none):Ct P w K mg base "end_of_run" 3 (spF K bE):=
 cM Df eS (fun _ _ _ _ _ _=>Dc fun _ _ _=>rfl) fun f ED A outer s H E hr=>
  (ah (aI (i:=3) eS.nd rfl (lo rfl) (aM bg (ae (pv 1)) (aa aw)))
  (ah (cb (bu (gE hr.units) (ae (pv 2)) (aa (aU Dh (by decide))) (aY _))
  (aq (aP (eL (pv 3))))
  aO)
  (ah (ly 100000 OZ (QW.qt (jG (eY (jQ hr.units0) (ae (pv 3)) (aa (aG bx (by rfl) Ek bt_len (ab (ae (pv 0)) ai))) (aY _)) (jE (bu (gE hr.units) (aa (aJ FY hr.m (by rfl) (ab (aa (cf (ae (pv 0)) (ae (pv 3)))) ai))) (ae (pv 2)) (aY _)))))
  (aq (aI (i:=3) eS.nd rfl (lo rfl) (aM bg (ae (pv 3)) (aa aw)))))
  (aq (aP (eL (pv 3)))))))
abbrev dH:Stmt:=top 10
theorem ja:FnScope ["figures"] ["figures"] (defScope dH):=fs
theorem jb(Df:Def K mg "check_figures" dH)(EA:Gi mg "MOST_FIGURES" (60))(Ek:mg "len" = none):Ct P w K mg base "check_figures" 1 (spF K bI):=
 cM Df ja (fun _ _ _ _ _ _=>lS fun _=>rfl) fun f ED A outer s H E hr=>
  (ah (cb (eY qA (aa (aG bx (by rfl) Ek bt_len (ab (ae (pv 0)) ai))) (aa (oi EA (by rfl))) (aY _))
  (aq cE)
  aO)
  (aq (cb (QW.qt (jG (eY qA (aa (aG bx (by rfl) Ek bt_len (ab (ae (pv 0)) ai))) (aa aw) (aY _)) (jE (bu (gE hr.units) (aa (cf (ae (pv 0)) (aa aw))) (aa (aU Dg (by decide))) (aY _)))))
  (aq cE)
  aO)))
abbrev oA:Stmt:=top 11
theorem eT:FnScope ["text","told","start","kind","end","word"] ["text"] (defScope oA):=fs
theorem vO(Df:Def K mg "words" oA)(Gg:Ct P w K mg base "check_figures" 1 (spF K bI))(G9:Ct P w K mg base "end_of_run" 3 (spF K bE))(FY:Ct P w K mg base "kind_of" 2 (spF K cH))(Ei:mg "isinstance" = none)(Ek:mg "len" = none)(Fj:mg "str" = none):Ct P w K mg base "words" 4 (spF K ik):=
 cM Df eT (fun _ _ _ _ _ _=>lS fun _=>rfl) fun f ED A outer s H E hr=>
  (ah (cb (dP (c7 (mY (T:="str") (by decide) (ae (pv 0)) (by rfl) Ei (by rfl) Fj kA)))
  (aq cE)
  aO)
  (ah (aI (i:=1) eT.nd rfl (lo rfl) (cG aV))
  (ah (aI (i:=2) eT.nd rfl (lo rfl) aw)
  (ah (ly 100000 OZ (eY (jQ hr.units0) (ae (pv 2)) (aa (aG bx (by rfl) Ek bt_len (ab (ae (pv 0)) ai))) (aY _))
  (ah (aI (i:=3) eT.nd rfl (lo rfl) (aJ FY hr.m (by rfl) (ab (aa (cf (ae (pv 0)) (ae (pv 2)))) ai)))
  (ah (aI (i:=4) eT.nd rfl (lo rfl) (aJ G9 hr.m (by rfl) (ab (ae (pv 0)) (ab (ae (pv 2)) (ab (ae (pv 3)) ai)))))
  (ah (aI (i:=5) eT.nd rfl (lo rfl) (dQ (ae (pv 0)) (cw (aK (pv 2))) (cw (aK (pv 4)))))
  (ah (cb (bu (gE hr.units) (ae (pv 3)) (aa (aU Dj (by decide))) (aY _))
  (aq (eM (aJ Gg hr.m (by rfl) (ab (ae (pv 5)) ai))))
  aO)
  (ah (cb (bu (mW hr.units) (ae (pv 3)) (aa (aU Di (by decide))) (aY _))
  (aq (eM (gW (pv 1) (aK (pv 5)))))
  aO)
  (aq (aI (i:=2) eT.nd rfl (lo rfl) (aK (pv 4))))))))))
  (aq (aP (eL (pv 1))))))))
abbrev gI:Stmt:=top 17
theorem nF:FnScope ["chart"] ["chart"] (defScope gI):=fs
theorem nG(Df:Def K mg "states_of" gI)(Hz:mg "max" = none):Ct P w K mg base "states_of" 1 (spF K cR):=
 cM Df nF (fun _ _ _ _ _ _=>lS fun _=>rfl) fun f ED A outer s H E hr=>
  (aq (aP (aM bg (aa aw) (aa (yf rfl (by rfl) Hz (df [none,none,none] ["first","move","second"] rfl (e8 (eG (cf (ae (pv 0)) (aa aw)))) (fun _ _ _ _ _=>(have h:=(show List.Nodup (["first","move","second"]:List Str) from by decide +kernel);(kC rfl (bC (aN (i:=0) h rfl (lo rfl)) (bC (aN (i:=1) h rfl (lo rfl)) (bC (aN (i:=2) h rfl (lo rfl)) ib)))))) (fun _ _ _ _ _=>eO) (fun _ _ _ _ _=>(aG (Al rfl) (by rfl) Hz Au (ab (ae (pv 0)) (ab (ae (pv 2)) ai))))) aw)))))
abbrev j4:Stmt:=top 18
theorem qJ:FnScope ["text"] ["text"] (defScope j4):=fs
theorem qK(Df:Def K mg "is_name" j4)(Fd:Ct P w K mg base "is_letter" 1 (spF K bP))(EB:Gi mg "LONGEST_NAME" (8))(Fl:mg "all" = none)(Ek:mg "len" = none):Ct P w K mg base "is_name" 2 (spF K cX):=
 cM Df qJ (fun _ _ _ _ _ _=>lS fun _=>rfl) fun f ED A outer s H E hr=>
  (ah (cb (QW.qt (mO (bu (gE hr.units) (ae (pv 0)) (aa (aU oz (by decide))) (aY _)) (jF (dP (vE mS mS (aa aw) (aa (aG bx (by rfl) Ek bt_len (ab (ae (pv 0)) ai))) (aa (oi EB (by rfl))))))))
  (aq (aP i5))
  aO)
  (aq (aP (aG (pL rfl) (by rfl) Fl pQ (ab (aa (df [none] ["sign"] rfl (kK (ot (pv 0)) (kK (e8 (pE (aK (pv 0)))) (e8 (pF (aK (pv 0)))))) (fun _ _ _ _ _=>(aN (i:=0) (show List.Nodup (["sign"]:List Str) from by decide +kernel) rfl (lo rfl))) (fun _ _ _ _ _=>eO) (fun _ _ _ _ _=>(aJ Fd hr.m (by rfl) (ab (ae (pv 0)) ai))))) ai)))))
abbrev oB:Stmt:=top 19
theorem vP:FnScope ["values"] ["values"] (defScope oB):=fs
theorem vQ(Df:Def K mg "rises" oB)(Fl:mg "all" = none)(Gw:mg "zip" = none):Ct P w K mg base "rises" 1 (spF K d7):=
 cM Df vP (fun _ _ _ _ _ _=>lS fun _=>rfl) fun f ED A outer s H E hr=>
  (aq (aP (aG (pL rfl) (by rfl) Fl pQ (ab (aa (df [none,none] ["one","other"] rfl (e8 (sS (pH true true (by rfl) Gw (ab (aa (aK (pv 0))) (ab (aa (dQ (ae (pv 0)) (cw aw) cP)) ai))) (sS (pH true false (by rfl) Gw (ab (aa (aK (pv 0))) (ab (aa (dQ (ae (pv 0)) (cw aw) cP)) ai))) (sS (pH false true (by rfl) Gw (ab (aa (aK (pv 0))) (ab (aa (dQ (ae (pv 0)) (cw aw) cP)) ai))) (pH false false (by rfl) Gw (ab (aa (aK (pv 0))) (ab (aa (dQ (ae (pv 0)) (cw aw) cP)) ai))))))) (fun _ _ _ _ _=>(have h:=(show List.Nodup (["one","other"]:List Str) from by decide +kernel);(kC rfl (bC (aN (i:=0) h rfl (lo rfl)) (bC (aN (i:=1) h rfl (lo rfl)) ib))))) (fun _ _ _ _ _=>eO) (fun _ _ _ _ _=>(wH (jQ hr.units0) (ae (pv 0)) (ae (pv 1)) (aY _))))) ai))))
abbrev gJ:Stmt:=top 20
theorem nH:FnScope ["moves"] ["moves"] (defScope gJ):=fs
theorem nI(Df:Def K mg "are_moves" gJ)(FZ:Ct P w K mg base "is_name" 2 (spF K cX))(Ha:Ct P w K mg base "rises" 1 (spF K d7))(Et:Gi mg "MOST_MOVES" (5))(Fl:mg "all" = none)(Ek:mg "len" = none):Ct P w K mg base "are_moves" 3 (spF K cS):=
 cM Df nH (fun _ _ _ _ _ _=>lS fun _=>rfl) fun f ED A outer s H E hr=>
  (aq (aP (mP (wH mS (aa (aG bx (by rfl) Ek bt_len (ab (ae (pv 0)) ai))) (aa (oi Et (by rfl))) (aY _)) (mP (aJ Ha hr.m (by rfl) (ab (ae (pv 0)) ai)) (sx (aG (pL rfl) (by rfl) Fl pQ (ab (aa (df [none] ["move"] rfl (kK (ot (pv 0)) (kK (e8 (pE (aK (pv 0)))) (e8 (pF (aK (pv 0)))))) (fun _ _ _ _ _=>(aN (i:=0) (show List.Nodup (["move"]:List Str) from by decide +kernel) rfl (lo rfl))) (fun _ _ _ _ _=>eO) (fun _ _ _ _ _=>(aJ FZ hr.m (by rfl) (ab (ae (pv 0)) ai))))) ai)))))))
abbrev il:Stmt:=top 21
theorem oC:FnScope ["number"] ["number"] (defScope il):=fs
theorem oD(Df:Def K mg "is_state" il)(EE:Gi mg "MOST_STATES" (12)):Ct P w K mg base "is_state" 1 (spF K b7):=
 cM Df oC (fun _ _ _ _ _ _=>lS fun _=>rfl) fun f ED A outer s H E hr=>
  (aq (aP (lu mS (jQ hr.units0) (aa aw) (ae (pv 0)) (aa (oi EE (by rfl))))))
abbrev iq:Stmt:=top 22
theorem oE:FnScope ["arcs","moves"] ["arcs","moves"] (defScope iq):=fs
theorem oF(Df:Def K mg "are_arcs" iq)(Gx:Ct P w K mg base "is_state" 1 (spF K b7))(Ha:Ct P w K mg base "rises" 1 (spF K d7))(Ey:Gi mg "MOST_ARCS" (60))(Fl:mg "all" = none)(Ek:mg "len" = none):Ct P w K mg base "are_arcs" 2 (spF K dq):=
 cM Df oE (fun _ _ _ _ _ _=>yA fun _ _=>rfl) fun f ED A outer s H E hr=>
  (ah (cb (QW.qt (mO (eY qA (aa (aG bx (by rfl) Ek bt_len (ab (ae (pv 0)) ai))) (aa (oi Ey (by rfl))) (aY _)) (jF (dP (c7 (aJ Ha hr.m (by rfl) (ab (ae (pv 0)) ai)))))))
  (aq (aP i5))
  aO)
  (aq (aP (aG (pL rfl) (by rfl) Fl pQ (ab (aa (df [none,none,none,some 1] ["first","move","second","moves"] rfl (kK (ot (pv 0)) (kK (e8 (pE (aK (pv 0)))) (e8 (pF (aK (pv 0)))))) (fun _ _ _ _ _=>(have h:=(show List.Nodup (["first","move","second","moves"]:List Str) from by decide +kernel);(kC rfl (bC (aN (i:=0) h rfl (lo rfl)) (bC (aN (i:=1) h rfl (lo rfl)) (bC (aN (i:=2) h rfl (lo rfl)) ib)))))) (fun _ _ _ _ _=>eO) (fun _ _ _ _ _=>(mP (aJ Gx hr.m (by rfl) (ab (ae (pv 0)) ai)) (mP (jD (yd hr.u65) (ae (pv 1)) (ae (pv 3)) (by with_unfolding_all rfl)) (sx (aJ Gx hr.m (by rfl) (ab (ae (pv 2)) ai)))))))) ai)))))
abbrev j5:Stmt:=top 23
theorem dv:FnScope ["arcs","met","tree","looked_at","arc"] ["arcs"] (defScope j5):=fs
theorem qL(Df:Def K mg "tree_of" j5)(Ek:mg "len" = none):Ct P w K mg base "tree_of" 1 (spF K dG):=
 cM Df dv (fun _ _ _ _ _ _=>lS fun _=>rfl) fun f ED A outer s H E hr=>
  (ah (aI (i:=1) dv.nd rfl (lo rfl) (cG (az aw aV)))
  (ah (aI (i:=2) dv.nd rfl (lo rfl) (cG aV))
  (ah (aI (i:=3) dv.nd rfl (lo rfl) aw)
  (ah (ly 100000 OZ (eY (jQ hr.units0) (ae (pv 3)) (aa (aG bx (by rfl) Ek bt_len (ab (ae (pv 1)) ai))) (aY _))
  (ah (eC OZ rfl (eG (aK (pv 0))) (aN (i:=4) dv.nd rfl (lo rfl))
  (aq (cb (QW.qt (jG (bu (gE hr.units) (aa (cf (ae (pv 4)) (aa aw))) (aa (cf (ae (pv 1)) (ae (pv 3)))) (aY _)) (jE (bu (Ak hr.u65) (aa (cf (ae (pv 4)) (aa aw))) (ae (pv 1)) (by with_unfolding_all rfl)))))
  (ah (eM (gW (pv 1) (cf (ae (pv 4)) (aa aw))))
  (aq (eM (gW (pv 2) (aK (pv 4))))))
  aO)))
  (aq (aI (i:=3) dv.nd rfl (lo rfl) (aM bg (ae (pv 3)) (aa aw))))))
  (aq (aP (eL (pv 2))))))))
abbrev ir:Stmt:=top 24
theorem oG:FnScope ["moves","arcs"] ["moves","arcs"] (defScope ir):=fs
theorem oH(Df:Def K mg "is_chart" ir)(H0:Ct P w K mg base "are_arcs" 2 (spF K dq))(HA:Ct P w K mg base "are_moves" 3 (spF K cS))(HB:Ct P w K mg base "states_of" 1 (spF K cR))(IP:Ct P w K mg base "tree_of" 1 (spF K dG))(Ek:mg "len" = none):Ct P w K mg base "is_chart" 4 (spF K dr):=
 cM Df oG (fun _ _ _ _ _ _=>yA fun _ _=>rfl) fun f ED A outer s H E hr=>
  (ah (cb (QW.qt (mO (dP (c7 (aJ HA hr.m (by rfl) (ab (ae (pv 0)) ai)))) (jF (dP (c7 (aJ H0 hr.m (by rfl) (ab (ae (pv 1)) (ab (ae (pv 0)) ai))))))))
  (aq (aP i5))
  aO)
  (aq (aP (jD (gE hr.units) (aa (aM bg (aa aw) (aa (aG bx (by rfl) Ek bt_len (ab (aa (aJ IP hr.m (by rfl) (ab (ae (pv 1)) ai))) ai))))) (aa (aJ HB hr.m (by rfl) (ab (aa (jI (az (aK (pv 0)) (az (aK (pv 1)) aV)))) ai))) (aY _)))))
abbrev iu:Stmt:=top 26
theorem gK:FnScope ["text","parts","word"] ["text"] (defScope iu):=fs
theorem oI(Df:Def K mg "parts_of" iu)(JU:Ct P w K mg base "words" 4 (spF K ik)):Ct P w K mg base "parts_of" 5 (spF K dt):=
 cM Df gK (fun _ _ _ _ _ _=>lS fun _=>rfl) fun f ED A outer s H E hr=>
  (ah (aI (i:=1) gK.nd rfl (lo rfl) (yv (cG aV)))
  (ah (eC OZ rfl (eG (aJ JU hr.m (by rfl) (ab (ae (pv 0)) ai))) (aN (i:=2) gK.nd rfl (lo rfl))
  (aq (cb (bu (gE hr.units) (ae (pv 2)) (aa (aU CA (by decide))) (aY _))
  (aq (eM (yw (pv 1) (cG aV))))
  (aq (eM (yx (pv 1) Cz (pv 2)))))))
  (aq (aP (eL (pv 1))))))
abbrev gL:Stmt:=top 27
theorem nJ:FnScope ["word"] ["word"] (defScope gL):=fs
theorem nK(Df:Def K mg "number_of" gL)(Fc:Ct P w K mg base "is_figure" 1 (spF K bY))(Fw:mg "int" = none):Ct P w K mg base "number_of" 2 (spF K cy):=
 cM Df nJ (fun _ _ _ _ _ _=>lS fun _=>rfl) fun f ED A outer s H E hr=>
  (ah (cb (dP (c7 (aJ Fc hr.m (by rfl) (ab (aa (cf (ae (pv 0)) (aa aw))) ai))))
  (aq cE)
  aO)
  (aq (aP (bR yr (by rfl) Fw o5 (ab (ae (pv 0)) ai)))))
abbrev j6:Stmt:=top 28
theorem qM:FnScope ["word"] ["word"] (defScope j6):=fs
theorem qN(Df:Def K mg "name_of" j6)(FZ:Ct P w K mg base "is_name" 2 (spF K cX)):Ct P w K mg base "name_of" 3 (spF K cp):=
 cM Df qM (fun _ _ _ _ _ _=>lS fun _=>rfl) fun f ED A outer s H E hr=>
  (ah (cb (dP (c7 (aJ FZ hr.m (by rfl) (ab (ae (pv 0)) ai))))
  (aq cE)
  aO)
  (aq (aP (eL (pv 0)))))
abbrev iw:Stmt:=top 29
theorem oJ:FnScope ["part"] ["part"] (defScope iw):=fs
theorem oK(Df:Def K mg "names_of" iw)(F0:Ct P w K mg base "name_of" 3 (spF K cp))(Et:Gi mg "MOST_MOVES" (5))(Ek:mg "len" = none):Ct P w K mg base "names_of" 4 (spF K du):=
 cM Df oJ (fun _ _ _ _ _ _=>lS fun _=>rfl) fun f ED A outer s H E hr=>
  (ah (cb (bu (mW hr.units) (aa (dQ (ae (pv 0)) cP (cw aw))) (aa (cG (az (aU oz (by decide)) aV))) (aY _))
  (aq cE)
  aO)
  (ah (cb (eY qA (aa (aM sL (aa (aG bx (by rfl) Ek bt_len (ab (ae (pv 0)) ai))) (aa aw))) (aa (oi Et (by rfl))) (aY _))
  (aq cE)
  aO)
  (aq (aP (df [none] ["word"] rfl (e8 (eG (dQ (ae (pv 0)) (cw aw) cP))) (fun _ _ _ _ _=>(aN (i:=0) (show List.Nodup (["word"]:List Str) from by decide +kernel) rfl (lo rfl))) (fun _ _ _ _ _=>eO) (fun _ _ _ _ _=>(aJ F0 hr.m (by rfl) (ab (ae (pv 0)) ai))))))))
abbrev fN:Stmt:=top 30
theorem lU:FnScope ["moves","parts"] ["moves","parts"] (defScope fN):=fs
theorem lV(Df:Def K mg "show_parts" fN)(Fe:mg "list" = none):Ct P w K mg base "show_parts" 1 (spF K cA):=
 cM Df lU (fun _ _ _ _ _ _=>yA fun _ _=>rfl) fun f ED A outer s H E hr=>
  (@aq _ _ _ _ (@aP _ _ _ _ (@pP _ _ _ _ _ _ _ _ _ _ _ QM QN ov (@aa _ _ _ (aU AE (by decide))) (@ab _ _ _ _ _ (@aa _ _ _ (@aM _ _ _ _ _ _ _ _ bg (@aa _ _ _ (@cG _ _ _ _ (@az _ _ _ _ _ (@pP _ _ _ _ _ _ _ _ _ _ _ QM QN ov (@aa _ _ _ (aU wW (by decide))) (@ab _ _ _ _ _ (@aa _ _ _ (@aM _ _ _ _ _ _ _ _ bg (@aa _ _ _ (@cG _ _ _ _ (az (aU oz (by decide)) aV))) (aa (bR sO (by rfl) Fe nZ (ab (ae (pv 0)) ai))))) ai (by rfl)) (by rfl) (by rfl) (by rfl) (by rfl) (by rfl)) aV (by rfl)))) (ae (pv 1)))) ai (by rfl)) (by rfl) (by rfl) (by rfl) (by rfl) (by rfl))))
abbrev lW:Stmt:=top 32
theorem tI:FnScope ["part"] ["part"] (defScope lW):=fs
theorem tJ(Df:Def K mg "arc_of" lW)(F0:Ct P w K mg base "name_of" 3 (spF K cp))(F2:Ct P w K mg base "number_of" 2 (spF K cy))(Ek:mg "len" = none):Ct P w K mg base "arc_of" 4 (spF K dS):=
 cM Df tI (fun _ _ _ _ _ _=>lS fun _=>rfl) fun f ED A outer s H E hr=>
  (ah (cb (bu (mW hr.units) (aa (aG bx (by rfl) Ek bt_len (ab (ae (pv 0)) ai))) (aa aw) (aY _))
  (aq cE)
  aO)
  (aq (aP (jI (az (aJ F2 hr.m (by rfl) (ab (aa (cf (ae (pv 0)) (aa aw))) ai)) (az (aJ F0 hr.m (by rfl) (ab (aa (cf (ae (pv 0)) (aa aw))) ai)) (az (aJ F2 hr.m (by rfl) (ab (aa (cf (ae (pv 0)) (aa aw))) ai)) aV)))))))
abbrev fO:Stmt:=top 33
theorem di:FnScope ["text","parts","moves","arcs"] ["text"] (defScope fO):=fs
theorem lX(Df:Def K mg "read_chart" fO)(Jl:Ct P w K mg base "arc_of" 4 (spF K dS))(Ia:Ct P w K mg base "is_chart" 4 (spF K dr))(Ib:Ct P w K mg base "names_of" 4 (spF K du))(Ic:Ct P w K mg base "parts_of" 5 (spF K dt))(Ey:Gi mg "MOST_ARCS" (60))(Ek:mg "len" = none)(EF:mg "sorted" = none)(EJ:mg "tuple" = none):Ct P w K mg base "read_chart" 6 (spF K bL):=
 cM Df di (fun _ _ _ _ _ _=>lS fun _=>rfl) fun f ED A outer s H E hr=>
  (ah (aI (i:=1) di.nd rfl (lo rfl) (AB (aJ Ic hr.m (by rfl) (ab (ae (pv 0)) ai))))
  (ah (aI (i:=2) di.nd rfl (lo rfl) (bR lG (by rfl) EJ fZ (ab (aa (aG (fD rfl) (by rfl) EF fE (ab (aa (aJ Ib hr.m (by rfl) (ab (aa (cf (ae (pv 1)) (aa aw))) ai))) ai))) ai)))
  (ah (cb (eY qA (aa (aM sL (aa (aG bx (by rfl) Ek bt_len (ab (ae (pv 1)) ai))) (aa aw))) (aa (oi Ey (by rfl))) (aY _))
  (aq cE)
  aO)
  (ah (aI (i:=3) di.nd rfl (lo rfl) (aG (fD rfl) (by rfl) EF fE (ab (aa (df [none] ["part"] rfl (e8 (eG (dQ (ae (pv 1)) (cw aw) cP))) (fun _ _ _ _ _=>(aN (i:=0) (show List.Nodup (["part"]:List Str) from by decide +kernel) rfl (lo rfl))) (fun _ _ _ _ _=>eO) (fun _ _ _ _ _=>(aJ Jl hr.m (by rfl) (ab (ae (pv 0)) ai))))) ai)))
  (ah (cb (dP (c7 (aJ Ia hr.m (by rfl) (ab (ae (pv 2)) (ab (ae (pv 3)) ai)))))
  (aq cE)
  aO)
  (aq (aP (yp (aK (pv 2)) (eL (pv 3))))))))))
abbrev fP:Stmt:=top 34
theorem lY:FnScope ["chart"] ["chart"] (defScope fP):=fs
theorem lZ(Df:Def K mg "show_chart" fP)(Hb:Ct P w K mg base "show_parts" 1 (spF K cA)):Ct P w K mg base "show_chart" 2 (spF K bM):=
 cM Df lY (fun _ _ _ _ _ _=>lS fun _=>rfl) fun f ED A outer s H E hr=>
  (aq (aP (aJ Hb hr.m (by rfl) (ab (aa (cf (ae (pv 0)) (aa aw))) (ab (aa (df [none,none,none] ["first","move","second"] rfl (e8 (eG (cf (ae (pv 0)) (aa aw)))) (fun _ _ _ _ _=>(have h:=(show List.Nodup (["first","move","second"]:List Str) from by decide +kernel);(kC rfl (bC (aN (i:=0) h rfl (lo rfl)) (bC (aN (i:=1) h rfl (lo rfl)) (bC (aN (i:=2) h rfl (lo rfl)) ib)))))) (fun _ _ _ _ _=>eO) (fun _ _ _ _ _=>(yt (jS (tq (aK (pv 0))) (jS (aU wW (by decide)) (jS (tq (aK (pv 1))) (jS (aU wW (by decide)) (jS (tq (aK (pv 2))) AA))))))))) ai)))))
abbrev d8:Stmt:=top 36
theorem j7:FnScope ["_law_script","_law_k"] ["_law_script","_law_k"] (defScope d8):=fs
theorem j8(Df:Def K mg "_law_cell_at" d8)(Ek:mg "len" = none):Ct P w K mg base "_law_cell_at" 1 (spF K ay):=
 cM Df j7 (fun _ _ _ _ _ _=>yA fun _ _=>rfl) fun f ED A outer s H E hr=>
  (ah (cb (eY (jQ hr.units0) (ae (pv 1)) (aa (aG bx (by rfl) Ek bt_len (ab (ae (pv 0)) ai))) (aY _))
  (aq (aP (cf (ae (pv 0)) (ae (pv 1)))))
  aO)
  (aq (aP aw)))
abbrev fQ:Stmt:=top 37
theorem aX:FnScope ["_law_cell","_law_where","_law_count","_law_letters","_law_number","_law_base","_law_k","_law_there","_law_at_first","_law_names_here","_law_name"] ["_law_cell","_law_where","_law_count"] (defScope fQ):=fs
theorem l5(Df:Def K mg "_law_names" fQ)(Fw:mg "int" = none)(Ek:mg "len" = none)(EO:mg "range" = none)(EF:mg "sorted" = none):Ct P w K mg base "_law_names" 1 (spF K cB):=
 cM Df aX (fun _ _ _ _ _ _=>Dc fun _ _ _=>rfl) fun f ED A outer s H E hr=>
  (ah (aI (i:=3) aX.nd rfl (lo rfl) (aU AH (by decide)))
  (ah (aI (i:=4) aX.nd rfl (lo rfl) (aM cF (ae (pv 0)) (aa (aM sM (aa aw) (aa aw)))))
  (ah (aI (i:=5) aX.nd rfl (lo rfl) (aU AG (by decide)))
  (ah (eC OZ rfl (gT (by rfl) EO (aa (aM bg (aa aw) (aa (aM cF (ae (pv 4)) (aa aw)))))) (aN (i:=6) aX.nd rfl (lo rfl))
  (aq (aI (i:=5) aX.nd rfl (lo rfl) (aM bg (ae (pv 5)) (aa (cf (ae (pv 3)) (aa (aM cF (aa (aM bg (aa (aM ic (ae (pv 4)) (aa (aM bg (ae (pv 6)) (aa aw))))) (aa (aM ou (aa (aM ou (aa aw) (ae (pv 6)))) (ae (pv 6)))))) (aa aw)))))))))
  (ah (cb (QW.qt (jG (bu (gE hr.units) (aa (aM cF (ae (pv 4)) (aa aw))) (aa aw) (aY _)) (jE (eY (Ap hr.units0) (aa (aG bx (by rfl) Ek bt_len (ab (ae (pv 5)) ai))) (ae (pv 2)) (aY _)))))
  (aq (aP (aG (fD rfl) (by rfl) EF fE (ab (aa (df [none,some 5] ["_law_k","_law_base"] rfl (e8 (gT (by rfl) EO (ae (pv 2)))) (fun _ _ _ _ _=>(aN (i:=0) (show List.Nodup (["_law_k","_law_base"]:List Str) from by decide +kernel) rfl (lo rfl))) (fun _ _ _ _ _=>eO) (fun _ _ _ _ _=>(cf (aa (cG (az (dQ (ae (pv 1)) cP (cw (aM bg (ae (pv 0)) (aa aw)))) (az (aU AF (by decide)) aV)))) (aa (bR sR (by rfl) Fw o5 (ab (aa (jD (gE hr.units) (aa (dQ (ae (pv 1)) cP (cw (aM bg (ae (pv 0)) (aa aw))))) (aa (aU oz (by decide))) (aY _))) ai))))))) ai))))
  aO)
  (ah (aI (i:=7) aX.nd rfl (lo rfl) (aM cF (ae (pv 1)) (aa (aG bx (by rfl) Ek bt_len (ab (ae (pv 5)) ai)))))
  (ah (aI (i:=8) aX.nd rfl (lo rfl) (pP RH PySem.F.type_str_index vK (ae (pv 3)) (ab (aa (cf (ae (pv 5)) (ae (pv 7)))) ai)))
  (ah (aI (i:=9) aX.nd rfl (lo rfl) (cG aV))
  (ah (eC OZ rfl (gT (by rfl) EO (ae (pv 2))) (aN (i:=6) aX.nd rfl (lo rfl))
  (ah (aI (i:=10) aX.nd rfl (lo rfl) (aM bg (aa (aM bg (aa (dQ (ae (pv 5)) cP (cw (aK (pv 7))))) (aa (cf (ae (pv 3)) (aa (aM cF (aa (aM bg (ae (pv 8)) (ae (pv 6)))) (aa aw))))))) (aa (dQ (ae (pv 5)) (cw (aM bg (ae (pv 7)) (aa aw))) cP))))
  (aq (eM (gW (pv 9) (cf (aa (cG (az (aK (pv 10)) (az (aU AF (by decide)) aV)))) (aa (bR sR (by rfl) Fw o5 (ab (aa (jD (gE hr.units) (ae (pv 10)) (aa (aU oz (by decide))) (aY _))) ai)))))))))
  (aq (aP (aG (fD rfl) (by rfl) EF fE (ab (ae (pv 9)) ai)))))))))))))
abbrev gM:Stmt:=top 38
theorem bN:FnScope ["_law_script","_law_names_here","_law_count","_law_arcs_here","_law_state","_law_number","_law_cell","_law_arc"] ["_law_script","_law_names_here"] (defScope gM):=fs
theorem nL(Df:Def K mg "_law_arcs" gM)(Em:Ct P w K mg base "_law_cell_at" 1 (spF K ay))(Ek:mg "len" = none)(EO:mg "range" = none)(EF:mg "sorted" = none):Ct P w K mg base "_law_arcs" 2 (spF K cz):=
 cM Df bN (fun _ _ _ _ _ _=>yA fun _ _=>rfl) fun f ED A outer s H E hr=>
  (ah (aI (i:=2) bN.nd rfl (lo rfl) (aM bg (aa aw) (aa (aM cF (aa (aJ Em hr.m (by rfl) (ab (ae (pv 0)) (ab (aa aw) ai)))) (aa aw)))))
  (ah (aI (i:=3) bN.nd rfl (lo rfl) yh)
  (ah (eC OZ rfl (sJ (by rfl) EO (ab (aa aw) (ab (ae (pv 2)) ai))) (aN (i:=4) bN.nd rfl (lo rfl))
  (ah (aI (i:=5) bN.nd rfl (lo rfl) (aM cF (aa (aJ Em hr.m (by rfl) (ab (ae (pv 0)) (ab (aa (aM bg (aa aw) (ae (pv 4)))) ai)))) (aa (aM sM (aa aw) (aa aw)))))
  (aq (wQ (hu_of hr) (pv 3) (jI (az (aM cF (ae (pv 5)) (ae (pv 4))) (az (cf (ae (pv 1)) (aa (aM cF (aa (aM ic (ae (pv 5)) (aa aw))) (aa (aG bx (by rfl) Ek bt_len (ab (ae (pv 1)) ai)))))) (az (aK (pv 4)) aV)))) i5))))
  (ah (eC OZ rfl (eG (dQ (ae (pv 0)) (cw aw) cP)) (aN (i:=6) bN.nd rfl (lo rfl))
  (ah (aI (i:=5) bN.nd rfl (lo rfl) (aM cF (ae (pv 6)) (aa (aM sM (aa aw) (aa aw)))))
  (ah (aI (i:=7) bN.nd rfl (lo rfl) (jI (az (aM cF (ae (pv 5)) (ae (pv 2))) (az (cf (ae (pv 1)) (aa (aM cF (aa (aM ic (ae (pv 5)) (aa aw))) (aa (aG bx (by rfl) Ek bt_len (ab (ae (pv 1)) ai)))))) (az (aM cF (aa (aM ic (ae (pv 5)) (aa aw))) (ae (pv 2))) aV)))))
  (aq (cb (eY (jQ hr.units0) (aa (aG bx (by rfl) Ek bt_len (ab (ae (pv 3)) ai))) (aa aw) (aY _))
  (aq (wQ (hu_of hr) (pv 3) (aK (pv 7)) i5))
  aO)))))
  (aq (aP (aG (fD rfl) (by rfl) EF fE (ab (ae (pv 3)) ai))))))))
abbrev fR:Stmt:=top 39
theorem cJ:FnScope ["_law_row","_law_cell","_law_about_here","_law_number","_law_thing"] ["_law_row","_law_cell"] (defScope fR):=fs
theorem l6(Df:Def K mg "_law_about" fR)(Ek:mg "len" = none):Ct P w K mg base "_law_about" 1 (spF K bZ):=
 cM Df cJ (fun _ _ _ _ _ _=>yA fun _ _=>rfl) fun f ED A outer s H E hr=>
  (ah (aI (i:=2) cJ.nd rfl (lo rfl) (cG aV))
  (ah (aI (i:=3) cJ.nd rfl (lo rfl) (aM bg (aa (aM cF (ae (pv 1)) (aa aw))) (aa aw)))
  (ah (eC OZ rfl (eG (aK (pv 0))) (aN (i:=4) cJ.nd rfl (lo rfl))
  (ah (aI (i:=3) cJ.nd rfl (lo rfl) (aM cF (aa (aM bg (aa (aM ou (ae (pv 3)) (aa aw))) (aa aw))) (aa aw)))
  (aq (eM (tj (pv 2) (aM cF (aa (aM ic (ae (pv 3)) (aa aw))) (aa (aM bg (aa (aG bx (by rfl) Ek bt_len (ab (ae (pv 2)) ai))) (aa aw)))) (aK (pv 4)))))))
  (aq (aP (eL (pv 2)))))))
abbrev eU:Stmt:=top 40
theorem bH:FnScope ["_law_row","_law_blanks","_law_letters","_law_text","_law_k","_law_gap"] ["_law_row","_law_blanks"] (defScope eU):=fs
theorem ky(Df:Def K mg "_law_joined" eU)(Ek:mg "len" = none)(EO:mg "range" = none):Ct P w K mg base "_law_joined" 1 (spF K b8):=
 cM Df bH (fun _ _ _ _ _ _=>yA fun _ _=>rfl) fun f ED A outer s H E hr=>
  (ah (aI (i:=2) bH.nd rfl (lo rfl) (aU AH (by decide)))
  (ah (aI (i:=3) bH.nd rfl (lo rfl) (aU AG (by decide)))
  (ah (eC OZ rfl (gT (by rfl) EO (aa (aG bx (by rfl) Ek bt_len (ab (ae (pv 0)) ai)))) (aN (i:=4) bH.nd rfl (lo rfl))
  (ah (aI (i:=5) bH.nd rfl (lo rfl) (dQ (aa (aU CB (by decide))) cP (cw (aK (pv 1)))))
  (ah (cb (QW.qt (jG (eY qA (ae (pv 4)) (aa aw) (aY _)) (jG (bu (gE hr.units) (ae (pv 1)) (aa aw) (aY _)) (jG (bu (yd hr.u65) (aa (cf (aa (cf (ae (pv 0)) (ae (pv 4)))) (aa aw))) (ae (pv 2)) (by with_unfolding_all rfl)) (jE (bu (yd hr.u65) (aa (cf (aa (cf (ae (pv 0)) (aa (aM sL (ae (pv 4)) (aa aw))))) (aa aw))) (ae (pv 2)) (by with_unfolding_all rfl)))))))
  (aq (aI (i:=5) bH.nd rfl (lo rfl) (aU wW (by decide))))
  aO)
  (aq (aI (i:=3) bH.nd rfl (lo rfl) (aM bg (aa (aM bg (ae (pv 3)) (ae (pv 5)))) (aa (cf (ae (pv 0)) (ae (pv 4))))))))))
  (aq (aP (eL (pv 3)))))))
abbrev dI:Stmt:=top 41
theorem c6:FnScope ["_law_found","_law_arc","_law_state"] ["_law_found"] (defScope dI):=fs
theorem jd(Df:Def K mg "_law_is_plain" dI)(Hc:mg "bool" = none)(Fw:mg "int" = none)(Ei:mg "isinstance" = none)(Ek:mg "len" = none)(Fe:mg "list" = none)(EJ:mg "tuple" = none):Ct P w K mg base "_law_is_plain" 1 (spF K bJ):=
 cM Df c6 (fun _ _ _ _ _ _=>lS fun _=>rfl) fun f ED A outer s H E hr=>
  (ah (cb (QW.qt (mO (dP (c7 (mY (T:="tuple") (by decide) (ae (pv 0)) (by rfl) Ei (by rfl) EJ fZ))) (mO (bu (mW hr.units) (aa (aG bx (by rfl) Ek bt_len (ab (ae (pv 0)) ai))) (aa aw) (aY _)) (jF (dP (c7 (mY (T:="tuple") (by decide) (aa (cf (ae (pv 0)) (aa aw))) (by rfl) Ei (by rfl) EJ fZ)))))))
  (aq (aP i5))
  aO)
  (ah (cb (dP (c7 (mY (T:="list") (by decide) (aa (cf (ae (pv 0)) (aa aw))) (by rfl) Ei (by rfl) Fe nZ)))
  (aq (aP i5))
  aO)
  (ah (eC OZ rfl (eG (cf (ae (pv 0)) (aa aw))) (aN (i:=1) c6.nd rfl (lo rfl))
  (ah (cb (QW.qt (mO (dP (c7 (mY (T:="tuple") (by decide) (ae (pv 1)) (by rfl) Ei (by rfl) EJ fZ))) (jF (bu (mW hr.units) (aa (aG bx (by rfl) Ek bt_len (ab (ae (pv 1)) ai))) (aa aw) (aY _)))))
  (aq (aP i5))
  aO)
  (aq (eC OZ rfl (eG (cG (az (cf (ae (pv 1)) (aa aw)) (az (cf (ae (pv 1)) (aa aw)) aV)))) (aN (i:=2) c6.nd rfl (lo rfl))
  (aq (cb (QW.qt (mO (dP (c7 (mY (T:="int") (by decide) (ae (pv 2)) (by rfl) Ei (by rfl) Fw o5))) (jF (c7 (mY (T:="bool") (by decide) (ae (pv 2)) (by rfl) Ei (by rfl) Hc xO)))))
  (aq (aP i5))
  aO))))))
  (aq (aP i5)))))
abbrev l7:Stmt:=top 42
theorem cO:FnScope ["_law_script","_law_names_here","_law_arcs_here","_law_chart","_law_text","_law_one","_law_move","_law_other","_law_row","_law_written","_law_found","_law_again"] ["_law_script"] (defScope l7):=fs
theorem AI{f:Addr}{fd:FuncData}(F:Fun K "law" "law" l7 f fd)(Fx:Ct P w K mg base "_law_about" 1 (spF K bZ))(HC:Ct P w K mg base "_law_arcs" 2 (spF K cz))(Em:Ct P w K mg base "_law_cell_at" 1 (spF K ay))(Gh:Ct P w K mg base "_law_is_plain" 1 (spF K bJ))(GK:Ct P w K mg base "_law_joined" 1 (spF K b8))(Hd:Ct P w K mg base "_law_names" 1 (spF K cB))(Fy:Ct P w K mg base "read_chart" 6 (spF K bL))(Fz:Ct P w K mg base "show_chart" 2 (spF K bM))(Ei:mg "isinstance" = none)(Fe:mg "list" = none)(Fj:mg "str" = none)(EJ:mg "tuple" = none):FnOk P w K mg base Ja 7 f fd ["_law_script"] (spF K yz):=
 fnok_of F cO fun ED A outer s H E hr=>
  (ah (aI (i:=1) cO.nd rfl (lo rfl) (aJ Hd hr.m (by rfl) (ab (aa (aM ic (aa (aJ Em hr.m (by rfl) (ab (ae (pv 0)) (ab (aa aw) ai)))) (aa aw))) (ab (aa (aJ Em hr.m (by rfl) (ab (ae (pv 0)) (ab (aa aw) ai)))) (ab (aa (aM cF (aa (aJ Em hr.m (by rfl) (ab (ae (pv 0)) (ab (aa aw) ai)))) (aa aw))) ai)))))
  (ah (aI (i:=2) cO.nd rfl (lo rfl) (cG aV))
  (ah (cb (bu (mW hr.units) (ae (pv 1)) (aa (cG aV)) (aY _))
  (aq (aI (i:=2) cO.nd rfl (lo rfl) (aJ HC hr.m (by rfl) (ab (ae (pv 0)) (ab (ae (pv 1)) ai)))))
  aO)
  (ah (aI (i:=3) cO.nd rfl (lo rfl) (jI (az (bR lG (by rfl) EJ fZ (ab (ae (pv 1)) ai)) (az (aK (pv 2)) aV))))
  (ah (aI (i:=4) cO.nd rfl (lo rfl) (pP QM QN ov (aa (aU wW (by decide))) (ab (aa (aM bg (aa (cG (az (aU oz (by decide)) aV))) (ae (pv 1)))) ai)))
  (ah (eC OZ rfl (eG (aK (pv 2))) (kC rfl (bC (aN (i:=5) cO.nd rfl (lo rfl)) (bC (aN (i:=6) cO.nd rfl (lo rfl)) (bC (aN (i:=7) cO.nd rfl (lo rfl)) ib))))
  (aq (aI (i:=4) cO.nd rfl (lo rfl) (aM bg (aa (aM bg (aa (aM bg (aa (aM bg (aa (aM bg (aa (aM bg (ae (pv 4)) (aa (aU AE (by decide))))) (aa (bR pR (by rfl) Fj kA (ab (ae (pv 5)) ai))))) (aa (aU wW (by decide))))) (ae (pv 6)))) (aa (aU wW (by decide))))) (aa (bR pR (by rfl) Fj kA (ab (ae (pv 7)) ai)))))))
  (ah (cb (bu (mW hr.units) (aa (aJ Fz hr.m (by rfl) (ab (aa (jI (az (bR lG (by rfl) EJ fZ (ab (ae (pv 1)) ai)) (az (bR sO (by rfl) Fe nZ (ab (ae (pv 2)) ai)) aV)))) ai))) (ae (pv 4)) (aY _))
  (aq (aP i5))
  aO)
  (ah (aI (i:=8) cO.nd rfl (lo rfl) (aM bg (aa (cG (az (aU oz (by decide)) aV))) (aa (aJ Fx hr.m (by rfl) (ab (ae (pv 1)) (ab (aa (aJ Em hr.m (by rfl) (ab (ae (pv 0)) (ab (aa aw) ai)))) ai))))))
  (ah (eC OZ rfl (eG (aJ Fx hr.m (by rfl) (ab (ae (pv 2)) (ab (aa (aJ Em hr.m (by rfl) (ab (ae (pv 0)) (ab (aa aw) ai)))) ai)))) (kC rfl (bC (aN (i:=5) cO.nd rfl (lo rfl)) (bC (aN (i:=6) cO.nd rfl (lo rfl)) (bC (aN (i:=7) cO.nd rfl (lo rfl)) ib))))
  (aq (aI (i:=8) cO.nd rfl (lo rfl) (aM bg (ae (pv 8)) (aa (cG (az (aU CA (by decide)) (az (bR pR (by rfl) Fj kA (ab (ae (pv 5)) ai)) (az (aK (pv 6)) (az (bR pR (by rfl) Fj kA (ab (ae (pv 7)) ai)) aV))))))))))
  (ah (eC OZ rfl (eG (cG (az (aK (pv 4)) (az (aJ GK hr.m (by rfl) (ab (ae (pv 8)) (ab (aa (aM cF (aa (aJ Em hr.m (by rfl) (ab (ae (pv 0)) (ab (aa aw) ai)))) (aa aw))) ai))) aV)))) (aN (i:=9) cO.nd rfl (lo rfl))
  (ah (aI (i:=10) cO.nd rfl (lo rfl) (aJ Fy hr.m (by rfl) (ab (ae (pv 9)) ai)))
  (ah (cb (QW.qt (mO (dP (c7 (aJ Gh hr.m (by rfl) (ab (ae (pv 10)) ai)))) (jF (bu (mW hr.units) (ae (pv 10)) (ae (pv 3)) (aY _)))))
  (aq (aP i5))
  aO)
  (aq (eM (yy (pv 10) (jI (az aw (az (aU De (by decide)) (az aw aV))))))))))
  (ah (aI (i:=11) cO.nd rfl (lo rfl) (aJ Fy hr.m (by rfl) (ab (ae (pv 4)) ai)))
  (aq (aP (mP (jD (gE hr.units) (ae (pv 11)) (ae (pv 3)) (aY _)) (sx (mY (T:="str") (by decide) (aa (aJ Fz hr.m (by rfl) (ab (ae (pv 11)) ai))) (by rfl) Ei (by rfl) Fj kA))))))))))))))))
end
end LW
namespace PV
open PySem L2 NX
class Cont (α β:Type) where
 run:α->Res β
def Res.bnd{α β:Type}[f:Cont α β](x:Res α):Res β:=x.bind f.run
theorem EU{α β:Type}(a:α)(f:α->Res β):Res.bnd (Res.ok a) (f:=⟨f⟩)=f a:=id rfl
theorem bBad{α β:Type}(f:α->Res β):Res.bnd (Res.bad:Res α) (f:=⟨f⟩)=.bad:=id rfl
section
variable(env:PV.Env)(i n:Nat)(d:D)(f g:FX)(c c':FT)(fo LD Md:FO)(fs:Fo)(fd:FDs)(s t:FS)(op Hq:D->D->Res R)(F:List D->Res R)(a:FG)(as:JP)(fi fj:FI)(fp Eh:FP)(T:String)
theorem KW:aB d env=.ok ((.f,d),env):=id rfl
theorem Iy:a8 i env=match env[i]? with|some (some r)=>.ok ((.f,r.2),env.set i (some (fz r.1,r.2)))|_=>.bad:=id rfl
theorem Me:fz .f=.f:=id rfl
theorem Mf(c:O):fz (.l c)=.f:=id rfl
theorem Jm(p:Addr):wF (.pin p .d)=true:=id rfl
theorem JV:i4 i env=match env[i]? with|some (some r)=>.ok (r,env.set i none)|_=>.bad:=id rfl
theorem KY:ao f env=Res.bnd (f env) (f:=⟨fun p=>.ok (.val p.1.2,p.2)⟩):=id rfl
theorem KZ:au i env=match env[i]? with|some (some _)=>.ok (.var i,env)|_=>.bad:=id rfl
theorem JW:ax env=.ok ([],env):=id rfl
theorem Jn:af fo fs env=Res.bnd (fo env) (f:=⟨fun p=>Res.bnd (fs p.2) (f:=⟨fun q=>.ok (p.1::q.1,q.2)⟩)⟩):=id rfl
theorem JX:bK env=.ok ([],env):=id rfl
theorem Jo:aA f fd env=Res.bnd (f env) (f:=⟨fun p=>Res.bnd (fd p.2) (f:=⟨fun q=>.ok (p.1.2::q.1,q.2)⟩)⟩):=id rfl
theorem K0:Fn env (.val d)=.ok d:=id rfl
theorem K1:Fn env (.var i)=match env[i]? with|some (some r)=>if wF r.1 then .ok r.2 else .bad|_=>.bad:=id rfl
theorem JY:qz env (.val d)=.ok d:=id rfl
theorem JZ:qz env (.var i)=match env[i]? with|some (some r)=>.ok r.2|_=>.bad:=id rfl
theorem J0:px env []=.ok []:=id rfl
theorem J2(o:Opd)(os:List Opd):px env (o::os)=Res.bnd (Fn env o) (f:=⟨fun d=>Res.bnd (px env os) (f:=⟨fun ds=>.ok (d::ds)⟩)⟩):=id rfl
theorem Jp:mL env []=.ok []:=id rfl
theorem Jq(o:Opd)(os:List Opd):mL env (o::os)=Res.bnd (qz env o) (f:=⟨fun d=>Res.bnd (mL env os) (f:=⟨fun ds=>.ok (d::ds)⟩)⟩):=id rfl
theorem J3:wF .f=true:=id rfl
theorem J4:wF (.l .f)=true:=id rfl
theorem J5:wF .d=true:=id rfl
theorem K2:aE op fo LD env=Res.bnd (fo env) (f:=⟨fun p=>Res.bnd (LD p.2) (f:=⟨fun q=>Res.bnd (Fn q.2 p.1) (f:=⟨fun a=>Res.bnd (Fn q.2 q.1) (f:=⟨fun b=>Res.bnd (op a b) (f:=⟨fun r=>.ok (r,q.2)⟩)⟩)⟩)⟩)⟩):=id rfl
theorem J6:bU op fo LD env=Res.bnd (fo env) (f:=⟨fun p=>Res.bnd (LD p.2) (f:=⟨fun q=>Res.bnd (qz q.2 p.1) (f:=⟨fun a=>Res.bnd (qz q.2 q.1) (f:=⟨fun b=>Res.bnd (op a b) (f:=⟨fun r=>.ok (r,q.2)⟩)⟩)⟩)⟩)⟩):=id rfl
theorem Mg:EH f env=Res.bnd (f env) (f:=⟨fun p=>match p.1.2 with | .bl k=>.ok (k,p.2)|_=>.bad⟩):=id rfl
theorem K3:uL c c' env=Res.bnd (c env) (f:=⟨fun p=>if p.1 then c' p.2 else .ok (false,p.2)⟩):=id rfl
theorem Mh:JE c c' env=Res.bnd (c env) (f:=⟨fun p=>if p.1 then .ok (true,p.2) else c' p.2⟩):=id rfl
theorem K4:nR c env=Res.bnd (c env) (f:=⟨fun p=>.ok (!p.1,p.2)⟩):=id rfl
theorem K5:vD f g env=Res.bnd (f env) (f:=⟨fun p=>match p.1.2 with | .bl true=>g p.2 | .bl false=>.ok ((.f,.bl false),p.2)|_=>.bad⟩):=id rfl
theorem Jr:iL op Hq fo LD Md env=Res.bnd (fo env) (f:=⟨fun p=>Res.bnd (LD p.2) (f:=⟨fun q=>Res.bnd (Fn q.2 p.1) (f:=⟨fun a=>Res.bnd (Fn q.2 q.1) (f:=⟨fun b=>Res.bnd (op a b) (f:=⟨fun r=>match r with
 |(.f,.bl true)=>Res.bnd (Md q.2) (f:=⟨fun t=>Res.bnd (Fn t.2 q.1) (f:=⟨fun b=>Res.bnd (Fn t.2 t.1) (f:=⟨fun c=>Res.bnd (Hq b c) (f:=⟨fun r=>.ok (r,t.2)⟩)⟩)⟩)⟩)
 |(.f,.bl false)=>.ok ((.f,.bl false),q.2)
 |_=>.bad⟩)⟩)⟩)⟩)⟩):=id rfl
theorem J7:aR F fs env=Res.bnd (fs env) (f:=⟨fun p=>Res.bnd (px p.2 p.1) (f:=⟨fun ds=>Res.bnd (F ds) (f:=⟨fun r=>.ok (r,p.2)⟩)⟩)⟩):=id rfl
theorem K6:cK F fs env=Res.bnd (fs env) (f:=⟨fun p=>Res.bnd (mL p.2 p.1) (f:=⟨fun ds=>Res.bnd (F ds) (f:=⟨fun r=>.ok (r,if b9 r.1 r.2 then p.2 else p.2.map frz)⟩)⟩)⟩):=id rfl
theorem K7:sN fd env=Res.bnd (fd env) (f:=⟨fun p=>if p.1.length<=1000 then .ok ((.f,.tup p.1),p.2) else .bad⟩):=id rfl
theorem K8:ie fd env=Res.bnd (fd env) (f:=⟨fun p=>if p.1.length<=1000 then .ok ((.l .f,.lst p.1),p.2) else .bad⟩):=id rfl
theorem J8:de env=.ok (none,env):=id rfl
theorem J9:cV f env=Res.bnd (f env) (f:=⟨fun p=>match p.1.2 with | .int i=>.ok (some i,p.2)|_=>.bad⟩):=id rfl
theorem K9:uN i f env=if lD env i then(Res.bnd (f env) (f:=⟨fun(p:R×PV.Env)=>match p.2[i]? with
 |some (some (.l .f,.lst ds))=>if ds.length<sizeLine then .ok ((.f,.non),p.2.set i (some (.l .f,.lst (ds++[p.1.2])))) else .bad
 |_=>.bad⟩)) else .bad:=id rfl
theorem Ka:lD env i=match env[i]? with|some (some (_,.lst _))=>true|_=>false:=id rfl
theorem Mi:JG T fo env=Res.bnd (fo env) (f:=⟨fun p=>Res.bnd (qz p.2 p.1) (f:=⟨fun d=>.ok ((.f,.bl (pN T d)),p.2)⟩)⟩):=id rfl
theorem Kb:ye f g env=Res.bnd (f env) (f:=⟨fun p=>Res.bnd (g p.2) (f:=⟨fun q=>match(pK p.1.2).bind c8,q.1.2 with|some ns,.int d=>.ok ((.f,.int (NX.maxD ns d)),q.2)|_,_=>.bad⟩)⟩):=id rfl
theorem La(gg:List Nat->List D->Res R):wR gg fo fs env=Res.bnd (fo env) (f:=⟨fun p=>match Fn p.2 p.1 with
 | .ok (.str l)=>Res.bnd (fs p.2) (f:=⟨fun q=>Res.bnd (px q.2 q.1) (f:=⟨fun ds=>Res.bnd (gg l ds) (f:=⟨fun r=>.ok (r,q.2)⟩)⟩)⟩)
 |_=>.bad⟩):=id rfl
theorem Kc(tk:Bool):eNewD tk env=.ok ((.d,.dct tk [] []),env):=id rfl
theorem Kd(ix:List (Option Nat)):i7 fi ix a c f env=Res.bnd (fi env) (f:=⟨fun p=>Res.bnd (fA a c f p.1 (dD ix p.2)) (f:=⟨fun ds=>if ds.length<=sizeLine then .ok ((.l .f,.lst ds),if flatDs ds then p.2 else p.2.map frz) else .bad⟩)⟩):=id rfl
theorem Ie:dD [] env=[]:=id rfl
theorem Ig(ix:List (Option Nat)):dD (none::ix) env=none::dD ix env:=id rfl
theorem Ih(ix:List (Option Nat)):dD (some i::ix) env=(match env[i]? with|some (some r)=>some (O.f,r.2)|_=>none)::dD ix env:=id rfl
theorem AJ:mn env=.ok (true,env):=id rfl
theorem vR(ds:List D):fA a c f (d::ds) env=Res.bnd (a d env) (f:=⟨fun e=>Res.bnd (c e) (f:=⟨fun p=>if p.1 then(Res.bnd (f p.2) (f:=⟨fun q=>Res.bnd (fA a c f ds q.2) (f:=⟨fun rs=>.ok (q.1.2::rs)⟩)⟩)) else fA a c f ds p.2⟩)⟩):=id rfl
theorem AK:za f env=Res.bnd (f env) (f:=⟨fun p=>match p.1.2 with | .lst ds=>.ok (ds,p.2)|_=>.bad⟩):=id rfl
theorem tM:kr f env=Res.bnd (f env) (f:=⟨fun p=>match p.1.2 with | .tup ds=>.ok (ds,p.2)|_=>.bad⟩):=id rfl
theorem tN:ku f env=Res.bnd (f env) (f:=⟨fun p=>match p.1.2 with | .str l=>.ok (l.map fun c=>.str [c],p.2)|_=>.bad⟩):=id rfl
theorem qO:FK fi fj env=match fi env with | .ok a=>.ok a|_=>fj env:=by
 unfold FK;cases fi env <;> rfl
theorem Lb:FK (za f) (FK (kr f) (ku f)) env=Res.bnd (f env) (f:=⟨fun p=>match p.1.2 with
 | .lst ds=>.ok (ds,p.2)
 | .tup ds=>.ok (ds,p.2)
 | .str l=>.ok (l.map fun c=>.str [c],p.2)
 |_=>.bad⟩):=by
 rw[qO,qO,AK,tM,tN];cases f env with
 |ok p=>
  obtain⟨⟨o,d⟩,e⟩:=p;cases d <;> rfl
 |exc c=>rfl
 |bad=>rfl
theorem Ke:FK (oq i) (FK (kr (a8 i)) (ku (a8 i))) env=match env[i]? with
 |some (some (_,.lst ds))=>.ok (ds,env)
 |some (some (o,.tup ds))=>.ok (ds,env.set i (some (fz o,.tup ds)))
 |some (some (o,.str l))=>.ok (l.map fun c=>.str [c],env.set i (some (fz o,.str l)))
 |_=>.bad:=by
 rw[qO,qO,tM,tN,Iy];unfold oq;cases env[i]? with
 |none=>rfl
 |some r=>
  cases r with
  |none=>rfl
  |some r=>
   obtain⟨o,d⟩:=r;cases d <;> rfl
theorem GQ:eN fo env=Res.bnd (fo env) (f:=⟨fun p=>Res.bnd (Fn p.2 p.1) (f:=⟨fun d=>match d with
 | .int j=>if -4611686018427387904<=j/\j<4611686018427387904 then .ok ((List.range j.toNat).map fun(k:Nat)=>D.int (k:Int),p.2) else .bad
 |_=>.bad⟩)⟩):=id rfl
theorem IQ:lz fs env=Res.bnd (fs env) (f:=⟨fun p=>Res.bnd (px p.2 p.1) (f:=⟨fun d=>match d with
 |[.int i,.int j]=>if(-4611686018427387904<=i/\i<4611686018427387904)/\-4611686018427387904<=j/\j<4611686018427387904 then .ok ((List.range (j-i).toNat).map fun(k:Nat)=>D.int (i+(k:Int)),p.2) else .bad
 |_=>.bad⟩)⟩):=id rfl
theorem Kf(k1 k2:Bool):kx k1 k2 fs env=Res.bnd (fs env) (f:=⟨fun p=>match p.1 with
 |[.val d1,.val d2]=>Res.bnd (gB k1 d1) (f:=⟨fun a=>Res.bnd (gB k2 d2) (f:=⟨fun b=>.ok ((a.zip b).map fun z=>D.tup [z.1,z.2],p.2)⟩)⟩)
 |_=>.bad⟩):=id rfl
theorem EV:aH i d env=if i<env.length then .ok (env.set i (some (.f,d))) else .bad:=id rfl
theorem dW(ds:List D):aS a as (d::ds) env=Res.bnd (a d env) (f:=⟨fun e=>as ds e⟩):=id rfl
theorem tP(ds:List D):mQ n as (.tup ds) env=if ds.length=n then as ds env else .bad:=id rfl
theorem He:sSeq s t env=Res.bnd (s env) (f:=⟨fun o=>match o with | .nx e=>t e|o=>.ok o⟩):=id rfl
theorem Kg:bX env=.ok (.nx env):=id rfl
theorem Lc:cn i f env=Res.bnd (f env) (f:=⟨fun p=>if i<p.2.length then .ok (.nx (p.2.set i (some p.1))) else .bad⟩):=id rfl
theorem Kh:gy f env=Res.bnd (f env) (f:=⟨fun p=>.ok (.nx p.2)⟩):=id rfl
theorem Ld:dm f env=Res.bnd (f env) (f:=⟨fun p=>.ok (.rt p.1)⟩):=id rfl
theorem Mj:E7 c s t env=Res.bnd (c env) (f:=⟨fun p=>if p.1 then s p.2 else t p.2⟩):=id rfl
theorem Hf:mm fi a s env=Res.bnd (fi env) (f:=⟨fun p=>i6 a s p.1 p.2⟩):=id rfl
theorem Ki:i6 a s [] env=.ok (.nx env):=id rfl
theorem EY(ds:List D):i6 a s (d::ds) env=Res.bnd (a d env) (f:=⟨fun e=>Res.bnd (s e) (f:=⟨fun o=>match o with
 | .nx e=>i6 a s ds e
 | .ct e=>i6 a s ds e
 | .bk e=>.ok (.nx e)
 | .rt r=>.ok (.rt r)⟩)⟩):=id rfl
theorem pW:dC c s (n+1) env=Res.bnd (c env) (f:=⟨fun p=>if p.1 then(Res.bnd (s p.2) (f:=⟨fun o=>match o with
  | .nx e=>dC c s n e
  | .ct e=>dC c s n e
  | .bk e=>.ok (.nx e)
  | .rt r=>.ok (.rt r)⟩)) else .ok (.nx p.2)⟩):=id rfl
theorem Lf:yi i f g env=Res.bnd (g env) (f:=⟨fun(p:R×PV.Env)=>Res.bnd (f p.2) (f:=⟨fun(q:R×PV.Env)=>match p.2[i]?,q.2[i]? with
 |some (some _),some (some (.d,.dct tk ks vs))=>if i8 tk q.1.2&&decide (ks.length<sizeLine) then .ok (.nx (q.2.set i (some (.d,.dct tk (qE ks vs q.1.2 p.1.2).1 (qE ks vs q.1.2 p.1.2).2)))) else .bad
 |_,_=>.bad⟩)⟩):=id rfl
theorem aQ(ds:List D)(nn:Nat)(h:ds.length=n):fBody n nn s ds=Res.bnd (s (ds.map (fun d=>some (O.f,d))++List.replicate nn none)) (f:=⟨fun o=>match o with
 | .rt r=>.ok r
 | .nx _=>.ok (.f,.non)
 |_=>.bad⟩):=by
 unfold fBody;rw[Ow h];all_goals cases s (ds.map (fun d=>some (O.f,d))++List.replicate nn none) with
 |ok o=>cases o <;> rfl
 |exc c=>rfl
 |bad=>rfl
end
theorem line_le{n:Nat}(h:n<=16777216):n<=sizeLine:=by rw[line_eq];exact h
section
variable(a b:Int)(x y:List Nat)(p q:Bool)(ds es:List D)
theorem CC:FW (.int a) (.int b)=.ok (.f,.bl (a==b)):=by simp only[FW,plainD,Ej,Q3,QR]
theorem CD:FW (.str x) (.str y)=.ok (.f,.bl (x==y)):=by simp only[FW,plainD,Ej,Q3,QR]
theorem CF:GH (.int a) (.int b)=.ok (.f,.bl (!(a==b))):=by simp only[GH,plainD,Ej,Q3,QR]
theorem CG:GH (.str x) (.str y)=.ok (.f,.bl (!(x==y))):=by simp only[GH,plainD,Ej,Q3,QR]
theorem AL:addD (.int a) (.int b)=.ok (.f,.int (a+b)):=id rfl
theorem pX:addD (.str x) (.str y)=if x.length+y.length<=sizeLine then .ok (.f,.str (x++y)) else .bad:=id rfl
theorem pY:addD (.lst ds) (.lst es)=if ds.length+es.length<=sizeLine then .ok (.l .f,.lst (ds++es)) else .bad:=id rfl
theorem AM:zb (.int a) (.int b)=.ok (.f,.int (a-b)):=id rfl
theorem tR:gU (.int a) (.int b)=if 0<b/\b<1073741824 then .ok (.f,.int (a / b)) else .bad:=id rfl
theorem wX:fg (.int a) (.int b)=if 0<b then .ok (.f,.int (a%b)) else .bad:=id rfl
theorem wY:uM (.int a) (.int b)=if 0<=b/\b<=1000000/\a.natAbs<2 ^ 64 then .ok (.f,.int (a ^ b.toNat)) else .bad:=id rfl
theorem CH:GP (.int a) (.int b)=.ok (.f,.bl (decide (a<b))):=id rfl
theorem CI:IW (.int a) (.int b)=.ok (.f,.bl (decide (a<=b))):=id rfl
theorem CJ:IW (.str x) (.str y)=.ok (.f,.bl (!decide (y<x))):=id rfl
theorem CK:JQ (.int a) (.int b)=.ok (.f,.bl (decide (b<a))):=id rfl
theorem CL:ML (.int a) (.int b)=.ok (.f,.bl (decide (b<=a))):=id rfl
theorem AN:eR [.lst ds]=.ok (.f,.int ds.length):=id rfl
theorem AO:eR [.tup ds]=.ok (.f,.int ds.length):=id rfl
theorem AQ:eR [.str x]=.ok (.f,.int x.length):=id rfl
theorem AS(tk:Bool):eR [.dct tk ds es]=.ok (.f,.int ds.length):=id rfl
theorem yB:qB [.lst ds]=.ok (.l .f,.lst ds):=id rfl
theorem yC:qB [.tup ds]=.ok (.l .f,.lst ds):=id rfl
theorem vS:kG [.lst ds]=.ok (.f,.tup ds):=id rfl
theorem AU:vI [.bl p]=.ok (.f,.int (if p then 1 else 0)):=id rfl
theorem AV:EG (.lst ds) (.int a)=match Ft ds a with|some d=>.ok (.f,d)|none=>.bad:=id rfl
theorem CM:EG (.tup ds) (.int a)=match Ft ds a with|some d=>.ok (.f,d)|none=>.bad:=id rfl
theorem AX:EG (.str x) (.int a)=match Ft x a with|some c=>.ok (.f,.str [c])|none=>.bad:=id rfl
theorem AY:maxD [.int a,.int b]=.ok (.f,.int (if a<b then b else a)):=id rfl
theorem AZ(bs:List Bool):wK [.lst (bs.map D.bl)]=.ok (.f,.bl (bs.all id)):=by
 unfold wK;show(match mT (bs.map D.bl) with|some bs=>_|none=>_)=_;rw[sP]
theorem Nr{α:Type}(d:α)(l:List α):Ft (d::l) 0=some d:=by
 have:=dw (xs:=d::l) (j:=0) (v:=d) rfl;simpa using this
theorem Nt{α:Type}(c d:α)(l:List α):Ft (c::d::l) 1=some d:=by
 have:=dw (xs:=c::d::l) (j:=1) (v:=d) rfl;simpa using this
end
theorem Js(l:List Bool):flatDs (l.map D.bl)=true:=by
 rw[eB,PJ,OM];intro b _;rfl
theorem flat_strs(l:List (List Nat)):flatDs (l.map D.str)=true:=by
 rw[eB,PJ,OM];intro b _;rfl
theorem bh(d:D):b9 .f d=eh d:=by rw[b9]
theorem dX(ds:List D):b9 (.l .f) (.lst ds)=flatDs ds:=by rw[b9,lB]
theorem dY(i:Int):eh (.int i)=true:=by rw[eh];all_goals simp
theorem fS(i:Bool):eh (.bl i)=true:=by rw[eh];all_goals simp
theorem dj(i:List Nat):eh (.str i)=true:=by rw[eh];all_goals simp
theorem vT(ds:List D):eh (.tup ds)=flatDs ds:=by rw[eh]
theorem qP(n:Nat)(l:List Int):plainDs n (l.map D.int)=true:=by
 induction l with
 |nil=>rfl
 |cons a l ih=>rw[OI,plainDs,ih,plainD];all_goals simp
theorem iy(n:Nat)(l:List (List Nat)):plainDs n (l.map D.str)=true:=by
 induction l with
 |nil=>rfl
 |cons a l ih=>rw[OI,plainDs,ih,plainD];all_goals simp
theorem j9:∀a b:List (List Nat),gD (a.map D.str) (b.map D.str)=(a==b)
 |[],[]=>by simp[gD]
 |[],_::_=>by simp[gD]
 |_::_,[]=>by simp[gD]
 |a::r,b::t=>by
  rw[OI,OI,gD,Ej,j9 r t,OQ];simp
theorem vU(a:Int)(l:List Int):wL (.int a) (l.map D.int)=decide (a∈l):=by
 unfold wL;rw[R0,OQ,Qu,OE];constructor
 ·rintro⟨x,hx,e⟩;have e:Ej (.int x) (.int a)=true:=e;rw[Ej,O6]at e;rw[<-e];exact hx
 ·intro h;refine⟨a,h,?_⟩;show Ej (.int a) (.int a)=true;rw[Ej,O4]
theorem vV(a:List Nat)(l:List (List Nat)):wL (.str a) (l.map D.str)=decide (a∈l):=by
 unfold wL;rw[R0,OQ,Qu,OE];constructor
 ·rintro⟨x,hx,e⟩;have e:Ej (.str x) (.str a)=true:=e;rw[Ej,O6]at e;rw[<-e];exact hx
 ·intro h;refine⟨a,h,?_⟩;show Ej (.str a) (.str a)=true;rw[Ej,O4]
theorem Ba(a:Int)(l:List Int):HY (.int a) (.lst (l.map D.int))=.ok (.f,.bl (decide (a∈l))):=by
 unfold HY;dsimp only;rw[qP,vU,plainD];all_goals simp
theorem yD(a:Int)(l:List Int):zc (.int a) (.lst (l.map D.int))=.ok (.f,.bl (!decide (a∈l))):=by
 unfold zc;rw[Ba];rfl
theorem Bb(a:List Nat)(l:List (List Nat)):HY (.str a) (.tup (l.map D.str))=.ok (.f,.bl (decide (a∈l))):=by
 unfold HY;dsimp only;rw[iy,vV,plainD];all_goals simp
theorem dk{α:Type}{a:FG}{f:FX}{e:α->D}{r:α->D}(I:PV.Env->Prop)(l:List α)
  (h:∀x∈l,∀env,I env->∃Ec,a (e x) env=.ok Ec/\∃o Gf,f Ec=.ok ((o,r x),Gf)/\I Gf):∀env,I env->fA a mn f (l.map e) env=.ok (l.map r):=by
 induction l with
 |nil=>intro env _;rfl
 |cons x l ih=>
  intro env hI;obtain⟨Ec,h1,o,Gf,h4,h5⟩:=h x Ol env hI;have ih:=ih fun y hy=>h y (Ot _ hy)
  rw[OI,vR,h1,EU,AJ,EU,Ow rfl,h4,EU,ih Gf h5];rfl
theorem iz{a:FG}{g:FS}(P:Nat->PV.Env->Prop)(ds:List D)(h:∀i d env,ds[i]?=some d->P i env->∃Ec,a d env=.ok Ec/\∃Es,(g Ec=.ok (.nx Es)\/g Ec=.ok (.ct Es))/\P (i+1) Es):
  ∀env,P 0 env->∃env',i6 a g ds env=.ok (.nx env')/\P ds.length env':=by
 have key:∀(l:List D) (k:Nat) (env:PV.Env),(∀i d,l[i]?=some d->ds[k+i]?=some d)->P k env->∃env',i6 a g l env=.ok (.nx env')/\P (k+l.length) env':=by
  intro l;induction l with
  |nil=>exact fun k env _ hp=>⟨env,rfl,hp⟩
  |cons d l ih=>
   intro k env hd hp;obtain⟨Ec,h1,Es,h2,h3⟩:=h k d env (hd 0 d rfl) hp;obtain⟨env',h4,h5⟩:=ih (k+1) Es (fun i d e=>by have:=hd (i+1) d (by simpa using e);rw[show k+1+i=k+(i+1) by lia];exact this) h3;refine⟨env',?_,by rw[OC,show k+(l.length+1)=k+1+l.length by lia];exact h5⟩;rw[EY,h1,EU];rcases h2 with h2|h2
   ·rw[h2,EU];exact h4
   ·rw[h2,EU];exact h4
 intro env hp;obtain⟨env',h1,h2⟩:=key ds 0 env (fun i d e=>by rw[Nat.zero_add];exact e) hp;exact⟨env',h1,by rw[Nat.zero_add]at h2;exact h2⟩
section
variable(env:PV.Env)(fo:FO)(fp Eh:FP)(a b:Int)(ds:List D)(x:List Nat)
theorem Lg:i9 fo fp Eh env=Res.bnd (fo env) (f:=⟨fun p=>Res.bnd (fp p.2) (f:=⟨fun q=>Res.bnd (Eh q.2) (f:=⟨fun t=>Res.bnd (Fn t.2 p.1) (f:=⟨fun d=>Res.bnd (Kt d q.1 t.1) (f:=⟨fun r=>.ok (r,t.2)⟩)⟩)⟩)⟩)⟩):=id rfl
theorem Bc(lo hi:Option Int):Kt (.lst ds) lo hi=.ok (.l .f,.lst (ig ds lo hi)):=id rfl
theorem Bd(lo hi:Option Int):Kt (.str x) lo hi=.ok (.f,.str (ig x lo hi)):=id rfl
theorem tS(lo hi:Option Int)(h:HT.sIx ds.length 0 lo=0/\HT.sIx ds.length ds.length hi=ds.length):ig ds lo hi=ds:=by
 unfold ig;rw[h.1,h.2,R7,Nat.sub_zero,Pm (Ou _)]
theorem Be(lo hi:Option Int):Kt (.tup ds) lo hi=.ok (.f,.tup (ig ds lo hi)):=by
 unfold Kt;dsimp only;split
 ·rename_i h;rw[tS ds lo hi h]
 ·rename_i h;unfold LA;dsimp only;rw[Ow h]
theorem tU:uO (.int a) (.int b)=if dE a||dE b then .ok (.f,.int (a*b)) else if a.natAbs<2 ^ 1000/\b.natAbs<2 ^ 1000 then .ok (.f,.int (a*b)) else .bad:=id rfl
end
section
variable(env:PV.Env)(fo:FO)(fs:Fo)(f g:FX)(a b c:Int)(ds es:List D)(x y:List Nat)
theorem Dk(d:D):(∃l,gB true d=.ok l/\gB false d=.bad/\pK d=some l)\/(∃l,gB true d=.bad/\gB false d=.ok l/\pK d=some l)\/(gB true d=.bad/\gB false d=.bad/\pK d=none):=by
 cases d with
 |lst l=>exact .inl ⟨l,rfl,rfl,rfl⟩
 |tup l=>exact .inr (.inl ⟨l,rfl,rfl,rfl⟩)
 |_=>exact .inr (.inr ⟨rfl,rfl,rfl⟩)
def Bf(k1 k2:Bool)(e:PV.Env)(d1 d2:D):Res (List D×PV.Env):=(gB k1 d1).bind fun a=>(gB k2 d2).bind fun b=>.ok ((a.zip b).map fun z=>D.tup [z.1,z.2],e)
def Dl(e:PV.Env)(d1 d2:D):Res (List D×PV.Env):=match pK d1,pK d2 with|some a,some b=>.ok ((a.zip b).map fun z=>D.tup [z.1,z.2],e)|_,_=>.bad
def Mk(a b:Res (List D×PV.Env)):Res (List D×PV.Env):=match a with | .ok a=>.ok a|_=>b
def BM(g:D->D->Res (List D×PV.Env))(os:List Opd):Res (List D×PV.Env):=match os with|[.val d1,.val d2]=>g d1 d2|_=>.bad
theorem CN(g h:D->D->Res (List D×PV.Env))(os:List Opd):Mk (BM g os) (BM h os)=BM (fun a b=>Mk (g a b) (h a b)) os:=by
 unfold BM;split <;> rfl
theorem CO(e:PV.Env)(a b:D):Mk (Bf true true e a b) (Mk (Bf true false e a b) (Mk (Bf false true e a b) (Bf false false e a b)))=Dl e a b:=by
 unfold Bf Dl;rcases Dk a with⟨l,h1,h2,h3⟩|⟨l,h1,h2,h3⟩|⟨h1,h2,h3⟩ <;> rcases Dk b with⟨m,i1,i2,i3⟩|⟨m,i1,i2,i3⟩|⟨i1,i2,i3⟩ <;> rw[h1,h2,h3,i1,i2,i3] <;> rfl
theorem Kj:pK (.lst ds)=some ds:=id rfl
theorem Bg:i8 false (.str x)=true:=id rfl
end
section
variable(env:PV.Env)(f g:FX)(ds ks:List D)(i:Nat)
theorem yE:yo f g env=Res.bnd (f env) (f:=⟨fun p=>Res.bnd (g p.2) (f:=⟨fun q=>.ok ((.t [.f,q.1.1],.tup [p.1.2,q.1.2]),q.2)⟩)⟩):=id rfl
end
section
variable(env:PV.Env)(f:FX)(fs:Fo)(ds:List D)(i:Nat)
end
noncomputable def pv:=(Zz @EU (Zz @bBad (Zz @KW (Zz @Iy (Zz @JV (Zz @KY (Zz @KZ (Zz @JW (Zz @Jn (Zz @JX (Zz @Jo (Zz @K0 (Zz @K1 (Zz @JY (Zz @JZ (Zz @J0 (Zz @J2 (Zz @Jp (Zz @Jq (Zz @J3 (Zz @J4 (Zz @J5 (Zz @K2 (Zz @J6 (Zz @Mg (Zz @K3 (Zz @Mh (Zz @K4 (Zz @K5 (Zz @Jr (Zz @J7 (Zz @K6 (Zz @K7 (Zz @K8 (Zz @Lg (Zz @J8 (Zz @J9 (Zz @K9 (Zz @Ka (Zz @Mi (Zz @Kb (Zz @La (Zz @Kc (Zz @Kd (Zz @Ie (Zz @Ig (Zz @Ih (Zz @Lb (Zz @Ke (Zz @GQ (Zz @IQ (Zz @Kf (Zz @EV (Zz @He (Zz @Kg (Zz @Lc (Zz @Kh (Zz @Ld (Zz @Mj (Zz @Hf (Zz @Ki (Zz @EY (Zz @Lf (Zz @List.getElem?_cons_zero.{0} (Zz @List.getElem?_cons_succ.{0} (Zz @List.set_cons_zero.{0} (Zz @List.set_cons_succ.{0} (Zz @List.length_cons.{0} (Zz @List.length_nil.{0} (Zz @List.map_cons.{0,0} (Zz @List.map_nil.{0,0} (Zz @List.replicate_succ.{0} (Zz @List.replicate_zero.{0} (Zz @List.cons_append.{0} (Zz @List.nil_append.{0} (Zz @Nat.zero_add (Zz @Kj (Zz @Me (Zz @Mf @Jm)))))))))))))))))))))))))))))))))))))))))))))))))))))))))))))))))))))))))))))))
noncomputable def op:=(Zz @CC (Zz @CD (Zz @CF (Zz @CG (Zz @AL (Zz @AM (Zz @CH (Zz @CI (Zz @CJ (Zz @CK (Zz @CL (Zz @AN (Zz @AO (Zz @AQ (Zz @AS (Zz @yB (Zz @yC (Zz @vS (Zz @AU (Zz @AV (Zz @CM (Zz @AX (Zz @Bc (Zz @Bd (Zz @Be (Zz @AY (Zz @Nr (Zz @Nt (Zz @yD (Zz @Bb (Zz @AZ (Zz @bh (Zz @dX (Zz @dY (Zz @fS (Zz @dj (Zz @Js (Zz @PV.flat_strs @Bg))))))))))))))))))))))))))))))))))))))
theorem dV(n:Nat)(w:PV.Env):(∃d,Fn w (.var n)=.ok d)\/Fn w (.var n)=.bad:=by
 unfold Fn;dsimp only;split
 ·split
  ·exact .inl ⟨_,rfl⟩
  ·exact .inr rfl
 ·exact .inr rfl
section
variable(w:PV.Env)(op:D->D->Res R)(F:List D->Res R)(f g h:FX)(n n' n'':Nat)(x y:D)
end
section
variable(a b c d e g h i j k l m:Option R)(z:PV.Env)(r:R)(o:O)(x:D){ρ:Type}
end
end PV
namespace LW
open PySem L2 NX PV
abbrev En:=Int×List Nat×Int
def eA(a:En):D:=.tup [.int a.1,.str a.2.1,.int a.2.2]
def ES(nY:List (List Nat))(aZ:List En):D:=.tup [.tup (nY.map D.str),.lst (aZ.map eA)]
theorem Dm(a b:Nat):decide ([a]<[b])=decide (a<b):=by
 rw[OQ,OE,OE];exact lt1 a b
def dJ(c:Nat):Bool:=decide (97<=c)&&decide (c<=122)
theorem ka(c:Nat):bP [.str [c]]=.ok (.f,.bl (dJ c)):=by
 unfold bP jT dJ;rw[aQ (h:=by rfl)];simp only[pv,seval,op,Dm];by_cases h1:c<97
 ·have h2:¬ 97<=c:=by lia
  simp only[h1,h2,Pa,Pf,OS,Pg,EU]
 ·have h2:97<=c:=by lia
  simp only[h1,h2,Pa,Pf,Pj,O7,EU];by_cases h3:122<c
  ·have h4:¬ c<=122:=by lia
   simp only[h3,h4,Pa,Pf,OS]
  ·have h4:c<=122:=by lia
   simp only[h3,h4,Pa,Pf,Pj]
theorem gN(a:En)(t1 t2 t3:Option R)(c9:PV.Env):mQ 3 (aS (aH 0) (aS (aH 1) (aS (aH 2) gA))) (eA a) (t1::t2::t3::c9)=.ok (some (.f,.int a.1)::some (.f,.str a.2.1)::some (.f,.int a.2.2)::c9):=by
 unfold eA;rw[tP,Ow (by simp),dW,EV,Ow (by simp),EU,dW,EV,Ow (by simp),EU,dW,EV,Ow (by simp),EU];rfl
def D1(aZ:List En)(s:Int)(m:List Nat):List Int:=(aZ.filter fun a=>a.1==s&&a.2.1==m).map fun a=>a.2.2
theorem Bh(l:List Int):(pK (.lst (l.map D.int))).bind c8=some l:=qC l
def pZ(a:En):Int:=if a.1<a.2.2 then a.2.2 else a.1
def bQ(aZ:List En):Int:=1+NX.maxD (aZ.map pZ) 0
theorem cq{α:Type}{f:α->D}{l:List α}(h:l.length<=16777216):(l.map f).length<=sizeLine:=by
 rw[Om];exact line_le h
theorem vW{α:Type}{f:α->D}{l:List α}(h:∀a,eh (f a)=true):flatDs (l.map f)=true:=by
 rw[eB,PJ,OM];intro a _;exact h a
theorem oM(nY:List (List Nat))(aZ:List En)(hl:aZ.length<=16777216):cR [ES nY aZ]=.ok (.f,.int (bQ aZ)):=by
 unfold cR jV;rw[aQ (h:=by rfl)];simp only[pv,seval,op,ES];rw[dk (r:=fun a:En=>D.int (pZ a)) (fun env=>∃t1 t2 t3,env=[t1,t2,t3]) aZ ?_ _ ⟨_,_,_,rfl⟩]
 ·rw[EU,Ow (cq hl),EU,vW fun a=>dY _];simp only[pv,seval,op];have e:(some (aZ.map fun a=>D.int (pZ a))).bind c8=some (aZ.map pZ):=by
   have:=Bh (aZ.map pZ);rw[OU]at this;exact this
  rw[e];rfl
 ·rintro a _ env ⟨t1,t2,t3,rfl⟩;refine⟨_,gN a t1 t2 t3 _,?_⟩;simp only[pv,seval,op];exact⟨_,_,rfl,_,_,_,rfl⟩
def aC:List Nat:=[109,111,118,101,115]
def bS(t:List Nat):Bool:=!(t==aC)&&(decide (1<=t.length)&&decide (t.length<=8))&&t.all dJ
theorem nM(t:List Nat)(hl:t.length<=16777216):cX [.str t]=.ok (.f,.bl (bS t)):=by
 unfold cX ni bS aC;rw[aQ (h:=by rfl)];simp only[pv,seval,op];have hc:fA (aH 0) mn (cK bP (af (au 0) ax)) (t.map fun c=>D.str [c]) [none]=.ok ((t.map dJ).map D.bl):=by
  rw[dk (r:=fun c:Nat=>D.bl (dJ c)) (fun env=>∃t1,env=[t1]) t ?_ _ ⟨_,rfl⟩]
  ·rw[OU];rfl
  ·rintro c _ env ⟨t1,rfl⟩;refine⟨[some (.f,.str [c])],rfl,?_⟩;simp only[pv,seval,op,ka];exact⟨_,_,rfl,_,rfl⟩
 cases h1:t==[109,111,118,101,115] with
 |true=>simp only[pv,seval,OS,Pg]
 |false=>
  simp only[pv,seval,Pj,O7,OX];by_cases h2:1<=t.length
  ·have h3:(1:Int)<=(t.length:Int):=by lia
   by_cases h4:t.length<=8
   ·have h5:(t.length:Int)<=8:=by lia
    simp only[h2,h3,h4,h5,Pa,pv,seval,op,OS,OX,O7,hc];rw[Ow (cq (by rw[Om];exact hl))];simp only[pv,seval,op,PJ];rfl
   ·have h5:¬ (t.length:Int)<=8:=by lia
    simp only[h2,h3,h4,h5,Pa,Pf,pv,seval,Pj,O7,Pg]
  ·have h3:¬ (1:Int)<=(t.length:Int):=by lia
   simp only[h2,h3,Pa,Pf,pv,seval,Pj,Pg]
def fT{α:Type}(lt:α->α->Bool)(l:List α):Bool:=((l.zip (l.drop 1)).map fun z=>lt z.1 z.2).all id
def ak(a:En):List Key:=[.inl a.1,.inr (S a.2.1),.inl a.2.2]
def eV(a b:En):Bool:=cZ (ak a) (ak b)
theorem CP(a b:En):GP (eA a) (eA b)=.ok (.f,.bl (eV a b)):=rfl
theorem Dn{α:Type}(l:List α):ig l (some 1) none=l.drop 1:=by
 unfold ig;have e:HT.sIx l.length 0 (some 1)=min 1 l.length:=HT.nV _ _ 1;rw[e,HT.kZ];by_cases h:1<=l.length
 ·rw[Rc h,Pm (by rw[Px];exact Ou _)]
 ·have:l=[]:=Po (by lia);subst this;rfl
theorem p3{α:Type}(f:α->D)(l:List α):((l.map f).zip ((l.map f).drop 1)).map (fun z=>D.tup [z.1,z.2])=(l.zip (l.drop 1)).map fun z=>D.tup [f z.1,f z.2]:=by
 rw[<-Su,List.zip_map,OU];rfl
theorem oN(x y:D)(t1 t2:Option R)(c9:PV.Env):mQ 2 (aS (aH 0) (aS (aH 1) gA)) (.tup [x,y]) (t1::t2::c9)=.ok (some (.f,x)::some (.f,y)::c9):=by
 rw[tP,Ow (by simp),dW,EV,Ow (by simp),EU,dW,EV,Ow (by simp),EU];rfl
theorem kS{α:Type}(f:α->D)(lt:α->α->Bool)(h:∀a b,GP (f a) (f b)=.ok (.f,.bl (lt a b)))(l:List α):
  fA (mQ 2 (aS (aH 0) (aS (aH 1) gA))) mn (aE GP (au 0) (au 1)) ((l.zip (l.drop 1)).map fun z=>D.tup [f z.1,f z.2]) [none,none]=.ok (((l.zip (l.drop 1)).map fun z=>lt z.1 z.2).map D.bl):=by
 rw[dk (r:=fun z:α×α=>D.bl (lt z.1 z.2)) (fun env=>∃t1 t2,env=[t1,t2]) (l.zip (l.drop 1)) ?_ _ ⟨_,_,rfl⟩]
 ·rw[OU];rfl
 ·rintro z _ env ⟨t1,t2,rfl⟩;refine⟨_,oN _ _ t1 t2 _,?_⟩;simp only[pv,seval,op,h];exact⟨_,_,rfl,_,_,rfl⟩
theorem tV{α:Type}(l:List α):(l.zip (l.drop 1)).length<=l.length:=by
 rw[List.length_zip];lia
theorem tW{α:Type}(f:α->D)(lt:α->α->Bool)(h:∀a b,GP (f a) (f b)=.ok (.f,.bl (lt a b)))(l:List α)(hl:l.length<=16777216):d7 [.lst (l.map f)]=.ok (.f,.bl (fT lt l)):=by
 unfold d7 oy;rw[aQ (h:=by rfl)];have hz:=tV l;simp only[pv,seval,op,qO,Dn,gB,p3,OX,kS f lt h l];rw[Ow (cq (by rw[Om];lia))];simp only[pv,seval,op];rfl
theorem tX{α:Type}(f:α->D)(lt:α->α->Bool)(h:∀a b,GP (f a) (f b)=.ok (.f,.bl (lt a b)))(l:List α)(hl:l.length<=16777216):d7 [.tup (l.map f)]=.ok (.f,.bl (fT lt l)):=by
 unfold d7 oy;rw[aQ (h:=by rfl)];have hz:=tV l;simp only[pv,seval,op,qO,Dn,gB,p3,OX,kS f lt h l];rw[Ow (cq (by rw[Om];lia))];simp only[pv,seval,op];rfl
def jm(ms:List (List Nat)):Bool:=decide ((ms.length:Int)<=5)&&(fT Fv ms&&(ms.map bS).all id)
theorem Bi(a b:List Nat):GP (.str a) (.str b)=.ok (.f,.bl (Fv a b)):=rfl
theorem oO(ms:List (List Nat))(hl:ms.length<=16777216)(hn:∀m∈ms,m.length<=16777216):cS [.tup (ms.map D.str)]=.ok (.f,.bl (jm ms)):=by
 unfold cS jW jm;rw[aQ (h:=by rfl)];simp only[pv,seval,op,Om];cases h1:decide ((ms.length:Int)<=5) with
 |false=>simp only[pv,seval,Pg]
 |true=>
  simp only[pv,seval,O7,tX D.str Fv Bi ms hl,op];cases h2:fT Fv ms with
  |false=>simp only[pv,seval,Pg]
  |true=>
   simp only[pv,seval,O7,op];rw[dk (r:=fun m:List Nat=>D.bl (bS m)) (fun env=>∃t1,env=[t1]) ms ?_ _ ⟨_,rfl⟩]
   ·rw[EU,Ow (cq hl),EU];have e:(ms.map fun m=>D.bl (bS m))=(ms.map bS).map D.bl:=by rw[OU];rfl
    rw[e];simp only[pv,seval,op]
   ·rintro m hm env ⟨t1,rfl⟩;refine⟨[some (.f,.str m)],rfl,?_⟩;simp only[pv,seval,op,nM m (hn m hm)];exact⟨_,_,rfl,_,rfl⟩
def iA(n:Int):Bool:=decide (0<=n)&&decide (n<12)
theorem kU(n:Int):b7 [.int n]=.ok (.f,.bl (iA n)):=by
 unfold b7 kN iA;rw[aQ (h:=by rfl)];simp only[pv,seval,op];cases h1:decide (0<=n) with
 |false=>simp only[pv,seval,Pg]
 |true=>simp only[pv,seval,op,O7]
def qQ(ms:List (List Nat))(a:En):Bool:=iA a.1&&(decide (a.2.1∈ms)&&iA a.2.2)
def l8(aZ:List En)(ms:List (List Nat)):Bool:=!decide (60<(aZ.length:Int))&&fT eV aZ&&(aZ.map (qQ ms)).all id
theorem qR(aZ:List En)(ms:List (List Nat))(hl:aZ.length<=16777216):dq [.lst (aZ.map eA),.tup (ms.map D.str)]=.ok (.f,.bl (l8 aZ ms)):=by
 unfold dq kO l8;rw[aQ (h:=by rfl)];simp only[pv,seval,op,Om];have hc:fA (mQ 3 (aS (aH 0) (aS (aH 1) (aS (aH 2) gA)))) mn (vD (cK b7 (af (au 0) ax)) (vD (bU HY (au 1) (au 3)) (cK b7 (af (au 2) ax)))) (aZ.map eA) [none,none,none,some (.f,.tup (ms.map D.str))]=.ok ((aZ.map (qQ ms)).map D.bl):=by
  rw[dk (r:=fun a:En=>D.bl (qQ ms a)) (fun env=>∃t1 t2 t3,env=[t1,t2,t3,some (.f,.tup (ms.map D.str))]) aZ ?_ _ ⟨_,_,_,rfl⟩]
  ·rw[OU];rfl
  ·rintro a _ env ⟨t1,t2,t3,rfl⟩;refine⟨_,gN a t1 t2 t3 _,?_⟩;unfold qQ;simp only[pv,seval,op,kU];cases h1:iA a.1 with
   |false=>
    simp only[pv,seval,Pg];exact⟨_,_,rfl,_,_,_,rfl⟩
   |true=>
    simp only[pv,seval,op,O7];cases h2:decide (a.2.1∈ms) with
    |false=>
     simp only[pv,seval,Pg];exact⟨_,_,rfl,_,_,_,rfl⟩
    |true=>
     simp only[pv,seval,op,O7,kU];exact⟨_,_,rfl,_,_,_,rfl⟩
 cases h1:decide (60<(aZ.length:Int)) with
 |true=>simp only[pv,seval,OS,Pg]
 |false=>
  simp only[pv,seval,op,Pj,O7,OX,tW eA eV CP aZ hl];cases h2:fT eV aZ with
  |false=>simp only[pv,seval,Pj,Pg]
  |true=>
   simp only[pv,seval,op,OS,OX,O7,hc];rw[Ow (cq (by rw[Om];exact hl))];simp only[pv,seval,op]
theorem for_list{α:Type}{a:FG}{g:FS}{e:α->D}(l:List α)(P:Nat->PV.Env->Prop)
  (h:∀k x env,l[k]?=some x->P k env->∃Ec,a (e x) env=.ok Ec/\∃Es,g Ec=.ok (.nx Es)/\P (k+1) Es):∀env,P 0 env->∃env',i6 a g (l.map e) env=.ok (.nx env')/\P l.length env':=by
 intro env h0;have:=iz (a:=a) (g:=g) P (l.map e) (fun i d env hi hp=>by
  rw[List.getElem?_map,ON]at hi;obtain⟨x,hx,rfl⟩:=hi;obtain⟨Ec,h1,Es,h2,h3⟩:=h i x env hx hp;exact⟨Ec,h1,Es,.inl h2,h3⟩) env h0
 rwa [Om]at this
abbrev Ew:=List (List Nat)
theorem dO{α β:Type}{l:List α}(f:α->β):(l.map f).length=l.length:=Om f
theorem fe:(false=true)=False:=OX
theorem p4{α:Type}{l:List α}{i:Nat}{a:α}(h:l[i]?=some a):∃h:i<l.length,l[i]=a:=List.getElem?_eq_some_iff.mp h
theorem yF{α:Type}{l:List α}{i:Nat}(h:i<l.length):l[i]?=some l[i]:=List.getElem?_eq_getElem h
theorem fU{α β:Type}{f:α->β}{a:α}{l:List α}:(a::l).map f=f a::l.map f:=OI
theorem vX{α:Type}{a b:α}(h:a∈[b]):a=b:=Pb.mp h
theorem tY{α β:Type}{f:α->β}{l:List α}{b:β}(h:b∈l.map f):∃a,a∈l/\f a=b:=Py.mp h
theorem Bj{α:Type}{a:α}{s t:List α}(h:a∈s++t):a∈s\/a∈t:=OK.mp h
theorem dM{α:Type}{s t:List α}:(s++t).length=s.length+t.length:=OW
theorem aD{s t:FS}{env env':PV.Env}(h:s env=.ok (.nx env')):sSeq s t env=t env':=by rw[He,h,EU]
theorem g8{c:FT}{g:FS}(P:Nat->PV.Env->Prop)(fin:PV.Env->Prop)(h:∀k env,P k env->(∃Ec,c env=.ok (false,Ec)/\fin Ec)\/(∃Ec,c env=.ok (true,Ec)/\∃Es k',g Ec=.ok (.nx Es)/\k'<k/\P k' Es)):
  ∀n k env,k<n->P k env->∃env',dC c g n env=.ok (.nx env')/\fin env'
 | 0,k,env,hk,_=>absurd hk (R1 _)
 |n+1,k,env,hk,hp=>by
  rcases h k env hp with⟨Ec,h1,h2⟩|⟨Ec,h1,Es,k',h2,h3,h4⟩
  ·exact⟨Ec,by rw[pW,h1,EU];rfl,h2⟩
  ·obtain⟨env',e,hf⟩:=g8 P fin h n k' Es (by lia) h4;refine⟨env',?_,hf⟩;rw[pW,h1,EU];dsimp only;rw[Ow rfl,h2,EU];exact e
theorem oP{α:Type}{l:List α}(h:l.length<=100000):l.length<sizeLine:=OF (O8 _) (line_le (by lia))
theorem at2{α:Type}(a b c:α):Ft [a,b,c] (2:Int)=some c:=rfl
abbrev Nd:=Int×Ew
structure Bfs(aZ:List En)(i:Nat)(pre:List En)(N:List Nd)(T:List En):Prop where
 z:N[0]?=some (0,[])
 len:N.length=T.length+1
 nd:(N.map (·.1)).Nodup
 bd:∀n∈N,0<=n.1/\n.1<12
 tr:∀(j:Nat) (a:En),T[j]?=some a->a∈aZ/\∃(k:Nat) (n:Nd),k<=j/\N[k]?=some n/\a.1=n.1/\N[j+1]?=some (a.2.2,n.2++[a.2.1])
 mono:∀(j k:Nat) (n m:Nd),j<=k->N[j]?=some n->N[k]?=some m->n.2.length<=m.2.length
 top:∀n∈N,∀c:Nd,N[i]?=some c->n.2.length<=c.2.length+1
 clo:∀k,k<i->∀n:Nd,N[k]?=some n->∀a∈aZ,a.1=n.1->∃m∈N,m.1=a.2.2/\m.2.length<=n.2.length+1
 cur:∀a∈pre,∀c:Nd,N[i]?=some c->a.1=c.1->∃m∈N,m.1=a.2.2/\m.2.length<=c.2.length+1
theorem Bfs.start(aZ:List En):Bfs aZ 0 [] [(0,[])] []:=by
 refine⟨rfl,rfl,O5.mpr ⟨PQ,P0⟩,fun n hn=>?_,fun j a h=>by simp at h,fun j k n m _ h1 h2=>?_,fun n hn c hc=>?_,fun k hk=>absurd hk (R1 _),fun a ha=>nomatch ha⟩
 ·rw[vX hn];exact⟨Td _,by decide⟩
 ·rw[vX (O2 h1)];exact Pd _
 ·rw[vX hn];exact Pd _
theorem gO{α:Type}{l:List α}{x:α}{j:Nat}{y:α}(h:l[j]?=some y):(l++[x])[j]?=some y:=by
 rw[List.getElem?_append_left (p4 h).1];exact h
theorem eI{α:Type}{l:List α}{x:α}{j:Nat}{y:α}(h:(l++[x])[j]?=some y):l[j]?=some y\/(j=l.length/\y=x):=by
 by_cases hj:j<l.length
 ·rw[List.getElem?_append_left hj]at h;exact .inl h
 ·rw[List.getElem?_append_right (by lia)]at h;by_cases e:j-l.length=0
  ·rw[e]at h;exact .inr ⟨by lia,by simpa using h.symm⟩
  ·rw[List.getElem?_eq_none (by simp;lia)]at h;cases h
theorem Bfs.skip{aZ:List En}{i:Nat}{pre:List En}{N:List Nd}{T:List En}(b:Bfs aZ i pre N T){a:En}{c:Nd}(hc:N[i]?=some c)(h:a.1≠c.1\/a.2.2∈N.map (·.1)):Bfs aZ i (pre++[a]) N T:=by
 refine⟨b.z,b.len,b.nd,b.bd,b.tr,b.mono,b.top,b.clo,fun x hx c' GI e=>?_⟩;rcases Bj hx with hx|hx
 ·exact b.cur x hx c' GI e
 ·rw[vX hx]at e ⊢;rw[hc]at GI;cases GI;rcases h with h|h
  ·exact absurd e h
  ·obtain⟨m,hm,em⟩:=tY h;exact⟨m,hm,em,b.top m hm c hc⟩
theorem Bfs.take{aZ:List En}{i:Nat}{pre:List En}{N:List Nd}{T:List En}(b:Bfs aZ i pre N T){a:En}{c:Nd}(hc:N[i]?=some c)(ha:a∈aZ)(LY:0<=a.2.2/\a.2.2<12)(h1:a.1=c.1)(h2:a.2.2∉N.map (·.1)):Bfs aZ i (pre++[a]) (N++[(a.2.2,c.2++[a.2.1])]) (T++[a]):=by
 have hi:=(p4 hc).1;have JM:(c.2++[a.2.1]).length=c.2.length+1:=by rw[dM];rfl
 have up:∀{x:Int}{B:Nat},(∃m∈N,m.1=x/\m.2.length<=B)->∃m∈N++[(a.2.2,c.2++[a.2.1])],m.1=x/\m.2.length<=B:=fun⟨m,hm,q⟩=>⟨m,Ox _ hm,q⟩
 refine⟨gO b.z,by rw[dM,dM,b.len];rfl,?_,fun n hn=>?_,fun j x hx=>?_,fun j k n m hjk hn hm=>?_,fun n hn c' GI=>?_,fun k hk n hn x hx e=>?_,fun x hx c' GI e=>?_⟩
 ·rw[OT,OV];refine⟨b.nd,O5.mpr ⟨PQ,P0⟩,fun x hx y hy=>?_⟩;have:y=a.2.2:=by simpa using hy
  rw[this];rintro rfl;exact h2 hx
 ·rcases Bj hn with hn|hn
  ·exact b.bd n hn
  ·rw[vX hn];exact LY
 ·rcases eI hx with hx|⟨rfl,rfl⟩
  ·obtain⟨q,k,n,hk,hn,e,Lq⟩:=b.tr j x hx;exact⟨q,k,n,hk,gO hn,e,gO Lq⟩
  ·refine⟨ha,i,c,?_,gO hc,h1,?_⟩
   ·have:=b.len;lia
   ·rw[<-b.len,List.getElem?_append_right (Ou _),Rh];rfl
 ·rcases eI hn with hn|⟨rfl,rfl⟩
  ·rcases eI hm with hm|⟨rfl,rfl⟩
   ·exact b.mono j k n m hjk hn hm
   ·show n.2.length<=(c.2++[a.2.1]).length;rw[JM];exact b.top n (O2 hn) c hc
  ·rcases eI hm with hm|⟨rfl,rfl⟩
   ·have:=(p4 hm).1;lia
   ·exact Ou _
 ·have:c'=c:=by
   rw[gO hc]at GI;exact(OY GI).symm
  subst this;rcases Bj hn with hn|hn
  ·exact b.top n hn c' hc
  ·rw[vX hn];exact RO JM
 ·rcases eI hn with hn|⟨rfl,rfl⟩
  ·exact up (b.clo k hk n hn x hx e)
  ·lia
 ·have:c'=c:=by
   rw[gO hc]at GI;exact(OY GI).symm
  subst this;rcases Bj hx with hx|hx
  ·exact up (b.cur x hx c' hc e)
  ·rw[vX hx];exact⟨_,Oo _ Ol,rfl,RO JM⟩
theorem Bfs.next{aZ:List En}{i:Nat}{N:List Nd}{T:List En}(b:Bfs aZ i aZ N T){c:Nd}(hc:N[i]?=some c):Bfs aZ (i+1) [] N T:=by
 refine⟨b.z,b.len,b.nd,b.bd,b.tr,b.mono,fun n hn c' GI=>?_,fun k hk n hn a ha e=>?_,fun a ha=>nomatch ha⟩
 ·have h1:=b.top n hn c hc;have h2:=b.mono i (i+1) c c' (Qp _) hc GI;lia
 ·by_cases hki:k=i
  ·subst hki;rw[hc]at hn;cases hn;exact b.cur a ha c hc e
  ·exact b.clo k (by lia) n hn a ha e
theorem l9:∀(n:Nat) {l:List Int},l.Nodup->(∀x∈l,0<=x/\x<(n:Int))->l.length<=n
 | 0,l,_,hb=>by
  cases l with
  |nil=>exact Ou _
  |cons a l=>have:=hb a Ol;lia
 |n+1,l,nd,hb=>by
  have h1:=l9 n (l:=l.erase (n:Int)) (nd.erase _) fun x hx=>by
   have h2:=(nd.mem_erase_iff.mp hx)
   have h3:=hb x h2.2;have h4:=h2.1;lia
  have:=List.length_erase_le (a:=(n:Int)) (l:=l);have h5:l.length<=(l.erase (n:Int)).length+1:=by
   by_cases hm:(n:Int)∈l
   ·rw[Rt hm];have:=RJ hm;lia
   ·rw[List.erase_of_not_mem hm];lia
  lia
theorem Bfs.le12{aZ:List En}{i:Nat}{pre:List En}{N:List Nd}{T:List En}(b:Bfs aZ i pre N T):N.length<=12:=by
 have:=l9 12 b.nd fun x hx=>by
  obtain⟨n,hn,rfl⟩:=tY hx;exact b.bd n hn
 rw[dO]at this;exact this
theorem tZ(aZ:List En)(i:Nat)(pre:List En)(N:List Nd)(T:List En)(b:Bfs aZ i pre N T)(c:Nd)(hc:N[i]?=some c)(a:En)(ha:a∈aZ)(LY:0<=a.2.2/\a.2.2<12):
  ∃N' T',Bfs aZ i (pre++[a]) N' T'/\N'[i]?=some c/\dR [some (.f,.lst (aZ.map eA)),some (.l .f,.lst ((N.map (·.1)).map D.int)),some (.l .f,.lst (T.map eA)),some (.f,.int (i:Int)),some (.f,eA a)]=.ok (.nx [some (.f,.lst (aZ.map eA)),some (.l .f,.lst ((N'.map (·.1)).map D.int)),some (.l .f,.lst (T'.map eA)),some (.f,.int (i:Int)),some (.f,eA a)]):=by
 have Nu:=b.le12;have E5:=(p4 hc).1;have F1:Ft ((N.map (·.1)).map D.int) (i:Int)=some (.int c.1):=dw (by rw[List.getElem?_map,List.getElem?_map,hc];rfl);have z1:((N.map (·.1)).map D.int).length<sizeLine:=oP (by rw[dO,dO];lia);have z2:(T.map eA).length<sizeLine:=oP (by rw[dO];have:=b.len;lia);unfold dR eA;by_cases h1:a.1=c.1
 ·by_cases h2:a.2.2∈N.map (·.1)
  ·refine⟨N,T,b.skip hc (.inr h2),hc,?_⟩;have e1:(a.1==c.1)=true:=O6.mpr h1;simp only[pv,seval,op,F1,e1,at2,h2,Pa,OS,fe]
  ·refine⟨_,_,b.take hc ha LY h1 h2,gO hc,?_⟩;have e1:(a.1==c.1)=true:=O6.mpr h1;have e:(fun a:En=>D.tup [D.int a.1,D.str a.2.1,D.int a.2.2])=eA:=rfl;rw[e] at *;simp only[pv,seval,op,F1,e1,at2,h2,Pf,Pj,z1,z2,OT];rfl
 ·refine⟨N,T,b.skip hc (.inl h1),hc,?_⟩;have e1:(a.1==c.1)=false:=O1.mpr h1;simp only[pv,seval,op,F1,e1,fe]
theorem t8(aZ:List En)(hl:aZ.length<=1000)(hb:∀a∈aZ,0<=a.2.2/\a.2.2<12):∃N T,Bfs aZ N.length [] N T/\dG [.lst (aZ.map eA)]=.ok (.l .f,.lst (T.map eA)):=by
 unfold dG nj;rw[aQ (h:=by rfl)];rw[aD (env':=[some (.f,.lst (aZ.map eA)),some (.l .f,.lst [.int 0]),none,none,none]) (by simp only[pv,seval,op])];rw[aD (env':=[some (.f,.lst (aZ.map eA)),some (.l .f,.lst [.int 0]),some (.l .f,.lst []),none,none]) (by simp only[pv,seval,op])];rw[aD (env':=[some (.f,.lst (aZ.map eA)),some (.l .f,.lst [.int 0]),some (.l .f,.lst []),some (.f,.int 0),none]) (by simp only[pv,seval,op])];obtain⟨env',ew,N,T,i,t4,b,hi,rfl⟩:=g8 (c:=(EH (aE GP (au 3) (ao (aR eR (af (au 1) ax)))))) (g:=fI)
  (fun k env=>∃N T i t4,Bfs aZ i [] N T/\i<=N.length/\k=13-i/\env=[some (.f,.lst (aZ.map eA)),some (.l .f,.lst ((N.map (·.1)).map D.int)),some (.l .f,.lst (T.map eA)),some (.f,.int ((i:Nat):Int)),t4]) (fun env=>∃N T i t4,Bfs aZ i [] N T/\i=N.length/\env=[some (.f,.lst (aZ.map eA)),some (.l .f,.lst ((N.map (·.1)).map D.int)),some (.l .f,.lst (T.map eA)),some (.f,.int ((i:Nat):Int)),t4]) (by
  rintro k env ⟨N,T,i,t4,b,hi,rfl,rfl⟩;have Nu:=b.le12;by_cases E5:i<N.length
  ·refine .inr ⟨[some (.f,.lst (aZ.map eA)),some (.l .f,.lst ((N.map (·.1)).map D.int)),some (.l .f,.lst (T.map eA)),some (.f,.int ((i:Nat):Int)),t4],?_,?_⟩
   ·have:(i:Int)<(N.length:Int):=by lia
    simp only[pv,seval,op,dO,this,Pa]
   ·obtain⟨c,hc⟩:∃c,N[i]?=some c:=⟨N[i],yF E5⟩
    obtain⟨env',ef,N',T',t4',b',GI,rfl⟩:=for_list (a:=aH 4) (g:=dR) (e:=eA) aZ (fun j env=>∃N T t4,Bfs aZ i (aZ.take j) N T/\N[i]?=some c/\env=[some (.f,.lst (aZ.map eA)),some (.l .f,.lst ((N.map (·.1)).map D.int)),some (.l .f,.lst (T.map eA)),some (.f,.int ((i:Nat):Int)),t4]) (by
     rintro j a env hj ⟨N,T,t4,b,hc,rfl⟩;have N9:=O2 hj;obtain⟨N',T',b',GI,e⟩:=tZ aZ i _ N T b c hc a N9 (hb a N9);have ht:aZ.take (j+1)=aZ.take j++[a]:=by rw[Rl,hj];rfl
     exact⟨_,rfl,_,e,N',T',some (.f,eA a),by rw[ht];exact b',GI,rfl⟩) _ ⟨N,T,t4,by rw[R8];exact b,hc,rfl⟩
    rw[QU]at b';have hlt':=(p4 GI).1;refine⟨_,13-(i+1),?_,by lia,N',T',i+1,t4',b'.next GI,by lia,rfl,rfl⟩;unfold fI;rw[aD (env':=_) (by
     unfold jX;simp only[pv,seval,op];exact ef)]
    unfold iP;simp only[pv,seval,op,Int.natCast_add,Int.cast_ofNat_Int]
  ·refine .inl ⟨_,?_,N,T,i,t4,b,by lia,rfl⟩;have:¬ (i:Int)<(N.length:Int):=by lia
   simp only[pv,seval,op,dO,this,Pf]) 100000 13 _ (by decide) ⟨[(0,[])],[],0,none,Bfs.start aZ,Pd _,rfl,rfl⟩
 subst hi;rw[aD (env':=_) (by
  unfold jY;exact ew)]
 unfold iQ;exact⟨N,T,b,by simp only[pv,seval,op]⟩
structure Least(aZ:List En)(met:List Int):Prop where
 nd:met.Nodup
 zero:0∈met
 closed:∀a∈aZ,a.1∈met->a.2.2∈met
 least:∀P:Int->Prop,P 0->(∀a∈aZ,P a.1->P a.2.2)->∀x∈met,P x
theorem Bfs.least{aZ:List En}{N:List Nd}{T:List En}(b:Bfs aZ N.length [] N T):Least aZ (N.map (·.1)):=by
 refine⟨b.nd,Py.mpr ⟨(0,[]),O2 b.z,rfl⟩,fun a ha h=>?_,fun S h0 hc x hx=>?_⟩
 ·obtain⟨n,hn,e⟩:=tY h;obtain⟨j,hj⟩:=PH.mp hn;obtain⟨m,hm,em,_⟩:=b.clo j (p4 hj).1 n hj a ha e.symm;exact Py.mpr ⟨m,hm,em⟩
 ·obtain⟨n,hn,rfl⟩:=tY hx;obtain⟨j,hj⟩:=PH.mp hn;clear hx hn;induction j using Nat.strongRecOn generalizing n with
  |_ j ih=>
   cases j with
   |zero=>
    rw[b.z]at hj;cases hj;exact h0
   |succ j=>
    have E5:=(p4 hj).1;have hl:=b.len;obtain⟨ha,k,m,hk,hm,e,Lq⟩:=b.tr j T[j] (yF (by lia));rw[hj]at Lq;cases Lq;exact hc _ ha (by rw[e];exact ih k (by lia) m hm)
theorem Bk(aZ:List En)(hr:∀a∈aZ,0<=a.2.2/\a.2.2<12)(hl:aZ.length<=1000):∃(met:List Int) (T:List En),Least aZ met/\met.length=T.length+1/\T.length<=12/\dG [.lst (aZ.map eA)]=.ok (.l .f,.lst (T.map eA)):=by
 obtain⟨N,T,b,e⟩:=t8 aZ hl hr;have Nu:=b.le12;have hlen:=b.len;exact⟨N.map (·.1),T,b.least,by rw[dO];exact b.len,by lia,e⟩
theorem fV:∀(l:List Int) (b:Int),b<=l.foldl max b/\(∀x∈l,x<=l.foldl max b)/\(l.foldl max b=b\/l.foldl max b∈l)
 |[],b=>⟨Td _,fun _ h=>(nomatch h),.inl rfl⟩
 |a::l,b=>by
  obtain⟨h1,h2,h3⟩:=fV l (max b a);rw[QA];refine⟨by lia,fun x hx=>?_,?_⟩
  ·rcases Oz.mp hx with rfl|hx
   ·lia
   ·exact h2 x hx
  ·rcases h3 with h3|h3
   ·rw[h3];by_cases h:b<=a
    ·exact .inr (by rw[Int.max_eq_right h];exact Ol)
    ·exact .inl (Int.max_eq_left (by lia))
   ·exact .inr (Ot _ h3)
theorem vY{ns:List Int}{x:Int}(h:x∈ns):x<=qq ns:=(fV ns _).2.1 x h
theorem vZ{ns:List Int}(h:ns≠[]):qq ns∈ns:=by
 cases ns with
 |nil=>exact absurd rfl h
 |cons a l=>
  rcases(fV (a::l) a).2.2 with e|e
  ·show List.foldl max a (a::l)∈a::l;rw[e];exact Ol
  ·exact e
theorem yG{ns:List Int}{d x:Int}(h:x∈ns):x<=NX.maxD ns d:=by
 unfold NX.maxD;rw[OB (List.ne_nil_of_mem h)];exact vY h
theorem t9(ns:List Int)(d:Int):(ns=[]/\NX.maxD ns d=d)\/NX.maxD ns d∈ns:=by
 unfold NX.maxD;by_cases h:ns=[]
 ·exact .inl ⟨h,Ow h⟩
 ·rw[OB h];exact .inr (vZ h)
theorem oQ(a:En):a.1<=pZ a/\a.2.2<=pZ a/\(pZ a=a.1\/pZ a=a.2.2):=by
 unfold pZ;split
 ·exact⟨by lia,by lia,.inr rfl⟩
 ·exact⟨by lia,by lia,.inl rfl⟩
theorem ua{aZ:List En}{a:En}(h:a∈aZ):a.1<bQ aZ/\a.2.2<bQ aZ:=by
 have h1:=yG (d:=0) (Py.mpr ⟨a,h,rfl⟩:pZ a∈aZ.map pZ);obtain⟨h2,h3,_⟩:=oQ a;unfold bQ;lia
theorem p5:∀(n:Nat) {l:List Int},l.Nodup->(∀i:Nat,i<n->(i:Int)∈l)->n<=l.length
 | 0,_,_,_=>Pd _
 |n+1,l,nd,h=>by
  have hm:=h n (O8 n);have h1:=p5 n (l:=l.erase (n:Int)) (nd.erase _) fun i hi=>nd.mem_erase_iff.mpr ⟨by lia,h i (by lia)⟩
  rw[Rt hm]at h1;have:=RJ hm;lia
structure Laid(nY:Ew)(aZ:List En):Prop where
 nl:nY.length<=5
 nr:fT Fv nY=true
 nn:∀m∈nY,bS m=true
 al:aZ.length<=60
 ar:fT eV aZ=true
 av:∀a∈aZ,0<=a.1/\a.1<12/\a.2.1∈nY/\0<=a.2.2/\a.2.2<12
 low:∀t:Int,0<t->t<bQ aZ->∃a∈aZ,a.2.2=t/\a.1<t
theorem qS{aZ:List En}(h:∀a∈aZ,0<=a.1/\0<=a.2.2):1<=bQ aZ:=by
 unfold bQ;rcases t9 (aZ.map pZ) 0 with⟨_,e⟩|e
 ·lia
 ·obtain⟨a,ha,e2⟩:=tY e;have:=h a ha;obtain⟨h1,h2,_⟩:=oQ a;lia
theorem cU{m:List Nat}(h:bS m=true):m.length<=8/\1<=m.length/\m≠aC:=by
 unfold bS at h;simp only[OG,Bool.not_eq_true',OE,O1]at h;exact⟨h.1.2.2,h.1.2.1,h.1.1⟩
theorem cT(as:List En):flatDs (as.map eA)=true:=by
 rw[eB,PJ,OM];exact fun p _=>rfl
theorem qT{nY:Ew}{aZ:List En}(L:Laid nY aZ):dr [.tup (nY.map D.str),.lst (aZ.map eA)]=.ok (.f,.bl true):=by
 have hm:jm nY=true:=by
  unfold jm;rw[L.nr];have h5:((nY.length:Int)<=5):=by have:=L.nl;lia
  simp only[h5,Pa,O7,PJ,OM];intro m hm;exact L.nn m hm
 have ha:l8 aZ nY=true:=by
  unfold l8;rw[L.ar];have h5:¬ (60<(aZ.length:Int)):=by have:=L.al;lia
  simp only[h5,Pf,Pj,O7,PJ,OM];intro a ha;obtain⟨h1,h2,h3,h4,h5⟩:=L.av a ha;show qQ nY a=true;unfold qQ iA;simp[h1,h2,h3,h4,h5]
 have hl:aZ.length<=16777216:=by have:=L.al;lia
 have MR:nY.length<=16777216:=by have:=L.nl;lia
 obtain⟨met,T,Le,hT,hT2,e⟩:=Bk aZ (fun a ha=>⟨(L.av a ha).2.2.2.1,(L.av a ha).2.2.2.2⟩) (by have:=L.al;lia);have pos:=qS fun a ha=>⟨(L.av a ha).1,(L.av a ha).2.2.2.1⟩
 have hlen:((met.length:Nat):Int)=bQ aZ:=by
  have inM:∀(n:Nat) (i:Nat),i<n->(i:Int)<bQ aZ->(i:Int)∈met:=by
   intro n;induction n with
   |zero=>exact fun i hi=>absurd hi (R1 _)
   |succ n ih=>
    intro i hi hs;by_cases h0:i=0
    ·subst h0;exact Le.zero
    ·obtain⟨a,ha,e1,e2⟩:=L.low i (by lia) hs;rw[<-e1];refine Le.closed a ha ?_;have h1:=(L.av a ha).1;obtain⟨j,hj⟩:=OR h1;rw[hj];exact ih j (by lia) (by lia)
  have h1:(bQ aZ).toNat<=met.length:=p5 _ Le.nd fun i hi=>inM (i+1) i (O8 _) (by lia)
  have h2:met.length<=(bQ aZ).toNat:=l9 _ Le.nd fun x hx=>by
   have:=Le.least (fun x=>0<=x/\x<bQ aZ) ⟨Td _,by lia⟩ (fun a ha _=>⟨(L.av a ha).2.2.2.1,(ua ha).2⟩) x hx;lia
  lia
 unfold dr kP;rw[aQ (h:=by rfl)];have Hw:=oM nY aZ hl;unfold ES at Hw;have Ml:1+(T.length:Int)=bQ aZ:=by rw[<-hlen,hT];lia
 simp only[pv,seval,op,cT,oO nY MR (fun m hm=>by have:=(cU (L.nn m hm)).1;lia),qR aZ nY hl,hm,ha,OS,fe,e,Hw,dO,Ml,O4]
theorem oR{α:Type}(lt:α->α->Bool)(a b:α)(l:List α):fT lt (a::b::l)=(lt a b&&fT lt (b::l)):=rfl
theorem kc{α:Type}{lt:α->α->Bool}:∀{l:List α},l.Pairwise (fun a b=>lt a b=true)->fT lt l=true
 |[],_=>rfl
 |[_],_=>rfl
 |a::b::l,h=>by
  rw[PM]at h;rw[oR,h.1 b Ol,kc h.2];rfl
theorem cY{α:Type}{lt:α->α->Bool}(o:Ord lt){l:List α}(nd:l.Nodup):(bG lt l).Pairwise (fun a b=>lt a b=true):=by
 have h1:=fC o l;have h2:(bG lt l).Nodup:=(dn lt l).nodup_iff.mpr nd;refine(h1.and h2).imp fun{a b} h=>?_
 cases e:lt a b with
 |true=>rfl
 |false=>exact absurd (o.tot a b e h.1) h.2
theorem kg{α:Type}(lt:α->α->Bool)(l:List α):(bG lt l).length=l.length:=(dn lt l).length_eq
theorem g9{α:Type}(lt:α->α->Bool){l:List α}{a:α}:a∈bG lt l<->a∈l:=(dn lt l).mem_iff
theorem iC:∀l:Ew,cW (l.map D.str)=some l
 |[]=>rfl
 |a::l=>by
  rw[fU,cW,iC l];rfl
theorem oS(l:Ew)(h:l.length<64):cx [.lst (l.map D.str)]=.ok (.l .f,.lst ((bG Fv l).map D.str)):=by
 unfold cx;dsimp only;rw[Ow (by rw[dO];exact h)];unfold lO;cases l with
 |nil=>rfl
 |cons a l=>
  have e:c8 ((a::l).map D.str)=none:=rfl;rw[e,iC]
def cell(ns:List Int)(k:Nat):Int:=ns.getD k 0
theorem dN(ns:List Int)(k:Nat):ay [.lst (ns.map D.int),.int (k:Int)]=.ok (.f,.int (cell ns k)):=by
 unfold ay gr cell;rw[aQ (h:=by rfl)];simp only[pv,seval,op,dO];by_cases h:k<ns.length
 ·have h1:(k:Int)<(ns.length:Int):=by lia
  have h2:Ft (ns.map D.int) (k:Int)=some (.int (ns.getD k 0)):=dw (by rw[List.getElem?_map,List.getD_eq_getElem?_getD,yF h];rfl);simp only[h1,Pa,pv,seval,h2]
 ·have h1:¬ (k:Int)<(ns.length:Int):=by lia
  simp only[h1,Pf,pv,seval,fe,List.getD_eq_getElem?_getD,List.getElem?_eq_none (Nat.le_of_not_lt h),Rz]
def FL:List Nat:=[97,98,99,100,101,102,103,104,105,106,107,108,109,110,111,112,113,114,115,116,117,118,119,120,121,122]
theorem wZ(j:Nat)(h:j<26):FL[j]?=some (97+j):=by
 have:∀j:Fin 26,FL[j.1]?=some (97+j.1):=by decide
 exact this ⟨j,h⟩
theorem w4(j:Int)(h0:0<=j)(h:j<26):Ft FL j=some (97+j.toNat):=by
 obtain⟨n,rfl⟩:=OR h0;exact dw (wZ n (by lia))
theorem w5(j:Int)(h0:0<=j)(h:j<26):dJ (97+j.toNat)=true:=by
 unfold dJ;have h1:97<=97+j.toNat:=by lia
 have h2:97+j.toNat<=122:=by lia
 simp only[h1,h2,Pa,Q3]
theorem yH(x:Int):0<=x%26/\x%26<26:=⟨PL _ (by decide),Pl _ (by decide)⟩
theorem CQ:uM (.int 10) (.int 20)=.ok (.f,.int (10 ^ 20)):=by rw[wY,Ow (by decide),show(20:Int).toNat=20 from rfl]
theorem yI:uM (.int 10) (.int 12)=.ok (.f,.int (10 ^ 12)):=by rw[wY,Ow (by decide)];rfl
theorem nN(k:Nat)(h:k<=1000):dE (k:Int)=true:=by
 unfold dE;rw[OE];lia
theorem ub(num:Int)(k:Nat)(hk:k<8)(b:List Nat)(hb:b.length=k)(hl:b.all dJ=true)(a0 a1 a2 t6:Option R):
  ∃c,dJ c=true/\(cn 5 (aE addD (au 5) (ao (aE EG (au 3) (ao (aE fg (ao (aE addD (ao (aE gU (au 4) (ao (aE addD (au 6) (ao (aB (.int 1))))))) (ao (aE uO (ao (aE uO (ao (aB (.int 3))) (au 6))) (au 6))))) (ao (aB (.int 26)))))))))
   [a0,a1,a2,some (.f,.str FL),some (.f,.int num),some (.f,.str b),some (.f,.int (k:Int)),none,none,none,none]=.ok (.nx [a0,a1,a2,some (.f,.str FL),some (.f,.int num),some (.f,.str (b++[c])),some (.f,.int (k:Int)),none,none,none,none]):=by
 obtain⟨h1,h2⟩:=yH (num / ((k:Int)+1)+3*(k:Int)*(k:Int));refine⟨_,w5 _ h1 h2,?_⟩;have hs:(dE 3||dE (k:Int))=true:=by rw[nN k (by lia),SI]
 have IF:(dE (3*(k:Int))||dE (k:Int))=true:=by rw[nN k (by lia),SI]
 have hd:0<(k:Int)+1/\(k:Int)+1<1073741824:=by lia
 have hz:b.length+1<=sizeLine:=line_le (by lia);simp only[pv,seval,op,pX,tU,tR,wX,hs,IF,hd,Int.reduceLT,and_self,w4 _ h1 h2,hz]
def fix(t:List Nat):List Nat:=if t==aC then[109,111,118,101,115,97] else t
theorem w6(t:List Nat):Ft [D.str t,D.str [109,111,118,101,115,97]] (if t==[109,111,118,101,115] then 1 else 0)=some (.str (fix t)):=by
 unfold fix aC;cases t==[109,111,118,101,115] with
 |true=>exact Nt _ _ _
 |false=>exact Nr _ _
theorem p6{t:List Nat}(h1:1<=t.length)(h2:t.length<=8)(h3:t.all dJ=true):bS (fix t)=true:=by
 unfold fix;cases e:t==aC with
 |true=>rfl
 |false=>
  rw[OB Oy];unfold bS;rw[e,h3];simp only[h1,h2,Pa];rfl
theorem ma{α:Type}(l:List α)(k:Nat):ig l none (some (k:Int))=l.take k:=by
 unfold ig;rw[HT.kZ,HT.nV,R7,Nat.sub_zero];by_cases h:k<=l.length
 ·rw[Rc h]
 ·rw[Nat.min_eq_right (by lia),Pm (Ou _),Pm (by lia)]
theorem jo{α:Type}(l:List α)(k:Nat):ig l (some (k:Int)) none=l.drop k:=by
 unfold ig;rw[HT.kZ,HT.nV];by_cases h:k<=l.length
 ·rw[Rc h,Pm (by rw[Px];exact Ou _)]
 ·rw[Nat.min_eq_right (by lia),RK (Ou _),RK (by lia),Ss]
theorem Bl(c:Nat)(h:dJ c=true):om FL [.str [c]]=.ok (.f,.int ((c-97:Nat):Int)):=by
 unfold dJ at h;rw[OG,OE,OE]at h;obtain⟨j,rfl⟩:∃j,c=97+j:=⟨c-97,by lia⟩
 have key:∀j:_root_.Fin 26,Builtin.Str.occurrences (S FL) (S [97+j.1]) 0 (S FL).length 1=[j.1]:=by
  intro j;rw[PySem.StrLaws.occ_eq];revert j;decide
 unfold om;dsimp only;rw[key ⟨j,by lia⟩,Nat.add_sub_cancel_left]
theorem yJ{s t:List Nat}(h:s.length=t.length)(e:fix s=fix t):s=t:=by
 unfold fix at e;cases h1:s==aC with
 |true=>
  cases h2:t==aC with
  |true=>rw[O6.mp h1,O6.mp h2]
  |false=>
   rw[h1,h2,Ow rfl,OB Oy]at e;rw[<-e,O6.mp h1]at h;cases h
 |false=>
  cases h2:t==aC with
  |true=>
   rw[h1,h2,Ow rfl,OB Oy]at e;rw[e,O6.mp h2]at h;cases h
  |false=>
   rw[h1,h2,OB Oy,OB Oy]at e;exact e
theorem uc{t:List Nat}(h:t.length<=5):(fix t).length=if t=aC then 6 else t.length:=by
 unfold fix;by_cases e:t=aC
 ·rw[Ow e,e];rfl
 ·rw[OB e,OB (by simpa using e)]
theorem fW{α:Type}(f:Nat->α)(n:Nat)(h:∀i j,i<n->j<n->f i=f j->i=j):((List.range n).map f).Nodup:=by
 rw[List.nodup_iff_pairwise_ne,Rp];refine List.pairwise_lt_range.imp_of_mem fun{a b} ha hb hl e=>?_
 have:=h a b (Pn.mp ha) (Pn.mp hb) e;lia
structure Names(n:Nat)(l:Ew):Prop where
 len:l.length=n
 nd:l.Nodup
 ok:∀m∈l,bS m=true
theorem ud(b:List Nat)(n:Nat)(hn:n<=5)(hb:n<=b.length)(h8:b.length<=8)(hl:b.all dJ=true):Names n ((List.range n).map fun k=>fix (b.take (k+1))):=by
 refine⟨by rw[dO,OJ],fW _ n fun i j hi hj e=>?_,fun m hm=>?_⟩
 ·have e2:=PF List.length e;have l1:(b.take (i+1)).length=i+1:=by rw[O3];lia
  have l2:(b.take (j+1)).length=j+1:=by rw[O3];lia
  rw[uc (by lia),uc (by lia)]at e2;by_cases h1:b.take (i+1)=aC
  ·have h5:(b.take (i+1)).length=5:=by rw[h1];rfl
   by_cases h2:b.take (j+1)=aC
   ·have h6:(b.take (j+1)).length=5:=by rw[h2];rfl
    lia
   ·rw[Ow h1,OB h2]at e2;lia
  ·by_cases h2:b.take (j+1)=aC
   ·rw[OB h1,Ow h2]at e2;lia
   ·rw[OB h1,OB h2]at e2;lia
 ·obtain⟨k,hk,rfl⟩:=tY hm;have hk:=Pn.mp hk;refine p6 ?_ ?_ ?_
  ·rw[O3];lia
  ·rw[O3];lia
  ·rw[OM]at hl ⊢;exact fun c hc=>hl c (R6 hc)
def swap(b:List Nat)(t j:Nat)(k:Nat):List Nat:=b.take t++[97+(((j:Int)+(k:Int))%26).toNat]++b.drop (t+1)
theorem hJ(b:List Nat)(t j k:Nat)(ht:t<b.length):(swap b t j k).length=b.length:=by
 unfold swap;rw[dM,dM,O3,Px,OC,Q9];lia
theorem qU(b:List Nat)(t j:Nat)(ht:t<b.length)(n:Nat)(hn:n<=5)(h8:b.length<=8)(hl:b.all dJ=true):Names n ((List.range n).map fun k=>fix (swap b t j k)):=by
 refine⟨by rw[dO,OJ],fW _ n fun i k hi hk e=>?_,fun m hm=>?_⟩
 ·have e2:=yJ (by rw[hJ _ _ _ _ ht,hJ _ _ _ _ ht]) e;unfold swap at e2;rw[OD,OD]at e2;have e3:=List.append_cancel_left e2;rw[P9,P9]at e3;injection e3 with e4 _;lia
 ·obtain⟨k,hk,rfl⟩:=tY hm;refine p6 ?_ ?_ ?_
  ·rw[hJ _ _ _ _ ht];lia
  ·rw[hJ _ _ _ _ ht];lia
  ·obtain⟨m1,m2⟩:=yH ((j:Int)+(k:Int));rw[OM]at hl ⊢;intro c hc;unfold swap at hc;rw[OK,OK]at hc;rcases hc with(hc|hc)|hc
   ·exact hl c (R6 hc)
   ·rw[Pb]at hc;subst hc;exact w5 _ m1 m2
   ·exact hl c (List.mem_of_mem_drop hc)
theorem kX(x b:Int)(h:0<b):fg (.int x) (.int b)=.ok (.f,.int (x%b)):=by rw[wX,Ow h]
theorem ue(x b:Int)(h:0<b)(h2:b<=1000):gU (.int x) (.int b)=.ok (.f,.int (x / b)):=by rw[tR,Ow (by lia)]
theorem uf(b:List Nat)(t j k:Nat)(ht:t<b.length)(h8:b.length<=8)(hk:k<5)(a0 a1 a2 a4 Lh:Option R)(l:Ew)(hl:l.length<=100):
  (sSeq (cn 10 (aE addD (ao (aE addD (ao (i9 (au 5) de (cV (a8 7)))) (ao (aE EG (au 3) (ao (aE fg (ao (aE addD (au 8) (au 6))) (ao (aB (.int 26))))))))) (ao (i9 (au 5) (cV (aE addD (au 7) (ao (aB (.int 1))))) de))))
  (gy (uN 9 (aE EG (ao (ie (aA (a8 10) (aA (aB (.str [109,111,118,101,115,97])) bK)))) (ao (aR vI (af (ao (bU FW (au 10) (ao (aB (.str [109,111,118,101,115]))))) ax)))))))
   [a0,a1,a2,some (.f,.str FL),a4,some (.f,.str b),some (.f,.int (k:Int)),some (.f,.int (t:Int)),some (.f,.int (j:Int)),some (.l .f,.lst (l.map D.str)),Lh]
  = .ok (.nx [a0,a1,a2,some (.f,.str FL),a4,some (.f,.str b),some (.f,.int (k:Int)),some (.f,.int (t:Int)),some (.f,.int (j:Int)),some (.l .f,.lst ((l++[fix (swap b t j k)]).map D.str)),some (.f,.str (swap b t j k))]):=by
 obtain⟨m1,m2⟩:=yH ((j:Int)+(k:Int));have hsl:=hJ b t j k ht;have z1:(b.take t).length+1<=sizeLine:=line_le (by rw[O3];lia);have z2:(b.take t++[97+(((j:Int)+(k:Int))%26).toNat]).length+(b.drop (t+1)).length<=sizeLine:=line_le (by rw[<-dM];show(swap b t j k).length<=_;lia);have z3:(l.map D.str).length<sizeLine:=OF (O8 _) (line_le (by rw[dO];lia));have c1:ig b (some ((t:Int)+1)) none=b.drop (t+1):=jo b (t+1);have hs:b.take t++[97+(((j:Int)+(k:Int))%26).toNat]++b.drop (t+1)=swap b t j k:=rfl;simp only[pv,seval,op,pX,kX _ 26 (by decide),ma,c1,w4 _ m1 m2,z1,z2,hs,w6,z3,OT]
theorem yK(Hu GL cnt num:Int)(b:List Nat)(t6:Option R)(Mm:1<=b.length)(h8:b.length<=8)(Jt:b.all dJ=true)(h1:0<=cnt)(h5:cnt<=5):∃l,Names cnt.toNat l/\(sSeq (cn 7 (aE fg (au 1) (ao (aR eR (af (au 5) ax)))))
  (sSeq (cn 8 (wR om (au 3) (af (ao (aE EG (au 5) (au 7))) ax)))
  (sSeq (cn 9 (ie bK))
  (sSeq (mm (eN (au 2)) (aH 6)
  (sSeq (cn 10 (aE addD (ao (aE addD (ao (i9 (au 5) de (cV (a8 7)))) (ao (aE EG (au 3) (ao (aE fg (ao (aE addD (au 8) (au 6))) (ao (aB (.int 26))))))))) (ao (i9 (au 5) (cV (aE addD (au 7) (ao (aB (.int 1))))) de))))
  (gy (uN 9 (aE EG (ao (ie (aA (a8 10) (aA (aB (.str [109,111,118,101,115,97])) bK)))) (ao (aR vI (af (ao (bU FW (au 10) (ao (aB (.str [109,111,118,101,115]))))) ax))))))))
  (dm (aR cx (af (au 9) ax)))))))
   [some (.f,.int Hu),some (.f,.int GL),some (.f,.int cnt),some (.f,.str FL),some (.f,.int num),some (.f,.str b),t6,none,none,none,none]=.ok (.rt (.l .f,.lst ((bG Fv l).map D.str))):=by
 have hm:0<=GL%(b.length:Int)/\GL%(b.length:Int)<(b.length:Int):=⟨PL _ (by lia),Pl _ (by lia)⟩
 obtain⟨t,et⟩:=OR hm.1;have ht:t<b.length:=by lia
 have ea:Ft b (t:Int)=some b[t]:=dw (yF ht);have hc:dJ b[t]=true:=OM.mp Jt _ (PN ht);refine⟨_,qU b t (b[t]-97) ht cnt.toNat (by lia) h8 Jt,?_⟩;simp only[pv,seval,op,kX GL (b.length:Int) (by lia),et,ea,Bl _ hc];rw[Ow (by lia)];simp only[pv,seval,op];obtain⟨env',ef,t6',Lh,rfl⟩:=iz (a:=aH 6) (fun i env=>∃t6 Lh,env=[some (.f,.int Hu),some (.f,.int GL),some (.f,.int cnt),some (.f,.str FL),some (.f,.int num),some (.f,.str b),t6,some (.f,.int (t:Int)),some (.f,.int ((b[t]-97:Nat):Int)),some (.l .f,.lst (((List.range i).map fun k=>fix (swap b t (b[t]-97) k)).map D.str)),Lh]) ((List.range cnt.toNat).map fun(k:Nat)=>D.int (k:Int)) (by
  rintro i d env hi ⟨t6,Lh,rfl⟩;rw[List.getElem?_map,ON]at hi;obtain⟨k,hk,rfl⟩:=hi;obtain⟨IM,HL⟩:=p4 hk;rw[OJ]at IM;rw[Qo]at HL;subst HL;refine⟨_,rfl,_,.inl (uf b t (b[t]-97) i ht h8 (by lia) _ _ _ _ _ _ (by rw[dO,OJ];lia)),some (.f,.int (i:Int)),some (.f,.str (swap b t (b[t]-97) i)),?_⟩;rw[List.range_succ,OT (l₁:=List.range i),fU,PZ]) _ ⟨t6,none,rfl⟩
 rw[List.range_zero,PZ,PZ]at ef;rw[ef,dO,OJ];simp only[pv,seval,op,oS _ (show((List.range cnt.toNat).map fun k=>fix (swap b t (b[t]-97) k)).length<64 by rw[dO,OJ];lia)]
theorem yL(Hu GL cnt:Int)(h1:0<=cnt)(h5:cnt<=5):∃l,Names cnt.toNat l/\cB [.int Hu,.int GL,.int cnt]=.ok (.l .f,.lst ((bG Fv l).map D.str)):=by
 unfold cB iV;rw[aQ (h:=by rfl)];have nb:=fun num b t6 Mm h8 Jt=>yK Hu GL cnt num b t6 Mm h8 Jt h1 h5
 generalize (sSeq (cn 7 (aE fg (au 1) (ao (aR eR (af (au 5) ax)))))
  (sSeq (cn 8 (wR om (au 3) (af (ao (aE EG (au 5) (au 7))) ax)))
  (sSeq (cn 9 (ie bK))
  (sSeq (mm (eN (au 2)) (aH 6)
  (sSeq (cn 10 (aE addD (ao (aE addD (ao (i9 (au 5) de (cV (a8 7)))) (ao (aE EG (au 3) (ao (aE fg (ao (aE addD (au 8) (au 6))) (ao (aB (.int 26))))))))) (ao (i9 (au 5) (cV (aE addD (au 7) (ao (aB (.int 1))))) de))))
  (gy (uN 9 (aE EG (ao (ie (aA (a8 10) (aA (aB (.str [109,111,118,101,115,97])) bK)))) (ao (aR vI (af (ao (bU FW (au 10) (ao (aB (.str [109,111,118,101,115]))))) ax))))))))
  (dm (aR cx (af (au 9) ax)))))))=TT at nb ⊢
 simp only[pv,↓reduceIte,Nat.reduceAdd,Nat.reduceLT,Nat.reduceLeDiff,Nat.reduceEqDiff,op,CQ,kX Hu (10 ^ 20) (by decide)];generalize Hu%10 ^ 20=num;have hm8:0<=num%8/\num%8<8:=⟨PL _ (by decide),Pl _ (by decide)⟩
 rw[show([97,98,99,100,101,102,103,104,105,106,107,108,109,110,111,112,113,114,115,116,117,118,119,120,121,122]:List Nat)=FL from rfl];simp only[kX num 8 (by decide),pv,↓reduceIte,Nat.reduceAdd,Nat.reduceLT,Nat.reduceLeDiff,Nat.reduceEqDiff,op];rw[Ow (by lia)];simp only[pv,↓reduceIte,Nat.reduceAdd,Nat.reduceLT,Nat.reduceLeDiff,Nat.reduceEqDiff,op];obtain⟨env',ef,b,t6,hbl,Jt,rfl⟩:=iz (a:=aH 6) (fun i env=>∃b t6,b.length=i/\b.all dJ=true/\env=[some (.f,.int Hu),some (.f,.int GL),some (.f,.int cnt),some (.f,.str FL),some (.f,.int num),some (.f,.str b),t6,none,none,none,none]) ((List.range (1+num%8).toNat).map fun(k:Nat)=>D.int (k:Int)) (by
  rintro i d env hi ⟨b,t6,hb,Jt,rfl⟩;rw[List.getElem?_map,ON]at hi;obtain⟨k,hk,rfl⟩:=hi;obtain⟨IM,HL⟩:=p4 hk;rw[OJ]at IM;rw[Qo]at HL;subst HL;obtain⟨c,hc,ec⟩:=ub num i (by lia) b hb Jt (some (.f,.int Hu)) (some (.f,.int GL)) (some (.f,.int cnt)) t6;exact⟨_,rfl,_,.inl ec,b++[c],_,by rw[dM,hb];rfl,by rw[List.all_append,Jt,Q2,hc];rfl,rfl⟩) _ ⟨[],_,rfl,rfl,rfl⟩
 rw[ef,EU];rw[dO,OJ]at hbl;clear ef;simp only[pv,↓reduceIte,Nat.reduceAdd,Nat.reduceLT,Nat.reduceLeDiff,Nat.reduceEqDiff,op];by_cases h3:num%3=1
 ·by_cases hbc:cnt<=(b.length:Int)
  ·refine⟨_,ud b cnt.toNat (by lia) (by lia) (by lia) Jt,?_⟩;simp only[kX num 3 (by decide),h3,O4,hbc,Pa,pv,↓reduceIte,Nat.reduceAdd,Nat.reduceLT,Nat.reduceLeDiff,Nat.reduceEqDiff,op];rw[Ow (by lia)];simp only[pv,↓reduceIte,Nat.reduceAdd,Nat.reduceLT,Nat.reduceLeDiff,Nat.reduceEqDiff,op];rw[dk (e:=fun k:Nat=>D.int (k:Int)) (r:=fun k=>D.str (fix (b.take (k+1)))) (fun env=>∃t1,env=[t1,some (.f,.str b)]) (List.range cnt.toNat) ?_ _ ⟨_,rfl⟩]
   ·rw[EU,Ow (cq (by rw[OJ];lia)),EU];have e:((List.range cnt.toNat).map fun k=>D.str (fix (b.take (k+1))))=((List.range cnt.toNat).map fun k=>fix (b.take (k+1))).map D.str:=by rw[OU];rfl
    rw[e];simp only[pv,↓reduceIte,Nat.reduceAdd,Nat.reduceLT,Nat.reduceLeDiff,Nat.reduceEqDiff,op,oS _ (show((List.range cnt.toNat).map fun k=>fix (b.take (k+1))).length<64 by rw[dO,OJ];lia)]
   ·rintro k _ env ⟨t1,rfl⟩;have c1:ig b none (some ((k:Int)+1))=b.take (k+1):=ma b (k+1);refine⟨_,rfl,?_⟩;simp only[pv,↓reduceIte,Nat.reduceAdd,Nat.reduceLT,Nat.reduceLeDiff,Nat.reduceEqDiff,op,c1,w6];exact⟨_,_,rfl,_,rfl⟩
  ·obtain⟨l,hl,e⟩:=nb num b t6 (by lia) (by lia) Jt;refine⟨l,hl,?_⟩;simp only[kX num 3 (by decide),h3,O4,hbc,Pf,pv,↓reduceIte,Nat.reduceAdd,Nat.reduceLT,Nat.reduceLeDiff,Nat.reduceEqDiff,op,fe,e]
 ·have h3:(num%3==1)=false:=O1.mpr h3;obtain⟨l,hl,e⟩:=nb num b t6 (by lia) (by lia) Jt;refine⟨l,hl,?_⟩;simp only[kX num 3 (by decide),h3,pv,↓reduceIte,Nat.reduceAdd,Nat.reduceLT,Nat.reduceLeDiff,Nat.reduceEqDiff,op,fe,e]
theorem S_inj{a b:List Nat}(h:S a=S b):a=b:=by
 have:=PF (fun s:Str=>s.cps.toList) h;simpa only[cN] using this
theorem Bm{a b:En}(h:ak a=ak b):a=b:=by
 unfold ak at h;injection h with h1 h2;injection h2 with h2 h3;injection h3 with h3 _;injection h1 with h1;injection h2 with h2;injection h3 with h3;obtain⟨x,y,z⟩:=a;obtain⟨x',y',z'⟩:=b;simp only at h1 h2 h3;rw[h1,S_inj h2,h3]
theorem oT:Ord eV:=⟨fun a=>jL.irr (ak a),fun a b c=>jL.trans (ak a) (ak b) (ak c),fun a b h1 h2=>Bm (jL.tot _ _ h1 h2)⟩
theorem CS(a:En):kT (ak a)=eA a:=by
 unfold kT ak eA;simp only[fU,PZ,kD,cN]
theorem ug{α β:Type}(f:α->β)(lt:β->β->Bool)(x:α):∀l:List α,ins lt (f x) (l.map f)=(ins (fun a b=>lt (f a) (f b)) x l).map f
 |[]=>rfl
 |y::ys=>by
  rw[fU,ins,ins];cases lt (f y) (f x) with
  |true=>rw[Ow rfl,Ow rfl,ug f lt x ys,fU]
  |false=>rw[OB Oy,OB Oy,fU,fU]
theorem kh{α β:Type}(f:α->β)(lt:β->β->Bool):∀l:List α,bG lt (l.map f)=(bG (fun a b=>lt (f a) (f b)) l).map f
 |[]=>rfl
 |x::l=>by
  show ins lt (f x) (bG lt (l.map f))=_;rw[kh f lt l,ug];rfl
theorem me(as:List En):as.map eA=(as.map ak).map kT:=by
 rw[OU];exact PD fun a _=>(CS a).symm
theorem yM(as:List En)(vs:List D)(h:as.length<64):cx [.dct true (as.map eA) vs]=.ok (.l .f,.lst ((bG eV as).map eA)):=by
 unfold cx;dsimp only;rw[Ow (by rw[dO];exact h)];cases as with
 |nil=>rfl
 |cons a as=>
  have e1:gZ ((a::as).map eA)=some ((a::as).map ak):=by rw[me,gf]
  have e2:sameKinds (ak a) (as.map ak)=true:=by
   unfold sameKinds;rw[PJ,OG,OM];exact⟨rfl,fun b _=>rfl⟩
  rw[e1,fU,fU];dsimp only;rw[Ow e2,<-fU,kh ak cZ,me];rfl
theorem yN(a b:En):Ej (eA a) (eA b)=decide (a=b):=by
 obtain⟨x,y,z⟩:=a;obtain⟨x',y',z'⟩:=b;unfold eA;simp only[Ej,gD];rw[OQ];simp
def uh(as:List En)(a:En):List En:=if a∈as then as else as++[a]
theorem uk(as:List En)(vs:List D)(a:En)(v:D):∃Ht,qE (as.map eA) vs (eA a) v=((uh as a).map eA,Ht):=by
 have e:(as.map eA).any (Ej (eA a))=decide (a∈as):=by
  rw[R0,OQ,Qu,OE];constructor
  ·rintro⟨b,hb,h⟩;have h:Ej (eA a) (eA b)=true:=h;rw[yN,OE]at h;rw[h];exact hb
  ·intro h;refine⟨a,h,?_⟩;show Ej (eA a) (eA a)=true;rw[yN,OE]
 unfold qE uh;rw[e];by_cases h:a∈as
 ·rw[Ow h,Ow (OP h)];exact⟨_,rfl⟩
 ·rw[OB h,OB (by simpa using h),OT];exact⟨_,rfl⟩
theorem jq{as:List En}{a b:En}:b∈uh as a<->b∈as\/b=a:=by
 unfold uh;split
 ·rename_i h;exact⟨.inl,fun g=>g.elim id fun e=>e▸h⟩
 ·rw[OK,Pb]
theorem p7(as:List En)(a:En):(uh as a).length<=as.length+1:=by
 unfold uh;split
 ·lia
 ·rw[dM];exact Ou _
structure Arcs(cnt:Int)(nY:Ew)(as:List En):Prop where
 nd:as.Nodup
 v:∀a∈as,0<=a.1/\a.1<cnt/\a.2.1∈nY/\0<=a.2.2/\a.2.2<cnt
theorem Arcs.add{cnt:Int}{nY:Ew}{as:List En}(h:Arcs cnt nY as){a:En}(ha:0<=a.1/\a.1<cnt/\a.2.1∈nY/\0<=a.2.2/\a.2.2<cnt):Arcs cnt nY (uh as a):=by
 refine⟨?_,fun b hb=>?_⟩
 ·unfold uh;split
  ·exact h.nd
  ·rename_i hn;rw[OV];refine⟨h.nd,O5.mpr ⟨PQ,P0⟩,fun x hx y hy=>?_⟩;rw[Pb]at hy;rintro rfl;exact hn (hy▸hx)
 ·rcases Iff.mp jq hb with hb|rfl
  ·exact h.v b hb
  ·exact ha
theorem um(nY:Ew)(h0:nY≠[])(x:Int):∃m∈nY,EG (.lst (nY.map D.str)) (.int (x%(nY.length:Int)))=.ok (.f,.str m):=by
 have hp:=Pr.mpr h0;have h1:0<=x%(nY.length:Int):=PL _ (by lia);have h2:x%(nY.length:Int)<(nY.length:Int):=Pl _ (by lia);obtain⟨j,ej⟩:=OR h1;have hj:j<nY.length:=by lia
 refine⟨nY[j],PN hj,?_⟩;have e:Ft (nY.map D.str) (j:Int)=some (.str nY[j]):=dw (by rw[List.getElem?_map,yF hj];rfl);rw[ej,AV,e]
theorem Bn(x z:Int)(m:List Nat):i8 true (.tup [.int x,.str m,.int z])=true:=rfl
theorem CT(ns:List Int)(nY:Ew)(h0:nY≠[])(cnt:Int)(k:Nat)(as:List En)(hl:as.length<=100)(vs:List D)(t5 t6 t7:Option R):
  ∃(nm:List Nat) (x:Int) (Ht:List D) (Mn:Option R),nm∈nY/\0<=x/\x<1+(k:Int)/\
  (sSeq (cn 5 (aE fg (ao (cK ay (af (au 0) (af (ao (aE addD (ao (aB (.int 2))) (au 4))) ax)))) (ao (aE uM (ao (aB (.int 10))) (ao (aB (.int 12)))))))
  (yi 3 (sN (aA (aE fg (au 5) (au 4)) (aA (aE EG (au 1) (ao (aE fg (ao (aE gU (au 5) (ao (aB (.int 12))))) (ao (aR eR (af (au 1) ax)))))) (aA (a8 4) bK)))) (aB (.bl true))))
  [some (.f,.lst (ns.map D.int)),some (.f,.lst (nY.map D.str)),some (.f,.int cnt),some (.d,.dct true (as.map eA) vs),some (.f,.int (1+(k:Int))),t5,t6,t7]
  = .ok (.nx [some (.f,.lst (ns.map D.int)),some (.f,.lst (nY.map D.str)),some (.f,.int cnt),some (.d,.dct true ((uh as (x,nm,1+(k:Int))).map eA) Ht),some (.f,.int (1+(k:Int))),Mn,t6,t7]):=by
 have e3:(2+(1+(k:Int)))=((3+k:Nat):Int):=by lia
 have hc:=dN ns (3+k);have hp:=Pr.mpr h0;obtain⟨m,hm,em⟩:=um nY h0 (cell ns (3+k)%10 ^ 12 / 12);obtain⟨Ht,ep⟩:=uk as vs (cell ns (3+k)%10 ^ 12%(1+(k:Int)),m,1+(k:Int)) (.bl true);refine⟨m,cell ns (3+k)%10 ^ 12%(1+(k:Int)),Ht,some (.f,.int (cell ns (3+k)%10 ^ 12)),hm,PL _ (by lia),Pl _ (by lia),?_⟩;have d1:=kX (cell ns (3+k)) (10 ^ 12) (by decide);have d2:=kX (cell ns (3+k)%10 ^ 12) (1+(k:Int)) (by lia);have d3:=ue (cell ns (3+k)%10 ^ 12) 12 (by decide) (by decide);have d4:=kX (cell ns (3+k)%10 ^ 12 / 12) (nY.length:Int) (by lia);have hz:as.length<sizeLine:=OF (O8 _) (line_le (by lia));unfold eA at ep;dsimp only at ep;have ee:(fun a:En=>D.tup [D.int a.1,D.str a.2.1,D.int a.2.2])=eA:=rfl;rw[ee]at ep;generalize cell ns (3+k)%10 ^ 12=num at *;simp only[pv,↓reduceIte,Nat.reduceAdd,Nat.reduceLT,Nat.reduceLeDiff,Nat.reduceEqDiff,op,e3,hc,yI,d1,d2,d3,d4,em,dO,Bn,ep];rw[Ow (by rw[O7];exact OP hz)]
theorem CU(nY:Ew)(h0:nY≠[])(cnt c:Int)(h1:1<=cnt)(Nu:cnt<=12)(as:List En)(hl:as.length<=100)(vs:List D)(a0 t4 t5 t7:Option R):
  ∃(a:En) (Ht:List D) (Mn Oa:Option R),(0<=a.1/\a.1<cnt/\a.2.1∈nY/\0<=a.2.2/\a.2.2<cnt)/\
  (sSeq (cn 5 (aE fg (au 6) (ao (aE uM (ao (aB (.int 10))) (ao (aB (.int 12)))))))
  (sSeq (cn 7 (sN (aA (aE fg (au 5) (au 2)) (aA (aE EG (au 1) (ao (aE fg (ao (aE gU (au 5) (ao (aB (.int 12))))) (ao (aR eR (af (au 1) ax)))))) (aA (aE fg (ao (aE gU (au 5) (ao (aB (.int 60))))) (au 2)) bK)))))
  (E7 (EH (aE GP (ao (aR eR (af (au 3) ax))) (ao (aB (.int 60)))))
  (yi 3 (a8 7) (aB (.bl true)))
  bX)))
  [a0,some (.f,.lst (nY.map D.str)),some (.f,.int cnt),some (.d,.dct true (as.map eA) vs),t4,t5,some (.f,.int c),t7]
  = .ok (.nx [a0,some (.f,.lst (nY.map D.str)),some (.f,.int cnt),some (.d,.dct true ((if as.length<60 then uh as a else as).map eA) Ht),t4,Mn,some (.f,.int c),Oa]):=by
 have hp:=Pr.mpr h0;obtain⟨m,hm,em⟩:=um nY h0 (c%10 ^ 12 / 12);obtain⟨Ht,ep⟩:=uk as vs (c%10 ^ 12%cnt,m,c%10 ^ 12 / 60%cnt) (.bl true);refine⟨(c%10 ^ 12%cnt,m,c%10 ^ 12 / 60%cnt),if as.length<60 then Ht else vs,some (.f,.int (c%10 ^ 12)),some (.f,eA (c%10 ^ 12%cnt,m,c%10 ^ 12 / 60%cnt)),⟨PL _ (by lia),Pl _ (by lia),hm,PL _ (by lia),Pl _ (by lia)⟩,?_⟩;have d1:=kX c (10 ^ 12) (by decide);have d2:=kX (c%10 ^ 12) cnt (by lia);have d3:=ue (c%10 ^ 12) 12 (by decide) (by decide);have d4:=kX (c%10 ^ 12 / 12) (nY.length:Int) (by lia);have d5:=ue (c%10 ^ 12) 60 (by decide) (by decide);have d6:=kX (c%10 ^ 12 / 60) cnt (by lia);have hz:as.length<sizeLine:=OF (O8 _) (line_le (by lia));unfold eA at ep;dsimp only at ep;have ee:(fun a:En=>D.tup [D.int a.1,D.str a.2.1,D.int a.2.2])=eA:=rfl;rw[ee]at ep;have e7:∀x y z,eA (x,y,z)=.tup [.int x,.str y,.int z]:=fun _ _ _=>rfl
 rw[e7];generalize c%10 ^ 12=num at *;by_cases Mo:as.length<60
 ·have Li:(as.length:Int)<60:=by lia
  rw[Ow Mo,Ow Mo];simp only[pv,↓reduceIte,Nat.reduceAdd,Nat.reduceLT,Nat.reduceLeDiff,Nat.reduceEqDiff,op,yI,d1,d2,d3,d4,d5,d6,em,dO,Li,Pa,Bn,ep];rw[Ow (by rw[O7];exact OP hz)]
 ·have Li:¬ (as.length:Int)<60:=by lia
  rw[OB Mo,OB Mo];simp only[pv,↓reduceIte,Nat.reduceAdd,Nat.reduceLT,Nat.reduceLeDiff,Nat.reduceEqDiff,op,yI,d1,d2,d3,d4,d5,d6,em,dO,Li,Pf,fe]
theorem Bo(ns:List Int)(nY:Ew)(h0:nY≠[])(hn:nY.length<=1000):∃as,Arcs (1+cell ns 2%12) nY as/\as.length<=60/\(∀t:Int,0<t->t<1+cell ns 2%12->∃a∈as,a.2.2=t/\a.1<t)
  /\cz [.lst (ns.map D.int),.lst (nY.map D.str)]=.ok (.l .f,.lst ((bG eV as).map eA)):=by
 unfold cz j0;rw[aQ (h:=by rfl)];have hc:=dN ns 2;have hm:0<=cell ns 2%12/\cell ns 2%12<12:=⟨PL _ (by decide),Pl _ (by decide)⟩
 have d0:=kX (cell ns 2) 12 (by decide);rw[aD (env':=[some (.f,.lst (ns.map D.int)),some (.f,.lst (nY.map D.str)),some (.f,.int (1+cell ns 2%12)),none,none,none,none,none]) (by
  have hc:ay [.lst (ns.map D.int),.int 2]=.ok (.f,.int (cell ns 2)):=hc;simp only[pv,seval,op,hc,d0])]
 rw[aD (env':=[some (.f,.lst (ns.map D.int)),some (.f,.lst (nY.map D.str)),some (.f,.int (1+cell ns 2%12)),some (.d,.dct true [] []),none,none,none,none]) (by
  simp only[pv,seval,op])]
 have Mp:1<=1+cell ns 2%12/\1+cell ns 2%12<=12:=by lia
 clear hm d0 hc;generalize 1+cell ns 2%12=cnt at *;have hr:lz (af (ao (aB (.int 1))) (af (au 2) ax)) [some (.f,.lst (ns.map D.int)),some (.f,.lst (nY.map D.str)),some (.f,.int cnt),some (.d,.dct true [] []),none,none,none,none]=.ok ((List.range (cnt-1).toNat).map (fun(k:Nat)=>D.int (1+(k:Int))),[some (.f,.lst (ns.map D.int)),some (.f,.lst (nY.map D.str)),some (.f,.int cnt),some (.d,.dct true [] []),none,none,none,none]):=by
  simp only[pv,seval];rw[Ow (by lia)]
 rw[He,Hf,hr,EU];dsimp only;obtain⟨env',ef,as,vs,t4,t5,hA,hL,low,rfl⟩:=iz (a:=aH 4) (fun i env=>∃(as:List En) (vs:List D) (t4 t5:Option R),Arcs cnt nY as/\as.length<=i/\(∀t:Int,0<t->t<1+(i:Int)->∃a∈as,a.2.2=t/\a.1<t)/\env=[some (.f,.lst (ns.map D.int)),some (.f,.lst (nY.map D.str)),some (.f,.int cnt),some (.d,.dct true (as.map eA) vs),t4,t5,none,none]) ((List.range (cnt-1).toNat).map fun(k:Nat)=>D.int (1+(k:Int))) (by
  rintro i d env hi ⟨as,vs,t4,t5,hA,hL,low,rfl⟩;rw[List.getElem?_map,ON]at hi;obtain⟨k,hk,rfl⟩:=hi;obtain⟨IM,HL⟩:=p4 hk;rw[OJ]at IM;rw[Qo]at HL;subst HL;obtain⟨nm,x,Ht,Mn,hn,x0,x1,e⟩:=CT ns nY h0 cnt i as (by lia) vs t5 none none;refine⟨_,rfl,_,.inl e,_,_,_,_,hA.add ⟨x0,by show x<cnt;lia,hn,by show 0<=1+(i:Int);lia,by show 1+(i:Int)<cnt;lia⟩,by have:=p7 as (x,nm,1+(i:Int));lia,fun t p0 p1=>?_,rfl⟩;by_cases ht:t<1+(i:Int)
  ·obtain⟨a,ha,e1,e2⟩:=low t p0 ht;exact⟨a,Iff.mpr jq (.inl ha),e1,e2⟩
  ·exact⟨_,Iff.mpr jq (.inr rfl),by show 1+(i:Int)=t;lia,by show x<t;lia⟩) _ ⟨[],[],none,none,⟨P0,fun _ h=>nomatch h⟩,Ou _,fun t p0 p1=>by lia,rfl⟩
 rw[PZ]at ef;rw[ef,EU];rw[dO,OJ]at hL low;dsimp only;clear ef hr;have ce:ig (ns.map D.int) (some 14) none=(ns.drop 14).map D.int:=by
  rw[Su];exact jo _ 14
 have hr:FK (za (i9 (au 0) (cV (aB (.int 14))) de)) (FK (kr (i9 (au 0) (cV (aB (.int 14))) de)) (ku (i9 (au 0) (cV (aB (.int 14))) de))) [some (.f,.lst (ns.map D.int)),some (.f,.lst (nY.map D.str)),some (.f,.int cnt),some (.d,.dct true (as.map eA) vs),t4,t5,none,none]=.ok ((ns.drop 14).map D.int,[some (.f,.lst (ns.map D.int)),some (.f,.lst (nY.map D.str)),some (.f,.int cnt),some (.d,.dct true (as.map eA) vs),t4,t5,none,none]):=by
  simp only[pv,seval,op,ce]
 simp only[He,Hf,hr,EU];obtain⟨env',ef,as,vs,t5,t6,t7,hA,hL,low,rfl⟩:=iz (a:=aH 6) (fun _ env=>∃(as:List En) (vs:List D) (t5 t6 t7:Option R),Arcs cnt nY as/\as.length<=60/\(∀t:Int,0<t->t<cnt->∃a∈as,a.2.2=t/\a.1<t)/\env=[some (.f,.lst (ns.map D.int)),some (.f,.lst (nY.map D.str)),some (.f,.int cnt),some (.d,.dct true (as.map eA) vs),t4,t5,t6,t7]) ((ns.drop 14).map D.int) (by
  rintro i d env hi ⟨as,vs,t5,t6,t7,hA,hL,low,rfl⟩;rw[List.getElem?_map,ON]at hi;obtain⟨c,hk,rfl⟩:=hi;obtain⟨a,Ht,Mn,Oa,ha,e⟩:=CU nY h0 cnt c Mp.1 Mp.2 as (by lia) vs (some (.f,.lst (ns.map D.int))) t4 t5 t7;refine⟨_,rfl,_,.inl e,if as.length<60 then uh as a else as,_,_,_,_,?_,?_,?_,rfl⟩
  ·split
   ·exact hA.add ha
   ·exact hA
  ·split
   ·have:=p7 as a;lia
   ·exact hL
  ·intro t p0 p1;obtain⟨b,hb,e1,e2⟩:=low t p0 p1;refine⟨b,?_,e1,e2⟩;split
   ·exact Iff.mpr jq (.inl hb)
   ·exact hb) _ ⟨as,vs,t5,none,none,hA,by lia,fun t p0 p1=>low t p0 (by lia),rfl⟩
 rw[ef,EU];refine⟨as,hA,hL,low,?_⟩;dsimp only;simp only[pv,seval,op,yM as vs (by lia)]
def qV(c:Nat):Bool:=decide (48<=c)&&decide (c<=57)
theorem ki(c:Nat):bY [.str [c]]=.ok (.f,.bl (qV c)):=by
 unfold bY jU qV;rw[aQ (h:=by rfl)];simp only[pv,seval,op,Dm];by_cases h1:c<48
 ·have h2:¬ 48<=c:=by lia
  simp only[h1,h2,Pa,Pf,OS,Pg,EU]
 ·have h2:48<=c:=by lia
  simp only[h1,h2,Pa,Pf,Pj,O7,EU];by_cases h3:57<c
  ·have h4:¬ c<=57:=by lia
   simp only[h3,h4,Pa,Pf,OS]
  ·have h4:c<=57:=by lia
   simp only[h3,h4,Pa,Pf,Pj]
def kd(c:Nat):Nat:=if dJ c then 0 else if qV c then 1 else if c=32 then 2 else if c=59 then 3 else 4
def kW:Nat->List Nat
 | 0=>[108,101,116,116,101,114]
 | 1=>[102,105,103,117,114,101]
 | 2=>[98,108,97,110,107]
 |_=>[115,101,109,105,99,111,108,111,110]
theorem p8{a b:Nat}(ha:a<4)(hb:b<4):(kW a==kW b)=decide (a=b):=by
 have:a=0\/a=1\/a=2\/a=3:=by lia
 have:b=0\/b=1\/b=2\/b=3:=by lia
 rcases ‹a=0\/_› with rfl|rfl|rfl|rfl <;> rcases ‹b=0\/_› with rfl|rfl|rfl|rfl <;> decide
theorem uo(c:Nat)(h:kd c<4):cH [.str [c]]=.ok (.f,.str (kW (kd c))):=by
 have hl:=ka c;have hf:=ki c;unfold cH ng;rw[aQ (h:=by rfl)];unfold kd at h ⊢;cases h1:dJ c with
 |true=>
  rw[h1]at hl;simp only[pv,seval,op,hl,bh,fS] <;> rfl
 |false=>
  rw[h1]at hl h;cases h2:qV c with
  |true=>
   rw[h2]at hf;simp only[pv,seval,op,hl,hf,bh,fS,fe] <;> rfl
  |false=>
   rw[h2]at hf h;rw[OB Oy,OB Oy]at h ⊢;by_cases h3:c=32
   ·subst h3;simp only[pv,seval,op,hl,hf,bh,fS,fe] <;> rfl
   ·rw[OB h3]at h ⊢;by_cases h4:c=59
    ·subst h4;simp only[pv,seval,op,hl,hf,bh,fS,fe] <;> rfl
    ·rw[OB h4]at h;exact absurd h (Qa _)
theorem iE{t:List Nat}{i c:Nat}(h:t[i]?=some c):EG (.str t) (.int (i:Int))=.ok (.f,.str [c]):=by
 rw[AX,dw h]
theorem CV(t:List Nat)(ht:t.length<=50000)(s n k:Nat)(hk:k<3)(hn:1<=n)(IJ:∀i,s<=i->i<s+n->∃c,t[i]?=some c/\kd c=k)(Mq:s+n=t.length\/∃c,t[s+n]?=some c/\kd c<4/\kd c≠k):bE [.str t,.int (s:Int),.str (kW k)]=.ok (.f,.int ((s+n:Nat):Int)):=by
 have hle:s+n<=t.length:=by
  obtain⟨c,hc,_⟩:=IJ (s+n-1) (by lia) (by lia);have:=(p4 hc).1;lia
 unfold bE fG;rw[aQ (h:=by rfl)];rw[aD (env':=[some (.f,.str t),some (.f,.int (s:Int)),some (.f,.str (kW k)),some (.f,.int ((s+1:Nat):Int))]) (by simp only[pv,seval,op] <;> rfl)];have h3:(kW k==[115,101,109,105,99,111,108,111,110])=false:=by
  rw[show([115,101,109,105,99,111,108,111,110]:List Nat)=kW 3 from rfl,p8 (by lia) (by lia)];exact OH (by lia)
 rw[aD (env':=[some (.f,.str t),some (.f,.int (s:Int)),some (.f,.str (kW k)),some (.f,.int ((s+1:Nat):Int))]) (by simp only[pv,seval,op,h3,fe])];obtain⟨env',hw,rfl⟩:=g8 (c:=uL (EH (aE GP (au 3) (ao (aR eR (af (au 0) ax))))) (EH (bU FW (ao (cK cH (af (ao (aE EG (au 0) (au 3))) ax))) (au 2)))) (g:=dF) (fun m env=>∃e:Nat,s+1<=e/\e+m=s+n/\env=[some (.f,.str t),some (.f,.int (s:Int)),some (.f,.str (kW k)),some (.f,.int (e:Int))]) (fun env=>env=[some (.f,.str t),some (.f,.int (s:Int)),some (.f,.str (kW k)),some (.f,.int ((s+n:Nat):Int))]) (by
  rintro m env ⟨e,he1,he2,rfl⟩;by_cases hm:m=0
  ·left;have ee:e=s+n:=by lia
   subst ee;refine⟨_,?_,rfl⟩;rcases Mq with Mq|⟨c,hc,hc4,Mr⟩
   ·have E5:decide (((s+n:Nat):Int)<(t.length:Int))=false:=OH (by lia);simp only[pv,seval,op,E5,fe]
   ·have E5:decide (((s+n:Nat):Int)<(t.length:Int))=true:=OP (by have:=(p4 hc).1;lia);have F1:=iE hc;have Jy:=uo c hc4;have Hr:(kW (kd c)==kW k)=false:=by
     rw[p8 hc4 (by lia)];exact OH Mr
    simp only[pv,seval,op,E5,F1,Jy,bh,dj,Hr]
  ·right;obtain⟨c,hc,Mr⟩:=IJ e (by lia) (by lia);have E5:decide ((e:Int)<(t.length:Int))=true:=OP (by have:=(p4 hc).1;lia);have F1:=iE hc;have Jy:=uo c (by lia);rw[Mr]at Jy;have heq:(kW k==kW k)=true:=O4 _;refine⟨[some (.f,.str t),some (.f,.int (s:Int)),some (.f,.str (kW k)),some (.f,.int (e:Int))],?_,[some (.f,.str t),some (.f,.int (s:Int)),some (.f,.str (kW k)),some (.f,.int ((e+1:Nat):Int))],m-1,?_,by lia,e+1,by lia,by lia,rfl⟩
   ·simp only[pv,seval,op,E5,F1,Jy,bh,dj,heq]
   ·unfold dF;simp only[pv,seval,op] <;> rfl) 100000 (n-1) [some (.f,.str t),some (.f,.int (s:Int)),some (.f,.str (kW k)),some (.f,.int ((s+1:Nat):Int))] (by lia) ⟨s+1,Ou _,by lia,rfl⟩
 unfold gq fF;rw[aD hw];simp only[pv,seval]
theorem Bp(t:List Nat)(s:Nat):bE [.str t,.int (s:Int),.str (kW 3)]=.ok (.f,.int ((s+1:Nat):Int)):=by
 unfold bE fG;rw[aQ (h:=by rfl)];rw[aD (env':=[some (.f,.str t),some (.f,.int (s:Int)),some (.f,.str (kW 3)),some (.f,.int ((s+1:Nat):Int))]) (by simp only[pv,seval,op] <;> rfl)];have h3:(kW 3==[115,101,109,105,99,111,108,111,110])=true:=by decide
 simp only[pv,seval,op,h3]
structure Chk(c:List Nat)(k:Nat):Prop where
 ne:c≠[]
 k4:k<4
 all:∀x∈c,kd x=k
 one:k=3->c.length=1
 fig:k=1->c.length<=60/\(1<c.length->c.head?≠some 48)
theorem yO{c:List Nat}(h:Chk c 1):bI [.str c]=.ok (.f,.non):=by
 obtain⟨Mo,h0⟩:=h.fig rfl;unfold bI fH;rw[aQ (h:=by rfl)];have c1:decide ((c.length:Int)>60)=false:=OH (by lia);have c1:decide (60<(c.length:Int))=false:=c1;rw[aD (env':=[some (.f,.str c)]) (by simp only[pv,seval,op,c1,fe])];by_cases h1:1<c.length
 ·have c2:decide (1<(c.length:Int))=true:=OP (by lia);obtain⟨x,r,rfl⟩:∃x r,c=x::r:=by
   cases c with
   |nil=>exact absurd rfl h.ne
   |cons x r=>exact⟨x,r,rfl⟩
  have hx:x≠48:=fun z=>h0 h1 (by rw[z];rfl)
  have F1:EG (.str (x::r)) (.int 0)=.ok (.f,.str [x]):=iE (i:=0) rfl;have he:(([x]:List Nat)==[48])=false:=by
   rw[O1];intro z;exact hx (Qk z).1
  generalize x::r=cc at c2 F1;simp only[pv,seval,op,c2,F1,he,fe] <;> rfl
 ·have c2:decide (1<(c.length:Int))=false:=OH (by lia);simp only[pv,seval,op,c2,fe] <;> rfl
inductive Chs:List (List Nat×Nat)->Prop
 |nil:Chs []
 |one {c:List Nat}{k:Nat}:Chk c k->Chs [(c,k)]
 |cons {c d:List Nat}{k j:Nat}{l:List (List Nat×Nat)}:Chk c k->(k=3\/k≠j)->Chs ((d,j)::l)->Chs ((c,k)::(d,j)::l)
theorem Chs.head{c:List Nat}{k:Nat}{l:List (List Nat×Nat)}(h:Chs ((c,k)::l)):Chk c k/\Chs l/\(k=3\/l=[]\/∃d j l',l=(d,j)::l'/\k≠j/\Chk d j):=by
 cases h with
 |one h=>exact⟨h,.nil,.inr (.inl rfl)⟩
 |cons h hk hl=>
  refine⟨h,hl,?_⟩;rcases hk with hk|hk
  ·exact .inl hk
  ·refine .inr (.inr ⟨_,_,_,rfl,hk,?_⟩);cases hl with
   |one h=>exact h
   |cons h _ _=>exact h
def txt(l:List (List Nat×Nat)):List Nat:=(l.map (·.1)).flatten
def F3(l:List (List Nat×Nat)):Ew:=(l.filter fun z=>!(z.2==2)).map (·.1)
theorem cv(c:List Nat)(k:Nat)(l:List (List Nat×Nat)):txt ((c,k)::l)=c++txt l:=by
 unfold txt;rw[fU,Qg]
theorem hU(c:List Nat)(k:Nat)(l:List (List Nat×Nat)):F3 ((c,k)::l)=if k=2 then F3 l else c::F3 l:=by
 unfold F3;by_cases h:k=2
 ·rw[List.filter_cons_of_neg (by rw[h];exact Oy),Ow h]
 ·rw[List.filter_cons_of_pos (by show(!(k==2))=true;rw[O1.mpr h];rfl),OB h,fU]
theorem p9{pre c post:List Nat}{i:Nat}(h1:pre.length<=i)(h2:i<pre.length+c.length):∃x∈c,(pre++(c++post))[i]?=some x:=by
 rw[List.getElem?_append_right h1,List.getElem?_append_left (by lia),yF (by lia)];exact⟨_,PN _,rfl⟩
theorem yP{pre c post:List Nat}{k:Nat}(hl:(pre++(c++post)).length<=50000)(h:Chk c k)(hp:k=3\/post=[]\/∃x r,post=x::r/\kd x<4/\kd x≠k):bE [.str (pre++(c++post)),.int (pre.length:Int),.str (kW k)]=.ok (.f,.int ((pre.length+c.length:Nat):Int)):=by
 have hc:=Pr.mpr h.ne;by_cases h3:k=3
 ·subst h3;rw[Bp,h.one rfl]
 ·have hk4:=h.k4;refine CV _ hl pre.length c.length k (by lia) (by lia) (fun i h1 h2=>?_) ?_
  ·obtain⟨x,hx,e⟩:=p9 (post:=post) h1 h2;exact⟨x,e,h.all x hx⟩
  ·rcases hp.resolve_left h3 with rfl|⟨x,r,rfl,hx⟩
   ·left;rw[OL,dM]
   ·right;refine⟨x,?_,hx⟩;rw[List.getElem?_append_right (by lia),List.getElem?_append_right (by lia),show pre.length+c.length-pre.length-c.length=0 by lia];rfl
theorem CW(pre c post:List Nat):ig (pre++(c++post)) (some (pre.length:Int)) (some ((pre.length+c.length:Nat):Int))=c:=by
 unfold ig;have e1:HT.sIx (pre++(c++post)).length 0 (some (pre.length:Int))=pre.length:=by
  unfold HT.sIx;simp;lia
 have e2:HT.sIx (pre++(c++post)).length (pre++(c++post)).length (some ((pre.length+c.length:Nat):Int))=pre.length+c.length:=by
  unfold HT.sIx;simp;lia
 rw[e1,e2,List.drop_left,show pre.length+c.length-pre.length=c.length by lia,List.take_left]
theorem yQ{pre c post:List Nat}{k:Nat}(hl:(pre++(c++post)).length<=50000)(h:Chk c k)(hp:k=3\/post=[]\/∃x r,post=x::r/\kd x<4/\kd x≠k)(out:Ew)(ho:out.length<=50000)(t3 t4 t5:Option R):
  ∃u3 u4 u5,gj [some (.f,.str (pre++(c++post))),some (.l .f,.lst (out.map D.str)),some (.f,.int ((pre.length:Nat):Int)),t3,t4,t5]=.ok (.nx [some (.f,.str (pre++(c++post))),some (.l .f,.lst ((if k=2 then out else out++[c]).map D.str)),some (.f,.int ((pre.length+c.length:Nat):Int)),u3,u4,u5]):=by
 have hc:=Pr.mpr h.ne;obtain⟨x,hx,F1⟩:=p9 (pre:=pre) (c:=c) (post:=post) (i:=pre.length) (Ou _) (by lia);have F1:=iE F1;have Ob:=h.all x hx;have Jy:=uo x (by rw[Ob];exact h.k4);rw[Ob]at Jy;have Oc:=yP hl h hp;have Kk:=CW pre c post;have hz:(out.map D.str).length<sizeLine:=oP (by rw[dO];lia);generalize pre++(c++post)=T at F1 Oc Kk;refine⟨some (.f,.str (kW k)),some (.f,.int ((pre.length+c.length:Nat):Int)),some (.f,.str c),?_⟩;unfold gj;rw[aD (env':=[some (.f,.str T),some (.l .f,.lst (out.map D.str)),some (.f,.int ((pre.length:Nat):Int)),some (.f,.str (kW k)),t4,t5]) (by simp only[pv,seval,op,F1,Jy,bh,dj])];rw[aD (env':=[some (.f,.str T),some (.l .f,.lst (out.map D.str)),some (.f,.int ((pre.length:Nat):Int)),some (.f,.str (kW k)),some (.f,.int ((pre.length+c.length:Nat):Int)),t5]) (by simp only[pv,seval,op,Oc,bh,dY])];rw[aD (env':=[some (.f,.str T),some (.l .f,.lst (out.map D.str)),some (.f,.int ((pre.length:Nat):Int)),some (.f,.str (kW k)),some (.f,.int ((pre.length+c.length:Nat):Int)),some (.f,.str c)]) (by simp only[pv,seval,op,Kk])];rw[aD (env':=[some (.f,.str T),some (.l .f,.lst (out.map D.str)),some (.f,.int ((pre.length:Nat):Int)),some (.f,.str (kW k)),some (.f,.int ((pre.length+c.length:Nat):Int)),some (.f,.str c)]) (by
  have e1:=p8 (a:=k) (b:=1) h.k4 (by decide);have e1:(kW k==[102,105,103,117,114,101])=decide (k=1):=e1;by_cases h1:k=1
  ·rw[OP h1]at e1;rw[h1]at h;have Mr:=yO h;have Kw:eh .non=true:=rfl;simp only[pv,seval,op,e1,Mr,bh,Kw]
  ·rw[OH h1]at e1;simp only[pv,seval,op,e1,fe])]
 have e2:=p8 (a:=k) (b:=2) h.k4 (by decide);have e2:(kW k==[98,108,97,110,107])=decide (k=2):=e2;by_cases h2:k=2
 ·rw[OP h2]at e2;rw[Ow h2];simp only[pv,seval,op,e2,OS,fe]
 ·rw[OH h2]at e2;rw[OB h2,OT];simp only[pv,seval,op,e2,Pj,hz] <;> rfl
theorem yR(l:List (List Nat×Nat))(hc:Chs l)(hl:(txt l).length<=50000):ik [.str (txt l)]=.ok (.l .f,.lst ((F3 l).map D.str)):=by
 obtain⟨env',hw,t3,t4,t5,rfl⟩:=g8 (c:=EH (aE GP (au 2) (ao (aR eR (af (au 0) ax))))) (g:=gj) (fun m env=>∃(pre:List Nat) (out:Ew) (r:List (List Nat×Nat)) (t3 t4 t5:Option R),Chs r/\r.length=m/\txt l=pre++txt r/\F3 l=out++F3 r/\out.length<=pre.length/\env=[some (.f,.str (txt l)),some (.l .f,.lst (out.map D.str)),some (.f,.int ((pre.length:Nat):Int)),t3,t4,t5])
  (fun env=>∃t3 t4 t5,env=[some (.f,.str (txt l)),some (.l .f,.lst ((F3 l).map D.str)),some (.f,.int (((txt l).length:Nat):Int)),t3,t4,t5]) (by
  rintro m env ⟨pre,out,r,t3,t4,t5,hr,hm,ht,hk,hop,rfl⟩;cases r with
  |nil=>
   left;have ht:txt l=pre:=ht.trans (OL _);have hk:F3 l=out:=hk.trans (OL _);have E5:decide (((pre.length:Nat):Int)<((txt l).length:Int))=false:=OH (by rw[ht];lia);refine⟨_,?_,t3,t4,t5,rfl⟩;rw[hk,<-ht] at *;simp only[pv,seval,op,E5]
  |cons z r=>
   right;obtain⟨c,k⟩:=z;obtain⟨h1,h2,h3⟩:=hr.head;have NP:=Pr.mpr h1.ne;rw[cv]at ht;rw[hU]at hk;have E5:decide (((pre.length:Nat):Int)<((txt l).length:Int))=true:=OP (by rw[ht,dM,dM];lia);have Gp:pre.length<=50000:=by
    rw[ht,dM]at hl;lia
   obtain⟨u3,u4,u5,e⟩:=yQ (pre:=pre) (c:=c) (post:=txt r) (by rw[<-ht];exact hl) h1 (by
    refine h3.imp id fun h3=>h3.imp (fun h3=>by rw[h3];rfl) fun Ex=>?_
    obtain⟨d,j,l',h3,hkj,hd⟩:=Ex;obtain⟨x,rr,ed⟩:∃x rr,d=x::rr:=by
     cases d with
     |nil=>exact absurd rfl hd.ne
     |cons x rr=>exact⟨x,rr,rfl⟩
    have hx:=hd.all x (by rw[ed];exact Ol);refine⟨x,rr++txt l',by rw[h3,cv,ed];rfl,by rw[hx];exact hd.k4,by rw[hx];exact fun z=>hkj z.symm⟩) out (by lia) t3 t4 t5
   rw[<-ht]at e;refine⟨[some (.f,.str (txt l)),some (.l .f,.lst (out.map D.str)),some (.f,.int ((pre.length:Nat):Int)),t3,t4,t5],by simp only[pv,seval,op,E5],_,r.length,e,by rw[<-hm];exact O8 _,pre++c,if k=2 then out else out++[c],r,u3,u4,u5,h2,rfl,by rw[ht,OD],?_,?_,by rw[dM]⟩
   ·rw[hk];split
    ·rfl
    ·rw[OD];rfl
   ·rw[dM];split
    ·lia
    ·rw[dM,Pe];lia) 100000 l.length [some (.f,.str (txt l)),some (.l .f,.lst []),some (.f,.int ((([]:List Nat).length:Nat):Int)),none,none,none] (by
   have:∀l:List (List Nat×Nat),Chs l->l.length<=(txt l).length:=fun l=>by
    induction l with
    |nil=>exact fun _=>Pd _
    |cons z l ih=>
     intro h;obtain⟨c,k⟩:=z;obtain⟨h1,h2,_⟩:=h.head;have:=Pr.mpr h1.ne;have:=ih h2;rw[cv,dM,OC];lia
   have:=this l hc;lia) ⟨[],[],l,none,none,none,hc,rfl,rfl,rfl,Ou _,rfl⟩
 have Hw:pN "str" (.str (txt l))=true:=rfl;unfold ik tw;rw[aQ (h:=by rfl)];rw[aD (env':=[some (.f,.str (txt l)),none,none,none,none,none]) (by simp only[pv,seval,op,Hw,OS,fe])];rw[aD (env':=[some (.f,.str (txt l)),some (.l .f,.lst []),none,none,none,none]) (by simp only[pv,seval,op])];rw[aD (env':=[some (.f,.str (txt l)),some (.l .f,.lst []),some (.f,.int ((([]:List Nat).length:Nat):Int)),none,none,none]) (by simp only[pv,seval,op] <;> rfl)];unfold nh kM;rw[aD hw];simp only[pv,seval]
theorem yS(env:PV.Env)(f:FX):yu f env=Res.bnd (f env) (f:=⟨fun p=>match p.1.1 with
 | .l .f=>.ok ((.l (.l .f),.lst [p.1.2]),p.2)
 |_=>.bad⟩):=id rfl
theorem yT(env:PV.Env)(i:Nat)(f:FX):vM i f env=if lD env i then Res.bnd (f env) (f:=⟨fun(p:R×PV.Env)=>match p.1.1,p.2[i]? with
 | .l .f,some (some (.l (.l .f),.lst ds))=>if ds.length<sizeLine then .ok ((.f,.non),p.2.set i (some (.l (.l .f),.lst (ds++[p.1.2])))) else .bad
 |_,_=>.bad⟩) else .bad:=id rfl
theorem CY(env:PV.Env)(i:Nat)(c:Int)(l:Nat):qF i c l env=match env[i]?,env[l]? with
 |some (some (.l (.l .f),.lst ds)),some (some (.f,d))=>(match ixN ds.length c with
  |some m=>(match ds[m]? with
   |some (.lst es)=>if es.length<sizeLine then .ok ((.f,.non),env.set i (some (.l (.l .f),.lst (ds.set m (.lst (es++[d])))))) else .bad
   |_=>.bad)
  |none=>.bad)
 |_,_=>.bad:=id rfl
theorem Bq(env:PV.Env)(f:FX):Cy f env=Res.bnd (f env) (f:=⟨fun p=>.ok ((.f,p.1.2),p.2)⟩):=id rfl
def eW(p:Ew):D:=.lst (p.map D.str)
def Gj:List Nat:=[59]
def rh(Q:List (Ew))(p:Ew)(w:List Nat):List (Ew)×Ew:=if w=Gj then(Q++[p],[]) else(Q,p++[w])
def IX:Ew->List (Ew)->Ew->List (Ew)
 |[],Q,p=>Q++[p]
 |w::ws,Q,p=>IX ws (rh Q p w).1 (rh Q p w).2
theorem kj:∀(ws c9:Ew) (Q:List (Ew)) (p:Ew),(∀w∈ws,w≠Gj)->IX (ws++c9) Q p=IX c9 Q (p++ws)
 |[],c9,Q,p,_=>by rw[Rb,OL]
 |w::ws,c9,Q,p,h=>by
  rw[P9,IX];unfold rh;rw[OB (h w Ol),kj ws c9 Q (p++[w]) fun x hx=>h x (Ot _ hx),OD];rfl
theorem yU(ws:Ew)(Q:List (Ew))(p:Ew):IX (Gj::ws) Q p=IX ws (Q++[p]) []:=by
 rw[IX];unfold rh;rw[Ow rfl]
theorem uq:∀(ps:List (Ew)) (Q:List (Ew)) (p:Ew),(∀q∈ps,∀w∈q,w≠Gj)->IX (ps.flatMap fun q=>Gj::q) Q p=Q++p::ps
 |[],Q,p,_=>rfl
 |q::ps,Q,p,h=>by
  rw[Qj,P9,yU,kj q _ _ _ (h q Ol),Rb,uq ps _ _ fun x hx=>h x (Ot _ hx),OD];rfl
theorem Br(w:List Nat):(w==[59])=decide (w=Gj):=by
 rw[OQ,O6,OE];rfl
theorem yV(T:D)(Q:List (Ew))(p:Ew)(hQ:Q.length<=50000)(hp:p.length<=50000)(w:List Nat):dh [some (.f,T),some (.l (.l .f),.lst ((Q++[p]).map eW)),some (.f,.str w)]=.ok (.nx [some (.f,T),some (.l (.l .f),.lst (((rh Q p w).1++[(rh Q p w).2]).map eW)),some (.f,.str w)]):=by
 have he:=Br w;have hz:((Q++[p]).map eW).length<sizeLine:=oP (by rw[dO,dM,Pe];lia);unfold dh rh;by_cases h:w=Gj
 ·rw[OP h]at he;rw[Ow h,OT (l₂:=[[]])];generalize (Q++[p]).map eW=QQ at hz ⊢;simp only[pv,seval,op,he,yT,hz] <;> rfl
 ·rw[OH h]at he;rw[OB h];have hlen:((Q++[p]).map eW).length=Q.length+1:=by rw[dO,dM,Pe]
  have HR:ixN ((Q++[p]).map eW).length (-1)=some Q.length:=by
   rw[hlen];unfold ixN;first
    |(rw[OB (by lia),Ow (by lia)];congr 1;lia)
    |(simp;lia)
    |simp
  have hg:((Q++[p]).map eW)[Q.length]?=some (.lst (p.map D.str)):=by
   rw[List.getElem?_map,List.getElem?_append_right (Ou _),Rh];rfl
  have hpz:(p.map D.str).length<sizeLine:=oP (by rw[dO];lia);have Hw:((Q++[p]).map eW).set Q.length (.lst (p.map D.str++[.str w]))=(Q++[p++[w]]).map eW:=by
   rw[OT,OT,show Q.length=(Q.map eW).length from(dO _).symm,List.set_append_right _ _ (Ou _),Rh];show Q.map eW++[_]=Q.map eW++[_]
   unfold eW;rw[OT];rfl
  generalize (Q++[p]).map eW=QQ at HR hg Hw ⊢;have happ:qF 1 (-1) 2 [some (.f,T),some (.l (.l .f),.lst QQ),some (.f,.str w)]=.ok ((.f,.non),[some (.f,T),some (.l (.l .f),.lst ((Q++[p++[w]]).map eW)),some (.f,.str w)]):=by
   unfold qF;show(match ixN QQ.length (-1) with|some m=>_|none=>_)=_;rw[HR];show(match QQ[Q.length]? with|some (.lst es)=>_|_=>_)=_;rw[hg];show(if(p.map D.str).length<sizeLine then _ else _)=_;rw[Ow hpz];rw[List.set_cons_succ,List.set_cons_zero,Hw]
  simp only[pv,seval,op,he,happ,fe]
theorem ur(T:D):∀(ws:Ew) (Q:List (Ew)) (p:Ew) (t2:Option R),Q.length+p.length+ws.length<=50000->∃u2,i6 (aH 2) dh (ws.map D.str) [some (.f,T),some (.l (.l .f),.lst ((Q++[p]).map eW)),t2]=.ok (.nx [some (.f,T),some (.l (.l .f),.lst ((IX ws Q p).map eW)),u2])
 |[],Q,p,t2,_=>⟨t2,rfl⟩
 |w::ws,Q,p,t2,h=>by
  rw[OC]at h;have h1:=yV T Q p (by lia) (by lia) w;have hq:(rh Q p w).1.length+(rh Q p w).2.length+ws.length<=50000:=by
   unfold rh;split
   ·rw[dM,Pe];show Q.length+1+0+ws.length<=50000;lia
   ·dsimp only;rw[dM,Pe];lia
  obtain⟨u2,h2⟩:=ur T ws (rh Q p w).1 (rh Q p w).2 (some (.f,.str w)) hq;refine⟨u2,?_⟩;have ha:aH 2 (.str w) [some (.f,T),some (.l (.l .f),.lst ((Q++[p]).map eW)),t2]=.ok [some (.f,T),some (.l (.l .f),.lst ((Q++[p]).map eW)),some (.f,.str w)]:=rfl;rw[fU,EY,ha,EU,h1,EU];exact h2
theorem yW(l:List (List Nat×Nat))(hc:Chs l)(hl:(txt l).length<=40000)(hk:(F3 l).length<=40000):dt [.str (txt l)]=.ok (.l (.l .f),.lst ((IX (F3 l) [] []).map eW)):=by
 have hw:=yR l hc (by lia);have Lj:=PV.flat_strs (F3 l);obtain⟨u2,hf⟩:=ur (.str (txt l)) (F3 l) [] [] none (by show 0+0+_<=_;lia);unfold dt kQ;rw[aQ (h:=by rfl)];rw[aD (env':=[some (.f,.str (txt l)),some (.l (.l .f),.lst (([]++[[]]:List (Ew)).map eW)),none]) (by simp only[pv,seval,op,yS] <;> rfl)];rw[aD (env':=[some (.f,.str (txt l)),some (.l (.l .f),.lst ((IX (F3 l) [] []).map eW)),u2]) (by
  unfold iR;generalize [some (O.l (.l .f),D.lst (([]++[[]]:List (Ew)).map eW)),none]=RST at hf ⊢;simp only[pv,seval,op,hw,dX,Lj];exact hf)]
 unfold g6;simp only[pv,seval]
theorem CZ:∀n:Nat,n<12->qV ((dg (n:Int)).headD 0)=true/\(dg (n:Int)).length<=2/\1<=(dg (n:Int)).length/\(∀x∈dg (n:Int),kd x=1)/\(1<(dg (n:Int)).length->(dg (n:Int)).head?≠some 48):=by decide +kernel
theorem C0{n:Nat}(h:n<12):Chk (dg (n:Int)) 1:=by
 obtain⟨h1,h2,h3,h4,h5⟩:=CZ n h;exact⟨fun z=>by rw[z]at h3;exact absurd h3 (by decide),by decide,h4,(fun z=>nomatch z),fun _=>⟨by lia,h5⟩⟩
theorem qa{n:Nat}(h:n<12):cy [.str (dg (n:Int))]=.ok (.f,.int (n:Int)):=by
 obtain⟨h1,h2,h3,_⟩:=CZ n h;obtain⟨x,r,e⟩:∃x r,dg (n:Int)=x::r:=by
  cases e:dg (n:Int) with
  |nil=>rw[e]at h3;exact absurd h3 (by decide)
  |cons x r=>exact⟨x,r,rfl⟩
 have F1:EG (.str (dg (n:Int))) (.int 0)=.ok (.f,.str [x]):=iE (i:=0) (by rw[e];rfl);have hf:=ki x;rw[e]at h1;have h1:qV x=true:=h1;rw[h1]at hf;have hi:Az [.str (dg (n:Int))]=.ok (.f,.int (n:Int)):=by
  unfold Az;dsimp only;rw[BL,PySem.W.KIN.num_reads (by lia) (by lia)];dsimp only;rw[Ow (by lia)]
 unfold cy jZ;rw[aQ (h:=by rfl)];generalize dg (n:Int)=DG at F1 hi;rw[aD (env':=[some (.f,.str DG)]) (by simp only[pv,seval,op,F1,hf,bh,fS,OS,fe])];simp only[pv,seval,op,hi]
theorem w9{m:List Nat}(h:bS m=true):cp [.str m]=.ok (.f,.str m):=by
 have hn:=nM m (by have:=(cU h).1;lia);rw[h]at hn;unfold cp nq;rw[aQ (h:=by rfl)];rw[aD (env':=[some (.f,.str m)]) (by simp only[pv,seval,op,hn,bh,fS,OS,fe])];simp only[pv,seval]
def aW(a:En):Ew:=[dg a.1,a.2.1,dg a.2.2]
structure Ag(a:En):Prop where
 f:0<=a.1/\a.1<12
 n:bS a.2.1=true
 s:0<=a.2.2/\a.2.2<12
theorem v3{a:En}(h:Ag a):dS [eW (aW a)]=.ok (.f,eA a):=by
 obtain⟨i,hi⟩:=OR h.f.1;obtain⟨j,hj⟩:=OR h.s.1;have h1:=qa (n:=i) (by have:=h.f.2;lia);have h2:=qa (n:=j) (by have:=h.s.2;lia);rw[<-hi]at h1;rw[<-hj]at h2;have h3:=w9 h.n;unfold dS pS eA eW aW;rw[aQ (h:=by rfl)];obtain⟨x,m,y⟩:=a;dsimp only at h1 h2 h3 ⊢;rw[fU,fU,fU,PZ];rw[aD (env':=[some (.f,.lst [.str (dg x),.str m,.str (dg y)])]) (by simp only[pv,seval,op,fe] <;> rfl)];simp only[pv,seval,op,Nr,Nt,at2,h1,h2,h3,bh,dY,dj]
theorem qW(ns:Ew)(hl:ns.length<=5)(h:∀n∈ns,bS n=true):du [eW (aC::ns)]=.ok (.l .f,.lst (ns.map D.str)):=by
 unfold du kR eW;rw[aQ (h:=by rfl),fU];have Ms:ig (D.str aC::ns.map D.str) none (some 1)=[D.str aC]:=by
  have:=ma (D.str aC::ns.map D.str) 1;exact this
 have IH:ig (D.str aC::ns.map D.str) (some 1) none=ns.map D.str:=by
  have:=jo (D.str aC::ns.map D.str) 1;exact this
 have Hr:GH (.lst [.str aC]) (.lst [.str [109,111,118,101,115]])=.ok (.f,.bl false):=rfl;have HM:decide (((ns.length:Int)+1-1)>5)=false:=OH (by lia);have HM:decide (5<(((ns.length+1:Nat):Int)-1))=false:=OH (by lia);have JH:fA (aH 0) mn (cK cp (af (au 0) ax)) (ns.map D.str) [none]=.ok (ns.map D.str):=by
  refine dk (fun env=>∃t,env=[t]) _ ?_ _ ⟨_,rfl⟩;rintro m hm env ⟨t,rfl⟩;have hn:=w9 (h m hm);refine⟨[some (.f,.str m)],rfl,.f,[some (.f,.str m)],?_,_,rfl⟩;simp only[pv,seval,op,hn,bh,dj]
 have hz:(ns.map D.str).length<=sizeLine:=cq (by lia);have Lj:=PV.flat_strs ns;rw[aD (env':=[some (.f,.lst (D.str aC::ns.map D.str))]) (by simp only[pv,seval,op,Ms,Hr,fe])];rw[aD (env':=[some (.f,.lst (D.str aC::ns.map D.str))]) (by
  simp only[pv,seval,op,dO,HM,fe])]
 generalize (cK cp (af (au 0) ax))=GG at JH ⊢;simp only[pv,seval,op,IH,JH,hz,Lj]
theorem kl{α:Type}{lt:α->α->Bool}(o:Ord lt):∀{l1 l2:List α},l1.Pairwise (fun a b=>lt a b=true)->l2.Pairwise (fun a b=>lt a b=true)->l1.Perm l2->l1=l2
 |[],l2,_,_,h=>(List.nil_perm.mp h).symm
 |a::l1,[],_,_,h=>absurd (List.perm_nil.mp h) (by simp)
 |a::l1,b::l2,h1,h2,h=>by
  rw[PM]at h1 h2;have e:a=b:=by
   rcases Oz.mp (h.mem_iff.mp (Ol (a:=a) (l:=l1))) with e|e
   ·exact e
   ·rcases Oz.mp (h.mem_iff.mpr (Ol (a:=b) (l:=l2))) with e2|e2
    ·exact e2.symm
    ·have:=o.trans a b a (h1.1 b e2) (h2.1 a e);rw[o.irr]at this;cases this
  subst e;rw[kl o h1.2 h2.2 ((List.perm_cons a).mp h)]
theorem nO{α:Type}{lt:α->α->Bool}(o:Ord lt){l s:List α}(hs:s.Pairwise (fun a b=>lt a b=true))(h:l.Perm s):bG lt l=s:=by
 have nd:s.Nodup:=hs.imp fun{a b} JB e=>by
  subst e;rw[o.irr]at JB;cases JB
 exact kl o (cY o (h.nodup_iff.mpr nd)) hs ((dn lt l).trans h)
theorem v9(as:List En)(h:as.length<64):cx [.lst (as.map eA)]=.ok (.l .f,.lst ((bG eV as).map eA)):=by
 unfold cx;dsimp only;rw[Ow (by rw[dO];exact h)];unfold lO;cases as with
 |nil=>rfl
 |cons a as=>
  have e0:c8 ((a::as).map eA)=none:=rfl;have e00:cW ((a::as).map eA)=none:=rfl;have e1:gZ ((a::as).map eA)=some ((a::as).map ak):=by rw[me,gf]
  have e2:sameKinds (ak a) (as.map ak)=true:=by
   unfold sameKinds;rw[PJ,OG,OM];exact⟨rfl,fun b _=>rfl⟩
  rw[e0,e00,e1,fU];dsimp only;rw[Ow e2,<-fU,kh ak cZ,me];rfl
def hd:List (List Nat×Nat)->Nat
 |[]=>9
 |z::_=>z.2
theorem Chs.mk{c:List Nat}{k:Nat}{l:List (List Nat×Nat)}(h:Chk c k)(hl:Chs l)(hk:k=3\/k≠hd l):Chs ((c,k)::l):=by
 cases l with
 |nil=>exact .one h
 |cons z l=>exact .cons h hk hl
theorem Bs{x:Nat}(h:dJ x=true):kd x=0:=by
 unfold kd;rw[Ow h]
theorem fX{m:List Nat}(h:bS m=true):Chk m 0:=by
 have h2:=(cU h).2.1;unfold bS at h;rw[OG,OM]at h;exact⟨fun z=>by rw[z]at h2;exact absurd h2 (by decide),by decide,fun x hx=>Bs (h.2 x hx),(fun z=>nomatch z),(fun z=>nomatch z)⟩
theorem mf:Chk aC 0:=⟨by decide,by decide,by decide,(fun z=>nomatch z),(fun z=>nomatch z)⟩
theorem uu:Chk Gj 3:=⟨by decide,by decide,by decide,fun _=>rfl,(fun z=>nomatch z)⟩
theorem qX:Chk [32] 2:=⟨by decide,by decide,by decide,(fun z=>nomatch z),(fun z=>nomatch z)⟩
theorem Bt:Chk [32,32] 2:=⟨by decide,by decide,by decide,(fun z=>nomatch z),(fun z=>nomatch z)⟩
theorem km{i:Int}(h:0<=i/\i<12):Chk (dg i) 1:=by
 obtain⟨n,e⟩:=OR h.1;rw[e];exact C0 (by lia)
theorem iF{i:Int}(h:0<=i/\i<12):(dg i).length<=2:=by
 obtain⟨n,e⟩:=OR h.1;rw[e];exact(CZ n (by lia)).2.1
theorem gP(a b:List (List Nat×Nat)):txt (a++b)=txt a++txt b:=by
 unfold txt;rw[OT,List.flatten_append]
theorem oU(a b:List (List Nat×Nat)):F3 (a++b)=F3 a++F3 b:=by
 unfold F3;rw[List.filter_append,OT]
def HD:Ew->List (List Nat×Nat)
 |[]=>[]
 |n::ns=>([32],2)::(n,0)::HD ns
def Lk(a:En):List (List Nat×Nat):=[(Gj,3),([32],2),(dg a.1,1),([32],2),(a.2.1,0),([32],2),(dg a.2.2,1)]
def HN:List En->List (List Nat×Nat)
 |[]=>[]
 |a::as=>Lk a++HN as
theorem xa:∀as:List En,(∀a∈as,Ag a)->Chs (HN as)/\(hd (HN as)=3\/hd (HN as)=9)
 |[],_=>⟨.nil,.inr rfl⟩
 |a::as,h=>by
  obtain⟨h1,h2⟩:=xa as fun x hx=>h x (Ot _ hx)
  have g:=h a Ol;refine⟨?_,.inl rfl⟩;show Chs ((Gj,3)::([32],2)::(dg a.1,1)::([32],2)::(a.2.1,0)::([32],2)::(dg a.2.2,1)::HN as);exact .mk uu (.mk qX (.mk (km g.f) (.mk qX (.mk (fX g.n) (.mk qX (.mk (km g.s) h1 (.inr (by lia))) (.inr (by show 2≠1;decide))) (.inr (by show 0≠2;decide))) (.inr (by show 2≠0;decide))) (.inr (by show 1≠2;decide))) (.inr (by show 2≠1;decide))) (.inl rfl)
theorem xb{r:List (List Nat×Nat)}(hr:Chs r)(hh:hd r=3\/hd r=9):∀ns:Ew,(∀n∈ns,bS n=true)->Chs (HD ns++r)/\hd (HD ns++r)≠0
 |[],_=>⟨hr,by show hd r≠0;lia⟩
 |n::ns,h=>by
  obtain⟨h1,h2⟩:=xb hr hh ns fun x hx=>h x (Ot _ hx)
  refine⟨?_,by show 2≠0;decide⟩;show Chs (([32],2)::(n,0)::(HD ns++r));exact .mk qX (.mk (fX (h n Ol)) h1 (.inr (P1 h2))) (.inr (by show 2≠0;decide))
def C1(ns:Ew)(as:List En):List (List Nat×Nat):=(aC,0)::(HD ns++HN as)
theorem C2{ns:Ew}{as:List En}(hn:∀n∈ns,bS n=true)(ha:∀a∈as,Ag a):Chs (C1 ns as):=by
 obtain⟨h1,h2⟩:=xa as ha;obtain⟨h3,h4⟩:=xb h1 h2 ns hn;exact .mk mf h3 (.inr (P1 h4))
theorem Bu:∀ns:Ew,F3 (HD ns)=ns
 |[]=>rfl
 |n::ns=>by
  rw[HD,hU,Ow rfl,hU,OB (by decide),Bu ns]
theorem Bv:∀as:List En,F3 (HN as)=(as.map aW).flatMap fun q=>Gj::q
 |[]=>rfl
 |a::as=>by
  rw[HN,oU,Bv as,fU,Qj];rfl
theorem C3(ns:Ew)(as:List En):F3 (C1 ns as)=(aC::ns)++(as.map aW).flatMap fun q=>Gj::q:=by
 unfold C1;rw[hU,OB (by decide),oU,Bu,Bv];rfl
theorem xc{l:List (List Nat×Nat)}(hc:Chs l)(hl:(txt l).length<=40000){ns nY:Ew}{as aZ:List En}(hk:F3 l=(aC::ns)++(as.map aW).flatMap fun q=>Gj::q)
  (L:Laid nY aZ) (hn:ns.Perm nY) (I0:nY.Pairwise (fun a b=>Fv a b=true)) (ha:as.Perm aZ) (has:aZ.Pairwise (fun a b=>eV a b=true)):bL [.str (txt l)]=.ok (.t [.f,.l .f],ES nY aZ):=by
 have nn:∀n∈ns,bS n=true:=fun n h=>L.nn n (hn.mem_iff.mp h)
 have ag:∀a∈as,Ag a:=fun a h=>by
  obtain⟨h1,h2,h3,h4,h5⟩:=L.av a (ha.mem_iff.mp h);exact⟨⟨h1,h2⟩,L.nn _ h3,h4,h5⟩
 have MR:ns.length<=5:=by rw[hn.length_eq];exact L.nl
 have Hs:as.length<=60:=by rw[ha.length_eq];exact L.al
 have Ju:∀{m:List Nat}{k:Nat},Chk m k->k≠3->m≠Gj:=fun{m k} h hk e=>by
  have:=h.all 59 (by rw[e];exact Ol);exact hk (by rw[<-this];decide)
 have HQ:IX (F3 l) [] []=(aC::ns)::as.map aW:=by
  rw[hk,kj _ _ _ _ (fun w hw=>?_),uq]
  ·rfl
  ·intro q hq w hw;obtain⟨a,Mt,rfl⟩:=tY hq;have g:=ag a Mt;rcases Oz.mp hw with rfl|hw
   ·exact Ju (km g.f) (by decide)
   ·rcases Oz.mp hw with rfl|hw
    ·exact Ju (fX g.n) (by decide)
    ·rw[vX hw];exact Ju (km g.s) (by decide)
  ·rcases Oz.mp hw with rfl|hw
   ·exact Ju mf (by decide)
   ·exact Ju (fX (nn w hw)) (by decide)
 have hkl:(F3 l).length<=40000:=by
  rw[hk,dM,OC];have:∀as:List En,((as.map aW).flatMap fun q=>Gj::q).length=4*as.length:=fun as=>by
   induction as with
   |nil=>rfl
   |cons a as ih=>
    rw[fU,Qj,dM,ih,OC];show 4+4*as.length=4*(as.length+1);lia
  rw[this];lia
 have hp:=yW l hc hl hkl;rw[HQ]at hp;have LN:=qW ns MR nn;have MO:=oS ns (by lia);rw[nO lN I0 hn]at MO;have IF:=v9 as (by lia);rw[nO oT has ha]at IF;have IT:=qT L;have JH:fA (aH 0) mn (cK dS (af (au 0) ax)) ((as.map aW).map eW) [none]=.ok (as.map eA):=by
  rw[OU];refine dk (e:=eW∘aW) (fun env=>∃t,env=[t]) _ ?_ _ ⟨_,rfl⟩;rintro a Mt env ⟨t,rfl⟩;have h1:=v3 (ag a Mt);refine⟨[some (.f,eW (aW a))],rfl,.f,[some (.f,eW (aW a))],?_,_,rfl⟩;have hf:eh (eA a)=true:=rfl;generalize eW (aW a)=EW at h1 ⊢;simp only[pv,seval,op,h1,bh,hf]
 have hz:(as.map eA).length<=sizeLine:=cq (by lia);have Lj:=cT as;have Kw:=PV.flat_strs ns;have Ms:ig (eW (aC::ns)::(as.map aW).map eW) (some 1) none=(as.map aW).map eW:=by
  have:=jo (eW (aC::ns)::(as.map aW).map eW) 1;exact this
 have HM:decide (60<(((as.length+1:Nat):Int)-1))=false:=OH (by lia);have hfb:eh (.bl true)=true:=rfl;unfold bL iT;rw[aQ (h:=by rfl)];rw[fU]at hp;rw[aD (env':=[some (.f,.str (txt l)),some (.f,.lst (eW (aC::ns)::(as.map aW).map eW)),none,none]) (by
  simp only[pv,seval,op,Bq,hp];split <;> rfl)]
 rw[aD (env':=[some (.f,.str (txt l)),some (.f,.lst (eW (aC::ns)::(as.map aW).map eW)),some (.f,.tup (nY.map D.str)),none]) (by
  generalize eW (aC::ns)=EW at LN ⊢;have h0:∀r:List D,Ft (EW::r) (0:Int)=some EW:=fun r=>dw (j:=0) rfl
  simp only[pv,seval,op,h0,LN,dX,Kw,MO])]
 have Ku:((as.map aW).map eW).length=as.length:=by rw[dO,dO]
 rw[aD (env':=[some (.f,.str (txt l)),some (.f,.lst (eW (aC::ns)::(as.map aW).map eW)),some (.f,.tup (nY.map D.str)),none]) (by simp only[pv,seval,op,Ku,HM,fe])];rw[aD (env':=[some (.f,.str (txt l)),some (.f,.lst (eW (aC::ns)::(as.map aW).map eW)),some (.f,.tup (nY.map D.str)),some (.l .f,.lst (aZ.map eA))]) (by
  generalize (cK dS (af (au 0) ax))=GG at JH ⊢;generalize eW (aC::ns)=EW at Ms ⊢;generalize (as.map aW).map eW=AW at JH Ms;simp only[pv,seval,op,Ms,JH,hz,Lj,IF])]
 rw[aD (env':=[some (.f,.str (txt l)),some (.f,.lst (eW (aC::ns)::(as.map aW).map eW)),some (.f,.tup (nY.map D.str)),some (.l .f,.lst (aZ.map eA))]) (by simp only[pv,seval,op,IT,bh,hfb,OS,fe])];simp only[pv,seval,op,yE] <;> rfl
theorem Bw(env:PV.Env)(f:FX):tm f env=Res.bnd (f env) (f:=⟨fun p=>match p.1.2 with
 | .int i=>if i.natAbs.log2<1920 then .ok ((.f,.str (dg i)),p.2) else .bad
 | .str l=>.ok ((.f,.str l),p.2)
 |_=>.bad⟩):=id rfl
theorem yX(env:PV.Env)(fs:FDs):tu fs env=Res.bnd (fs env) (f:=⟨fun p=>match cW p.1 with
 |some ls=>if ls.flatten.length<=sizeLine then .ok ((.f,.str ls.flatten),p.2) else .bad
 |none=>.bad⟩):=id rfl
theorem yY{i:Int}(h:0<=i/\i<12):i.natAbs.log2<1920:=by
 obtain⟨n,e⟩:=OR h.1;subst e;have:∀n:Nat,n<12->n.log2<1920:=by decide
 exact this n (by lia)
theorem mh{i:Int}(h:0<=i/\i<12):wV [.int i]=.ok (.f,.str (dg i)):=by
 unfold wV;dsimp only;rw[Ow (yY h)]
theorem uv(B:Nat):∀l:Ew,(∀x∈l,x.length<=B)->(l.map List.length).sum<=B*l.length
 |[],_=>Pd _
 |x::l,h=>by
  have h1:=uv B l fun y hy=>h y (Ot _ hy)
  have h2:=h x Ol;rw[fU,Sr,OC,Nat.mul_succ];lia
theorem uw(sep:List Nat)(ys:Ew)(B:Nat)(hB:∀x∈ys,x.length<=B)(h:B*ys.length+ys.length*sep.length<=100000):m8 sep [.lst (ys.map D.str)]=.ok (.f,.str (joinL sep ys)):=by
 have:=uv B ys hB;unfold m8;dsimp only;rw[iC];dsimp only;rw[Ow (by lia)]
theorem ux:∀(x:List Nat) (ns:Ew),joinL [32] (x::ns)=x++txt (HD ns)
 |x,[]=>(OL x).symm
 |x,n::ns=>by
  show x++[32]++joinL [32] (n::ns)=_;rw[ux n ns,HD,cv,cv,OD]
def aT(a:En):List Nat:=[dg a.1,[32],a.2.1,[32],dg a.2.2].flatten
theorem qb(a:En):txt (Lk a)=[59,32]++aT a:=by
 unfold Lk aT;rw[cv,cv];rfl
theorem xf:∀(x:List Nat) (as:List En),joinL [59,32] (x::as.map aT)=x++txt (HN as)
 |x,[]=>(OL x).symm
 |x,a::as=>by
  show x++[59,32]++joinL [59,32] (aT a::as.map aT)=_;rw[xf (aT a) as,HN,gP,qb,OD,OD]
theorem uy(ns:Ew)(as:List En):txt (C1 ns as)=aC++txt (HD ns)++txt (HN as):=by
 unfold C1;rw[cv,gP,OD]
theorem qc{a:En}(h:Ag a):(aT a).length<=14:=by
 have h1:=iF h.f;have h2:=iF h.s;have h3:=(cU h.n).1;unfold aT;simp only[Qg,RB,dM,OC,Q9];lia
theorem oV:∀ns:Ew,(∀n∈ns,bS n=true)->(txt (HD ns)).length<=9*ns.length
 |[],_=>Ou _
 |n::ns,h=>by
  have h1:=oV ns fun x hx=>h x (Ot _ hx)
  have h2:=(cU (h n Ol)).1;rw[HD,cv,cv,dM,dM];show 1+_<=9*(ns.length+1);lia
theorem uz:∀as:List En,(∀a∈as,Ag a)->(txt (HN as)).length<=16*as.length
 |[],_=>Ou _
 |a::as,h=>by
  have h1:=uz as fun x hx=>h x (Ot _ hx)
  have h2:=qc (h a Ol);rw[HN,gP,qb,dM,dM];show 2+_+_<=16*(as.length+1);lia
theorem nP(ns ps:Ew)(hn:ns.length<=5)(Od:∀n∈ns,n.length<=8)(hp:ps.length<=60)(hp8:∀n∈ps,n.length<=100):cA [.tup (ns.map D.str),.lst (ps.map D.str)]=.ok (.f,.str (joinL [59,32] (joinL [32] (aC::ns)::ps))):=by
 have h1:=uw [32] (aC::ns) 8 (fun x hx=>(Oz.mp hx).elim (fun e=>by rw[e];decide) (Od x)) (by rw[OC];show _+_*1<=_;lia);have NV:(joinL [32] (aC::ns)).length<=100:=by
  have h2:=jR [32] (aC::ns);have h3:=uv 8 (aC::ns) (fun x hx=>(Oz.mp hx).elim (fun e=>by rw[e];decide) (Od x));rw[OC]at h2 h3;have:([32]:List Nat).length=1:=rfl;rw[this]at h2;lia
 have h2:=uw [59,32] (joinL [32] (aC::ns)::ps) 100 (fun x hx=>(Oz.mp hx).elim (fun e=>by rw[e];exact NV) (hp8 x)) (by rw[OC];show _+_*2<=_;lia);rw[fU]at h1 h2;have z1:1+(ns.map D.str).length<=sizeLine:=line_le (by rw[dO];lia);have z2:1+(ps.map D.str).length<=sizeLine:=line_le (by rw[dO];lia);have Mu:=PV.flat_strs ns;unfold cA iS;rw[aQ (h:=by rfl)];generalize joinL [32] (aC::ns)=J at h1 h2 ⊢;generalize ns.map D.str=N at *;generalize ps.map D.str=P at *;generalize Nv:aC=MW at h1;have Nv:([109,111,118,101,115]:List Nat)=MW:=Nv;simp only[pv,seval,op,Nv,z1,z2,pY,h1,h2,Mu]
theorem Bx{nY:Ew}{aZ:List En}(L:Laid nY aZ):bM [ES nY aZ]=.ok (.f,.str (txt (C1 nY aZ))):=by
 have ag:∀a∈aZ,Ag a:=fun a h=>by
  obtain⟨h1,h2,h3,h4,h5⟩:=L.av a h;exact⟨⟨h1,h2⟩,L.nn _ h3,h4,h5⟩
 have HQ:=nP nY (aZ.map aT) L.nl (fun n h=>(cU (L.nn n h)).1) (by rw[dO];exact L.al) (fun x hx=>by
  obtain⟨a,ha,rfl⟩:=tY hx;have:=qc (ag a ha);lia)
 rw[xf,ux,<-uy]at HQ;have JH:fA (mQ 3 (aS (aH 0) (aS (aH 1) (aS (aH 2) gA)))) mn (tu (aA (tm (a8 0)) (aA (aB (.str [32])) (aA (tm (a8 1)) (aA (aB (.str [32])) (aA (tm (a8 2)) bK)))))) (aZ.map eA) [none,none,none]=.ok ((aZ.map aT).map D.str):=by
  rw[dk (r:=fun a:En=>D.str (aT a)) (fun env=>∃t1 t2 t3,env=[t1,t2,t3]) aZ ?_ _ ⟨_,_,_,rfl⟩]
  ·rw[OU];rfl
  ·rintro a ha env ⟨t1,t2,t3,rfl⟩;have g:=ag a ha;have hl:([dg a.1,[32],a.2.1,[32],dg a.2.2]:Ew).flatten.length<=sizeLine:=line_le (by have:=qc g;unfold aT at this;lia);have hl1:=yY g.f;have hl2:=yY g.s;refine⟨_,gN a t1 t2 t3 _,.f,[some (.f,.int a.1),some (.f,.str a.2.1),some (.f,.int a.2.2)],?_,_,_,_,rfl⟩;unfold aT;simp only[pv,seval,op,yX,Bw,hl1,hl2,cW,Option.map_some];rw[Ow hl]
 have hz:((aZ.map aT).map D.str).length<=sizeLine:=cq (by rw[dO];have:=L.al;lia);have Oe:=PV.flat_strs (aZ.map aT);have Ll:EG (ES nY aZ) (.int 0)=.ok (.f,.tup (nY.map D.str)):=rfl;have Mv:EG (ES nY aZ) (.int 1)=.ok (.f,.lst (aZ.map eA)):=rfl;unfold bM iU;rw[aQ (h:=by rfl)];generalize (tu (aA (tm (a8 0)) (aA (aB (.str [32])) (aA (tm (a8 1)) (aA (aB (.str [32])) (aA (tm (a8 2)) bK))))))=GG at JH ⊢;generalize ES nY aZ=EC at Ll Mv ⊢;generalize (aZ.map aT).map D.str=AT at JH hz Oe HQ;generalize nY.map D.str=NM at Ll HQ;simp only[pv,seval,op,Ll,Mv,JH,hz,Oe,HQ]
theorem By(i:Nat)(f g:FX)(env:PV.Env):BK i f g env=if lD env i then Res.bnd (f env) (f:=⟨fun p=>Res.bnd (g p.2) (f:=⟨fun q=>match q.2[i]?,p.1.2 with
 |some (some (.l .f,.lst ds)),.int k=>if ds.length<sizeLine/\0<=k/\k.toNat<=ds.length then .ok ((.f,.non),q.2.set i (some (.l .f,.lst (ds.take k.toNat++q.1.2::ds.drop k.toNat)))) else .bad
 |_,_=>.bad⟩)⟩) else .bad:=id rfl
theorem wa(x b:Int)(h:0<b):0<=x%b/\x%b<b:=⟨PL _ (by lia),Pl _ h⟩
theorem uA{α:Type}(e:α->D)(A0 A1:Option R):∀(r done:List α) (num:Int) (t4:Option R),done.length+r.length<=1000->∃(l':List α) (u3 u4:Option R),l'.Perm (done++r)/\i6 (aH 4) cI (r.map e) [A0,A1,some (.l .f,.lst (done.map e)),some (.f,.int num),t4]=.ok (.nx [A0,A1,some (.l .f,.lst (l'.map e)),u3,u4])
 |[],done,num,t4,_=>⟨done,_,_,by rw[OL],rfl⟩
 |x::r,done,num,t4,h=>by
  rw[OC]at h;have hm:uO (.int num) (.int 48271)=.ok (.f,.int (num*48271)):=by rw[tU,Ow (by rw[show dE 48271=true by decide,SI])]
  have m1:=kX (num*48271+11) 2147483647 (by decide);have d1:=ue ((num*48271+11)%2147483647) 7 (by decide) (by decide);generalize (num*48271+11)%2147483647=y at m1 d1;have m2:=kX (y / 7) ((done.length:Int)+1) (by lia);have b2:=wa (y / 7) ((done.length:Int)+1) (by lia);generalize y / 7%((done.length:Int)+1)=kk at m2 b2;obtain⟨k,rfl⟩:=OR b2.1;have hk:k<=done.length:=by lia
  obtain⟨l',u3,u4,hp,ef⟩:=uA e A0 A1 r (done.take k++x::done.drop k) y (some (.f,e x)) (by
   rw[dM,OC,O3,Px];lia)
  refine⟨l',u3,u4,hp.trans ?_,?_⟩
  ·have h1:(done.take k++x::done.drop k).Perm (x::done):=by
    refine List.perm_middle.trans ?_;rw[R3]
   exact(h1.append_right r).trans (List.perm_middle.symm)
  ·have ha:aH 4 (e x) [A0,A1,some (.l .f,.lst (done.map e)),some (.f,.int num),t4]=.ok [A0,A1,some (.l .f,.lst (done.map e)),some (.f,.int num),some (.f,e x)]:=rfl;have hb:cI [A0,A1,some (.l .f,.lst (done.map e)),some (.f,.int num),some (.f,e x)]=.ok (.nx [A0,A1,some (.l .f,.lst ((done.take k++x::done.drop k).map e)),some (.f,.int y),some (.f,e x)]):=by
    have hz:(done.map e).length<sizeLine/\0<=((k:Nat):Int)/\((k:Nat):Int).toNat<=(done.map e).length:=⟨oP (by rw[dO];lia),by lia,by rw[dO];lia⟩
    rw[OT,fU,List.map_take,Su];have Ku:(done.map e).length=done.length:=dO _;generalize done.map e=L at hz Ku ⊢;generalize e x=EX;unfold cI;rw[aD (env':=[A0,A1,some (.l .f,.lst L),some (.f,.int y),some (.f,EX)]) (by simp only[pv,seval,op,hm,m1])];simp only[pv,seval,op,d1,Ku,m2,By];rw[Ow (by rw[<-Ku];exact hz)];rfl
   rw[fU,EY,ha,EU,hb,EU];exact ef
theorem uB{α:Type}(e:α->D)(l:List α)(hl:l.length<=1000)(Hu:Int):∃l':List α,l'.Perm l/\bZ [.lst (l.map e),.int Hu]=.ok (.l .f,.lst (l'.map e)):=by
 obtain⟨l',u3,u4,hp,ef⟩:=uA e (some (.f,.lst (l.map e))) (some (.f,.int Hu)) l [] (Hu%2147483629+1) none (by show 0+_<=_;lia);refine⟨l',hp,?_⟩;have m1:=kX Hu 2147483629 (by decide);unfold bZ iW;rw[aQ (h:=by rfl)];rw[aD (env':=[some (.f,.lst (l.map e)),some (.f,.int Hu),some (.l .f,.lst (([]:List α).map e)),none,none]) (by simp only[pv,seval,op] <;> rfl)];rw[aD (env':=[some (.f,.lst (l.map e)),some (.f,.int Hu),some (.l .f,.lst (([]:List α).map e)),some (.f,.int (Hu%2147483629+1)),none]) (by simp only[pv,seval,op,m1])];rw[aD (env':=[some (.f,.lst (l.map e)),some (.f,.int Hu),some (.l .f,.lst (l'.map e)),u3,u4]) (by
  unfold gs;generalize ([]:List α).map e=NL at ef ⊢;simp only[pv,seval,op];exact ef)]
 unfold fJ;simp only[pv,seval]
def kd0(w:List Nat):Nat:=kd (w.headD 0)
def qY(b p k:Nat):List (List Nat×Nat):=if b=0 then(if p=0/\k=0 then[([32],2)] else[]) else if b=1 then[([32],2)] else[([32,32],2)]
def jr(b:Nat):Nat->Ew->List (List Nat×Nat)
 |_,[]=>[]
 |p,w::ws=>qY b p (kd0 w)++(w,kd0 w)::jr b (kd0 w) ws
def Alt:Nat->Ew->Prop
 |_,[]=>True
 |p,w::ws=>(kd0 w=1->p≠1)/\Alt (kd0 w) ws
def je:Nat->Ew->Nat
 |p,[]=>p
 |_,w::ws=>je (kd0 w) ws
theorem Bz(b:Nat):∀(ws:Ew) (p:Nat),(∀w∈ws,Chk w (kd0 w)/\kd0 w≠2)->Alt p ws->Chs (jr b p ws)/\(p<3->p≠2->p≠hd (jr b p ws))
 |[],p,_,_=>⟨.nil,fun h _=>by show p≠9;lia⟩
 |w::ws,p,h,ha=>by
  obtain⟨hc,h2⟩:=h w Ol;obtain⟨C,hh⟩:=Bz b ws (kd0 w) (fun x hx=>h x (Ot _ hx)) ha.2;have hk4:=hc.k4;have B:Chs ((w,kd0 w)::jr b (kd0 w) ws):=.mk hc C (by
   by_cases h3:kd0 w=3
   ·exact .inl h3
   ·exact .inr (hh (by lia) h2))
  have ha1:=ha.1;rw[jr];unfold qY;by_cases hb:b=0
  ·rw[Ow hb];by_cases hpk:p=0/\kd0 w=0
   ·rw[Ow hpk];exact⟨.mk qX B (.inr (by show 2≠kd0 w;lia)),fun _ _=>by show p≠2;lia⟩
   ·rw[OB hpk];refine⟨B,fun _ _=>?_⟩;show p≠kd0 w;intro e;rw[<-e]at ha1 hpk h2;lia
  ·rw[OB hb];by_cases Mm:b=1
   ·rw[Ow Mm];exact⟨.mk qX B (.inr (by show 2≠kd0 w;lia)),fun _ _=>by show p≠2;lia⟩
   ·rw[OB Mm];exact⟨.mk Bt B (.inr (by show 2≠kd0 w;lia)),fun _ _=>by show p≠2;lia⟩
theorem yZ(b p k:Nat):F3 (qY b p k)=[]:=by
 unfold qY;split
 ·split <;> rfl
 ·split <;> rfl
theorem xg(b:Nat):∀(ws:Ew) (p:Nat),(∀w∈ws,kd0 w≠2)->F3 (jr b p ws)=ws
 |[],p,_=>rfl
 |w::ws,p,h=>by
  rw[jr,oU,yZ,Rb,hU,OB (h w Ol),xg b ws _ fun x hx=>h x (Ot _ hx)]
theorem uC(b p k:Nat):(txt (qY b p k)).length<=2:=by
 unfold qY;split
 ·split <;> decide
 ·split <;> decide
theorem uD(b:Nat):∀(ws:Ew) (p:Nat),(∀w∈ws,w.length<=8)->(txt (jr b p ws)).length<=10*ws.length
 |[],p,_=>Ou _
 |w::ws,p,h=>by
  have h1:=uD b ws (kd0 w) fun x hx=>h x (Ot _ hx)
  have h2:=h w Ol;have h3:=uC b p (kd0 w);rw[jr,gP,cv,dM,dM];show _<=10*(ws.length+1);lia
theorem uE(b:Nat)(w:List Nat):∀(ws:Ew) (p:Nat),jr b p (ws++[w])=jr b p ws++(qY b (je p ws) (kd0 w)++[(w,kd0 w)])
 |[],p=>rfl
 |x::ws,p=>by
  rw[P9,jr,uE b w ws,jr,je,OD];rfl
theorem kY(w:List Nat):∀(ws:Ew) (p:Nat),je p (ws++[w])=kd0 w
 |[],p=>rfl
 |x::ws,p=>by rw[P9,je,kY w ws]
theorem xh(c:Nat):HY (.str [c]) (.str FL)=.ok (.f,.bl (decide (kd c=0))):=by
 have h1:HY (.str [c]) (.str FL)=.ok (.f,.bl (decide (c∈FL))):=rfl;rw[h1];have h2:c∈FL<->kd c=0:=by
  unfold kd;constructor
  ·intro h;have:∀x∈FL,dJ x=true:=by decide
   rw[Ow (this c h)]
  ·intro h;by_cases hl:dJ c=true
   ·unfold dJ at hl;rw[OG,OE,OE]at hl;obtain⟨j,rfl⟩:∃j,c=97+j:=⟨c-97,by lia⟩
    exact O2 (wZ j (by lia))
   ·rw[OB hl]at h;split at h
    ·cases h
    ·split at h
     ·cases h
     ·split at h <;> cases h
 congr 3
 rw[OQ,OE,OE];exact h2
theorem uF{w:List Nat}(h:w≠[]):EG (.str w) (.int 0)=.ok (.f,.str [w.headD 0]):=by
 cases w with
 |nil=>exact absurd rfl h
 |cons x r=>exact iE (i:=0) rfl
theorem y0(b:Nat)(h:b<3):ig ([32,32]:List Nat) none (some (b:Int))=List.replicate b 32:=by
 have:b=0\/b=1\/b=2:=by lia
 rcases this with rfl|rfl|rfl <;> rfl
theorem y3(b p k:Nat)(h:b<3):txt (qY b p k)=if b=0/\p=0/\k=0 then[32] else List.replicate b 32:=by
 have:b=0\/b=1\/b=2:=by lia
 unfold qY;rcases this with rfl|rfl|rfl
 ·rw[Ow rfl];by_cases h2:p=0/\k=0
  ·rw[Ow h2,Ow ⟨rfl,h2⟩];rfl
  ·rw[OB h2,OB fun z=>h2 z.2];rfl
 ·rw[OB (by decide),Ow rfl,OB (by lia)];rfl
 ·rw[OB (by decide),OB (by decide),OB (by lia)];rfl
theorem wb(row pre post:Ew)(w:List Nat)(HE:row=pre++w::post)(Hr:∀w∈row,w≠[])(h8:∀w∈row,w.length<=8)(hl:row.length<=1000)(b:Nat)(hb:b<3)(t5:Option R):
  ∃u5,cu [some (.f,.lst (row.map D.str)),some (.f,.int (b:Int)),some (.f,.str FL),some (.f,.str (txt (jr b 9 pre))),some (.f,.int (pre.length:Int)),t5]=.ok (.nx [some (.f,.lst (row.map D.str)),some (.f,.int (b:Int)),some (.f,.str FL),some (.f,.str (txt (jr b 9 (pre++[w])))),some (.f,.int (pre.length:Int)),u5]):=by
 have hw:w∈row:=by rw[HE];exact Oo _ Ol
 have F1:EG (.lst (row.map D.str)) (.int (pre.length:Int))=.ok (.f,.str w):=by
  have:Ft (row.map D.str) (pre.length:Int)=some (.str w):=dw (by
   rw[List.getElem?_map,HE,List.getElem?_append_right (Ou _),Rh];rfl)
  simp only[pv,seval,op,this]
 have Nw:=uF (Hr w hw);have Mw:=xh (w.headD 0);have Kk:=y0 b hb;have Gp:pre.length<=1000:=by
  rw[HE,dM]at hl;lia
 have Of:=uD b pre 9 (fun x hx=>h8 x (by rw[HE];exact Ox _ hx));have ME:=h8 w hw;have HM:=y3 b (je 9 pre) (kd0 w) hb;have hgl:=uC b (je 9 pre) (kd0 w);have htx:txt (jr b 9 (pre++[w]))=txt (jr b 9 pre)++txt (qY b (je 9 pre) (kd0 w))++w:=by
  rw[uE,gP,gP,cv,OD];show _++(_++(w++[]))=_;rw[OL]
 rw[htx];have z1:(txt (jr b 9 pre)).length+(txt (qY b (je 9 pre) (kd0 w))).length<=sizeLine:=line_le (by lia);have z2:(txt (jr b 9 pre)++txt (qY b (je 9 pre) (kd0 w))).length+w.length<=sizeLine:=line_le (by rw[dM];lia);generalize txt (qY b (je 9 pre) (kd0 w))=G at HM z1 z2 ⊢;generalize txt (jr b 9 pre)=X at z1 z2 ⊢;refine⟨some (.f,.str G),?_⟩;unfold cu;rw[aD (env':=[some (.f,.lst (row.map D.str)),some (.f,.int (b:Int)),some (.f,.str FL),some (.f,.str X),some (.f,.int (pre.length:Int)),some (.f,.str (List.replicate b 32))]) (by
  generalize row.map D.str=RW at F1 ⊢;simp only[pv,seval,op,Kk])]
 rw[aD (env':=[some (.f,.lst (row.map D.str)),some (.f,.int (b:Int)),some (.f,.str FL),some (.f,.str X),some (.f,.int (pre.length:Int)),some (.f,.str G)]) (by
  rcases List.eq_nil_or_concat pre with hp|⟨pre',v,hp⟩
  ·have hg:G=List.replicate b 32:=by
    rw[HM,OB];rw[hp];rintro⟨_,h,_⟩;exact absurd h (by show(9:Nat)≠0;decide)
   have h0:decide (0<(pre.length:Int))=false:=by rw[hp];rfl
   rw[hg];generalize row.map D.str=RW at F1 ⊢;simp only[pv,seval,op,h0,fe]
  ·have hp:pre=pre'++[v]:=hp.trans (List.concat_eq_append ..);have h0:decide (0<(pre.length:Int))=true:=OP (by rw[hp,dM,Pe];lia);have hlk:je 9 pre=kd0 v:=by rw[hp,kY]
   rw[hlk]at HM;have hv:v∈row:=by rw[HE,hp];exact Ox _ (Oo _ Ol)
   have Lm:EG (.lst (row.map D.str)) (.int ((pre.length:Int)-1))=.ok (.f,.str v):=by
    have e:(pre.length:Int)-1=(pre'.length:Int):=by rw[hp,dM,Pe];lia
    have:Ft (row.map D.str) (pre'.length:Int)=some (.str v):=dw (by
     rw[List.getElem?_map,HE,hp,OD,List.getElem?_append_right (Ou _),Rh];rfl)
    rw[e];simp only[pv,seval,op,this]
   have Og:=uF (Hr v hv);have MS:=xh (v.headD 0);generalize row.map D.str=RW at F1 Lm ⊢;by_cases b0:b=0
   ·have Mx:(((b:Nat):Int)==0)=true:=by rw[b0];rfl
    by_cases k0:kd0 w=0
    ·have Nx:decide (kd (w.headD 0)=0)=true:=OP k0;rw[Nx]at Mw;by_cases v0:kd0 v=0
     ·have Ny:decide (kd (v.headD 0)=0)=true:=OP v0;rw[Ny]at MS;rw[Ow ⟨b0,v0,k0⟩]at HM;rw[HM];simp only[pv,seval,op,h0,Mx,F1,Nw,Mw,Lm,Og,MS]
     ·have Ny:decide (kd (v.headD 0)=0)=false:=OH v0;rw[Ny]at MS;rw[OB fun z=>v0 z.2.1]at HM;rw[HM];simp only[pv,seval,op,h0,Mx,F1,Nw,Mw,Lm,Og,MS,fe]
    ·have Nx:decide (kd (w.headD 0)=0)=false:=OH k0;rw[Nx]at Mw;rw[OB fun z=>k0 z.2.2]at HM;rw[HM];simp only[pv,seval,op,h0,Mx,F1,Nw,Mw,fe]
   ·have Mx:(((b:Nat):Int)==0)=false:=O1.mpr (by lia);rw[OB fun z=>b0 z.1]at HM;rw[HM];simp only[pv,seval,op,h0,Mx,fe])]
 generalize row.map D.str=RW at F1 ⊢;simp only[pv,seval,op,F1,pX,z1,z2]
theorem wc(row:Ew)(Hr:∀w∈row,w≠[])(h8:∀w∈row,w.length<=8)(hl:row.length<=1000)(b:Nat)(hb:b<3):b8 [.lst (row.map D.str),.int (b:Int)]=.ok (.f,.str (txt (jr b 9 row))):=by
 obtain⟨env',ef,t4,t5,rfl⟩:=iz (a:=aH 4) (g:=cu) (fun i env=>∃t4 t5,env=[some (.f,.lst (row.map D.str)),some (.f,.int (b:Int)),some (.f,.str FL),some (.f,.str (txt (jr b 9 (row.take i)))),t4,t5]) ((List.range row.length).map fun(k:Nat)=>D.int (k:Int)) (by
  rintro i d env hi ⟨t4,t5,rfl⟩;rw[List.getElem?_map,ON]at hi;obtain⟨k,hk,rfl⟩:=hi;obtain⟨IM,HL⟩:=p4 hk;rw[OJ]at IM;rw[Qo]at HL;subst HL;have HE:row=row.take i++row[i]::row.drop (i+1):=by rw[<-Qt IM,R3]
  obtain⟨u5,e⟩:=wb row (row.take i) (row.drop (i+1)) row[i] HE Hr h8 hl b hb t5;have hti:(row.take i).length=i:=by rw[O3];lia
  rw[hti]at e;refine⟨_,rfl,_,.inl e,some (.f,.int (i:Int)),u5,?_⟩;rw[List.take_succ,yF IM];rfl) _ ⟨none,none,rfl⟩
 rw[dO,OJ,QU]at ef;have hr:∀(a1 a2 a3 a4 a5:Option R),eN (ao (aR eR (af (au 0) ax))) [some (.f,.lst (row.map D.str)),a1,a2,a3,a4,a5]=.ok ((List.range row.length).map (fun(k:Nat)=>D.int (k:Int)),[some (.f,.lst (row.map D.str)),a1,a2,a3,a4,a5]):=fun a1 a2 a3 a4 a5=>by
  have hc:(0:Int)<=(row.length:Int)/\(row.length:Int)<=1000:=by lia
  rw[GQ];have Ku:(row.map D.str).length=row.length:=dO _;generalize row.map D.str=RW at Ku ⊢;simp only[pv,seval,op,Ku];rw[Ow (by lia)];rfl
 unfold b8 g7;rw[aQ (h:=by rfl)];have hL:([97,98,99,100,101,102,103,104,105,106,107,108,109,110,111,112,113,114,115,116,117,118,119,120,121,122]:List Nat)=FL:=rfl;rw[hL];rw[aD (env':=[some (.f,.lst (row.map D.str)),some (.f,.int (b:Int)),some (.f,.str FL),none,none,none]) (by simp only[pv,seval,op])];rw[aD (env':=[some (.f,.lst (row.map D.str)),some (.f,.int (b:Int)),some (.f,.str FL),some (.f,.str (txt (jr b 9 (row.take 0)))),none,none]) (by simp only[pv,seval,op] <;> rfl)];rw[aD (env':=[some (.f,.lst (row.map D.str)),some (.f,.int (b:Int)),some (.f,.str FL),some (.f,.str (txt (jr b 9 row))),t4,t5]) (by
  unfold fK;rw[Hf,hr,EU];exact ef)]
 unfold e9;simp only[pv,seval] <;> rfl
theorem uG(a:En)(A0 t2:Option R):∃u2,bW [A0,some (.f,eA a),t2]=.ok (.nx [A0,some (.f,eA a),u2]):=by
 have i0:EG (eA a) (.int 0)=.ok (.f,.int a.1):=rfl;have i2:EG (eA a) (.int 2)=.ok (.f,.int a.2.2):=rfl;have ht:pN "tuple" (eA a)=true:=rfl;have hi:∀x:Int,pN "int" (.int x)=true:=fun _=>rfl
 have hb:∀x:Int,pN "bool" (.int x)=false:=fun _=>rfl
 have hl:eR [eA a]=.ok (.f,.int 3):=rfl;refine⟨some (.f,.int a.2.2),?_⟩;unfold bW eE;generalize eA a=E at *;rw[aD (env':=[A0,some (.f,E),t2]) (by simp only[pv,seval,op,ht,hl,OS,fe] <;> rfl)];have h1:∀(x:Int) (u:Option R),bF [A0,some (.f,E),some (.f,.int x)]=.ok (.nx [A0,some (.f,E),some (.f,.int x)]):=fun x u=>by
  unfold bF;simp only[pv,seval,op,hi,hb,OS,fe]
 have ha:∀(x:Int) (u:Option R),aH 2 (.int x) [A0,some (.f,E),u]=.ok [A0,some (.f,E),some (.f,.int x)]:=fun x u=>rfl
 have hf:i6 (aH 2) bF [.int a.1,.int a.2.2] [A0,some (.f,E),t2]=.ok (.nx [A0,some (.f,E),some (.f,.int a.2.2)]):=by
  rw[EY,ha,EU,h1 _ none,EU];show i6 (aH 2) bF [.int a.2.2] _=_;rw[EY,ha,EU,h1 _ none,EU];rfl
 simp only[pv,seval,op,i0,i2];exact hf
theorem uH(A0:Option R):∀(as:List En) (t1 t2:Option R),∃u1 u2,i6 (aH 1) bW (as.map eA) [A0,t1,t2]=.ok (.nx [A0,u1,u2])
 |[],t1,t2=>⟨_,_,rfl⟩
 |a::as,t1,t2=>by
  obtain⟨v2,e⟩:=uG a A0 t2;obtain⟨u1,u2,ef⟩:=uH A0 as (some (.f,eA a)) v2;refine⟨u1,u2,?_⟩;have ha:aH 1 (eA a) [A0,t1,t2]=.ok [A0,some (.f,eA a),t2]:=rfl;rw[fU,EY,ha,EU,e,EU];exact ef
theorem y4(nY:Ew)(aZ:List En):bJ [ES nY aZ]=.ok (.f,.bl true):=by
 obtain⟨u1,u2,ef⟩:=uH (some (.f,ES nY aZ)) aZ none none;have i0:EG (ES nY aZ) (.int 0)=.ok (.f,.tup (nY.map D.str)):=rfl;have i1:EG (ES nY aZ) (.int 1)=.ok (.f,.lst (aZ.map eA)):=rfl;have ht:pN "tuple" (ES nY aZ)=true:=rfl;have ht2:pN "tuple" (.tup (nY.map D.str))=true:=rfl;have ht3:pN "list" (.lst (aZ.map eA))=true:=rfl;have hl:eR [ES nY aZ]=.ok (.f,.int 2):=rfl;unfold bJ fL;rw[aQ (h:=by rfl)];generalize ES nY aZ=E at *;generalize aZ.map eA=AR at *;generalize nY.map D.str=NM at *;rw[aD (env':=[some (.f,E),none,none]) (by simp only[pv,seval,op,ht,hl,i0,ht2,OS,fe] <;> rfl)];rw[aD (env':=[some (.f,E),none,none]) (by simp only[pv,seval,op,i1,ht3,OS,fe] <;> rfl)];rw[aD (env':=[some (.f,E),u1,u2]) (by
  unfold eF;simp only[pv,seval,op,i1];exact ef)]
 unfold dU;simp only[pv,seval,op] <;> rfl
theorem qZ(n:Nat)(l:List En):plainDs (n+1) (l.map eA)=true:=by
 induction l with
 |nil=>rfl
 |cons a l ih=>
  rw[fU,plainDs,ih];unfold eA;rw[plainD];cases n <;> rfl
theorem uI(l:List En):gD (l.map eA) (l.map eA)=true:=by
 induction l with
 |nil=>rw[PZ,gD]
 |cons a l ih=>rw[fU,gD,yN,ih,OP rfl];rfl
theorem qe(NM:Ew)(AR:List En):plainD 40 (ES NM AR)=true:=by
 unfold ES;rw[plainD,plainDs,plainDs,plainDs,plainD,plainD,iy,qZ 37];rfl
theorem xi(NM:Ew)(AR:List En):Ej (ES NM AR) (ES NM AR)=true:=by
 unfold ES;rw[Ej,gD,gD,gD,Ej,Ej,j9,uI,O4];rfl
theorem BA(NM:Ew)(AR:List En):FW (ES NM AR) (ES NM AR)=.ok (.f,.bl true):=by
 unfold FW;rw[qe,xi];rfl
theorem BB(NM:Ew)(AR:List En):GH (ES NM AR) (ES NM AR)=.ok (.f,.bl false):=by
 unfold GH;rw[qe,xi];rfl
theorem y6(NM:Ew):GH (.lst (NM.map D.str)) (.lst [])=.ok (.f,.bl (!(NM==[]))):=by
 have p:∀N:Ew,plainD 40 (.lst (N.map D.str))=true:=fun N=>by
  rw[plainD,iy]
 have e:=j9 NM [];have p0:=p [];rw[PZ]at e p0;unfold GH;rw[p NM,p0,Ej,e];rfl
theorem laid{cnt:Int}{n:Nat}{l:Ew}{as:List En}(hn:Names n l)(h5:n<=5)(hc:cnt<=12)(hA:Arcs cnt (bG Fv l) as)(hl:as.length<=60)(low:∀t:Int,0<t->t<cnt->∃a∈as,a.2.2=t/\a.1<t):Laid (bG Fv l) (bG eV as) where
 nl:=by rw[kg,hn.len];exact h5
 nr:=kc (cY lN hn.nd)
 nn:=fun m hm=>hn.ok m ((g9 Fv).mp hm)
 al:=by rw[kg];exact hl
 ar:=kc (cY oT hA.nd)
 av:=fun a ha=>by
  obtain⟨h1,h2,h3,h4,h5⟩:=hA.v a ((g9 eV).mp ha);exact⟨h1,by lia,h3,h4,by lia⟩
 low:=fun t h0 ht=>by
  have hs:t<cnt:=by
   unfold bQ at ht;rcases t9 ((bG eV as).map pZ) 0 with⟨_,e⟩|e
   ·lia
   ·obtain⟨a,ha,ea⟩:=tY e;obtain⟨_,h2,_,_,h5⟩:=hA.v a ((g9 eV).mp ha);have:=oQ a;lia
  obtain⟨a,ha,e⟩:=low t h0 hs;exact⟨a,(g9 eV).mpr ha,e⟩
theorem we:Laid [] []:=⟨by decide,rfl,(fun m hm=>nomatch hm),by decide,rfl,(fun a ha=>nomatch ha),fun t h0 ht=>by
 have h:bQ []=1:=rfl;rw[h]at ht;lia⟩
theorem Chk.kd0{w:List Nat}{k:Nat}(h:Chk w k):LW.kd0 w=k:=by
 cases w with
 |nil=>exact absurd rfl h.ne
 |cons x r=>exact h.all x Ol
structure Wd(w:List Nat):Prop where
 c:Chk w (kd0 w)
 b:kd0 w≠2
 l:w.length<=8
theorem Wd.of{w:List Nat}{k:Nat}(h:Chk w k)(hk:k≠2)(hl:w.length<=8):Wd w:=⟨by rw[h.kd0];exact h,by rw[h.kd0];exact hk,hl⟩
def row(ns:Ew)(as:List En):Ew:=(aC::ns)++(as.map aW).flatMap fun q=>Gj::q
theorem BC{ns:Ew}{as:List En}(hn:∀n∈ns,bS n=true)(ha:∀a∈as,Ag a):∀w∈row ns as,Wd w:=by
 intro w hw;rcases Bj hw with hw|hw
 ·rcases Oz.mp hw with rfl|hw
  ·exact .of mf (by decide) (by decide)
  ·exact .of (fX (hn w hw)) (by decide) (cU (hn w hw)).1
 ·obtain⟨q,hq,hw⟩:=List.mem_flatMap.mp hw;obtain⟨a,Mt,rfl⟩:=tY hq;have g:=ha a Mt;rcases Oz.mp hw with rfl|hw
  ·exact .of uu (by decide) (by decide)
  ·rcases Oz.mp hw with rfl|hw
   ·exact .of (km g.f) (by decide) (Pc (iF g.f) (by decide))
   ·rcases Oz.mp hw with rfl|hw
    ·exact .of (fX g.n) (by decide) (cU g.n).1
    ·rw[vX hw];exact .of (km g.s) (by decide) (Pc (iF g.s) (by decide))
theorem BD:∀(as:List En) (p:Nat),(∀a∈as,Ag a)->Alt p ((as.map aW).flatMap fun q=>Gj::q)
 |[],p,_=>trivial
 |a::as,p,h=>by
  have g:=h a Ol;have k1:=(km g.f).kd0;have k2:=(fX g.n).kd0;have k3:=uu.kd0;rw[fU,Qj];show Alt p (Gj::dg a.1::a.2.1::dg a.2.2::_);refine⟨fun e=>?_,fun _=>?_,fun e=>?_,fun _=>?_,BD as _ fun x hx=>h x (Ot _ hx)⟩ <;> lia
theorem BE{r:Ew}(hr:∀p,Alt p r):∀(ns:Ew) (p:Nat),(∀n∈ns,bS n=true)->Alt p (ns++r)
 |[],p,_=>hr p
 |n::ns,p,h=>by
  have k2:=(fX (h n Ol)).kd0;exact⟨fun e=>by lia,BE hr ns _ fun x hx=>h x (Ot _ hx)⟩
theorem y7{ns:Ew}{as:List En}(hn:∀n∈ns,bS n=true)(ha:∀a∈as,Ag a):Alt 9 (row ns as):=⟨fun _=>by decide,BE (fun p=>BD as p ha) ns _ hn⟩
theorem xj:∀as:List En,((as.map aW).flatMap fun q=>Gj::q).length=4*as.length
 |[]=>rfl
 |a::as=>by
  rw[fU,Qj,dM,xj as];show 4+4*as.length=4*(as.length+1);lia
theorem xk(a:En)(A0 A1 A2 A3 A4 t5 t6 t7 A8 A9 Iz Hg:Option R):mQ 3 (aS (aH 5) (aS (aH 6) (aS (aH 7) gA))) (eA a) [A0,A1,A2,A3,A4,t5,t6,t7,A8,A9,Iz,Hg]=.ok [A0,A1,A2,A3,A4,some (.f,.int a.1),some (.f,.str a.2.1),some (.f,.int a.2.2),A8,A9,Iz,Hg]:=by
 unfold eA;rw[tP,Ow (by simp),dW,EV,Ow (by simp),EU,dW,EV,Ow (by simp),EU,dW,EV,Ow (by simp),EU];rfl
theorem q0{x y:List Nat}(h:x.length+y.length<=100000):addD (.str x) (.str y)=.ok (.f,.str (x++y)):=by rw[pX,Ow (line_le (by lia))]
theorem xl(A0 A1 A2 A3 A8 A9 Iz Hg:Option R):∀(as:List En) (X:List Nat) (t5 t6 t7:Option R),(∀a∈as,Ag a)->X.length+16*as.length<=50000->∃u5 u6 u7,i6 (mQ 3 (aS (aH 5) (aS (aH 6) (aS (aH 7) gA)))) jl (as.map eA) [A0,A1,A2,A3,some (.f,.str X),t5,t6,t7,A8,A9,Iz,Hg]=.ok (.nx [A0,A1,A2,A3,some (.f,.str (X++txt (HN as))),u5,u6,u7,A8,A9,Iz,Hg])
 |[],X,t5,t6,t7,_,_=>⟨_,_,_,by rw[show X++txt (HN [])=X from OL _];rfl⟩
 |a::as,X,t5,t6,t7,h,hl=>by
  rw[OC]at hl;have g:=h a Ol;have l1:=iF g.f;have l2:=iF g.s;have l3:=(cU g.n).1;have l4:=qc g;obtain⟨u5,u6,u7,ef⟩:=xl A0 A1 A2 A3 A8 A9 Iz Hg as (X++txt (Lk a)) (some (.f,.int a.1)) (some (.f,.str a.2.1)) (some (.f,.int a.2.2)) (fun x hx=>h x (Ot _ hx)) (by
   rw[qb,dM,dM];show _+(2+_)+_<=_;lia)
  refine⟨u5,u6,u7,?_⟩;have s1:=mh g.f;have s2:=mh g.s;have b1:addD (.str X) (.str [59,32])=.ok (.f,.str (X++[59,32])):=q0 (by show _+2<=_;lia);have n1:(X++[59,32]).length=X.length+2:=dM;have b2:=q0 (x:=X++[59,32]) (y:=dg a.1) (by lia);have n2:(X++[59,32]++dg a.1).length=X.length+2+(dg a.1).length:=by rw[dM,n1]
  have b3:addD (.str (X++[59,32]++dg a.1)) (.str [32])=.ok (.f,.str (X++[59,32]++dg a.1++[32])):=q0 (by show _+1<=_;lia);have n3:(X++[59,32]++dg a.1++[32]).length=X.length+2+(dg a.1).length+1:=by rw[dM,n2];rfl
  have b4:=q0 (x:=X++[59,32]++dg a.1++[32]) (y:=a.2.1) (by lia);have n4:(X++[59,32]++dg a.1++[32]++a.2.1).length=X.length+2+(dg a.1).length+1+a.2.1.length:=by rw[dM,n3]
  have b5:addD (.str (X++[59,32]++dg a.1++[32]++a.2.1)) (.str [32])=.ok (.f,.str (X++[59,32]++dg a.1++[32]++a.2.1++[32])):=q0 (by show _+1<=_;lia);have n5:(X++[59,32]++dg a.1++[32]++a.2.1++[32]).length=X.length+2+(dg a.1).length+1+a.2.1.length+1:=by rw[dM,n4];rfl
  have b6:=q0 (x:=X++[59,32]++dg a.1++[32]++a.2.1++[32]) (y:=dg a.2.2) (by lia);have hX:X++[59,32]++dg a.1++[32]++a.2.1++[32]++dg a.2.2=X++txt (Lk a):=by
   rw[qb];unfold aT;simp only[Qg,RB,OD,OL]
  rw[hX]at b6;have hb:jl [A0,A1,A2,A3,some (.f,.str X),some (.f,.int a.1),some (.f,.str a.2.1),some (.f,.int a.2.2),A8,A9,Iz,Hg]=.ok (.nx [A0,A1,A2,A3,some (.f,.str (X++txt (Lk a))),some (.f,.int a.1),some (.f,.str a.2.1),some (.f,.int a.2.2),A8,A9,Iz,Hg]):=by
   unfold jl;generalize X++txt (Lk a)=X6 at b6 ⊢;generalize X++[59,32]++dg a.1++[32]++a.2.1++[32]=X5 at b5 b6;generalize X++[59,32]++dg a.1++[32]++a.2.1=X4 at b4 b5;generalize X++[59,32]++dg a.1++[32]=X3 at b3 b4;generalize X++[59,32]++dg a.1=X2 at b2 b3;generalize X++[59,32]=X1 at b1 b2;simp only[pv,seval,op,s1,s2,b1,b2,b3,b4,b5,b6]
  rw[fU,EY,xk,EU,hb,EU];rw[HN,gP,<-OD];exact ef
theorem BF(A0 A1 A2 A3 A4 A9 Iz Hg:Option R):∀(as:List En) (X:Ew) (t5 t6 t7:Option R),(∀a∈as,Ag a)->X.length+4*as.length<=50000->∃u5 u6 u7,i6 (mQ 3 (aS (aH 5) (aS (aH 6) (aS (aH 7) gA)))) jk (as.map eA) [A0,A1,A2,A3,A4,t5,t6,t7,some (.l .f,.lst (X.map D.str)),A9,Iz,Hg]=.ok (.nx [A0,A1,A2,A3,A4,u5,u6,u7,some (.l .f,.lst ((X++(as.map aW).flatMap fun q=>Gj::q).map D.str)),A9,Iz,Hg])
 |[],X,t5,t6,t7,_,_=>⟨_,_,_,by rw[show(X++(([]:List En).map aW).flatMap fun q=>Gj::q)=X from OL _];rfl⟩
 |a::as,X,t5,t6,t7,h,hl=>by
  rw[OC]at hl;have g:=h a Ol;obtain⟨u5,u6,u7,ef⟩:=BF A0 A1 A2 A3 A4 A9 Iz Hg as (X++Gj::aW a) (some (.f,.int a.1)) (some (.f,.str a.2.1)) (some (.f,.int a.2.2)) (fun x hx=>h x (Ot _ hx)) (by
   rw[dM];show _+4+_<=_;lia)
  refine⟨u5,u6,u7,?_⟩;have s1:=mh g.f;have s2:=mh g.s;have hb:jk [A0,A1,A2,A3,A4,some (.f,.int a.1),some (.f,.str a.2.1),some (.f,.int a.2.2),some (.l .f,.lst (X.map D.str)),A9,Iz,Hg]=.ok (.nx [A0,A1,A2,A3,A4,some (.f,.int a.1),some (.f,.str a.2.1),some (.f,.int a.2.2),some (.l .f,.lst ((X++Gj::aW a).map D.str)),A9,Iz,Hg]):=by
   have hz:addD (.lst (X.map D.str)) (.lst [.str [59],.str (dg a.1),.str a.2.1,.str (dg a.2.2)])=.ok (.l .f,.lst ((X++Gj::aW a).map D.str)):=by
    rw[pY,Ow (line_le (by rw[dO];show _+4<=_;lia)),OT];rfl
   unfold jk;generalize (X++Gj::aW a).map D.str=X2 at hz ⊢;generalize X.map D.str=X1 at hz ⊢;simp only[pv,seval,op,s1,s2,hz]
  rw[fU,EY,xk,EU,hb,EU];rw[fU,Qj,<-OD];exact ef
theorem y8(env:PV.Env)(i:Nat)(f:FX):vN i f env=match env[i]? with
 |some (some (.t [.f,.l .f],.tup [_,.lst _]))=>Res.bnd (f env) (f:=⟨fun(q:R×PV.Env)=>match q.2[i]? with
  |some (some (.t [.f,.l .f],.tup [d,.lst ds]))=>if ds.length<sizeLine then .ok ((.f,.non),q.2.set i (some (.t [.f,.l .f],.tup [d,.lst (ds++[q.1.2])]))) else .bad
  |_=>.bad⟩)
 |_=>.bad:=id rfl
theorem qf(nY:Ew)(aZ:List En):b9 (.t [.f,.l .f]) (ES nY aZ)=true:=by
 unfold ES;rw[b9,jC,jC,jC,bh,dX,vT,PV.flat_strs,cT];rfl
theorem uJ{nY:Ew}{aZ:List En}(hl:aZ.length<=60)(T:List Nat)(hr:bL [.str T]=.ok (.t [.f,.l .f],ES nY aZ))(A0 A1 A2 A4 A5 A6 A7 A8 Lh Hg:Option R):∃u10,lR [A0,A1,A2,some (.f,ES nY aZ),A4,A5,A6,A7,A8,some (.f,.str T),Lh,Hg]=.ok (.nx [A0,A1,A2,some (.f,ES nY aZ),A4,A5,A6,A7,A8,some (.f,.str T),u10,Hg]):=by
 have hp:=y4 nY aZ;have hn:=BB nY aZ;have JM:=qf nY aZ;unfold lR;refine⟨some (.t [.f,.l .f],.tup [.tup (nY.map D.str),.lst (aZ.map eA++[.tup [.int 0,.str [97],.int 0]])]),?_⟩;rw[aD (env':=[A0,A1,A2,some (.f,ES nY aZ),A4,A5,A6,A7,A8,some (.f,.str T),some (.t [.f,.l .f],ES nY aZ),Hg]) (by
  generalize ES nY aZ=E at *;simp only[pv,seval,op,hr,JM])]
 rw[aD (env':=[A0,A1,A2,some (.f,ES nY aZ),A4,A5,A6,A7,A8,some (.f,.str T),some (.t [.f,.l .f],ES nY aZ),Hg]) (by
  generalize ES nY aZ=E at *;simp only[pv,seval,op,hp,hn,bh,fS,OS,fe] <;> rfl)]
 have hz:(aZ.map eA).length<sizeLine:=oP (by rw[dO];lia);rw[show some (O.t [.f,.l .f],ES nY aZ)=some (O.t [.f,.l .f],.tup [.tup (nY.map D.str),.lst (aZ.map eA)]) from rfl];generalize ES nY aZ=E at *;generalize aZ.map eA=AR at *;generalize nY.map D.str=NM at *;simp only[pv,seval,op,y8,hz] <;> rfl
theorem uK:∀ns:List Int,ns.length<=63->∃o,yz [.lst (ns.map D.int)]=.ok (o,.bl true):=by
 intro ns _;have hm6:=wa (cell ns 0) 6 (by decide);have hm12:=wa (cell ns 2) 12 (by decide);have hm3:=wa (cell ns 15) 3 (by decide);obtain⟨l,hN,en⟩:=yL (cell ns 0 / 6) (cell ns 1) (cell ns 0%6) (by lia) (by lia);have I0:(bG Fv l).Pairwise (fun a b=>Fv a b=true):=cY lN hN.nd;have c0:ay [.lst (ns.map D.int),.int 0]=.ok (.f,.int (cell ns 0)):=dN ns 0;have c1:ay [.lst (ns.map D.int),.int 1]=.ok (.f,.int (cell ns 1)):=dN ns 1;have c13:ay [.lst (ns.map D.int),.int 13]=.ok (.f,.int (cell ns 13)):=dN ns 13;have c14:ay [.lst (ns.map D.int),.int 14]=.ok (.f,.int (cell ns 14)):=dN ns 14;have c15:ay [.lst (ns.map D.int),.int 15]=.ok (.f,.int (cell ns 15)):=dN ns 15;have d0:=ue (cell ns 0) 6 (by decide) (by decide);have d1:=kX (cell ns 0) 6 (by decide);have d3:=kX (cell ns 15) 3 (by decide);obtain⟨AR,L,has,eif⟩:∃AR:List En,Laid (bG Fv l) AR/\AR.Pairwise (fun a b=>eV a b=true)/\E7 (EH (bU GH (au 1) (ao (ie bK)))) (cn 2 (cK cz (af (au 0) (af (au 1) ax)))) bX [some (.f,.lst (ns.map D.int)),some (.l .f,.lst ((bG Fv l).map D.str)),some (.l .f,.lst []),none,none,none,none,none,none,none,none,none]=.ok (.nx [some (.f,.lst (ns.map D.int)),some (.l .f,.lst ((bG Fv l).map D.str)),some (.l .f,.lst (AR.map eA)),none,none,none,none,none,none,none,none,none]):=by
  have MT:=y6 (bG Fv l);by_cases Hr:bG Fv l=[]
  ·refine⟨[],by rw[Hr];exact we,.nil,?_⟩;rw[O6.mpr Hr]at MT;rw[PZ];generalize (bG Fv l).map D.str=NM at *;simp only[pv,seval,op,MT,OS,fe]
  ·obtain⟨as,hA,hL,low,ea⟩:=Bo ns (bG Fv l) Hr (by rw[kg,hN.len];lia);refine⟨bG eV as,laid hN (by lia) (by lia) hA hL low,cY oT hA.nd,?_⟩;rw[O1.mpr Hr]at MT;have Lj:=cT (bG eV as);generalize (bG Fv l).map D.str=NM at *;generalize (bG eV as).map eA=AR at *;simp only[pv,seval,op,MT,ea,Lj,dX,Pj]
 clear hN;generalize bG Fv l=NM at *;have ag:∀a∈AR,Ag a:=fun a h=>by
  obtain⟨h1,h2,h3,h4,h5⟩:=L.av a h;exact⟨⟨h1,h2⟩,L.nn _ h3,h4,h5⟩
 have MR:=L.nl;have Hs:=L.al;obtain⟨Fp,Nz,ean⟩:=uB D.str NM (by lia) (cell ns 13);obtain⟨Gk,NA,eaa⟩:=uB eA AR (by lia) (cell ns 14);have NB:∀a∈Gk,Ag a:=fun a h=>ag a (NA.mem_iff.mp h)
 have Oh:∀n∈Fp,bS n=true:=fun n h=>L.nn n (Nz.mem_iff.mp h)
 have hnl':=Nz.length_eq;have hal':=NA.length_eq;obtain⟨b,hb⟩:=OR hm3.1;rw[hb]at d3;have hb3:b<3:=by lia
 have wd:=BC Oh NB;have hrl:(row Fp Gk).length<=1000:=by
  unfold row;rw[dM,xj,OC];lia
 have ej:=wc (row Fp Gk) (fun w hw=>(wd w hw).c.ne) (fun w hw=>(wd w hw).l) hrl b hb3;have Of:(txt (C1 NM AR)).length<=40000:=by
  have h1:=oV NM L.nn;have h2:=uz AR ag;rw[uy,dM,dM];show 5+_+_<=_;lia
 have r1:=xc (C2 L.nn ag) Of (C3 NM AR) L (.refl _) I0 (.refl _) has;have r2:=xc (l:=jr b 9 (row Fp Gk)) (ns:=Fp) (as:=Gk) (Bz b _ 9 (fun w hw=>⟨(wd w hw).c,(wd w hw).b⟩) (y7 Oh NB)).1 (by
  have:=uD b (row Fp Gk) 9 (fun w hw=>(wd w hw).l);lia) (xg b _ 9 fun w hw=>(wd w hw).b) L Nz I0 NA has
 have sh:=Bx L;have hj:=uw [32] (aC::NM) 8 (fun x hx=>(Oz.mp hx).elim (fun e=>by rw[e];decide) (fun h=>(cU (L.nn x h)).1)) (by rw[OC];show _+_*1<=_;lia);rw[ux,fU]at hj;have htc:=uy NM AR;have Mu:=PV.flat_strs NM;have Oi:=cT AR;have hf1':=PV.flat_strs Fp;have hf2':=cT Gk;have z1:1+(NM.map D.str).length<=sizeLine:=line_le (by rw[dO];lia);have z2:1+(Fp.map D.str).length<=sizeLine:=line_le (by rw[dO];lia);unfold yz AD;rw[aQ (h:=by rfl)];rw[aD (env':=[some (.f,.lst (ns.map D.int)),some (.l .f,.lst (NM.map D.str)),none,none,none,none,none,none,none,none,none,none]) (by
  generalize NM.map D.str=N1 at *;simp only[pv,seval,op,c0,c1,d0,d1,en,Mu,bh,dX,dY])]
 rw[aD (env':=[some (.f,.lst (ns.map D.int)),some (.l .f,.lst (NM.map D.str)),some (.l .f,.lst []),none,none,none,none,none,none,none,none,none]) (by
  simp only[pv,seval,op])]
 rw[aD eif];rw[aD (env':=[some (.f,.lst (ns.map D.int)),some (.l .f,.lst (NM.map D.str)),some (.f,.lst (AR.map eA)),some (.f,ES NM AR),none,none,none,none,none,none,none,none]) (by
  unfold ES;simp only[pv,seval,op,Mu,Oi] <;> rfl)]
 rw[aD (env':=[some (.f,.lst (ns.map D.int)),some (.l .f,.lst (NM.map D.str)),some (.f,.lst (AR.map eA)),some (.f,ES NM AR),some (.f,.str (aC++txt (HD NM))),none,none,none,none,none,none,none]) (by
  have hj:m8 [32] [.lst (.str [109,111,118,101,115]::NM.map D.str)]=.ok (.f,.str (aC++txt (HD NM))):=hj;generalize aC++txt (HD NM)=TX at *;generalize NM.map D.str=N1 at *;simp only[pv,seval,op,z1,pY,hj])]
 obtain⟨u5,u6,u7,e3⟩:=xl (some (.f,.lst (ns.map D.int))) (some (.l .f,.lst (NM.map D.str))) (some (.f,.lst (AR.map eA))) (some (.f,ES NM AR)) none none none none AR (aC++txt (HD NM)) none none none ag (by
  have:=oV NM L.nn;rw[dM];show 5+_+_<=_;lia)
 rw[<-htc]at e3;rw[aD (env':=[some (.f,.lst (ns.map D.int)),some (.l .f,.lst (NM.map D.str)),some (.f,.lst (AR.map eA)),some (.f,ES NM AR),some (.f,.str (txt (C1 NM AR))),u5,u6,u7,none,none,none,none]) (by
  unfold tH;generalize txt (C1 NM AR)=TX at *;generalize aC++txt (HD NM)=TY at *;simp only[pv,seval,op];exact e3)]
 unfold pV;rw[aD (env':=[some (.f,.lst (ns.map D.int)),some (.l .f,.lst (NM.map D.str)),some (.f,.lst (AR.map eA)),some (.f,ES NM AR),some (.f,.str (txt (C1 NM AR))),u5,u6,u7,none,none,none,none]) (by
  have sh:bM [.tup [.tup (NM.map D.str),.lst (AR.map eA)]]=.ok (.f,.str (txt (C1 NM AR))):=sh;have Hr:GH (.str (txt (C1 NM AR))) (.str (txt (C1 NM AR)))=.ok (.f,.bl false):=by
   unfold GH;rw[show plainD 40 (.str (txt (C1 NM AR)))=true from rfl,Ej,O4];rfl
  generalize txt (C1 NM AR)=TX at *;generalize NM.map D.str=N1 at *;generalize AR.map eA=A1 at *;simp only[pv,seval,op,sh,Mu,Oi,bh,dj,Hr,fe])]
 rw[aD (env':=[some (.f,.lst (ns.map D.int)),some (.l .f,.lst (NM.map D.str)),some (.f,.lst (AR.map eA)),some (.f,ES NM AR),some (.f,.str (txt (C1 NM AR))),u5,u6,u7,some (.l .f,.lst ((aC::Fp).map D.str)),none,none,none]) (by
  have he:addD (.lst [.str [109,111,118,101,115]]) (.lst (Fp.map D.str))=.ok (.l .f,.lst ((aC::Fp).map D.str)):=by
   rw[pY];exact Ow z2
  generalize (aC::Fp).map D.str=N3 at *;generalize Fp.map D.str=N2 at *;generalize NM.map D.str=N1 at *;simp only[pv,seval,op,c13,ean,hf1',bh,dX,dY,he])]
 obtain⟨v5,v6,v7,e2⟩:=BF (some (.f,.lst (ns.map D.int))) (some (.l .f,.lst (NM.map D.str))) (some (.f,.lst (AR.map eA))) (some (.f,ES NM AR)) (some (.f,.str (txt (C1 NM AR)))) none none none Gk (aC::Fp) u5 u6 u7 NB (by rw[OC];lia);rw[aD (env':=[some (.f,.lst (ns.map D.int)),some (.l .f,.lst (NM.map D.str)),some (.f,.lst (AR.map eA)),some (.f,ES NM AR),some (.f,.str (txt (C1 NM AR))),v5,v6,v7,some (.l .f,.lst ((row Fp Gk).map D.str)),none,none,none]) (by
  unfold tG;have e2:i6 _ _ _ _=Res.ok (.nx [_,_,_,_,_,_,_,_,some (.l .f,.lst ((row Fp Gk).map D.str)),_,_,_]):=e2;generalize (row Fp Gk).map D.str=RW at *;generalize (aC::Fp).map D.str=N3 at *;generalize AR.map eA=A1 at *;generalize Gk.map eA=A2 at *;simp only[pv,seval,op,c14,eaa,hf2',bh,dX,dY];exact e2)]
 unfold pU;obtain⟨w1,f1⟩:=uJ Hs (txt (C1 NM AR)) r1 (some (.f,.lst (ns.map D.int))) (some (.l .f,.lst (NM.map D.str))) (some (.f,.lst (AR.map eA))) (some (.f,.str (txt (C1 NM AR)))) v5 v6 v7 (some (.l .f,.lst ((row Fp Gk).map D.str))) none none;obtain⟨w2,f2⟩:=uJ Hs (txt (jr b 9 (row Fp Gk))) r2 (some (.f,.lst (ns.map D.int))) (some (.l .f,.lst (NM.map D.str))) (some (.f,.lst (AR.map eA))) (some (.f,.str (txt (C1 NM AR)))) v5 v6 v7 (some (.l .f,.lst ((row Fp Gk).map D.str))) w1 none;rw[aD (env':=[some (.f,.lst (ns.map D.int)),some (.l .f,.lst (NM.map D.str)),some (.f,.lst (AR.map eA)),some (.f,ES NM AR),some (.f,.str (txt (C1 NM AR))),v5,v6,v7,some (.l .f,.lst ((row Fp Gk).map D.str)),some (.f,.str (txt (jr b 9 (row Fp Gk)))),w2,none]) (by
  unfold tF;generalize (row Fp Gk).map D.str=RW at *;generalize txt (jr b 9 (row Fp Gk))=TJ at *;generalize txt (C1 NM AR)=TX at *;generalize ES NM AR=EC at *;simp only[pv,seval,op,c15,d3,ej,bh,dj,dY,f1,f2])]
 unfold pT;have oe:=BA NM AR;have JM:=qf NM AR;rw[aD (env':=[some (.f,.lst (ns.map D.int)),some (.l .f,.lst (NM.map D.str)),some (.f,.lst (AR.map eA)),some (.f,ES NM AR),some (.f,.str (txt (C1 NM AR))),v5,v6,v7,some (.l .f,.lst ((row Fp Gk).map D.str)),some (.f,.str (txt (jr b 9 (row Fp Gk)))),w2,some (.t [.f,.l .f],ES NM AR)]) (by
  generalize (row Fp Gk).map D.str=RW at *;generalize txt (jr b 9 (row Fp Gk))=TJ at *;generalize txt (C1 NM AR)=TX at *;generalize ES NM AR=EC at *;simp only[pv,seval,op,r1,JM])]
 have Hw:pN "str" (.str (txt (C1 NM AR)))=true:=rfl;generalize (row Fp Gk).map D.str=RW at *;generalize txt (jr b 9 (row Fp Gk))=TJ at *;generalize txt (C1 NM AR)=TX at *;generalize ES NM AR=EC at *;refine⟨.f,?_⟩;simp only[pv,seval,op,oe,sh,Hw,bh,dj] <;> rfl
end LW
namespace FIN
open PySem PySem.Spec PyProof.Rows L2 NX PV LW
theorem BG{l:PySem.W.OpenLaw}{w:World}{K:W.Frag}{h:Heap}{mg:Str->Option Value}{fa f:Addr}{od an:Option Addr}{sl:Array (Option Value)}{oc kV dc pm cd ct:Value}(X:K.In h)(G:h.Ns mainGlobals mg)(hfa:mg "law" = some (.ref fa))
  (aL:PySem.W.nsIn K mainGlobals "law" = some (some (.ref f))) (lL:K.lookup f=some ⟨oc,od,.func (PySem.W.fnOf "law" "law" (ft l7) (dy l7) (defScope l7) .none kV dc pm an cd ct),sl⟩) (cL:PySem.W.codeIn K cd "law" = true) (kL:PySem.W.keepIn K (.ref f)=true)
  (F4:Def K mg "is_letter" gG) (F5:Def K mg "is_figure" gH) (GR:Def K mg "kind_of" j3) (FA:Def K mg "end_of_run" fM) (E8:Def K mg "check_figures" dH) (IA:Def K mg "words" oA) (F6:Def K mg "states_of" gI) (GS:Def K mg "is_name" j4) (IB:Def K mg "rises" oB) (F7:Def K mg "are_moves" gJ) (Gy:Def K mg "is_state" il) (Gz:Def K mg "are_arcs" iq) (GU:Def K mg "tree_of" j5) (GA:Def K mg "is_chart" ir) (GC:Def K mg "parts_of" iu) (F8:Def K mg "number_of" gL) (GV:Def K mg "name_of" j6) (GD:Def K mg "names_of" iw) (FC:Def K mg "show_parts" fN) (HF:Def K mg "arc_of" lW) (FD:Def K mg "read_chart" fO) (FE:Def K mg "show_chart" fP) (Ff:Def K mg "_law_cell_at" d8) (FF:Def K mg "_law_names" fQ) (F9:Def K mg "_law_arcs" gM) (FH:Def K mg "_law_about" fR) (Fm:Def K mg "_law_joined" eU) (E9:Def K mg "_law_is_plain" dI)
  (EB:Gi mg "LONGEST_NAME" (8)) (Ey:Gi mg "MOST_ARCS" (60)) (EA:Gi mg "MOST_FIGURES" (60)) (Et:Gi mg "MOST_MOVES" (5)) (EE:Gi mg "MOST_STATES" (12))
  (Fl:PySem.W.nsIn K mainGlobals "all" = some none) (Hc:PySem.W.nsIn K mainGlobals "bool" = some none) (Fw:PySem.W.nsIn K mainGlobals "int" = some none) (Ei:PySem.W.nsIn K mainGlobals "isinstance" = some none) (Ek:PySem.W.nsIn K mainGlobals "len" = some none) (Fe:PySem.W.nsIn K mainGlobals "list" = some none) (Hz:PySem.W.nsIn K mainGlobals "max" = some none) (EO:PySem.W.nsIn K mainGlobals "range" = some none) (EF:PySem.W.nsIn K mainGlobals "sorted" = some none) (Fj:PySem.W.nsIn K mainGlobals "str" = some none) (EJ:PySem.W.nsIn K mainGlobals "tuple" = some none) (Gw:PySem.W.nsIn K mainGlobals "zip" = some none):
  ∃fd:FuncData,(∀(s:Shared) (v:Value),BindsTo s fd ⟨[v],[]⟩ [("_law_script",v)])/\∀base:Heap,K.In base->base.Ns mainGlobals mg->FnOk l.prog w K mg base Ja 7 fa fd ["_law_script"] (vL K):=by
 have e:=hfa.symm.trans (Sq X G aL);cases e;have F:=wu (st:=l7) lL cL kL;have IC:=O0 X G Fl;have y_bool:=O0 X G Hc;have Jv:=O0 X G Fw;have E6:=O0 X G Ei;have ER:=O0 X G Ek;have Ii:=O0 X G Fe;have My:=O0 X G Hz;have Hh:=O0 X G EO;have GF:=O0 X G EF;have Kv:=O0 X G Fj;have Hi:=O0 X G EJ;have Mz:=O0 X G Gw;refine⟨PySem.W.fnOf "law" "law" (ft l7) (dy l7) (defScope l7) .none kV dc pm an cd ct,fun s v=>.of_eq rfl,fun base KB GB=>?_⟩;have Ga:Ct l.prog w K mg base "is_letter" 1 (spF K bP):=nv F4;have Gb:Ct l.prog w K mg base "is_figure" 1 (spF K bY):=nE F5;have GW:Ct l.prog w K mg base "kind_of" 2 (spF K cH):=qI GR Gb Ga;have Hj:Ct l.prog w K mg base "end_of_run" 3 (spF K bE):=lT FA GW ER;have Gm:Ct l.prog w K mg base "check_figures" 1 (spF K bI):=jb E8 EA ER;have Kl:Ct l.prog w K mg base "words" 4 (spF K ik):=vO IA Gm Hj GW E6 ER Kv;have HG:Ct l.prog w K mg base "states_of" 1 (spF K cR):=nG F6 My;have GX:Ct l.prog w K mg base "is_name" 2 (spF K cX):=qK GS Ga EB IC ER;have ID:Ct l.prog w K mg base "rises" 1 (spF K d7):=vQ IB IC Mz;have HI:Ct l.prog w K mg base "are_moves" 3 (spF K cS):=nI F7 GX ID Et IC ER;have Ij:Ct l.prog w K mg base "is_state" 1 (spF K b7):=oD Gy EE;have Ik:Ct l.prog w K mg base "are_arcs" 2 (spF K dq):=oF Gz Ij ID Ey IC ER;have IS:Ct l.prog w K mg base "tree_of" 1 (spF K dG):=qL GU ER;have Il:Ct l.prog w K mg base "is_chart" 4 (spF K dr):=oH GA Ik HI HG IS ER;have Im:Ct l.prog w K mg base "parts_of" 5 (spF K dt):=oI GC Kl;have HJ:Ct l.prog w K mg base "number_of" 2 (spF K cy):=nK F8 Gb Jv;have GY:Ct l.prog w K mg base "name_of" 3 (spF K cp):=qN GV GX;have Io:Ct l.prog w K mg base "names_of" 4 (spF K du):=oK GD GY Et ER;have Hk:Ct l.prog w K mg base "show_parts" 1 (spF K cA):=lV FC Ii;have Jw:Ct l.prog w K mg base "arc_of" 4 (spF K dS):=tJ HF GY HJ ER;have Hl:Ct l.prog w K mg base "read_chart" 6 (spF K bL):=lX FD Jw Il Io Im Ey ER GF Hi;have Hm:Ct l.prog w K mg base "show_chart" 2 (spF K bM):=lZ FE Hk;have Fg:Ct l.prog w K mg base "_law_cell_at" 1 (spF K ay):=j8 Ff ER;have Hn:Ct l.prog w K mg base "_law_names" 1 (spF K cB):=l5 FF Jv ER Hh GF;have HK:Ct l.prog w K mg base "_law_arcs" 2 (spF K cz):=nL F9 Fg ER Hh GF;have Ho:Ct l.prog w K mg base "_law_about" 1 (spF K bZ):=l6 FH ER;have GN:Ct l.prog w K mg base "_law_joined" 1 (spF K b8):=ky Fm ER Hh;have Gn:Ct l.prog w K mg base "_law_is_plain" 1 (spF K bJ):=jd E9 y_bool Jv E6 ER Ii Hi;exact(AI F Ho HK Fg Gn GN Hn Hl Hm E6 Ii Kv Hi).imp (As uK)
end FIN
def PySem.W.Fast.tw16934188126345845534:=0
def PySem.W.Fast.tw9386802525966568953:=0
def PySem.W.Fast.tw8423412886211272803:=0
def PySem.W.Fast.tw17922913307363589500:=0
def PySem.W.Fast.tw13952843455160567191:=0
def PySem.W.Fast.tw1274402665391857124:=0
def PySem.W.Fast.tw5812671748824651659:=0
def PySem.W.Fast.tw11786196967589942032:=0
def PySem.W.Fast.tw12368588849591012127:=0
def PySem.W.Fast.tw12568299135751872754:=0
def PySem.W.Fast.tw18383297075095025984:=0
def PySem.W.Fast.tw8821332922514703140:=0
def PySem.W.Fast.tw2953269555019629324:=0
def PySem.W.Fast.tw11705446861715069186:=0
def PySem.W.Fast.tw12614498434455107485:=0
def PySem.W.Fast.tw13695140281433958752:=0
def PySem.W.Fast.tw7783350583950804046:=0
def PySem.W.Fast.tw6147451217971253984:=0
def PySem.W.Fast.tw6192247493611854630:=0
def PySem.W.Fast.tw4201922321991961537:=0
def PySem.W.Fast.tw5499771573367487694:=0
def PySem.W.Fast.tw248867226524057496:=0
def PySem.W.Fast.tw10191405733797151172:=0
def PySem.W.Fast.tw11539160314472527954:=0
open PySem PySem.W PyProof.Rows
set_option maxRecDepth 100000 in
set_option maxHeartbeats 0 in
theorem PySem.Challenge.cw_netfinder_k04_charts_read_and_shown_holds : PySem.Challenge.rw_netfinder_k04_charts_read_and_shown.Holds := by
  w_on; o_law; k_head; (case hw => w_witness2)
  k_fill
  refine PV.DU (l := PySem.Challenge.rw_netfinder_k04_charts_read_and_shown) (k := 7) (x := "_law_script") rfl rfl ⟨rfl, by decide, by decide⟩ (fun w h Y => PySem.W.kIn_of Y) ?F
  case F =>
    intro w mg fa h KX G LR
    refine' FIN.BG KX G LR ?aL ?lL ?cL ?kL ?F4 ?F5 ?GR ?FA ?E8 ?IA ?F6 ?GS ?IB ?F7 ?Gy ?Gz ?GU ?GA ?GC ?F8 ?GV ?GD ?FC ?HF ?FD ?FE ?Ff ?FF ?F9 ?FH ?Fm ?E9 ?EB ?Ey ?EA ?Et ?EE ?Fl ?Hc ?Fw ?Ei ?Ek ?Fe ?Hz ?EO ?EF ?Fj ?EJ ?Gw
    (case aL => k_is); (case lL => k_is); (case cL => k_is); (case kL => k_is)
    iterate 28 (refine' PV.Av KX G ?a ?l ?c ?k; (case a => k_is); (case l => k_is); (case c => k_is); (case k => k_is))
    (case EB => (refine' PV.sW KX G ?a; (case a => k_is)))
    (case Ey => (refine' PV.sW KX G ?a; (case a => k_is)))
    (case EA => (refine' PV.sW KX G ?a; (case a => k_is)))
    (case Et => (refine' PV.sW KX G ?a; (case a => k_is)))
    (case EE => (refine' PV.sW KX G ?a; (case a => k_is)))
    iterate 12 k_is
