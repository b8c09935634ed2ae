import PyProof.Rows.All
import Wide.All
import OpenK.AllK
import Wide.FinOn
import Lean
import PyProof.EqAt
import PyProof.EqKinds
import PyProof.TupleCall
import PySem.Challenge.RW_netfinder_k60_cases_listed
set_option Elab.async false
set_option linter.all false
set_option maxRecDepth 100000
set_option compiler.extract_closed false
set_option bootstrap.genMatcherCode false
noncomputable section
theorem Zz{a b:Prop}(x:a)(y:b):a∧b:=⟨x,y⟩
def Mx:=@PySem.wpAny_bind
def My:=@List.mem_cons_self
def Mz:=@List.getElem?_eq_getElem
def MA:=@List.length_map
def MB:=@PySem.Heap.get?_push_of_some
def MC:=@List.size_toArray
def MD:=@PySem.wpAny_pure
def ME:=@decide_eq_true_eq
def MF:=@List.getElem?_eq_some_iff
def MG:=@Bool.and_eq_true
def MH:=@Nat.le_refl
def MI:=@List.mem_append_right
def MJ:=@List.mem_cons_of_mem
def MK:=@PySem.Heap.lt_size
def ML:=@Nat.lt_of_lt_of_le
def MM:=@if_pos
def MN:=@List.mem_cons
def MO:=@if_neg
def MP:=@Bool.false_ne_true
def MQ:=@List.getD_eq_getElem?_getD
def MR:=@PySem.Heap.get?_push_size
def MS:=@List.map_cons
def MT:=@Nat.ne_of_lt
def MU:=@List.mem_append_left
def MV:=@Bool.eq_iff_iff
def MW:=@List.getElem?_set_self
def MY:=@List.length_cons
def MZ:=@decide_eq_false
def M0:=@List.getElem?_set_ne
def M1:=@List.mem_append
def M3:=@List.all_eq_true
def M4:=@Nat.le_trans
def M5:=@List.append_nil
def M6:=@decide_eq_true
def M7:=@List.eq_nil_of_length_eq_zero
def M8:=@List.length_range
def M9:=@PySem.Heap.get?_update_other
def Na:=@Option.some.inj
def Nb:=@beq_iff_eq
def Nc:=@Int.eq_ofNat_of_zero_le
def Nf:=@List.nodup_cons
def Ng:=@PySem.PassesOwn.never
def Nh:=@List.getElem?_map
def Ni:=@List.map_map
def Nj:=@PySem.W.mg_none_of
def Nk:=@List.map_append
def Nl:=@beq_self_eq_true
def Nm:=@Int.toNat_natCast
def Nn:=@List.append_assoc
def Np:=@decide_eq_false_iff_not
def Nq:=@Nat.zero_le
def Nr:=@PySem.sizeLine_eq
def Nt:=@List.length_append
def Nu:=@List.mem_singleton
def Nv:=@PySem.wpAny_mono
def Nw:=@Option.map_eq_some_iff
def Nx:=@List.mem_range
def Ny:=@List.length_set
def Nz:=@List.lookup_cons
def NA:=@Array.length_toList
def NB:=@Option.isSome_iff_exists
def NC:=@PySem.wpAny_newObj_type
def ND:=@List.nodup_append
def NF:=@PySem.W.mg_of
def NG:=@Option.bind_eq_some_iff
def NH:=@PySem.W.kia_one
def NI:=@List.mem_of_getElem?
def NJ:=@List.map_nil
def NK:=@List.mem_map
def NL:=@PyProof.Rows.slot_tuple_getitem
def NM:=@List.replicate_succ
def NN:=@List.map_congr_left
def NO:=@List.length_pos_iff
def NP:=@Bool.not_true
def NQ:=@congrArg
def NR:=@Bool.false_eq_true
def NS:=@List.getElem_mem
def NT:=@PySem.wpAny_typeNameOfWhole_keyiter
def NU:=@PySem.wpAny_callSpecial?_slot
def NV:=@PySem.F.slot_dict_keyiterator_next
def NW:=@PySem.wpAny_truthy_bool
def NY:=@List.flatten_cons
def NZ:=@of_decide_eq_true
def N0:=@PySem.mem_of_lookup
def N1:=@PyProof.Rows.KeyOrd.kle_refl
def N2:=@Ne.symm
def N3:=@PySem.wpAny_execs_cons
def N4:=@PySem.wpAny_call_entry
def N5:=@PySem.F.plain_max_loop
def N6:=@List.any_eq_true
def N7:=@Nat.lt_irrefl
def N8:=@PySem.wpAny_holding
def N9:=@Bool.not_false
def Oa:=@beq_eq_false_iff_ne
def Ob:=@List.filterMap_cons
def Oc:=@List.length_take
def Od:=@List.mem_filterMap
def Oe:=@PySem.wpAny_Call_Name_kw
def Of:=@List.zip_cons_cons
def Og:=@Int.emod_lt_of_pos
def Oh:=@List.pairwise_cons
def Oi:=@PyProof.Rows.callWith_type1
def Oj:=@List.foldl_cons
def Ol:=@List.mem_iff_getElem?
def Om:=@List.find?_cons
def Oo:=@List.set_set
def Oq:=@List.ext_getElem?
def Ot:=@Bool.and_self
def Ou:=@PySem.Calls.call_function_entry
def Ov:=@List.nodup_nil
def Ow:=@Nat.mul_le_mul
def Ox:=@Nat.lt_succ_self
def Oy:=@Nat.le_succ
def Oz:=@PySem.F.args_tuple_add_2
def OA:=@PySem.wpAny_typeOf
def OB:=@PySem.call_meets
def OC:=@List.all_map
def OD:=@List.mem_filter
def OE:=@PySem.wpAny_execs_nil
def OF:=@PySem.wpAny_passesOwn
def OG:=@PySem.F.entry_tuple_add
def OH:=@if_true
def OI:=@Int.emod_nonneg
def OJ:=@List.nil_append
def OK:=@PySem.F.slot_tuple_add
def OL:=@List.find?_cons_of_pos
def OM:=@List.find?_cons_of_neg
def ON:=@PyProof.Rows.KeyOrd.kle_of_klt
def OO:=@PySem.wpAny_dictEntries
def OP:=@if_false
def OQ:=@PySem.wpAny_tryCatch
def OR:=@Array.getElem?_toList
def OS:=@PySem.Heap.get?_update_self
def OT:=@PySem.F.args_dict_keyiterator_next_1
def OU:=@Nat.zero_add
def OV:=@List.length_filter_le
def OW:=@List.length_pos_iff_exists_mem
def OX:=@List.take_length
def OY:=@PyProof.Rows.KeyOrd.kle_trans
def OZ:=@PySem.F.entry_dict_keyiterator_next
def O0:=@Nat.succ_ne_zero
def O1:=@List.not_mem_nil
def O2:=@PySem.Around.under_plainId
def O3:=@PySem.codeAny_call_builtin
def O4:=@PySem.W.looks_findIn
def O5:=@PySem.Paired.length
def O6:=@List.cons.inj
def O7:=@List.dropLast_cons_of_ne_nil
def O8:=@PySem.typeIs_int
def O9:=@PySem.W.hideAll_get
def Pa:=@List.range_succ
def Pb:=@List.toList_toArray
def Pc:=@Bool.or_eq_true
def Pd:=@PySem.codeAny_builtin
def Pe:=@Array.getD_eq_getD_getElem?
def Pf:=@PySem.W.looks_mroIn
def Pg:=@PySem.F.slot_int_rmul
def Ph:=@PySem.Calls.Name_function_global
def Pj:=@PySem.F.excBase_ValueError
def Pk:=@PySem.tupleKind_room_in1
def Pl:=@List.any_map
def Pm:=@PySem.F.args_tuple_mul_2
def Pn:=@List.getElem?_eq_none_iff
def Po:=@Array.getElem?_eq_getElem
def Pp:=@Classical.byContradiction
def Pq:=@List.drop_eq_getElem_cons
def Pr:=@PySem.wpAny_binaryOp_repeat_ref
def Pt:=@List.take_add_one
def Pu:=@bne_self_eq_false
def Pw:=@PySem.wpAny_comprehension_free
def Px:=@Nat.lt_succ_of_lt
def Py:=@Option.isSome_map
def Pz:=@PySem.F.entry_tuple_mul
def PD:=@List.filterMap_cons_none
def PF:=@List.filterMap_cons_some
def PH:=@PySem.wpAny_letGo
def PJ:=@PySem.plainId_quiet
def PM:=@List.not_lt
def PN:=@List.all_cons
def PQ:=@PySem.F.plainAttrs_list
def PR:=@List.getElem?_cons_succ
def PU:=@List.filter_cons_of_pos
def PY:=@List.filter_cons_of_neg
def PZ:=@PySem.noFill_tuple_add
def P0:=@List.length_drop
def P4:=@Option.getD_none
def P5:=@PySem.F.entry_max_loop
def P6:=@List.cons_ne_nil
def P7:=@PySem.F.slot_tuple_mul
def P8:=@List.mem_flatMap
def P9:=@PySem.W.cellsFrom_some
def Qc:=@List.take_of_length_le
def Qd:=@List.Perm.append_right
def Qe:=@Nat.le_of_lt
def Qg:=@PySem.codeAny_mono
def Qh:=@List.of_mem_zip
def Qi:=@PySem.concat_meets
def Qj:=@PySem.wpAny_updateSeq
def Qk:=@List.length_nil
def Ql:=@PySem.wpAny_dictEpoch
def Qn:=@Nat.mul_comm
def Qo:=@List.Perm.append_left
def Qp:=@List.perm_append_comm
def Qq:=@Classical.choose_spec
def Qr:=@Option.map_some
def Qs:=@List.filter_nil
def Qt:=@PySem.typeIs_str
def Qv:=@PySem.wpAny_Expr_any
def Qw:=@PySem.Heap.size_push
def Qx:=@PySem.wpAny_seqItems
def Qy:=@List.take_zero
def Qz:=@Bool.and_false
def QD:=@List.take_succ_cons
def QF:=@List.drop_succ_cons
def QH:=@List.flatMap_append
def QL:=@PySem.W.of_hideAll
def QM:=@Array.append_assoc
def QQ:=@PySem.W.callWith_K
def QR:=@PySem.wpAny_standAt
def QU:=@PySem.seq_tuple_add
def QZ:=@PySem.wpAny_newList
def Q0:=@of_decide_eq_false
def Q1:=@List.any_cons
def Q2:=@PySem.wpAny_attempt
def Q4:=@List.getElem_range
def Sg:=@bne_iff_ne
def SF:=@or_false
namespace L2
open PySem PySem.Spec PyProof.Rows
def IsTupN(h:Heap)(a:Addr)(items:Array Value):Prop:=∃o,h.get? a=some o/\o.cls=.type "tuple"/\(∃n,o.data=.seq items n)/\o.dict=none
theorem IsTupN.tup{h:Heap}{a:Addr}{items:Array Value}(p:IsTupN h a items):IsTup h a items:=by
 obtain⟨o,e,c,n,_⟩:=p;exact⟨o,e,c,n⟩
theorem IsTupN.new(h:Heap)(items:Array Value):IsTupN (h.push {cls:=.type "tuple",data:=.seq items}) h.objs.size items:=⟨_,MR _ rfl,rfl,⟨_,rfl⟩,rfl⟩
abbrev Key:=Sum Int Str
def nS:Key->Value->Bool
 | .inl k,v=>Value.isInt k v
 | .inr x,v=>Value.isStrOf x v
def keyH(w:World):Key->Int
 | .inl k=>hashInt k
 | .inr x=>hashStr w x
theorem bD:∀{k:Key}{v:Value},nS k v=true->(∃i t,k=Sum.inl i/\v=Value.int i t)\/(∃x t,k=Sum.inr x/\v=Value.str x t)
 | .inl i,v,h=>by
  obtain⟨t,e⟩:=Value.isInt_shape (k:=i) (v:=v) h;exact .inl ⟨i,t,rfl,e⟩
 | .inr x,v,h=>by
  obtain⟨t,e⟩:=Value.isStrOf_shape (x:=x) (v:=v) h;exact .inr ⟨x,t,rfl,e⟩
theorem oR(i:Int)(t:Tok):nS (.inl i) (.int i t)=true:=by simp[nS,Value.isInt]
theorem oS(x:Str)(t:Tok):nS (.inr x) (.str x t)=true:=by simp[nS,Value.isStrOf]
theorem wZ(a b:Int):decide ((Sum.inl a:Key)=Sum.inl b)=(a==b):=by
 by_cases e:a=b
 ·subst e;simp
 ·have h:¬ (Sum.inl a:Key)=Sum.inl b:=fun q=>e (Sum.inl.inj q)
  rw[MZ h];exact(Oa.mpr e).symm
theorem w4(a b:Str):decide ((Sum.inr a:Key)=Sum.inr b)=decide (a=b):=by
 by_cases e:a=b
 ·subst e;simp
 ·have h:¬ (Sum.inr a:Key)=Sum.inr b:=fun q=>e (Sum.inr.inj q)
  rw[MZ h,MZ e]
theorem w5(a:Int)(b:Str):decide ((Sum.inl a:Key)=Sum.inr b)=false:=MZ (fun q=>nomatch q)
theorem w6(a:Str)(b:Int):decide ((Sum.inr a:Key)=Sum.inl b)=false:=MZ (fun q=>nomatch q)
noncomputable def mixKind(prog:Program)(w:World):PySem.KeyKind prog w Key where
 is:=nS
 hash:=keyH w
 inj:=fun v a b ha hb=>by
  rcases bD ha with⟨i,t,rfl,rfl⟩|⟨x,t,rfl,rfl⟩
  ·rcases bD hb with⟨j,u,rfl,e⟩|⟨y,u,rfl,e⟩
   ·injection e with e1 _;rw[e1]
   ·exact nomatch e
  ·rcases bD hb with⟨j,u,rfl,e⟩|⟨y,u,rfl,e⟩
   ·exact nomatch e
   ·injection e with e1 _;rw[e1]
 byValue:=fun k v h=>by
  rcases bD h with⟨i,t,rfl,rfl⟩|⟨x,t,rfl,rfl⟩ <;> rfl
 pyHash:=fun hv h=>by
  rcases bD hv with⟨i,t,rfl,rfl⟩|⟨x,t,rfl,rfl⟩
  ·exact wpAny_pyHash_int h
  ·exact wpAny_pyHash_str h
 eqBool:=fun hu hv h=>by
  rcases bD hu with⟨i,t,rfl,rfl⟩|⟨x,t,rfl,rfl⟩
  ·rcases bD hv with⟨j,u,rfl,rfl⟩|⟨y,u,rfl,rfl⟩
   ·rw[wZ]at h;exact wpAny_eqBool_int h
   ·rw[w5]at h;exact SeqAt.EqAt.int_str i t y u _ _ _ _ h
  ·rcases bD hv with⟨j,u,rfl,rfl⟩|⟨y,u,rfl,rfl⟩
   ·rw[w6]at h;exact SeqAt.EqAt.str_int x t j u _ _ _ _ h
   ·rw[w4]at h;exact wpAny_eqBool_str h
 «strs»:=fun k x t v h=>by
  rcases bD h with⟨i,u,rfl,e⟩|⟨y,u,rfl,e⟩
  ·exact nomatch e
  ·injection e with e1 _;subst e1;cases v <;> rfl
theorem lP(prog:Program)(w:World)(i:Int)(t:Tok):(mixKind prog w).is (.inl i) (.int i t)=true:=oR i t
theorem lQ(prog:Program)(w:World)(x:Str)(t:Tok):(mixKind prog w).is (.inr x) (.str x t)=true:=oS x t
inductive V where
 |non|bl (b:Bool)|int (i:Int)|str (x:Str)|byt (b:Array UInt8)|flt (b:UInt64)|ref (a:Addr)|ty (n:String)
 deriving DecidableEq
noncomputable def RelV:V->Value->Prop
 | .non,u=>u=Value.none
 | .bl b,u=>u=Value.bool b
 | .int i,u=>∃t,u=Value.int i t
 | .str x,u=>∃t,u=Value.str x t
 | .byt b,u=>∃t,u=Value.bytes b t
 | .flt b,u=>∃t,u=Value.float b t
 | .ref a,u=>u=Value.ref a
 | .ty n,u=>u=Value.type n
abbrev Vals:List V->List Value->Prop:=Paired RelV
theorem Vals.length{xs:List V}{us:List Value}(r:Vals xs us):xs.length=us.length:=O5 r
theorem Vals.get:∀{xs:List V}{us:List Value}{i:Nat}{x:V},Vals xs us->xs[i]?=some x->∃u,us[i]?=some u/\RelV x u
 |_,_,_,_,.nil,e=>by simp at e
 |_,_,0,_,.cons r _,e=>by simp at e;subst e;exact⟨_,rfl,r⟩
 |_,_,i+1,x,.cons _ t,e=>by
  obtain⟨u,h1,h2⟩:=Vals.get (i:=i) (x:=x) t (by simpa using e);exact⟨u,by simpa using h1,h2⟩
theorem Vals.append:∀{xs ys:List V}{us ws:List Value},Vals xs us->Vals ys ws->Vals (xs++ys) (us++ws)
 |_,_,_,_,.nil,s=>s
 |_,_,_,_,.cons r t,s=>.cons r (Vals.append t s)
theorem Vals.take:∀{xs:List V}{us:List Value}(n:Nat),Vals xs us->Vals (xs.take n) (us.take n)
 |_,_,0,_=>.nil
 |_,_,_+1,.nil=>.nil
 |_,_,n+1,.cons r t=>.cons r (Vals.take n t)
theorem Vals.drop:∀{xs:List V}{us:List Value}(n:Nat),Vals xs us->Vals (xs.drop n) (us.drop n)
 |_,_,0,r=>r
 |_,_,_+1,.nil=>.nil
 |_,_,n+1,.cons _ t=>Vals.drop n t
theorem Vals.none_of:∀{xs:List V}{us:List Value}{i:Nat},Vals xs us->xs[i]?=none->us[i]?=none:=fun{xs us i} r e=>by
 have h1:=r.length;have h2:xs.length<=i:=Pn.mp e;exact Pn.mpr (by lia)
def RelO:Option V->Option Value->Prop
 |some v,some u=>RelV v u
 |none,none=>True
 |_,_=>False
def KV{κ:Type}:List (κ×V)->List (κ×Value)->Prop:=Paired fun(p:κ×V) (q:κ×Value)=>p.1=q.1/\RelV p.2 q.2
def kV:Key->V
 | .inl i=>.int i
 | .inr x=>.str x
inductive HO where
 |lst (xs:List V)
 |tup (xs:List V)
 |dK (BV:List (Key×V))|dT (BV:List (List Key×V))
 |set (S:Int->Bool) (n:Nat)
 |ins (C dx:Addr) (fs:List (Str×V))
 |own (x:Addr)
 |xd (fs:List (Str×V))
 |met (f x:Addr)
 |rng (lo hi:Int)
 |frz (o:Obj) (u:HO)
 |tbl (ps:Array Value)
 |ext (φ:Heap->Prop)
abbrev Hp:=Addr->Option HO
def upd(H:Hp)(a:Addr)(o:HO):Hp:=fun b=>if b=a then some o else H b
theorem br{H:Hp}{a:Addr}{o:HO}:upd H a o a=some o:=by unfold upd;rw[MM rfl]
theorem aJ{H:Hp}{a b:Addr}{o:HO}(h:b≠a):upd H a o b=H b:=by unfold upd;rw[MO h]
theorem zk{H:Hp}{a b:Addr}{o u:HO}(h:H a=some o)(h':H b=some u)(d:o≠u):a≠b:=by
 intro e;subst e;rw[h]at h';exact d (Na h')
theorem bM{H:Hp}{a b:Addr}{o:HO}(h:H a=some o)(h':H b=none):a≠b:=by
 intro e;subst e;rw[h]at h';cases h'
section
variable(P:Program)(w:World)
noncomputable def ObjOk(H:Hp)(h:Heap)(a:Addr):HO->Prop
 | .lst xs=>xs.length<=sizeLine/\∃(BR:List Value) (n:Nat),Vals xs BR/\h.get? a=some {cls:=.type "list",data:=.seq BR.toArray n}
 | .tup xs=>xs.length<=sizeLine/\∃BR:List Value,Vals xs BR/\IsTupN h a BR.toArray
 | .dK BV=>BV.length<=sizeLine/\(a==sysModules)=false/\∃vs,KV BV vs/\h.DictOf (mixKind P w) a vs
 | .dT BV=>BV.length<=sizeLine/\(a==sysModules)=false/\∃xs:List (List Key×Addr×Value),
   Paired (fun(p:List Key×V) (q:List Key×Addr×Value)=>p.1=q.1/\H q.2.1=some (.tup (p.1.map kV))/\RelV p.2 q.2.2) BV xs/\
   ∃o es ep,h.get? a=some o/\o.ExactDict/\o.data=.dict es ep/\es.toList=xs.map (entryOfKey (tupleKind (mixKind P w)))/\(xs.map (·.1)).Nodup
 | .set S n=>h.SetOf (intKind P w) a S n
 | .ins C dx fs=>H dx=some (.own a)/\fs.length<=1000/\dx≠a/\h.get? a=some (PySem.W.instObj C dx)/\
   ∃mA,h.Ns1 dx mA/\(∀f,RelO (fs.lookup f) (mA f))/\PySem.Within mA (fs.map (·.1))
 | .own _=>∃o,h.get? a=some o
 | .xd fs=>∃mA,h.Ns1 a mA/\∀f,RelO (fs.lookup f) (mA f)
 | .rng lo hi=>∃t u v,h.get? a=some {cls:=.type "range",data:=.fields #[.int lo t,.int hi u,.int 1 v]}
 | .frz o u=>h.get? a=some o/\ObjOk H h a u
 | .tbl ps=>h.get? a=some {cls:=.none,data:=.fields ps}
 | .met f x=>h.get? a=some (PySem.W.methodObj (.ref f) (.ref x))
 | .ext φ=>φ h/\(∃o,h.get? a=some o)/\∀h1 h2:Heap,φ h1->(∀o,h1.get? a=some o->h2.get? a=some o)->φ h2
def HOk(H:Hp)(h:Heap):Prop:=∀a o,H a=some o->ObjOk P w H h a o
end
section
variable{P:Program}{w:World}{H H':Hp}{h h':Heap}{a:Addr}{o:HO}
theorem ObjOk.lt(x:ObjOk P w H h a o):a<h.objs.size:=by
 cases o with
 |lst xs=>obtain⟨_,_,_,_,e⟩:=x;exact MK e
 |tup xs=>obtain⟨_,_,_,p⟩:=x;exact p.tup.lt
 |dK BV=>obtain⟨_,_,_,_,o,_,_,e,_⟩:=x;exact MK e
 |dT BV=>obtain⟨_,_,_,_,o,_,_,e,_⟩:=x;exact MK e
 |set S n=>obtain⟨o,_,_,_,e,_⟩:=x;exact MK e
 |ins C dx fs=>obtain⟨_,_,_,e,_⟩:=x;exact MK e
 |own y=>obtain⟨_,e⟩:=x;exact MK e
 |xd fs=>obtain⟨_,⟨_,_,_,e,_⟩,_⟩:=x;exact MK e
 |rng lo hi=>obtain⟨_,_,_,e⟩:=x;exact MK e
 |frz ob u=>obtain⟨e,_⟩:=x;exact MK e
 |tbl ps=>exact MK (show h.get? a=some _ from x)
 |met f y=>exact MK (show h.get? a=some _ from x)
 |ext φ=>obtain⟨_,⟨_,e⟩,_⟩:=x;exact MK e
theorem Paired.mapP{α β:Type}{F G:α->β->Prop}:∀{l₁:List α}{l₂:List β},Paired F l₁ l₂->(∀a b,F a b->G a b)->Paired G l₁ l₂
 |_,_,.nil,_=>.nil
 |_,_,.cons r t,f=>.cons (f _ _ r) (Paired.mapP t f)
theorem ObjOk.stay(x:ObjOk P w H h a o)(k:∀b u,(b=a\/H b=some (.own a))->h.get? b=some u->h'.get? b=some u)
  (ho:∀b,H b=some (.own a)->H' b=some (.own a)) (ht:∀b xs,H b=some (.tup xs)->H' b=some (.tup xs)):ObjOk P w H' h' a o:=by
 induction o with
 |lst xs=>obtain⟨z,BR,n,r,e⟩:=x;exact⟨z,BR,n,r,k _ _ (.inl rfl) e⟩
 |tup xs=>obtain⟨z,BR,r,ob,e,c⟩:=x;exact⟨z,BR,r,ob,k _ _ (.inl rfl) e,c⟩
 |dK BV=>obtain⟨z,y,vs,r,ob,es,ep,e,c⟩:=x;exact⟨z,y,vs,r,ob,es,ep,k _ _ (.inl rfl) e,c⟩
 |dT BV=>
  obtain⟨z,y,xs,r,ob,es,ep,e,c⟩:=x;exact⟨z,y,xs,Paired.mapP r fun p q z=>⟨z.1,ht _ _ z.2.1,z.2.2⟩,ob,es,ep,k _ _ (.inl rfl) e,c⟩
 |set S n=>obtain⟨ob,es,ep,t,e,c⟩:=x;exact⟨ob,es,ep,t,k _ _ (.inl rfl) e,c⟩
 |ins C dx fs=>
  obtain⟨d,z,ne,e,mA,⟨od,es,ep,e2,c⟩,r⟩:=x;exact⟨ho _ d,z,ne,k _ _ (.inl rfl) e,mA,⟨od,es,ep,k _ _ (.inr d) e2,c⟩,r⟩
 |own y=>obtain⟨ob,e⟩:=x;exact⟨ob,k _ _ (.inl rfl) e⟩
 |xd fs=>obtain⟨mA,⟨od,es,ep,e,c⟩,r⟩:=x;exact⟨mA,⟨od,es,ep,k _ _ (.inl rfl) e,c⟩,r⟩
 |rng lo hi=>obtain⟨t,u,v,e⟩:=x;exact⟨t,u,v,k _ _ (.inl rfl) e⟩
 |frz ob u ih=>obtain⟨e,q⟩:=x;exact⟨k _ _ (.inl rfl) e,ih q⟩
 |tbl ps=>
  have e:h.get? a=some {cls:=.none,data:=.fields ps}:=x;show h'.get? a=some {cls:=.none,data:=.fields ps};exact k a _ (.inl rfl) e
 |met f y=>
  have e:h.get? a=some (PySem.W.methodObj (.ref f) (.ref y)):=x;show h'.get? a=some (PySem.W.methodObj (.ref f) (.ref y));exact k a _ (.inl rfl) e
 |ext φ=>obtain⟨p,⟨o,e⟩,st⟩:=x;exact⟨st _ _ p fun o q=>k _ _ (.inl rfl) q,⟨o,k _ _ (.inl rfl) e⟩,st⟩
theorem HOk.lt(x:HOk P w H h)(e:H a=some o):a<h.objs.size:=(x a o e).lt
theorem HOk.fresh(x:HOk P w H h)(e:h.objs.size<=a):H a=none:=by
 cases q:H a with
 |none=>rfl
 |some u=>exact absurd (ML (x.lt q) e) (N7 _)
theorem HOk.kept(x:HOk P w H h)(k:∀b u,h.get? b=some u->h'.get? b=some u):HOk P w H h':=fun a o e=>
 (x a o e).stay (fun b u _ q=>k b u q) (fun _ q=>q) fun _ _ q=>q
theorem HOk.laid(x:HOk P w H h)(k:∀b u,h.get? b=some u->h'.get? b=some u)(hp:h.objs.size<=a)(new:ObjOk P w (upd H a o) h' a o):HOk P w (upd H a o) h':=fun b u e=>by
 have hn:=x.fresh hp;by_cases hb:b=a
 ·subst hb;rw[br]at e;cases e;exact new
 ·rw[aJ hb]at e;exact(x b u e).stay (fun c v _ q=>k c v q) (fun c q=>by rw[aJ (bM q hn)];exact q) fun c xs q=>by rw[aJ (bM q hn)];exact q
end
def Rd(H:Hp)(a:Addr)(u:HO):Prop:=H a=some u\/∃o,H a=some (.frz o u)
theorem Rd.ok{P:Program}{w:World}{H:Hp}{h:Heap}{a:Addr}{u:HO}(r:Rd H a u)(x:HOk P w H h):ObjOk P w H h a u:=by
 rcases r with r|⟨o,r⟩
 ·exact x a u r
 ·obtain⟨_,q⟩:=x a _ r;exact q
def Jx:Option HO->Prop
 |some (.lst _)=>True
 |some (.dK _)=>True
 |some (.dT _)=>True
 |some (.set _ _)=>True
 |some (.ins _ _ _)=>True
 |some (.ext _)=>True
 |_=>False
section
variable{P:Program}{w:World}{H:Hp}{h h':Heap}{x e:Addr}{o':HO}
theorem HOk.write(ok:HOk P w H h)(mu:Jx (H x))(he:e=x\/H e=some (.own x))(k:∀b u,b≠e->h.get? b=some u->h'.get? b=some u)(Jd:∃u,h'.get? e=some u)
  (new:ObjOk P w (upd H x o') h' x o'):HOk P w (upd H x o') h':=fun b u q=>by
 have Fq:∀c y,H c=some (.own y)->c≠x:=fun c y r z=>by subst z;rw[r]at mu;exact mu
 have ntup:∀c xs,H c=some (.tup xs)->c≠x:=fun c xs r z=>by subst z;rw[r]at mu;exact mu
 by_cases hb:b=x
 ·subst hb;rw[br]at q;cases q;exact new
 ·rw[aJ hb]at q;by_cases hbe:b=e
  ·have q':H b=some (.own x):=by
    rcases he with z|z
    ·exact absurd (hbe.trans z) hb
    ·rw[hbe];exact z
   rw[q]at q';cases q';obtain⟨v,hv⟩:=Jd;exact⟨v,by rw[hbe];exact hv⟩
  ·refine(ok b u q).stay (fun c v hc r=>k c v ?_ r) (fun c r=>by rw[aJ (Fq c b r)];exact r) fun c xs r=>by rw[aJ (ntup c xs r)];exact r
   rcases hc with rfl|hc
   ·exact hbe
   ·rintro rfl;rcases he with z|z
    ·exact Fq c b hc z
    ·rw[hc]at z;cases z;exact hb rfl
end
structure Un(fs ex:List Addr)(H H':Hp)(h h':Heap):Prop where
 keep:∀b o,h.get? b=some o->H b=none->b∉fs->b∉ex->h'.get? b=some o
 slot:∀b o,h.get? b=some o->H b=none->b∈fs->b∉ex->∃sl,h'.get? b=some {o with slots:=sl}
 free:∀b o,h.get? b=some o->H b=none->b∉ex->H' b=none
 there:∀b o,h.get? b=some o->b∉ex->∃o',h'.get? b=some o'
 tups:∀b xs,H b=some (.tup xs)->H' b=some (.tup xs)
 frzs:∀b o u,H b=some (.frz o u)->H' b=some (.frz o u)
 tbls:∀b ps,H b=some (.tbl ps)->∃more,H' b=some (.tbl (ps++more))
section
variable{fs KU ex LI:List Addr}{H H1 H2:Hp}{h h1 h2 h':Heap}{a x e:Addr}{o:HO}
theorem Un.any(u:Un fs ex H H1 h h1){b:Addr}{ob:Obj}(q:h.get? b=some ob)(n:H b=none)(hx:b∉ex):∃sl,h1.get? b=some {ob with slots:=sl}:=by
 by_cases hb:b∈fs
 ·exact u.slot b ob q n hb hx
 ·exact⟨ob.slots,u.keep b ob q n hb hx⟩
theorem Un.kept(k:∀b u,h.get? b=some u->h'.get? b=some u):Un fs ex H H h h':=
 ⟨fun b ob q _ _ _=>k b ob q,fun b ob q _ _ _=>⟨ob.slots,k b ob q⟩,fun _ _ _ n _=>n,fun b ob q _=>⟨ob,k b ob q⟩,fun _ _ q=>q,fun _ _ _ q=>q,fun _ ps q=>⟨#[],by rw[q];simp⟩⟩
theorem Un.refl:Un fs ex H H h h:=Un.kept fun _ _ q=>q
theorem Un.laid(k:∀b u,h.get? b=some u->h'.get? b=some u)(hp:h.objs.size<=a)(hn:H a=none):Un fs ex H (upd H a o) h h' where
 keep:=fun b u q _ _ _=>k b u q
 slot:=fun b u q _ _ _=>⟨u.slots,k b u q⟩
 free:=fun b u q n _=>by rw[aJ (MT (ML (MK q) hp))];exact n
 there:=fun b u q _=>⟨u,k b u q⟩
 tups:=fun b xs q=>by rw[aJ (bM q hn)];exact q
 frzs:=fun b u xs q=>by rw[aJ (bM q hn)];exact q
 tbls:=fun b ps q=>⟨#[],by rw[aJ (bM q hn),q];simp⟩
theorem Un.write(mu:Jx (H x))(he:e=x\/H e=some (.own x))(k:∀b u,b≠e->h.get? b=some u->h'.get? b=some u)(Jd:∃u,h'.get? e=some u):Un fs ex H (upd H x o) h h':=by
 have hx:∀b,H b=none->b≠x:=fun b n z=>by subst z;rw[n]at mu;exact mu
 have hb:∀b,H b=none->b≠e:=fun b n z=>by
  subst z;rcases he with r|r
  ·exact hx b n r
  ·rw[n]at r;cases r
 have hm:∀b u,H b=some u->¬ Jx (some u)->b≠x:=fun b u q nm z=>by subst z;rw[q]at mu;exact nm mu
 refine⟨fun b u q n _ _=>k b u (hb b n) q,fun b u q n _ _=>⟨u.slots,k b u (hb b n) q⟩,fun b u q n _=>by rw[aJ (hx b n)];exact n,fun b u q _=>?_,
  fun b xs q=>by rw[aJ (hm b _ q fun z=>z)];exact q,fun b u xs q=>by rw[aJ (hm b _ q fun z=>z)];exact q,fun b ps q=>⟨#[],by rw[aJ (hm b _ q fun z=>z),q];simp⟩⟩
 by_cases hbe:b=e
 ·subst hbe;exact Jd
 ·exact⟨u,k b u hbe q⟩
theorem Un.mono(u:Un fs ex H H1 h h1)(hs:∀b∈fs,b∈KU)(hx:∀b∈ex,b∈LI):Un KU LI H H1 h h1:=
 ⟨fun b ob q n hb he=>u.keep b ob q n (fun z=>hb (hs b z)) fun z=>he (hx b z),fun _ _ q n _ he=>u.any q n fun z=>he (hx _ z),fun b ob q n he=>u.free b ob q n fun z=>he (hx b z),fun b ob q he=>u.there b ob q fun z=>he (hx b z),u.tups,u.frzs,u.tbls⟩
end
def trk(h:Heap)(H:Hp):List Addr:=(List.range h.objs.size).filter fun a=>(H a).isSome
def rm(h:Heap)(H:Hp):Heap:=PySem.W.hideAll h (trk h H)
theorem oU(h:Heap)(H:Hp):(rm h H).objs.size=h.objs.size:=PySem.W.hideAll_size _ _
theorem rp{h:Heap}{H:Hp}{b:Addr}{o:Obj}(e:h.get? b=some o)(n:H b=none):(rm h H).get? b=some o:=
 O9 _ e fun hm=>by
  have q:(H b).isSome=true:=(OD.mp hm).2;rw[n]at q;simp at q
theorem ux{h:Heap}{H:Hp}{b:Addr}{o:Obj}(e:(rm h H).get? b=some o):h.get? b=some o/\H b=none:=by
 have e':h.get? b=some o:=QL (trk h H) e;refine⟨e',?_⟩;cases q:H b with
 |none=>rfl
 |some x=>
  have hm:b∈trk h H:=OD.mpr ⟨Nx.mpr (MK e'),by simp[q]⟩;have z:(rm h H).get? b=none:=PySem.W.hideAll_none (trk h H) hm;rw[z]at e;cases e
def uy(g h:Heap)(L:Addr):List (Addr×Obj):=(List.range h.objs.size).filterMap fun a=>if a=L\/(g.get? a).isSome=true then none else(h.get? a).map fun o=>(a,o)
def ck(g h:Heap)(L d:Addr):List (Addr×Obj):=(uy g h L).filter fun p=>decide (p.1≠d)
structure Mod(K:W.Frag)(mg:Str->Option Value)(base:Heap):Prop where
 kin:K.In base
 glob:base.Ns mainGlobals mg
 blt:∃mb,base.Ns builtinsNs mb/\∀x:Str,x≠"__name__"->mb x=bootBuiltins x
 nolimit:base.NoLimit
structure Cx where
 prog:Program
 w:World
 K:W.Frag
 mg:Str->Option Value
 base:Heap
 A:Around
 N:List Str
 s₀:Shared
 H₀:Hp
 env:Env
 outer:List Env
 stack:List Env
 ex:List Addr
 fn:Str->Bool
 calm:Bool
 pn:List (Addr×Obj)
 xe:Value->Shared->Prop
def CU(l:List Env):List Addr:=l.filterMap (·.frame)
abbrev Cx.fs(X:Cx):List Addr:=CU X.outer
def KW(sc:Scope)(x:Str):Prop:=sc.names.lookup x=some .local\/sc.names.lookup x=some .cell\/sc.names.lookup x=some .free
def Loc(sc:Scope)(x:Str):Prop:=sc.names.lookup x=some .local\/sc.names.lookup x=some .cell
def Aw(sc:Scope)(x:Str):Bool:=match sc.names.lookup x with
 |some .local=>true
 |some .cell=>true
 |_=>false
theorem lo{sc:Scope}{x:Str}(h:Aw sc x=true):Loc sc x:=by
 unfold Aw at h;split at h
 ·exact .inl (by assumption)
 ·exact .inr (by assumption)
 ·cases h

def AO(env:Env)(h:Heap)(m:Str->Option Value)(x:Str)(u:Value):Prop:=
 (env.kindOf x=some .local/\m x=some u)\/((env.kindOf x=some .cell\/env.kindOf x=some .free)/\∃c,env.cells.lookup x=some c/\h.IsCell c (some u))
structure Cx.Ok(X:Cx):Prop where
 mod:Mod X.K X.mg X.base
 kind:X.env.scope.kind=.function
 glob:X.env.globals=mainGlobals
 blt:X.env.builtins=builtinsNs
 above:X.s₀.heap.objs.size<=X.env.locals
 inj:∀x y c,X.env.cells.lookup x=some c->X.env.cells.lookup y=some c->x=y
 has:∀x,(X.env.kindOf x=some .cell\/X.env.kindOf x=some .free)->∃c,X.env.cells.lookup x=some c
 cab:∀x c,X.fn x=true->X.env.cells.lookup x=some c->X.s₀.heap.objs.size<=c
 hd:X.calm=true->X.A.handled=none
 frames:X.A.frames=some X.stack
 stk:X.stack=X.outer\/(X.stack=X.env::X.outer/\X.env.frame=some X.env.locals)
 exf:∀b∈X.ex,b≠X.env.locals/\∀x c,X.env.cells.lookup x=some c->c≠b
 bs:∀b o,X.base.get? b=some o->X.s₀.heap.get? b=some o/\X.H₀ b=none
 bsz:X.base.objs.size<=X.s₀.heap.objs.size
 noex:∀b o,X.base.get? b=some o->b∉X.ex
 exfs:∀b∈X.ex,b∉X.fs
 funs:X.s₀.heap.FunFrames X.base X.outer
 frf:∀b∈X.fs,X.H₀ b=none
structure Inv(X:Cx)(pr:List (Addr×Obj))(σ:List (Option V))(H:Hp)(s:Shared):Prop where
 ok:X.Ok
 os:s.os=X.s₀.os
 bare:AllBare s.gens
 base:Un X.fs X.ex X.H₀ H X.s₀.heap s.heap
 loc:∃m,s.heap.Ns X.env.locals m/\∀(i:Nat) (x:Str) (v:V),X.N[i]?=some x->σ[i]?=some (some v)->KW X.env.scope x->∃u,RelV v u/\AO X.env s.heap m x u
 cell:∀x c,X.env.cells.lookup x=some c->∃v,s.heap.IsCell c v
 free:H X.env.locals=none
 freeC:∀x c,X.env.cells.lookup x=some c->H c=none
 pin:∀p∈X.pn++pr,s.heap.get? p.1=some p.2/\H p.1=none/\p.1≠X.env.locals/\p.1∉X.fs/\∀v,p.2.data≠.cell v
 hok:HOk X.prog X.w H s.heap
 len:σ.length=X.N.length
section
variable{X:Cx}{pr:List (Addr×Obj)}{σ:List (Option V)}{H H':Hp}{s:Shared}{h':Heap}
theorem Cx.Ok.nofr(ok:X.Ok){b:Addr}{o:Obj}(e:X.base.get? b=some o):b∉X.fs:=fun hb=>by
 have:=(ok.funs.mem hb).1;rw[e]at this;cases this
theorem Inv.bs(I:Inv X pr σ H s):∀b o,X.base.get? b=some o->s.heap.get? b=some o/\H b=none:=fun b o e=>
 ⟨I.base.keep b o (I.ok.bs b o e).1 (I.ok.bs b o e).2 (I.ok.nofr e) (I.ok.noex b o e),I.base.free b o (I.ok.bs b o e).1 (I.ok.bs b o e).2 (I.ok.noex b o e)⟩
theorem Inv.bk(I:Inv X pr σ H s):∀b o,X.base.get? b=some o->s.heap.get? b=some o:=fun b o e=>(I.bs b o e).1
theorem Inv.mod(I:Inv X pr σ H s):Mod X.K X.mg X.base:=I.ok.mod
theorem Inv.kIn(I:Inv X pr σ H s):X.K.In s.heap:=I.ok.mod.kin.keeps I.bk
theorem Inv.fr(I:Inv X pr σ H s):∃m,Fr X.base X.env.locals s.heap m:=
 let⟨m,hn,_⟩:=I.loc
 ⟨m,hn,I.bk,M4 I.ok.bsz I.ok.above⟩
theorem Inv.lt(I:Inv X pr σ H s):X.env.locals<s.heap.objs.size:=let⟨_,hn,_⟩:=I.loc;hn.lt
theorem Inv.sz(I:Inv X pr σ H s):X.s₀.heap.objs.size<=s.heap.objs.size:=M4 I.ok.above (Qe I.lt)
theorem Inv.nofs(I:Inv X pr σ H s){a:Addr}(h:s.heap.objs.size<=a):a∉X.fs:=fun hb=>by
 obtain⟨_,o,ho,_⟩:=I.ok.funs.mem hb;exact absurd (ML (MK ho) (M4 I.sz h)) (N7 _)
theorem Inv.cne(I:Inv X pr σ H s):∀x c,X.env.cells.lookup x=some c->c≠X.env.locals:=fun x c e z=>by
 obtain⟨v,o,ho,hd⟩:=I.cell x c e;obtain⟨m,⟨o',es,ep,Fs,hd',_⟩,_⟩:=I.loc;rw[z,Fs]at ho;cases ho;rw[hd']at hd;cases hd
theorem Inv.funs(I:Inv X pr σ H s):s.heap.FunFrames X.base X.outer:=by
 have all:∀(l:List Env),(∀b∈CU l,b∈X.fs)->X.s₀.heap.FunFrames X.base l->s.heap.FunFrames X.base l:=by
  intro l;induction l with
  |nil=>intro _ _;trivial
  |cons env r ih=>
   intro hs hl;obtain⟨hk,⟨L,o,hf,hn,ho,hd⟩,hr⟩:=hl;have hL:L∈X.fs:=hs L (by unfold CU;rw[Ob,hf];exact My);obtain⟨sl,e⟩:=I.base.slot L o ho (I.ok.frf L hL) hL fun z=>I.ok.exfs L z hL
   exact⟨hk,⟨L,_,hf,hn,e,hd⟩,ih (fun b hb=>hs b (by unfold CU;rw[Ob,hf];exact MJ _ hb)) hr⟩
 exact all X.outer (fun _ hb=>hb) I.ok.funs
theorem Inv.stack(I:Inv X pr σ H s):s.heap.FunFrames X.base X.stack:=by
 rcases I.ok.stk with e|⟨e,hf⟩
 ·rw[e];exact I.funs
 ·rw[e];obtain⟨m,hn,_⟩:=I.loc;refine .cons (by rw[I.ok.kind];decide) hf hn ?_ I.funs;exact Heap.get?_none_of_le (M4 I.ok.bsz I.ok.above)
theorem Inv.stkSub(I:Inv X pr σ H s):∀b∈CU X.stack,b∈X.env.locals::X.fs:=fun b hb=>by
 rcases I.ok.stk with e|⟨e,hf⟩
 ·rw[e]at hb;exact MJ _ hb
 ·rw[e]at hb;unfold CU at hb;rw[Ob,hf]at hb;exact hb
theorem Inv.stkFree(I:Inv X pr σ H s):∀b∈CU X.stack,H b=none:=fun b hb=>by
 rcases MN.mp (I.stkSub b hb) with e|hb
 ·rw[e];exact I.free
 ·obtain⟨_,o,ho,_⟩:=I.ok.funs.mem hb;exact I.base.free b o ho (I.ok.frf b hb) fun z=>I.ok.exfs b z hb
theorem Inv.step{g':Array GenState}{t':Nat}{d':Drawn}{ch:List Addr}(I:Inv X pr σ H s)
  (GH:∀b∈ch,(b∈X.ex\/X.s₀.heap.objs.size<=b)/\b≠X.env.locals/\(∀x c,X.env.cells.lookup x=some c->c≠b)/\∀p∈X.pn++pr,p.1≠b)
  (keep:∀b o,b≠X.env.locals->b∉X.fs->b∉ch->s.heap.get? b=some o->H b=none->h'.get? b=some o)
  (slot:∀b o,b≠X.env.locals->b∈X.fs->b∉ch->s.heap.get? b=some o->H b=none->∃sl,h'.get? b=some {o with slots:=sl}) (free:∀b o,b∉ch->s.heap.get? b=some o->H b=none->H' b=none)
  (there:∀b o,b∉ch->s.heap.get? b=some o->∃o',h'.get? b=some o')
  (tups:∀b xs,H b=some (.tup xs)->H' b=some (.tup xs)) (frzs:∀b o u,H b=some (.frz o u)->H' b=some (.frz o u)) (tbls:∀b ps,H b=some (.tbl ps)->∃more,H' b=some (.tbl (ps++more)))
  (ns:∀m,s.heap.Ns X.env.locals m->h'.Ns X.env.locals m) (hok:HOk X.prog X.w H' h') (hg:AllBare g'):
  Inv X pr σ H' {s with heap:=h',gens:=g',drawn:=d',toks:=t'}:=by
 have LJ:∀b o,X.s₀.heap.get? b=some o->b≠X.env.locals:=fun b o e=>MT (ML (MK e) I.ok.above)
 have Kr:∀b o,X.s₀.heap.get? b=some o->b∉X.ex->b∉ch:=fun b o e hx hb=>by
  rcases(GH b hb).1 with z|z
  ·exact hx z
  ·exact absurd (ML (MK e) z) (N7 _)
 have cellK:∀x c,X.env.cells.lookup x=some c->∀v,s.heap.IsCell c v->h'.IsCell c v:=fun x c e v B1=>by
  obtain⟨o,ho,hd⟩:=B1;have Jy:c∉ch:=fun z=>(GH c z).2.2.1 x c e rfl
  by_cases hc:c∈X.fs
  ·obtain⟨sl,q⟩:=slot c o (I.cne x c e) hc Jy ho (I.freeC x c e);exact⟨_,q,hd⟩
  ·exact⟨o,keep c o (I.cne x c e) hc Jy ho (I.freeC x c e),hd⟩
 refine⟨I.ok,I.os,hg,⟨fun b o e n hb hx=>?_,fun b o e n hb hx=>?_,fun b o e n hx=>?_,fun b o e hx=>?_,fun b xs e=>tups b xs (I.base.tups b xs e),fun b o xs e=>frzs b o xs (I.base.frzs b o xs e),fun b ps e=>?_⟩,?_,fun x c e=>?_,?_,fun x c e=>?_,fun p hp=>?_,hok,I.len⟩
 ·exact keep b o (LJ b o e) hb (Kr b o e hx) (I.base.keep b o e n hb hx) (I.base.free b o e n hx)
 ·obtain⟨sl,e1⟩:=I.base.slot b o e n hb hx;obtain⟨LK,e2⟩:=slot b _ (LJ b o e) hb (Kr b o e hx) e1 (I.base.free b o e n hx);exact⟨LK,e2⟩
 ·obtain⟨o',e1⟩:=I.base.there b o e hx;exact free b o' (Kr b o e hx) e1 (I.base.free b o e n hx)
 ·obtain⟨o',e1⟩:=I.base.there b o e hx;exact there b o' (Kr b o e hx) e1
 ·obtain⟨m1,e1⟩:=I.base.tbls b ps e;obtain⟨m2,e2⟩:=tbls b _ e1;exact⟨m1++m2,by rw[e2,QM]⟩
 ·obtain⟨m,hn,hl⟩:=I.loc;refine⟨m,ns m hn,fun i x v e1 e2 e3=>?_⟩;obtain⟨u,r,l⟩:=hl i x v e1 e2 e3;refine⟨u,r,?_⟩;rcases l with l|⟨k,c,e,z⟩
  ·exact .inl l
  ·exact .inr ⟨k,c,e,cellK x c e _ z⟩
 ·obtain⟨v,z⟩:=I.cell x c e;exact⟨v,cellK x c e v z⟩
 ·obtain⟨m,⟨o,_,_,ho,_⟩,_⟩:=I.loc;exact free _ o (fun z=>(GH _ z).2.1 rfl) ho I.free
 ·obtain⟨v,o,ho,hd⟩:=I.cell x c e;exact free c o (fun z=>(GH c z).2.2.1 x c e rfl) ho (I.freeC x c e)
 ·obtain⟨e,n,ne,nf,d⟩:=I.pin p hp;have Jy:p.1∉ch:=fun z=>(GH p.1 z).2.2.2 p hp rfl
  exact⟨keep p.1 p.2 ne nf Jy e n,free p.1 p.2 Jy e n,ne,nf,d⟩
theorem Inv.un{t':Nat}(I:Inv X pr σ H s)(u:Un X.fs [] H H' s.heap h')(hok:HOk X.prog X.w H' h'):Inv X pr σ H' {s with heap:=h',toks:=t'}:=by
 obtain⟨m,⟨o,es,ep,ho,r⟩,_⟩:=id I.loc;obtain⟨sl,hL⟩:=u.any ho I.free (by simp);exact I.step (g':=s.gens) (d':=s.drawn) (ch:=[]) (fun _ z=>nomatch z) (fun b o _ hb _ e n=>u.keep b o e n hb (by simp)) (fun b o _ hb _ e n=>u.slot b o e n hb (by simp)) (fun b o _ e n=>u.free b o e n (by simp)) (fun b o _ e=>u.there b o e (by simp)) u.tups u.frzs u.tbls (fun m' hm=>by
  obtain⟨o',Fi,KY,Fs,r'⟩:=hm;rw[ho]at Fs;cases Fs;exact⟨_,Fi,KY,hL,r'⟩) hok I.bare
theorem Inv.call{g':Array GenState}{t':Nat}{d':Drawn}{ch:List Addr}(I:Inv X pr σ H s)(u:Un (CU X.stack) ch H H' s.heap h')(hok:HOk X.prog X.w H' h')(hg:AllBare g')
  (GH:∀b∈ch,(b∈X.ex\/X.s₀.heap.objs.size<=b)/\b≠X.env.locals/\(∀x c,X.env.cells.lookup x=some c->c≠b)/\∀p∈X.pn++pr,p.1≠b):
  Inv X pr σ H' {s with heap:=h',gens:=g',drawn:=d',toks:=t'}:=by
 obtain⟨m,⟨o,es,ep,ho,r⟩,_⟩:=id I.loc;obtain⟨sl,hL⟩:=u.any ho I.free fun z=>(GH _ z).2.1 rfl
 exact I.step (ch:=ch) GH (fun b o hL hb hc e n=>u.keep b o e n (fun z=>(MN.mp (I.stkSub b z)).elim hL hb) hc) (fun b o _ _ hc e n=>u.any e n hc) (fun b o hc e n=>u.free b o e n hc) (fun b o hc e=>u.there b o e hc) u.tups u.frzs u.tbls (fun m' hm=>by
  obtain⟨o',Fi,KY,Fs,r'⟩:=hm;rw[ho]at Fs;cases Fs;exact⟨_,Fi,KY,hL,r'⟩) hok hg
theorem Inv.turned{t':Nat}{it:Addr}(I:Inv X pr σ H s)(k:∀b o,b≠it->s.heap.get? b=some o->h'.get? b=some o)(hn:H it=none)(hL:it≠X.env.locals)
  (h1:it∈X.ex\/X.s₀.heap.objs.size<=it) (h2:∀x c,X.env.cells.lookup x=some c->c≠it) (h3:∀p∈X.pn++pr,p.1≠it):Inv X pr σ H {s with heap:=h',toks:=t'}:=by
 have LM:∀b u,H b=some u->b≠it:=fun b u e z=>by rw[z,hn]at e;cases e
 refine I.step (g':=s.gens) (d':=s.drawn) (ch:=[it]) (fun b hb=>?_) (fun b o _ _ hc e _=>k b o (fun z=>hc (by simp[z])) e) (fun b o _ _ hc e _=>⟨o.slots,k b o (fun z=>hc (by simp[z])) e⟩) (fun _ _ _ _ n=>n)
  (fun b o hc e=>⟨o,k b o (fun z=>hc (by simp[z])) e⟩) (fun _ _ e=>e) (fun _ _ _ e=>e) (fun b ps e=>⟨#[],by rw[e];simp⟩) (fun m hm=>?_) (fun b u e=>?_) I.bare
 ·have e:b=it:=by simpa using hb
  subst e;exact⟨h1,hL,h2,h3⟩
 ·obtain⟨o,es,ep,ho,r⟩:=hm;exact⟨o,es,ep,k _ o (N2 hL) ho,r⟩
 ·refine(I.hok b u e).stay (fun c v hc q=>k c v ?_ q) (fun _ q=>q) fun _ _ q=>q
  rcases hc with z|z
  ·rw[z];exact LM b u e
  ·exact LM c _ z
theorem Inv.tok(I:Inv X pr σ H s)(t:Nat):Inv X pr σ H {s with toks:=t}:=I.un (h':=s.heap) (t':=t) Un.refl I.hok
theorem Inv.kept{t':Nat}(I:Inv X pr σ H s)(k:∀b u,s.heap.get? b=some u->h'.get? b=some u):Inv X pr σ H {s with heap:=h',toks:=t'}:=I.un (Un.kept k) (I.hok.kept k)
theorem Inv.laid{a:Addr}{o:HO}{t':Nat}(I:Inv X pr σ H s)(k:∀b u,s.heap.get? b=some u->h'.get? b=some u)(hp:s.heap.objs.size<=a)(new:ObjOk X.prog X.w (upd H a o) h' a o):
  Inv X pr σ (upd H a o) {s with heap:=h',toks:=t'}:=I.un (Un.laid k hp (I.hok.fresh hp)) (I.hok.laid k hp new)
theorem Inv.write{x e:Addr}{o:HO}{t':Nat}(I:Inv X pr σ H s)(mu:Jx (H x))(he:e=x\/H e=some (.own x))(k:∀b u,b≠e->s.heap.get? b=some u->h'.get? b=some u)(Jd:∃u,h'.get? e=some u)
  (new:ObjOk X.prog X.w (upd H x o) h' x o):Inv X pr σ (upd H x o) {s with heap:=h',toks:=t'}:=I.un (Un.write mu he k Jd) (I.hok.write mu he k Jd new)
theorem Inv.pins_of{HK:List (Addr×Obj)}(I:Inv X pr σ H s)(h:∀p∈HK,s.heap.get? p.1=some p.2/\H p.1=none/\p.1≠X.env.locals/\p.1∉X.fs/\∀v,p.2.data≠.cell v):Inv X HK σ H s:=
 ⟨I.ok,I.os,I.bare,I.base,I.loc,I.cell,I.free,I.freeC,fun p hp=>(M1.mp hp).elim (fun z=>I.pin p (MU _ z)) (h p),I.hok,I.len⟩
theorem jm{N:List Str}(hN:N.Nodup){i j:Nat}{x:Str}(a:N[i]?=some x)(b:N[j]?=some x):i=j:=by
 obtain⟨h1,e1⟩:=MF.mp a;obtain⟨h2,e2⟩:=MF.mp b;exact(List.getElem_inj hN).mp (e1.trans e2.symm)
theorem ke{M:Model}{A:Around}{E:Value->Shared->Prop}{i:Nat}{x:Str}{v:V}{u:Value}{Q:Unit->Shared->Prop}(I:Inv X pr σ H s)(hN:X.N.Nodup)(hi:X.N[i]?=some x)(hx:Loc X.env.scope x)(r:RelV v u)
  (h:∀s',Inv X pr (σ.set i (some v)) H s'->(∃a,Heap.SameBut a s.heap s'.heap/\(a=X.env.locals\/X.env.cells.lookup x=some a))->Q () s') (hf:X.fn x=true\/X.env.scope.names.lookup x=some .local:=by first|exact .inl rfl|exact .inr rfl|assumption):wpAny M A (storeName X.env x u) Q E s:=by
 obtain⟨m,hn,hl⟩:=id I.loc;have HX:(X.env.scope.kind==.class||(X.env.scope.kind==.module&&X.env.locals != X.env.globals))=false:=by rw[I.ok.kind];rfl
 have hiσ:i<σ.length:=by rw[I.len];exact(MF.mp hi).1
 have cne:=I.cne;have tracked:∀{a:Addr}{h':Heap},(∃o,s.heap.get? a=some o/\H a=none)->Heap.SameBut a s.heap h'->HOk X.prog X.w H h':=fun{a h'} ha hs b ob e=>by
  obtain⟨_,_,HL⟩:=ha;refine(I.hok b ob e).stay (fun c w' hc q=>(hs.2 c ?_).trans q) (fun _ q=>q) fun _ _ q=>q
  rintro rfl;rcases hc with rfl|hc
  ·rw[HL]at e;cases e
  ·rw[HL]at hc;cases hc
 rcases hx with hk|hk
 ·refine wpAny_storeName_local hk hn (fun h' KZ hs=>?_) HX;obtain⟨oL,_,_,hoL,_⟩:=id hn;refine h _ ⟨I.ok,I.os,I.bare,⟨fun b o e n hb hx=>?_,fun b o e n hb hx=>?_,I.base.free,fun b o e hx=>?_,I.base.tups,I.base.frzs,I.base.tbls⟩,⟨_,KZ,fun j y v' e1 e2 e3=>?_⟩,fun y c e=>?_,I.free,I.freeC,fun p hp=>?_,tracked ⟨oL,hoL,I.free⟩ hs,by simpa using I.len⟩ ⟨_,hs,.inl rfl⟩
  ·exact(hs.2 b (MT (ML (MK e) I.ok.above))).trans (I.base.keep b o e n hb hx)
  ·obtain⟨sl,e1⟩:=I.base.slot b o e n hb hx;exact⟨sl,(hs.2 b (MT (ML (MK e) I.ok.above))).trans e1⟩
  ·obtain⟨o',e1⟩:=I.base.there b o e hx;exact⟨o',(hs.2 b (MT (ML (MK e) I.ok.above))).trans e1⟩
  ·by_cases hj:j=i
   ·subst hj;rw[hi]at e1;cases e1;rw[MW hiσ]at e2;cases e2;exact⟨u,r,.inl ⟨hk,by simp⟩⟩
   ·rw[M0 (N2 hj)]at e2;obtain⟨u',r',q⟩:=hl j y v' e1 e2 e3;refine⟨u',r',?_⟩;rcases q with⟨k,e⟩|⟨k,c,e,z⟩
    ·refine .inl ⟨k,?_⟩;have:y≠x:=fun e=>hj (jm hN e1 (e▸hi))
     simp[this,e]
    ·exact .inr ⟨k,c,e,z.sameBut hs (cne y c e)⟩
  ·obtain⟨w',z⟩:=I.cell y c e;exact⟨w',z.sameBut hs (cne y c e)⟩
  ·obtain⟨e,n,ne,nf,d⟩:=I.pin p hp;exact⟨(hs.2 p.1 ne).trans e,n,ne,nf,d⟩
 ·have HY:X.fn x=true:=by
   rcases hf with z|z
   ·exact z
   ·rw[z]at hk;cases hk
  obtain⟨c,hc⟩:=I.ok.has x (.inl hk);obtain⟨w',z⟩:=I.cell x c hc;refine wpAny_storeName_cell I.ok.kind hk hc z (fun h' Ks hs=>?_);obtain⟨oc,LN,hocd⟩:=id z;refine h {s with heap:=h'} ⟨I.ok,I.os,I.bare,⟨fun b o e n hb hx=>?_,fun b o e n hb hx=>?_,I.base.free,fun b o e hx=>?_,I.base.tups,I.base.frzs,I.base.tbls⟩,⟨m,hn.sameBut hs (N2 (cne x c hc)),fun j y v' e1 e2 e3=>?_⟩,fun y c' e=>?_,I.free,I.freeC,fun p hp=>?_,tracked ⟨oc,LN,I.freeC x c hc⟩ hs,by simpa using I.len⟩ ⟨c,hs,.inr hc⟩
  ·exact(hs.2 b (MT (ML (MK e) (I.ok.cab x c HY hc)))).trans (I.base.keep b o e n hb hx)
  ·obtain⟨sl,e1⟩:=I.base.slot b o e n hb hx;exact⟨sl,(hs.2 b (MT (ML (MK e) (I.ok.cab x c HY hc)))).trans e1⟩
  ·obtain⟨o',e1⟩:=I.base.there b o e hx;exact⟨o',(hs.2 b (MT (ML (MK e) (I.ok.cab x c HY hc)))).trans e1⟩
  ·by_cases hj:j=i
   ·subst hj;rw[hi]at e1;cases e1;rw[MW hiσ]at e2;cases e2;exact⟨u,r,.inr ⟨.inl hk,c,hc,Ks⟩⟩
   ·rw[M0 (N2 hj)]at e2;obtain⟨u',r',q⟩:=hl j y v' e1 e2 e3;refine⟨u',r',?_⟩;rcases q with q|⟨k,c',e,z'⟩
    ·exact .inl q
    ·refine .inr ⟨k,c',e,z'.sameBut hs ?_⟩;rintro rfl;exact hj (jm hN e1 (I.ok.inj _ _ _ e hc▸hi))
  ·by_cases hcc:c'=c
   ·subst hcc;exact⟨_,Ks⟩
   ·obtain⟨w2,z2⟩:=I.cell y c' e;exact⟨w2,z2.sameBut hs hcc⟩
  ·obtain⟨e,n,ne,nf,d⟩:=I.pin p hp;refine⟨(hs.2 p.1 ?_).trans e,n,ne,nf,d⟩;intro q;rw[q,LN]at e;have q':oc=p.2:=Na e;exact d w' (by rw[<-q'];exact hocd)
theorem jo{M:Model}{A:Around}{E:Value->Shared->Prop}{i:Nat}{x:Str}{v:V}{u:Value}{Q:Unit->Shared->Prop}(I:Inv X pr σ H s)(hN:X.N.Nodup)(hi:X.N[i]?=some x)(hx:Loc X.env.scope x)(r:RelV v u)
  (h:∀s',Inv X pr (σ.set i (some v)) H s'->Q () s') (hf:X.fn x=true\/X.env.scope.names.lookup x=some .local:=by first|exact .inl rfl|exact .inr rfl|assumption):wpAny M A (storeName X.env x u) Q E s:=
 ke I hN hi hx r (fun s' I' _=>h s' I') hf
theorem Inv.call'{s':Shared}{ch:List Addr}(I:Inv X pr σ H s)(ho:s'.os=s.os)(u:Un (CU X.stack) ch H H' s.heap s'.heap)(hok:HOk X.prog X.w H' s'.heap)(hg:AllBare s'.gens)
  (GH:∀b∈ch,(b∈X.ex\/X.s₀.heap.objs.size<=b)/\b≠X.env.locals/\(∀x c,X.env.cells.lookup x=some c->c≠b)/\∀p∈X.pn++pr,p.1≠b):Inv X pr σ H' s':=by
 obtain⟨h',g',d',t',o'⟩:=s';have e:o'=s.os:=ho;subst e;exact I.call (g':=g') (t':=t') (d':=d') u hok hg GH
end
abbrev XK:=Value->Option Addr->Hp->Prop
abbrev St:=List (Option V)
abbrev VK:=V->Hp->Prop
abbrev TE:=St->Hp->VK->Prop
abbrev TT:=St->Hp->(Bool->Hp->Prop)->Prop
abbrev TA:=St->Hp->(List V->Hp->Prop)->Prop
structure Ends where
 nx:St->Hp->Prop
 rt:VK
 bk:St->Hp->Prop:=fun _ _=>False
 ct:St->Hp->Prop:=fun _ _=>False
abbrev TS:=Ends->St->Hp->Prop
def EP(X:Cx)(pr:List (Addr×Obj))(σ:St)(Q:VK)(u:Value)(s':Shared):Prop:=∃v H',Inv X pr σ H' s'/\RelV v u/\Q v H'
def TP(X:Cx)(pr:List (Addr×Obj))(σ:St)(Q:Bool->Hp->Prop)(b:Bool)(s':Shared):Prop:=∃H',Inv X pr σ H' s'/\Q b H'
def AP(X:Cx)(pr:List (Addr×Obj))(σ:St)(Q:List V->Hp->Prop)(us:List Value)(s':Shared):Prop:=∃vs H',Inv X pr σ H' s'/\Vals vs us/\Q vs H'
def SP(X:Cx)(pr:List (Addr×Obj))(D:Ends)(f:Flow)(s':Shared):Prop:=
 match f with
 | .next=>∃σ' H',Inv X pr σ' H' s'/\D.nx σ' H'
 | .brk=>∃σ' H',Inv X pr σ' H' s'/\D.bk σ' H'
 | .cont=>∃σ' H',Inv X pr σ' H' s'/\D.ct σ' H'
 | .ret u=>∃v σ' H',Inv X pr σ' H' s'/\RelV v u/\D.rt v H'
def PE(X:Cx)(e:Expr)(t:TE):Prop:=
 ∀(pr:List (Addr×Obj)) (s:Shared) (σ:St) (H:Hp) (Q:VK),Inv X pr σ H s->t σ H Q->wpAny (model X.prog X.w) X.A (eval e X.env) (EP X pr σ Q) X.xe s
def PT(X:Cx)(e:Expr)(t:TT):Prop:=
 ∀(pr:List (Addr×Obj)) (s:Shared) (σ:St) (H:Hp) (Q:Bool->Hp->Prop),Inv X pr σ H s->t σ H Q->wpAny (model X.prog X.w) X.A (isTrue e X.env (eval e X.env)) (TP X pr σ Q) X.xe s
def PW(X:Cx)(e:Expr)(t:TT):Prop:=
 ∀(whole:Sem Value) (pr:List (Addr×Obj)) (s:Shared) (σ:St) (H:Hp) (Q:Bool->Hp->Prop),Inv X pr σ H s->t σ H Q->wpAny (model X.prog X.w) X.A (isTrue e X.env whole) (TP X pr σ Q) X.xe s
theorem PW.pt{X:Cx}{e:Expr}{t:TT}(h:PW X e t):PT X e t:=h _
def PA(X:Cx)(es:List Expr)(t:TA):Prop:=
 ∀(pos:Pos) (pr:List (Addr×Obj)) (s:Shared) (σ:St) (H:Hp) (Q:List V->Hp->Prop),Inv X pr σ H s->t σ H Q->wpAny (model X.prog X.w) X.A (spliced (backTo pos (starEach es X.env))) (AP X pr σ Q) X.xe s
def PS(X:Cx)(st:Stmt)(t:TS):Prop:=
 ∀(pr:List (Addr×Obj)) (s:Shared) (σ:St) (H:Hp) (D:Ends),Inv X pr σ H s->t D σ H->wpAny (model X.prog X.w) X.A (exec st X.env) (SP X pr D) X.xe s
def PSs(X:Cx)(st:List Stmt)(t:TS):Prop:=
 ∀(pr:List (Addr×Obj)) (s:Shared) (σ:St) (H:Hp) (D:Ends),Inv X pr σ H s->t D σ H->wpAny (model X.prog X.w) X.A (execs st X.env) (SP X pr D) X.xe s
theorem Ci{α:Type}{t:Sem α}{Q Q':α->Shared->Prop}{M:Model}{A:Around}{E:Value->Shared->Prop}{s:Shared}(h:wpAny M A t Q E s)(hQ:∀a s,Q a s->Q' a s):wpAny M A t Q' E s:=Nv h hQ fun _ _ x=>x
section
variable{X:Cx}
theorem bin{a b:Expr}{ta tb:TE}(ha:PE X a ta)(hb:PE X b tb){pr:List (Addr×Obj)}{s:Shared}{σ:St}{H:Hp}{R:V->V->Hp->Prop}(I:Inv X pr σ H s)(h:ta σ H fun x H1=>tb σ H1 fun y H2=>R x y H2)
  {α:Type}{Q:α->Shared->Prop}{f:Value->Value->Sem α}
  (hf:∀v u s2 x y H2,Inv X pr σ H2 s2->RelV x v->RelV y u->R x y H2->wpAny (model X.prog X.w) X.A (f v u) Q X.xe s2):
  wpAny (model X.prog X.w) X.A (eval a X.env) (fun v s₁=>wpAny (model X.prog X.w) X.A (eval b X.env) (fun u s₂=>wpAny (model X.prog X.w) X.A (f v u) Q X.xe s₂) X.xe s₁) X.xe s:=by
 refine Ci (ha pr s σ H _ I h) fun v s1 Cp=>?_
 obtain⟨x,H1,I1,r1,q1⟩:=Cp;refine Ci (hb pr s1 σ H1 _ I1 q1) fun u s2 Cp=>?_
 obtain⟨y,H2,I2,r2,q2⟩:=Cp;exact hf v u s2 x y H2 I2 r1 r2 q2
def oV(i:Nat):TE:=fun σ H Q=>∃v,σ[i]?=some (some v)/\Q v H
def tC(v:V):TE:=fun _ H Q=>Q v H
theorem w9{i:Nat}{x:Str}{pos:Pos}(hN:X.N[i]?=some x)(hv:KW X.env.scope x)(hd:(x==("__debug__" : Str))=false:=by decide)(Ft:(x==("__classdict__" : Str))=false:=by decide):PE X (.Name x pos) (oV i):=by
 intro pr s σ H Q I h;obtain⟨v,e,h⟩:=h;obtain⟨m,hn,hl⟩:=I.loc;obtain⟨u,r,l⟩:=hl i x v hN e hv;have fin:EP X pr σ Q u s:=⟨v,H,I,r,h⟩
 rcases l with⟨hk,hm⟩|⟨hk,c,hc,CM⟩
 ·exact wpAny_Name (wpAny_loadName_local I.ok.kind hk hn hm fin) hd
 ·rcases hk with hk|hk
  ·exact wpAny_Name (wpAny_loadName_cell I.ok.kind hk hc CM fin) hd
  ·exact wpAny_Name (wpAny_loadName_free I.ok.kind hk hc CM fin Ft) hd
theorem xa{i j pos}:PE X (.Constant (.int i) j pos) (tC (.int i)):=fun _ _ _ H _ I h=>wpAny_Constant_int ⟨.int i,H,I.tok _,⟨_,rfl⟩,h⟩
theorem zl{b j pos}:PE X (.Constant (.bool b) j pos) (tC (.bl b)):=fun _ _ _ H _ I h=>Constant_bool ⟨.bl b,H,I,rfl,h⟩
theorem xb{j pos}:PE X (.Constant .none j pos) (tC .non):=fun _ _ _ H _ I h=>Constant_none ⟨.non,H,I,rfl,h⟩
theorem xc{x j pos}:PE X (.Constant (.str x) j pos) (tC (.str x)):=fun _ _ _ H _ I h=>Calls.Constant_str ⟨.str x,H,I.tok _,⟨_,rfl⟩,h⟩
def Gl(X:Cx)(x:Str):Prop:=X.env.kindOf x=some .globalImplicit
theorem g5{E:Value->Shared->Prop}{pr:List (Addr×Obj)}{s:Shared}{σ:St}{H:Hp}{x:Str}{u:Value}{pos:Pos}{Q:Value->Shared->Prop}(I:Inv X pr σ H s)(hg:Gl X x)(hm:X.mg x=some u)(h:Q u s)
  (hd:(x==("__debug__" : Str))=false:=by decide):wpAny (model X.prog X.w) X.A (eval (.Name x pos) X.env) Q E s:=
 Ph I.ok.kind hg (Calls.loadGlobal_global (by rw[I.ok.glob];exact I.mod.glob.keeps I.bk) hm h) hd
theorem iV{E:Value->Shared->Prop}{pr:List (Addr×Obj)}{s:Shared}{σ:St}{H:Hp}{x:Str}{u:Value}{pos:Pos}{Q:Value->Shared->Prop}(I:Inv X pr σ H s)(hg:Gl X x)(hm:X.mg x=none)(hv:bootBuiltins x=some u)(h:Q u s)
  (hn:x≠"__name__":=by decide) (hd:(x==("__debug__" : Str))=false:=by decide):wpAny (model X.prog X.w) X.A (eval (.Name x pos) X.env) Q E s:=by
 obtain⟨mb,h1,h2⟩:=I.mod.blt;exact Ph I.ok.kind hg (Calls.loadGlobal_builtin (by rw[I.ok.glob];exact I.mod.glob.keeps I.bk) hm (by rw[I.ok.blt];exact h1.keeps I.bk) ((h2 x hn).trans hv) h) hd
theorem uz{x:Str}{v:V}{u:Value}{pos:Pos}(hg:Gl X x)(hm:X.mg x=some u)(r:RelV v u)(hd:(x==("__debug__" : Str))=false:=by decide):PE X (.Name x pos) (tC v):=
 fun _ _ _ H _ I h=>g5 I hg hm ⟨v,H,I,r,h⟩ hd
theorem oW{x:Str}{v:V}{u:Value}{pos:Pos}(hg:Gl X x)(hm:X.mg x=none)(hv:bootBuiltins x=some u)(r:RelV v u)(hn:x≠"__name__":=by decide)(hd:(x==("__debug__" : Str))=false:=by decide):PE X (.Name x pos) (tC v):=
 fun _ _ _ H _ I h=>iV I hg hm hv ⟨v,H,I,r,h⟩ hn hd
variable{a b:Expr}{ta tb:TE}{pos:Pos}
def PC(X:Cx)(op:CmpOp)(a b:Expr)(t:TE):Prop:=
 ∀(pr:List (Addr×Obj)) (s:Shared) (σ:St) (H:Hp) (Q:VK),Inv X pr σ H s->t σ H Q->
  wpAny (model X.prog X.w) X.A (eval a X.env) (fun v s₁=>wpAny (model X.prog X.w) X.A (eval b X.env) (fun u s₂=>wpAny (model X.prog X.w) X.A (compareOp op v u) (EP X pr σ Q) X.xe s₂) X.xe s₁) X.xe s
theorem rq(b:Expr){op:CmpOp}(h:op≠.In)(h2:op≠.NotIn):behindInMarks op b=false:=by
 have e1:(op==CmpOp.In)=false:=by cases op <;> first|rfl|exact absurd rfl h
 have e2:(op==CmpOp.NotIn)=false:=by cases op <;> first|rfl|exact absurd rfl h2
 cases b <;> simp[behindInMarks,e1,e2]
def tB(t:TE):TT:=fun σ H Q=>t σ H fun x H1=>∃c,x=.bl c/\Q c H1
theorem Ax{op:CmpOp}{t:TE}(h:PC X op a b t)(h1:behindInMarks op b=false:=by first|exact rq _ (by decide) (by decide)|rfl):PT X (.Compare a [op] [b] pos) (tB t):=by
 intro pr s σ H Q I hw;refine wpAny_isTrue_Compare1 (Ci (h pr s σ H _ I hw) fun v s1 h1=>Ci h1 fun u s2 h2=>Ci h2 fun c s3 ⟨x,H1,I1,r1,q1⟩=>?_) h1;obtain⟨d,rfl,q⟩:=q1;cases r1;exact NW ⟨H1,I1,q⟩
theorem xf{e:Expr}{t:TE}(h:PE X e t)(he:∀whole,isTrue e X.env whole=(do let v <-whole;standAt e.pos;holding [v] (truthy v)):=by intro _;rfl):PT X e (tB t):=by
 intro pr s σ H Q I hw;refine isTrue_plain (Ci (h pr s σ H _ I hw) fun v s1 ⟨x,H1,I1,r1,q1⟩=>?_) (he _);obtain⟨d,rfl,q⟩:=q1;cases r1;exact NW ⟨H1,I1,q⟩
variable{tA Kt:TT}{ck:List Expr}
def AQ(t u:TT):TT:=fun σ H Q=>t σ H fun c H1=>if c=true then u σ H1 Q else Q false H1
def tOr(t u:TT):TT:=fun σ H Q=>t σ H fun c H1=>if c=true then Q true H1 else u σ H1 Q
def AR(t:TT):TT:=fun σ H Q=>t σ H fun c H1=>Q (!c) H1
theorem uA(ha:PT X a tA):PW X (.BoolOp .And [a] pos) tA:=by
 intro wh pr s σ H Q I h;refine isTrue_and (Ci (ha pr s σ H Q I h) fun c s1 e=>?_);cases c with
 |true=>exact isTrue_and_nil e
 |false=>exact e
theorem xg(ha:PT X a tA):PW X (.BoolOp .Or [a] pos) tA:=by
 intro wh pr s σ H Q I h;refine isTrue_or (Ci (ha pr s σ H Q I h) fun c s1 e=>?_);cases c with
 |false=>exact isTrue_or_nil e
 |true=>exact e
theorem xh(ha:PT X a tA)(hb:PW X (.BoolOp .And (b::ck) pos) Kt):PW X (.BoolOp .And (a::b::ck) pos) (AQ tA Kt):=by
 intro wh pr s σ H Q I h;refine isTrue_and (Ci (ha pr s σ H _ I h) fun c s1 Cp=>?_);obtain⟨H1,I1,q1⟩:=Cp;cases c with
 |true=>exact hb wh pr s1 σ H1 Q I1 q1
 |false=>exact⟨H1,I1,q1⟩
theorem zm(ha:PT X a tA)(hb:PW X (.BoolOp .Or (b::ck) pos) Kt):PW X (.BoolOp .Or (a::b::ck) pos) (tOr tA Kt):=by
 intro wh pr s σ H Q I h;refine isTrue_or (Ci (ha pr s σ H _ I h) fun c s1 Cp=>?_);obtain⟨H1,I1,q1⟩:=Cp;cases c with
 |true=>exact⟨H1,I1,q1⟩
 |false=>exact hb wh pr s1 σ H1 Q I1 q1
theorem xi(ha:PT X a tA):PT X (.UnaryOp .Not a pos) (AR tA):=by
 intro pr s σ H Q I h;exact isTrue_not (ha pr s σ H (fun c H1=>Q (!c) H1) I h)
def zo(ta tb:TE):TE:=fun σ H Q=>ta σ H fun x H1=>∃c,x=.bl c/\if c=true then tb σ H1 Q else Q (.bl false) H1
def zp(ta:TE):TE:=fun σ H Q=>ta σ H fun x H1=>∃c,x=.bl c/\Q (.bl (!c)) H1
theorem xj{op}{t:TE}(h:PE X a t):PE X (.BoolOp op [a] pos) t:=fun pr s σ H Q I hw=>BoolOp_one (h pr s σ H Q I hw)
theorem xk(ha:PE X a ta)(hb:PE X (.BoolOp .And (b::ck) pos) tb):PE X (.BoolOp .And (a::b::ck) pos) (zo ta tb):=by
 intro pr s σ H Q I h;refine BoolOp_and (Ci (ha pr s σ H _ I h) fun v s1 Cp=>?_);obtain⟨x,H1,I1,r1,q1⟩:=Cp;obtain⟨c,rfl,q1⟩:=q1;cases r1;refine NW ?_;cases c with
 |true=>exact hb pr s1 σ H1 Q I1 q1
 |false=>exact⟨.bl false,H1,I1,rfl,q1⟩
theorem xl(ha:PE X a ta):PE X (.UnaryOp .Not a pos) (zp ta):=by
 intro pr s σ H Q I h;refine UnaryOp_ (Ci (ha pr s σ H _ I h) fun v s1 Cp=>?_);obtain⟨x,H1,I1,r1,q1⟩:=Cp;obtain⟨c,rfl,q1⟩:=q1;cases r1;exact not_of (NW ⟨.bl (!c),H1,I1,rfl,q1⟩)
end
def SqL(K:W.Frag)(H:Hp)(a:Addr)(xs:List V):Prop:=
 Rd H a (.lst xs)\/
  ∃(o:Obj) (BR:Array Value) (n:Nat),K.lookup a=some o/\o.cls=.type "list"/\o.dict=none/\o.data=.seq BR n/\BR.size<=sizeLine/\Vals xs BR.toList
def SqT(K:W.Frag)(H:Hp)(a:Addr)(xs:List V):Prop:=
 Rd H a (.tup xs)\/
  ∃(o:Obj) (BR:Array Value) (n:Nat),K.lookup a=some o/\o.cls=.type "tuple"/\o.dict=none/\o.data=.seq BR n/\BR.size<=sizeLine/\Vals xs BR.toList
def AS:Value->Option V
 | .none=>some .non
 | .bool b=>some (.bl b)
 | .int i _=>some (.int i)
 | .str x _=>some (.str x)
 | .bytes b _=>some (.byt b)
 | .float b _=>some (.flt b)
 | .ref a=>some (.ref a)
 | .type n=>some (.ty n)
 |_=>none
theorem RelV.abs{x:V}{u:Value}(r:RelV x u):AS u=some x:=by
 cases x with
 |non=>cases r;rfl
 |bl _=>cases r;rfl
 |int _=>obtain⟨t,rfl⟩:=r;rfl
 |str _=>obtain⟨t,rfl⟩:=r;rfl
 |byt _=>obtain⟨t,rfl⟩:=r;rfl
 |flt _=>obtain⟨t,rfl⟩:=r;rfl
 |ref _=>cases r;rfl
 |ty _=>cases r;rfl
theorem RelV.inj{x y:V}{u:Value}(r:RelV x u)(q:RelV y u):x=y:=Na (r.abs.symm.trans q.abs)
theorem Vals.inj:∀{xs ys:List V}{us:List Value},Vals xs us->Vals ys us->xs=ys
 |_,_,_,.nil,.nil=>rfl
 |_,_,_,.cons r t,.cons r' t'=>by rw[r.inj r',Vals.inj t t']
section
variable{X:Cx}{pr:List (Addr×Obj)}{σ:St}{H:Hp}{s:Shared}{a:Addr}{xs ys:List V}
theorem SqL.of{K:W.Frag}(h:H a=some (.lst xs)):SqL K H a xs:=.inl (.inl h)
theorem SqT.of{K:W.Frag}(h:H a=some (.tup xs)):SqT K H a xs:=.inl (.inl h)
theorem Inv.list(I:Inv X pr σ H s)(h:SqL X.K H a xs):∃BR:List Value,Vals xs BR/\PlainL s.heap a BR.toArray/\xs.length<=sizeLine:=by
 rcases h with h|⟨o,BR,n,hk,hc,hd,hs,hz,r⟩
 ·obtain⟨z,BR,n,r,e⟩:=h.ok I.hok;exact⟨BR,r,⟨_,n,e,rfl,rfl,rfl⟩,z⟩
 ·refine⟨BR.toList,r,⟨o,n,I.kIn a o hk,hc,hd,by simpa using hs⟩,?_⟩;have e:=r.length;simp only[NA]at e;lia
theorem Inv.tupleN(I:Inv X pr σ H s)(h:SqT X.K H a xs):∃BR:List Value,Vals xs BR/\IsTupN s.heap a BR.toArray/\xs.length<=sizeLine:=by
 rcases h with h|⟨o,BR,n,hk,hc,hdn,hs,hz,r⟩
 ·obtain⟨z,BR,r,p⟩:=h.ok I.hok;exact⟨BR,r,p,z⟩
 ·refine⟨BR.toList,r,⟨o,I.kIn a o hk,hc,⟨n,by simpa using hs⟩,hdn⟩,?_⟩;have e:=r.length;simp only[NA]at e;lia
theorem Inv.tuple(I:Inv X pr σ H s)(h:SqT X.K H a xs):∃BR:List Value,Vals xs BR/\IsTup s.heap a BR.toArray/\xs.length<=sizeLine:=by
 obtain⟨BR,r,p,z⟩:=I.tupleN h;exact⟨BR,r,p.tup,z⟩
theorem Inv.list_inj(I:Inv X pr σ H s)(h:SqL X.K H a xs)(h':SqL X.K H a ys):xs=ys:=by
 obtain⟨BR,r,⟨o,n,e,_,_,d⟩,_⟩:=I.list h;obtain⟨its',r',⟨o',n',e',_,_,d'⟩,_⟩:=I.list h';rw[e]at e';cases e';rw[d]at d';injection d' with d1 _;have:BR=its':=by simpa using NQ Array.toList d1
 subst this;exact r.inj r'
theorem Inv.tuple_inj(I:Inv X pr σ H s)(h:SqT X.K H a xs)(h':SqT X.K H a ys):xs=ys:=by
 obtain⟨BR,r,⟨o,e,_,n,d⟩,_⟩:=I.tuple h;obtain⟨its',r',⟨o',e',_,n',d'⟩,_⟩:=I.tuple h';rw[e]at e';cases e';rw[d]at d';injection d' with d1 _;have:BR=its':=by simpa using NQ Array.toList d1
 subst this;exact r.inj r'
end
abbrev Cx.wish(X:Cx)(E:Value->Shared->Prop):Cx:={X with xe:=E}
abbrev Cx.nox(X:Cx):Cx:=X.wish fun _ _=>False
theorem Cx.Ok.wish{X:Cx}(ok:X.Ok)(E:Value->Shared->Prop):(X.wish E).Ok:=
 ⟨ok.mod,ok.kind,ok.glob,ok.blt,ok.above,ok.inj,ok.has,ok.cab,ok.hd,ok.frames,ok.stk,ok.exf,ok.bs,ok.bsz,ok.noex,ok.exfs,ok.funs,ok.frf⟩
theorem Cx.Ok.unwish{X:Cx}{E:Value->Shared->Prop}(ok:(X.wish E).Ok):X.Ok:=
 ⟨ok.mod,ok.kind,ok.glob,ok.blt,ok.above,ok.inj,ok.has,ok.cab,ok.hd,ok.frames,ok.stk,ok.exf,ok.bs,ok.bsz,ok.noex,ok.exfs,ok.funs,ok.frf⟩
section
variable{X:Cx}{pr:List (Addr×Obj)}{σ:St}{H:Hp}{s:Shared}{E:Value->Shared->Prop}
theorem Inv.wish(I:Inv X pr σ H s)(E:Value->Shared->Prop):Inv (X.wish E) pr σ H s:=⟨I.ok.wish E,I.os,I.bare,I.base,I.loc,I.cell,I.free,I.freeC,I.pin,I.hok,I.len⟩
theorem Inv.unwish(I:Inv (X.wish E) pr σ H s):Inv X pr σ H s:=⟨I.ok.unwish,I.os,I.bare,I.base,I.loc,I.cell,I.free,I.freeC,I.pin,I.hok,I.len⟩
theorem SP.unwish{D:Ends}{f:Flow}{s':Shared}(h:SP (X.wish E) pr D f s'):SP X pr D f s':=by
 cases f with
 |next=>obtain⟨σ',H',I,q⟩:=h;exact⟨σ',H',I.unwish,q⟩
 |brk=>obtain⟨σ',H',I,q⟩:=h;exact⟨σ',H',I.unwish,q⟩
 |cont=>obtain⟨σ',H',I,q⟩:=h;exact⟨σ',H',I.unwish,q⟩
 |ret u=>obtain⟨v,σ',H',I,r,q⟩:=h;exact⟨v,σ',H',I.unwish,r,q⟩
theorem PT.nox{e:Expr}{t:TT}(h:PT X.nox e t):PT X e t:=fun pr s σ H Q I hw=>
 Nv (h pr s σ H Q (I.wish _) hw) (fun _ _ ⟨H',I',q⟩=>⟨H',I'.unwish,q⟩) fun _ _ z=>False.elim z
theorem PSs.nox{st:List Stmt}{t:TS}(h:PSs X.nox st t):PSs X st t:=fun pr s σ H D I hw=>
 Nv (h pr s σ H D (I.wish _) hw) (fun _ _ q=>q.unwish) fun _ _ z=>False.elim z
end
section
variable{X:Cx}{st:Stmt}{ck:List Stmt}{t u:TS}{e:Expr}{te:TE}{pos:Pos}
def zq:TS:=fun D σ H=>D.nx σ H
def AU(t u:TS):TS:=fun D σ H=>t {D with nx:=u D} σ H
theorem oX:PSs X [] zq:=fun _ _ σ H _ I h=>OE ⟨σ,H,I,h⟩
theorem jq(h1:PS X st t)(h2:PSs X ck u):PSs X (st::ck) (AU t u):=by
 intro pr s σ H D I h;refine N3 (Ci (h1 pr s σ H {D with nx:=u D} I h) fun f s1 q=>?_);cases f with
 |next=>
  obtain⟨σ',H',I',q⟩:=q;exact h2 pr s1 σ' H' D I' q
 |ret v=>exact q
 |brk=>exact q
 |cont=>exact q
theorem uB(h1:PS X st t):PSs X [st] t:=by
 intro pr s σ H D I h;refine N3 (Ci (h1 pr s σ H D I h) fun f s1 q=>?_);cases f with
 |next=>exact OE q
 |ret v=>exact q
 |brk=>exact q
 |cont=>exact q
theorem Inv.quiet{pr:List (Addr×Obj)}{σ:St}{H:Hp}{s:Shared}(I:Inv X pr σ H s):interactive X.env=false:=by simp[interactive,I.ok.kind]
def zr(te:TE):TS:=fun D σ H=>te σ H fun _ H1=>D.nx σ H1
theorem uC(he:PE X e te)(hs:swapsWith e none pos.line X.env=pure false:=by rfl):PS X (.Expr e pos) (zr te):=by
 intro pr s σ H D I h;exact Qv (Ci (he pr s σ H _ I h) fun v s1 ⟨x,H1,I1,r1,q1⟩=>⟨σ,H1,I1,q1⟩) I.quiet hs
def AV(te:TE):TS:=fun D σ H=>te σ H D.rt
theorem xm(he:PE X e te):PS X (.Return (some e) pos) (AV te):=by
 intro pr s σ H D I h;exact wpAny_Return_some (Ci (he pr s σ H _ I h) fun v s1 ⟨x,H1,I1,r1,q1⟩=>⟨x,σ,H1,I1,r1,q1⟩)
def AW(c:TT)(t u:TS):TS:=fun D σ H=>c σ H fun b H1=>if b=true then t D σ H1 else u D σ H1
theorem zt{c:Expr}{a b:List Stmt}{tc:TT}(hc:PT X c tc)(ha:PSs X a t)(hb:PSs X b u):PS X (.If c a b pos) (AW tc t u):=by
 intro pr s σ H D I h;refine wpAny_If (Ci (hc pr s σ H _ I h) fun d s1 Cp=>?_);obtain⟨H1,I1,q1⟩:=Cp;cases d with
 |true=>exact ha pr s1 σ H1 D I1 q1
 |false=>exact hb pr s1 σ H1 D I1 q1
def xn:TS:=fun _ _ _=>False
theorem rA:PS X st xn:=fun _ _ _ _ _ _ h=>h.elim
end
abbrev TG:=V->St->Hp->(St->Hp->Prop)->Prop
abbrev HM:=List V->St->Hp->(St->Hp->Prop)->Prop
def PG(X:Cx)(target:Expr)(t:TG):Prop:=
 ∀(pr:List (Addr×Obj)) (s:Shared) (σ:St) (H:Hp) (v:V) (u:Value) (Q:St->Hp->Prop),Inv X pr σ H s->RelV v u->t v σ H Q->
  wpAny (model X.prog X.w) X.A (assign target X.env u) (fun _ s'=>∃σ' H',Inv X pr σ' H' s'/\Q σ' H') X.xe s
def HZ(X:Cx)(ts:List Expr)(t:HM):Prop:=
 ∀(pr:List (Addr×Obj)) (s:Shared) (σ:St) (H:Hp) (vs:List V) (us:List Value) (Q:St->Hp->Prop),Inv X pr σ H s->Vals vs us->t vs σ H Q->
  wpAny (model X.prog X.w) X.A (assignInOrder ((assignEach ts X.env).map (·.2)) us) (fun _ s'=>∃σ' H',Inv X pr σ' H' s'/\Q σ' H') X.xe s
section
variable{X:Cx}{pos:Pos}
def xo(i:Nat):TG:=fun v σ H Q=>Q (σ.set i (some v)) H
theorem uD{i:Nat}{x:Str}(hN:X.N.Nodup)(hi:X.N[i]?=some x)(hx:Loc X.env.scope x)(hf:X.fn x=true\/X.env.scope.names.lookup x=some .local:=by first|exact .inl rfl|exact .inr rfl|assumption):PG X (.Name x pos) (xo i):=by
 intro pr s σ H v u Q I r h;exact wpAny_assign_Name (jo I hN hi hx r (fun s' I'=>⟨_,H,I',h⟩) hf)
def AX:HM:=fun vs σ H Q=>vs=[]/\Q σ H
def zu(t:TG)(u:HM):HM:=fun vs σ H Q=>∃v r,vs=v::r/\t v σ H fun σ' H'=>u r σ' H' Q
theorem uE:HZ X [] AX:=by
 intro pr s σ H vs us Q I r h;obtain⟨e,h⟩:=h;subst e;cases r;exact assignInOrder_nil ⟨σ,H,I,h⟩
theorem rB{e:Expr}{es:List Expr}{t:TG}{u:HM}(h1:PG X e t)(h2:HZ X es u)
  (hs:(assignEach (e::es) X.env).map (·.2)=assign e X.env::(assignEach es X.env).map (·.2):=by rfl):HZ X (e::es) (zu t u):=by
 intro pr s σ H vs us Q I r h;obtain⟨v,vr,e1,h⟩:=h;subst e1;cases r with
 |cons r rr=>
  rw[hs];refine assignInOrder_cons (Ci (h1 pr s σ H _ _ _ I r h) fun _ s1 Cp=>?_);obtain⟨σ1,H1,I1,q1⟩:=Cp;exact h2 pr s1 σ1 H1 _ _ Q I1 rr q1
def AY(K:W.Frag)(n:Nat)(t:HM):TG:=fun v σ H Q=>∃a xs,v=.ref a/\SqT K H a xs/\xs.length=n/\t xs σ H Q
theorem xp{es:List Expr}{k:Nat}{t:HM}{n:Nat}(hc:X.calm=true)(h:HZ X es t)
  (hn:(assignEach es X.env).length=n:=by rfl) (CO:(assignEach es X.env).findIdx? (·.1)=none:=by rfl):PG X (.Tuple es k pos) (AY X.K n t):=by
 intro pr s σ H v u Q I r hw;obtain⟨a,xs,e1,hq,hl,hw⟩:=hw;subst e1;cases r;obtain⟨BR,rv,ht,hz⟩:=I.tuple hq;refine assign_Tuple_tuple (I.ok.hd hc) ht (by simp[hn,<-hl,rv.length]) CO fun h' hx=>?_
 have I1:Inv X pr σ H {s with heap:=h'}:=I.kept (t':=s.toks) fun b o e=>hx b o (MT (MK e)) e
 exact h pr _ σ H xs _ Q I1 (by simpa using rv) hw
def AZ(te:TE)(g:TG):TS:=fun D σ H=>te σ H fun x H1=>g x σ H1 D.nx
theorem oY{i:Nat}{x:Str}{e:Expr}{te:TE}{pos':Pos}(hN:X.N.Nodup)(hi:X.N[i]?=some x)(hx:Loc X.env.scope x)(he:PE X e te)(hs:swapsWith e (some (.Name x pos')) pos.line X.env=pure false:=by rfl)(hf:X.fn x=true\/X.env.scope.names.lookup x=some .local:=by first|exact .inl rfl|exact .inr rfl|assumption):
  PS X (.Assign [.Name x pos'] e pos) (AZ te (xo i)):=by
 intro pr s σ H D I h;refine wpAny_Assign_Name (Ci (he pr s σ H _ I h) fun v s1 ⟨y,H1,I1,r1,q1⟩=>?_) hs;exact jo I1 hN hi hx r1 (fun s2 I2=>⟨_,H1,I2,q1⟩) hf
end
section
variable{X:Cx}{pos:Pos}
end
structure It where
 go:Nat->Hp->Prop
 yld:Nat->Hp->V->Hp->Prop
 stop:Nat->Hp->Prop
def rg(X:Cx)(pr:List (Addr×Obj))(H:Hp)(b:Addr):Prop:=
 H b=none/\b≠X.env.locals/\b∉X.fs/\(b∈X.ex\/X.s₀.heap.objs.size<=b)/\(∀x c,X.env.cells.lookup x=some c->c≠b)/\∀p∈X.pn++pr,p.1≠b
theorem Inv.fpOk{X:Cx}{pr:List (Addr×Obj)}{σ:St}{H H':Hp}{s:Shared}{b:Addr}(I:Inv X pr σ H s)(hb:s.heap.objs.size<=b)(hn:H' b=none):rg X pr H' b:=by
 refine⟨hn,Nat.ne_of_gt (ML I.lt hb),I.nofs hb,.inr (M4 I.sz hb),fun x c e z=>?_,fun p hp z=>?_⟩
 ·obtain⟨v,q⟩:=I.cell x c e;exact absurd (ML q.lt (by rw[z];exact hb)) (N7 _)
 ·exact absurd (ML (MK (I.pin p hp).1) (by rw[z];exact hb)) (N7 _)
structure Turn(P:Program)(w:World)(K:W.Frag)(tg:Expr)(J:It)(fp:List Addr)(it:Addr)(tn:Nat->Heap->Prop):Prop where
 mem:it∈fp
 obj:∀i h,tn i h->∀b∈fp,∃o,h.get? b=some o/\∀v,o.data≠.cell v
 keep:∀i h h',tn i h->(∀b∈fp,∀o,h.get? b=some o->h'.get? b=some o)->tn i h'
 item:∀(X:Cx),X.prog=P->X.w=w->X.K=K->X.calm=true->∀(i:Nat) (pr:List (Addr×Obj)) (s:Shared) (σ:St) (H:Hp) (E:Value->Shared->Prop),Inv X pr σ H s->(∀b∈fp,rg X pr H b)->tn i s.heap->J.go i H->
  wpAny (model P w) X.A (pyNext (.ref it)) (fun r s1=>∃u,r=some u/\
   wpAny (model P w) X.A (letOwnedTupleGo tg (.ref it) u) (fun _ s2=>∃x H',Inv X pr σ H' s2/\RelV x u/\J.yld i H x H'/\tn (i+1) s2.heap/\∀b∈fp,H' b=none) E s1) E s
 done:∀(X:Cx),X.prog=P->X.w=w->X.K=K->X.calm=true->∀(i:Nat) (pr:List (Addr×Obj)) (s:Shared) (σ:St) (H:Hp) (E:Value->Shared->Prop),Inv X pr σ H s->(∀b∈fp,rg X pr H b)->tn i s.heap->J.stop i H->
  wpAny (model P w) X.A (pyNext (.ref it)) (fun r s1=>r=none/\Inv X pr σ H s1) E s
 self:∀(A:Around) (i:Nat) (s:Shared) (Q:Value->Shared->Prop) (E:Value->Shared->Prop),tn i s.heap->Q (.ref it) s->wpAny (model P w) A (pyIter (.ref it)) Q E s
abbrev TI:=St->Hp->(It->Hp->Prop)->Prop
def LO(X:Cx)(pr:List (Addr×Obj))(σ:St)(tg:Expr)(R:It->Hp->Prop)(Ku:Value)(s2:Shared):Prop:=
 ∃(it:Addr) (fp:List Addr) (tn:Nat->Heap->Prop) (J:It) (H':Hp),Ku=.ref it/\Inv X pr σ H' s2/\Turn X.prog X.w X.K tg J fp it tn/\tn 0 s2.heap/\(∀b∈fp,rg X pr H' b)/\R J H'
def PI(X:Cx)(tg iter:Expr)(wi:TI):Prop:=
 ∀(pr:List (Addr×Obj)) (s:Shared) (σ:St) (H:Hp) (R:It->Hp->Prop),Inv X pr σ H s->wi σ H R->
  wpAny (model X.prog X.w) X.A (eval iter X.env) (fun v s1=>wpAny (model X.prog X.w) X.A (pyIter v) (LO X pr σ tg R) X.xe s1) X.xe s
theorem rD {M : Model} {A : Around} {E : Value -> Shared -> Prop} {s : Shared} {tg : Expr} {it : Addr} {u : Value} {o : Obj} {n : String} {vs : Array Value} {Q : Unit -> Shared -> Prop} (ho : s.heap.get? it = some o) (hc : o.cls = .type n) (hd : o.data = .fields vs)
    (hn : ["enumerate", "zip", "dict_itemiterator", "dict_reverseitemiterator", "odict_iterator", "itertools.zip_longest", "itertools.pairwise"].contains n = false) (hQ : Q () s) : wpAny M A (letOwnedTupleGo tg (.ref it) u) Q E s := by
  unfold letOwnedTupleGo
  cases tg <;> first
    | exact MD hQ
    | (cases u <;> first
        | exact MD hQ
        | (refine Mx (wpAny_load ho ?_)
           rw [hc, hd]
           show wpAny M A (if (["enumerate", "zip", "dict_itemiterator", "dict_reverseitemiterator", "odict_iterator", "itertools.zip_longest", "itertools.pairwise"].contains n && vs[0]? == some (rawInt _)) = true then _ else _) Q E s
           rw [MO (by intro h; rw [hn, Bool.false_and] at h; cases h)]
           exact MD hQ))
def Je(K:W.Frag)(a:Addr):It:=
 ⟨fun i H=>∃xs x,SqL K H a xs/\xs[i]?=some x,fun i H x H'=>H'=H/\∀xs,SqL K H a xs->xs[i]?=some x,fun i H=>∃xs,SqL K H a xs/\xs.length<=i⟩
def K0(K:W.Frag)(a:Addr):It:=
 ⟨fun i H=>∃xs x,SqT K H a xs/\xs[i]?=some x,fun i H x H'=>H'=H/\∀xs,SqT K H a xs->xs[i]?=some x,fun i H=>∃xs,SqT K H a xs/\xs.length<=i⟩
def Jz(lo:Int)(n:Nat):It:=⟨fun i _=>i<n,fun i H x H'=>H'=H/\x=.int (lo+i),fun i _=>n<=i⟩
theorem oZ{P:Program}{w:World}{K:W.Frag}{tg:Expr}(a it:Addr):Turn P w K tg (Je K a) [it] it (fun i h=>h.IsListIter it a i) where
 mem:=by simp
 obj:=fun i h st b hb=>by
  have e:b=it:=by simpa using hb
  subst e;obtain⟨o,e,c,d⟩:=st;exact⟨o,e,fun v z=>by rw[d]at z;cases z⟩
 keep:=fun i h h' st k=>st.at fun o e=>k it (by simp) o e
 item:=by
  intro X hP hw hK hc i pr s σ H E I hf st hg;subst hP hw hK;obtain⟨xs,x,hq,hx⟩:=hg;obtain⟨BR,rv,p,hz⟩:=I.list hq;obtain⟨u,hu,ru⟩:=rv.get hx;obtain⟨f0,f1,f2,f3,f4,f5⟩:=hf it (by simp);refine wpAny_pyNext_list_item st p.isList (x:=u) (by simpa using hu) fun h' D0 sb=>?_
  have I1:Inv X pr σ H {s with heap:=h'}:=I.turned (t':=s.toks) (fun b o hb e=>(sb.2 b hb).trans e) f0 f1 f3 f4 f5;obtain⟨o,e,c,d⟩:=id D0;exact⟨u,rfl,rD (s:={s with heap:=h'}) e c d (by decide) ⟨x,H,I1,ru,⟨rfl,fun ys hy=>by rw[I.list_inj hy hq];exact hx⟩,D0,fun b hb=>(hf b hb).1⟩⟩
 done:=by
  intro X hP hw hK hc i pr s σ H E I hf st hg;subst hP hw hK;obtain⟨xs,hq,hx⟩:=hg;obtain⟨BR,rv,p,hz⟩:=I.list hq;obtain⟨f0,f1,f2,f3,f4,f5⟩:=hf it (by simp);have hl:=rv.length;exact wpAny_pyNext_list_end (I.ok.hd hc) st p.isList (by simp;lia) fun h' eb=>⟨rfl,I.turned (t':=s.toks) (fun b o hb e=>eb b o hb e) f0 f1 f3 f4 f5⟩
 self:=fun _ _ _ _ _ st h=>wpAny_pyIter_listiter st h
theorem nU{P:Program}{w:World}{K:W.Frag}{tg:Expr}(a it:Addr):Turn P w K tg (K0 K a) [it] it (fun i h=>h.IsTupleIter it a i) where
 mem:=by simp
 obj:=fun i h st b hb=>by
  have e:b=it:=by simpa using hb
  subst e;obtain⟨o,e,c,d⟩:=st;exact⟨o,e,fun v z=>by rw[d]at z;cases z⟩
 keep:=fun i h h' st k=>st.at fun o e=>k it (by simp) o e
 item:=by
  intro X hP hw hK hc i pr s σ H E I hf st hg;subst hP hw hK;obtain⟨xs,x,hq,hx⟩:=hg;obtain⟨BR,rv,p,hz⟩:=I.tuple hq;obtain⟨u,hu,ru⟩:=rv.get hx;obtain⟨f0,f1,f2,f3,f4,f5⟩:=hf it (by simp);refine wpAny_pyNext_tuple_item st (show s.heap.IsTuple a BR.toArray from p) (x:=u) (by simpa using hu) fun h' D0 sb=>?_
  have I1:Inv X pr σ H {s with heap:=h'}:=I.turned (t':=s.toks) (fun b o hb e=>(sb.2 b hb).trans e) f0 f1 f3 f4 f5;obtain⟨o,e,c,d⟩:=id D0;exact⟨u,rfl,rD (s:={s with heap:=h'}) e c d (by decide) ⟨x,H,I1,ru,⟨rfl,fun ys hy=>by rw[I.tuple_inj hy hq];exact hx⟩,D0,fun b hb=>(hf b hb).1⟩⟩
 done:=by
  intro X hP hw hK hc i pr s σ H E I hf st hg;subst hP hw hK;obtain⟨xs,hq,hx⟩:=hg;obtain⟨BR,rv,p,hz⟩:=I.tuple hq;obtain⟨f0,f1,f2,f3,f4,f5⟩:=hf it (by simp);have hl:=rv.length;exact wpAny_pyNext_tuple_end (I.ok.hd hc) st (show s.heap.IsTuple a BR.toArray from p) (by simp;lia) fun h' eb=>⟨rfl,I.turned (t':=s.toks) (fun b o hb e=>eb b o hb e) f0 f1 f3 f4 f5⟩
 self:=fun _ _ _ _ _ st h=>wpAny_pyIter_tupleiter st h
theorem nV{P:Program}{w:World}{K:W.Frag}{tg:Expr}(it:Addr)(lo:Int)(n:Nat):Turn P w K tg (Jz lo n) [it] it (fun i h=>IsRangeIter h it (lo+(i:Nat)*1) ((n:Int)-(i:Nat)) 1) where
 mem:=by simp
 obj:=fun i h st b hb=>by
  have e:b=it:=by simpa using hb
  subst e;exact⟨_,st,fun v z=>by
   have z':Data.fields _=Data.cell v:=z;cases z'⟩
 keep:=fun i h h' st k=>k it (by simp) _ st
 item:=by
  intro X hP hw hK hc i pr s σ H E I hf st hg;subst hP hw hK;obtain⟨f0,f1,f2,f3,f4,f5⟩:=hf it (by simp);have W:=Walks.range (prog:=X.prog) (w:=X.w) (I.ok.hd hc) it lo 1 n;refine W.item i s _ _ hg st fun v h' tk hv D0 kk=>?_
  obtain⟨t,rfl⟩:=hv;have I1:Inv X pr σ H {s with heap:=h',toks:=tk}:=I.turned (fun b o hb e=>kk b o (by simpa using hb) e) f0 f1 f3 f4 f5;refine⟨_,rfl,rD (s:={s with heap:=h',toks:=tk}) (n:="range_iterator") D0 rfl rfl (by decide) ⟨.int (lo+i),H,I1,⟨t,?_⟩,⟨rfl,rfl⟩,D0,fun b hb=>(hf b hb).1⟩⟩;rw[Int.mul_one]
 done:=by
  intro X hP hw hK hc i pr s σ H E I hf st hg;subst hP hw hK;obtain⟨f0,f1,f2,f3,f4,f5⟩:=hf it (by simp);exact wpAny_pyNext_range_end (I.ok.hd hc) st (by have:n<=i:=hg;lia) fun h' eb=>⟨rfl,I.turned (t':=s.toks) (fun b o hb e=>eb b o hb e) f0 f1 f3 f4 f5⟩
 self:=fun _ _ _ _ _ st h=>wpAny_pyIter_rangeiter st h
section
variable{X:Cx}{tg:Expr}
def zv(K:W.Frag)(tl:TE):TI:=fun σ H R=>tl σ H fun x H1=>∃a,x=.ref a/\(∃xs,SqL K H1 a xs)/\R (Je K a) H1
def A3(K:W.Frag)(tl:TE):TI:=fun σ H R=>tl σ H fun x H1=>∃a,x=.ref a/\(∃xs,SqT K H1 a xs)/\R (K0 K a) H1
theorem uF{l:Expr}{tl:TE}(hl:PE X l tl):PI X tg l (zv X.K tl):=by
 intro pr s σ H R I h;refine Ci (hl pr s σ H _ I h) fun v s1 Cp=>?_
 obtain⟨x,H1,I1,r1,q1⟩:=Cp;obtain⟨a,e,⟨xs,hq⟩,q⟩:=q1;subst e;cases r1;obtain⟨BR,rv,p,hz⟩:=I1.list hq;refine wpAny_pyIter_list p.isList ?_;refine⟨s1.heap.objs.size,[s1.heap.objs.size],_,_,H1,rfl,I1.kept (t':=s1.toks) fun b o e=>MB _ e,oZ a _,⟨_,MR _ rfl,rfl,rfl⟩,fun b hb=>?_,q⟩;have e:b=s1.heap.objs.size:=by simpa using hb
 subst e;exact I1.fpOk (MH _) (I1.hok.fresh (MH _))
theorem xq{l:Expr}{tl:TE}(hl:PE X l tl):PI X tg l (A3 X.K tl):=by
 intro pr s σ H R I h;refine Ci (hl pr s σ H _ I h) fun v s1 Cp=>?_
 obtain⟨x,H1,I1,r1,q1⟩:=Cp;obtain⟨a,e,⟨xs,hq⟩,q⟩:=q1;subst e;cases r1;obtain⟨BR,rv,p,hz⟩:=I1.tuple hq;refine wpAny_pyIter_tuple (show s1.heap.IsTuple a BR.toArray from p) ?_;refine⟨s1.heap.objs.size,[s1.heap.objs.size],_,_,H1,rfl,I1.kept (t':=s1.toks) fun b o e=>MB _ e,nU a _,⟨_,MR _ rfl,rfl,rfl⟩,fun b hb=>?_,q⟩;have e:b=s1.heap.objs.size:=by simpa using hb
 subst e;exact I1.fpOk (MH _) (I1.hok.fresh (MH _))
theorem mE{pr:List (Addr×Obj)}{σ:St}{H:Hp}{s:Shared}{R:It->Hp->Prop}{E:Value->Shared->Prop}{lo hi:Int}{t u v:Tok}{tk:Nat}(I:Inv X pr σ H s)(h1:-(2 ^ 62)<=lo)(h2:lo<2 ^ 62)(h3:-(2 ^ 62)<=hi)(h4:hi<2 ^ 62)
  (q:R (Jz lo (hi-lo).toNat) H):wpAny (model X.prog X.w) X.A (pyIter (.ref s.heap.objs.size)) (LO X pr σ tg R) E {s with heap:=s.heap.push {cls:=.type "range",data:=.fields #[.int lo t,.int hi u,.int 1 v]},toks:=tk}:=by
 refine wpAny_pyIter_range (IsRange.new ..) (small_one h1 h2 h3 h4) ?_;have I1:Inv X pr σ H {s with heap:=s.heap.push {cls:=.type "range",data:=.fields #[.int lo t,.int hi u,.int 1 v]},toks:=tk}:=I.kept fun b o e=>MB _ e
 refine⟨(s.heap.push {cls:=.type "range",data:=.fields #[.int lo t,.int hi u,.int 1 v]}).objs.size,[(s.heap.push {cls:=.type "range",data:=.fields #[.int lo t,.int hi u,.int 1 v]}).objs.size],_,_,H,rfl,
  I1.kept (t':=tk) fun b o e=>MB _ e,nV _ lo (hi-lo).toNat,?_,fun b hb=>?_,q⟩
 ·have e1:lo+((0:Nat):Int)*1=lo:=by simp
  have e2:(((hi-lo).toNat:Nat):Int)-((0:Nat):Int)=Builtin.Range.rangeSize lo hi 1:=by rw[rangeSize_one];split <;> lia
  show IsRangeIter _ _ (lo+((0:Nat):Int)*1) ((((hi-lo).toNat:Nat):Int)-((0:Nat):Int)) 1;rw[e1,e2];exact MR _ rfl
 ·have e:b=(s.heap.push {cls:=.type "range",data:=.fields #[.int lo t,.int hi u,.int 1 v]}).objs.size:=by simpa using hb
  subst e;exact I1.fpOk (MH _) (I1.hok.fresh (MH _))
def zw(ta:TA):TI:=fun σ H R=>ta σ H fun vs H1=>∃j:Int,vs=[.int j]/\-(2 ^ 62)<=j/\j<2 ^ 62/\R (Jz 0 j.toNat) H1
def zx(ta:TA):TI:=fun σ H R=>ta σ H fun vs H1=>∃i j:Int,vs=[.int i,.int j]/\(-(2 ^ 62)<=i/\i<2 ^ 62/\-(2 ^ 62)<=j/\j<2 ^ 62)/\R (Jz i (j-i).toNat) H1
theorem o5{a:Expr}{ta:TA}{p pos:Pos}(hg:Gl X "range")(hm:X.mg "range" = none)(ha:PA X [a] ta)(hs:starEach [a] X.env=[(false,eval a X.env)]:=by rfl):PI X tg (.Call (.Name "range" p) [a] [] pos) (zw ta):=by
 intro pr s σ H R I h;refine Call_ (iV I hg hm boot_range (Oi (Ci (ha pos pr s σ H _ I h) fun us s1 ⟨vs,H1,I1,r1,q1⟩=>?_) hs rfl));obtain⟨j,e,q1,q2,q⟩:=q1;subst e;cases r1 with
 |cons r rr=>
  cases rr;obtain⟨t,rfl⟩:=r;exact call_range_1 (mE I1 (by lia) (by lia) q1 q2 (by simpa using q))
theorem o6{a b:Expr}{ta:TA}{p pos:Pos}(hg:Gl X "range")(hm:X.mg "range" = none)(ha:PA X [a,b] ta)(hs:starEach [a,b] X.env=[(false,eval a X.env),(false,eval b X.env)]:=by rfl)(GI:starEach [b] X.env=[(false,eval b X.env)]:=by rfl):
  PI X tg (.Call (.Name "range" p) [a,b] [] pos) (zx ta):=by
 intro pr s σ H R I h;refine Call_ (iV I hg hm boot_range (Oi (Ci (ha pos pr s σ H _ I h) fun us s1 ⟨vs,H1,I1,r1,q1⟩=>?_) (by rw[hs,GI]) (by rw[GI];rfl)));obtain⟨i,j,e,⟨q1,q2,q3,q4⟩,q⟩:=q1;subst e;cases r1 with
 |cons r rr=>
  cases rr with
  |cons r' rr=>
   cases rr;obtain⟨t,rfl⟩:=r;obtain⟨t',rfl⟩:=r';exact call_range_2 (mE I1 q1 q2 q3 q4 q)
noncomputable def A4(wi:TI)(g:TG)(tb:TS):TS:=fun D σ H=>wi σ H fun J H1=>∃W:Nat->Nat->St->Hp->Prop,(∃m,W 0 m σ H1)/\∀i m σ H,W i m σ H->
 (J.stop i H/\D.nx σ H)\/(J.go i H/\∃N:St->Hp->Prop,(∀σ' H',N σ' H'->∃m',m'<m/\W (i+1) m' σ' H')/\∀x H',J.yld i H x H'->g x σ H' fun σ2 H2=>tb {D with nx:=N,ct:=N,bk:=D.nx} σ2 H2)
def kg(fp:List Addr)(h:Heap):List (Addr×Obj):=fp.filterMap fun b=>(h.get? b).map fun o=>(b,o)
theorem eh{fp:List Addr}{h:Heap}{b:Addr}{o:Obj}(hb:b∈fp)(e:h.get? b=some o):(b,o)∈kg fp h:=Od.mpr ⟨b,hb,by rw[e];rfl⟩
theorem o7{fp:List Addr}{h:Heap}{p:Addr×Obj}(hp:p∈kg fp h):p.1∈fp/\h.get? p.1=some p.2:=by
 obtain⟨b,hb,e⟩:=Od.mp hp;cases q:h.get? b with
 |none=>rw[q]at e;cases e
 |some o=>
  rw[q]at e;have e':(b,o)=p:=Na e;subst e';exact⟨hb,q⟩
theorem Inv.pinned{pr:List (Addr×Obj)}{σ:St}{H:Hp}{s:Shared}{fp:List Addr}(I:Inv X pr σ H s)(hf:∀b∈fp,rg X pr H b)(ho:∀b∈fp,∃o,s.heap.get? b=some o/\∀v,o.data≠.cell v):Inv X (pr++kg fp s.heap) σ H s:=
 I.pins_of fun p hp=>(M1.mp hp).elim (fun z=>I.pin p (MI _ z)) fun z=>by
  obtain⟨hb,e⟩:=o7 z;obtain⟨f0,f1,f2,_⟩:=hf p.1 hb;obtain⟨o,e',d⟩:=ho p.1 hb;rw[e]at e';cases e';exact⟨e,f0,f1,f2,d⟩
theorem Inv.unpinned{pr pl:List (Addr×Obj)}{σ:St}{H:Hp}{s:Shared}(I:Inv X (pr++pl) σ H s):Inv X pr σ H s:=I.pins_of fun p hp=>I.pin p (MI _ (MU _ hp))
theorem xr{iter:Expr}{body:List Stmt}{wi:TI}{g:TG}{tb:TS}{pos:Pos}(hp:PassesOwn (model X.prog X.w) X.A X.env X.xe)(hc:X.calm=true)(hi:PI X tg iter wi)(hg:PG X tg g)(hb:PSs X body tb)
  (hs:∀x,foldedSetIterable iter X.env x=pure x:=by intro _;rfl):PS X (.For tg iter body [] pos) (A4 wi g tb):=by
 intro pr s σ H D I h;refine wpAny_For (Ci (hi pr s σ H _ I h) fun v s1 h1=>Ci h1 fun Ku s2 h2=>?_) hs;obtain⟨it,fp,tn,J,H2,e,I2,T,B0,f2,W,⟨m0,w0⟩,turn⟩:=h2;subst e;have EZ:∀{H':Hp},(∀b∈fp,H' b=none)->∀b∈fp,rg X pr H' b:=fun hn b hb=>⟨hn b hb,(f2 b hb).2⟩
 refine codeAny_forLoop_any (fun n s'=>∃i σ' H',Inv X pr σ' H' s'/\tn i s'.heap/\(∀b∈fp,H' b=none)/\W i n σ' H') ?_ m0 ⟨0,σ,H2,I2,B0,fun b hb=>(f2 b hb).1,w0⟩;rintro n s3 ⟨i,σ3,H3,I3,CI,JA,w3⟩;rcases turn i n σ3 H3 w3 with⟨stop,qn⟩|⟨go,N,hN,step⟩
 ·refine OF hp (Ci (T.done X rfl rfl rfl hc i pr s3 σ3 H3 X.xe I3 (EZ JA) CI stop) fun r s4 Cp=>?_);obtain⟨hr,I4⟩:=Cp;subst hr;exact OE ⟨σ3,H3,I4,qn⟩
 ·refine OF hp (Ci (T.item X rfl rfl rfl hc i pr s3 σ3 H3 X.xe I3 (EZ JA) CI go) fun r s4 Cp=>?_);obtain⟨u,hr,h4⟩:=Cp;subst hr;refine OF hp (Ci h4 fun _ s5 Cp=>?_);obtain⟨x,H5,I5,r5,y5,D1,K1⟩:=Cp;have K2:=I5.pinned (EZ K1) (T.obj _ _ D1);refine OF hp (Ci (hg _ s5 σ3 H5 x u _ K2 r5 (step x H5 y5)) fun _ s6 Cp=>?_);obtain⟨σ6,H6,I6,q6⟩:=Cp;refine OF hp (Ci (hb _ s6 σ6 H6 _ I6 q6) fun f s7 q7=>?_);have again:∀{σ7:St}{H7:Hp},Inv X (pr++kg fp s5.heap) σ7 H7 s7->N σ7 H7->∃m,m<n/\∃i σ' H',Inv X pr σ' H' s7/\tn i s7.heap/\(∀b∈fp,H' b=none)/\W i m σ' H':=fun{σ7 H7} I7 n7=>by
   obtain⟨m',hm,w7⟩:=hN σ7 H7 n7;refine⟨m',hm,i+1,σ7,H7,I7.unpinned,T.keep _ _ _ D1 fun b hb o e=>(I7.pin (b,o) (MI _ (MI _ (eh hb e)))).1,fun b hb=>?_,w7⟩;obtain⟨o,e,d⟩:=T.obj _ _ D1 b hb;exact(I7.pin (b,o) (MI _ (MI _ (eh hb e)))).2.1
  cases f with
  |next=>obtain⟨σ7,H7,I7,n7⟩:=q7;exact again I7 n7
  |cont=>obtain⟨σ7,H7,I7,n7⟩:=q7;exact again I7 n7
  |brk=>obtain⟨σ7,H7,I7,q7⟩:=q7;exact⟨σ7,H7,I7.unpinned,q7⟩
  |ret v=>obtain⟨x7,σ7,H7,I7,r7,q7⟩:=q7;exact⟨x7,σ7,H7,I7.unpinned,r7,q7⟩
end
theorem for_list{K:W.Frag}{a:Addr}{xs:List V}{g:TG}{tb:TS}{D:Ends}{σ:St}{H:Hp}(Pv:Nat->St->Hp->Prop)(h0:Pv 0 σ H)(hl:∀i σ H,i<=xs.length->Pv i σ H->SqL K H a xs)
  (hs:∀i x σ H,xs[i]?=some x->Pv i σ H->g x σ H fun σ2 H2=>tb {D with nx:=Pv (i+1),ct:=Pv (i+1),bk:=D.nx} σ2 H2) (hd:∀σ H,Pv xs.length σ H->D.nx σ H):
  ∃W:Nat->Nat->St->Hp->Prop,(∃m,W 0 m σ H)/\∀i m σ H,W i m σ H->
   ((Je K a).stop i H/\D.nx σ H)\/((Je K a).go i H/\∃N:St->Hp->Prop,(∀σ' H',N σ' H'->∃m',m'<m/\W (i+1) m' σ' H')/\∀x H',(Je K a).yld i H x H'->g x σ H' fun σ2 H2=>tb {D with nx:=N,ct:=N,bk:=D.nx} σ2 H2):=by
 refine⟨fun i m σ H=>m=xs.length-i/\i<=xs.length/\Pv i σ H,⟨xs.length,by simp,Nq _,h0⟩,?_⟩;rintro i m σ H ⟨rfl,hi,p⟩;have q:=hl i σ H hi p;by_cases DO:i<xs.length
 ·refine .inr ⟨⟨xs,xs[i],q,by simp[DO]⟩,Pv (i+1),fun σ' H' p'=>⟨xs.length-(i+1),by lia,rfl,DO,p'⟩,fun x H' y=>?_⟩;obtain⟨e,y⟩:=y;subst e;exact hs i x σ _ (y xs q) p
 ·have e:i=xs.length:=by lia
  subst e;exact .inl ⟨⟨xs,q,MH _⟩,hd σ H p⟩
abbrev R2:=V->V->Hp->VK->Prop
def CF(X:Cx)(f:Value->Value->Sem Value)(r:R2):Prop:=
 ∀(pr:List (Addr×Obj)) (s:Shared) (σ:St) (H:Hp) (x y:V) (v u:Value) (Q:VK),Inv X pr σ H s->RelV x v->RelV y u->r x y H Q->
  wpAny (model X.prog X.w) X.A (f v u) (EP X pr σ Q) X.xe s
def K3(X:Cx)(f:Value->Sem Value)(r:V->Hp->VK->Prop):Prop:=
 ∀(pr:List (Addr×Obj)) (s:Shared) (σ:St) (H:Hp) (x:V) (v:Value) (Q:VK),Inv X pr σ H s->RelV x v->r x H Q->
  wpAny (model X.prog X.w) X.A (f v) (EP X pr σ Q) X.xe s
def cX(X:Cx)(f:Value)(r:List V->Hp->VK->Prop):Prop:=
 ∀(pr:List (Addr×Obj)) (s:Shared) (σ:St) (H:Hp) (xs:List V) (us:List Value) (Q:VK),Inv X pr σ H s->Vals xs us->r xs H Q->
  wpAny (model X.prog X.w) X.A (call f us) (EP X pr σ Q) X.xe s
def Jf(r:R2)(ta tb:TE):TE:=fun σ H Q=>ta σ H fun x H1=>tb σ H1 fun y H2=>r x y H2 Q
def tUn(r:V->Hp->VK->Prop)(ta:TE):TE:=fun σ H Q=>ta σ H fun x H1=>r x H1 Q
def rI(C:Int->Int->Prop)(g:Int->Int->V):R2:=fun x y H Q=>∃i j,x=.int i/\y=.int j/\C i j/\Q (g i j) H
def Ia(g:Int->Int->V):R2:=fun x y H Q=>∃i j,x=.int i/\y=.int j/\Q (g i j) H
def rU(g:Int->V):V->Hp->VK->Prop:=fun x H Q=>∃i,x=.int i/\Q (g i) H
section
variable{X:Cx}{a b c:Expr}{ta tb tc:TE}{pos:Pos}
theorem zy(ha:PE X a ta)(hb:PE X b tb){pr:List (Addr×Obj)}{s:Shared}{σ:St}{H:Hp}{R:V->V->Hp->Prop}(I:Inv X pr σ H s)
  (h:ta σ H fun x H1=>tb σ H1 fun y H2=>R x y H2) {Q:Value->Shared->Prop}{f:Value->Value->Sem Value}
  (hf:∀v u s2 x y H2,Inv X pr σ H2 s2->RelV x v->RelV y u->R x y H2->wpAny (model X.prog X.w) X.A (f v u) Q X.xe s2):
  wpAny (model X.prog X.w) X.A (eval a X.env) (fun v s₁=>wpAny (model X.prog X.w) X.A (eval b X.env) (fun u s₂=>wpAny (model X.prog X.w) X.A (f v u) Q X.xe s₂) X.xe s₁) X.xe s:=by
 refine Ci (ha pr s σ H _ I h) fun v s1 Cp=>?_
 obtain⟨x,H1,I1,r1,q1⟩:=Cp;refine Ci (hb pr s1 σ H1 _ I1 q1) fun u s2 Cp=>?_
 obtain⟨y,H2,I2,r2,q2⟩:=Cp;exact hf v u s2 x y H2 I2 r1 r2 q2
theorem xt{op:Operator}{r:R2}(ho:CF X (binaryOp op) r)(ha:PE X a ta)(hb:PE X b tb):PE X (.BinOp a op b pos) (Jf r ta tb):=by
 intro pr s σ H Q I h;exact wpAny_BinOp (zy ha hb I h fun v u s2 x y H2 I2 rx ry q=>ho pr s2 σ H2 x y v u Q I2 rx ry q)
theorem zA{op:UnaryOp}{r:V->Hp->VK->Prop}(ho:K3 X (unaryOp op) r)(ha:PE X a ta):PE X (.UnaryOp op a pos) (tUn r ta):=by
 intro pr s σ H Q I h;exact UnaryOp_ (Ci (ha pr s σ H _ I h) fun v s1 ⟨x,H1,I1,r1,q1⟩=>ho pr s1 σ H1 x v Q I1 r1 q1)
theorem Kv{f:Value->Value->Sem Value}{C:Int->Int->Prop}{g:Int->Int->Int}
  (rule:∀(i j:Int) (t u:Tok) (s:Shared) (Q:Value->Shared->Prop) (E:Value->Shared->Prop),C i j->Q (.int (g i j) s.toks) {s with toks:=s.toks+1}->wpAny (model X.prog X.w) X.A (f (.int i t) (.int j u)) Q E s):
  CF X f (rI C fun i j=>.int (g i j)):=by
 intro pr s σ H x y v u Q I rx ry h;obtain⟨i,j,rfl,rfl,hc,q⟩:=h;obtain⟨t,rfl⟩:=rx;obtain⟨t',rfl⟩:=ry;exact rule i j t t' s _ _ hc ⟨.int (g i j),H,I.tok _,⟨_,rfl⟩,q⟩
theorem Ay{f:Value->Value->Sem Value}{g:Int->Int->Int}
  (rule:∀(i j:Int) (t u:Tok) (s:Shared) (Q:Value->Shared->Prop) (E:Value->Shared->Prop),Q (.int (g i j) s.toks) {s with toks:=s.toks+1}->wpAny (model X.prog X.w) X.A (f (.int i t) (.int j u)) Q E s):
  CF X f (Ia fun i j=>.int (g i j)):=by
 intro pr s σ H x y v u Q I rx ry h;obtain⟨i,j,rfl,rfl,q⟩:=h;obtain⟨t,rfl⟩:=rx;obtain⟨t',rfl⟩:=ry;exact rule i j t t' s _ _ ⟨.int (g i j),H,I.tok _,⟨_,rfl⟩,q⟩
theorem zB{f:Value->Value->Sem Value}{g:Int->Int->Bool}
  (rule:∀(i j:Int) (t u:Tok) (s:Shared) (Q:Value->Shared->Prop) (E:Value->Shared->Prop),Q (.bool (g i j)) s->wpAny (model X.prog X.w) X.A (f (.int i t) (.int j u)) Q E s):
  CF X f (Ia fun i j=>.bl (g i j)):=by
 intro pr s σ H x y v u Q I rx ry h;obtain⟨i,j,rfl,rfl,q⟩:=h;obtain⟨t,rfl⟩:=rx;obtain⟨t',rfl⟩:=ry;exact rule i j t t' s _ _ ⟨.bl (g i j),H,I,rfl,q⟩
def A5(i j:Int):Prop:=0<j/\j<1073741824
def CMul(i j:Int):Prop:=(-(2 ^ 64)<i/\i<2 ^ 64)\/(-(2 ^ 64)<j/\j<2 ^ 64)
theorem CMul.ok{i j:Int}(h:CMul i j):IntMulOk i j:=by
 rcases h with⟨h1,h2⟩|⟨h1,h2⟩
 ·exact .of_left (intBits_le_64 h1 h2)
 ·exact .of_right (intBits_le_64 h1 h2)
theorem xu:CF X (binaryOp .Add) (Ia fun i j=>.int (i+j)):=Ay fun _ _ _ _ _ _ _ q=>add_int q
theorem xv:CF X (binaryOp .Sub) (Ia fun i j=>.int (i-j)):=Ay fun _ _ _ _ _ _ _ q=>sub_int q
theorem xw:CF X (binaryOp .Mult) (rI CMul fun i j=>.int (i*j)):=Kv fun _ _ _ _ _ _ _ hc q=>mul_int q hc.ok
theorem uG:CF X (binaryOp .FloorDiv) (rI A5 fun i j=>.int (i / j)):=Kv fun i j _ _ _ _ _ hc q=>by
 have h1:(0:Int)<j:=hc.1;have h2:j<1073741824:=hc.2;exact floordiv_int (by lia) (by rw[Int.fdiv_eq_ediv_of_nonneg i (by lia)];exact q) (.inl (PyProof.noPylong_small (by lia)))
theorem xx:CF X (binaryOp .Mod) (rI (fun _ j=>0<j) fun i j=>.int (i%j)):=Kv fun i j _ _ _ _ _ hc q=>by
 have h1:(0:Int)<j:=hc;exact mod_int' (by lia) (by rw[Int.fmod_eq_emod_of_nonneg i (by lia)];exact q)
theorem unI{f:Value->Sem Value}{g:Int->Int}
  (rule:∀(i:Int) (t:Tok) (s:Shared) (Q:Value->Shared->Prop) (E:Value->Shared->Prop),Q (.int (g i) s.toks) {s with toks:=s.toks+1}->wpAny (model X.prog X.w) X.A (f (.int i t)) Q E s):
  K3 X f (rU fun i=>.int (g i)):=by
 intro pr s σ H x v Q I rx h;obtain⟨i,rfl,q⟩:=h;obtain⟨t,rfl⟩:=rx;exact rule i t s _ _ ⟨.int (g i),H,I.tok _,⟨_,rfl⟩,q⟩
theorem xy:K3 X (unaryOp .USub) (rU fun i=>.int (-i)):=unI fun _ _ _ _ _ q=>neg_int q
end
section
variable{X:Cx}{a b c:Expr}{ta tb tc:TE}{pos:Pos}
theorem mF{pr:List (Addr×Obj)}{σ:St}{H:Hp}{s:Shared}{Q:VK}{k k':Bool}(I:Inv X pr σ H s)(q:Q (.bl k) H)(e:k=k'):EP X pr σ Q (.bool k') s:=by
 subst e;exact⟨.bl k,H,I,rfl,q⟩
theorem zC:CF X (compareOp .Lt) (Ia fun i j=>.bl (decide (i<j))):=zB fun _ _ _ _ _ _ _ q=>lt_int q
theorem zD:CF X (compareOp .LtE) (Ia fun i j=>.bl (decide (i<=j))):=zB fun _ _ _ _ _ _ _ q=>le_int q
theorem zE:CF X (compareOp .Gt) (Ia fun i j=>.bl (decide (j<i))):=zB fun _ _ _ _ _ _ _ q=>gt_int q
theorem o8:CF X (compareOp .Lt) (fun x y H Q=>∃i j,x=.str i/\y=.str j/\Q (.bl (decide (i.cps.toList<j.cps.toList))) H):=by
 intro pr s σ H x y v u Q I rx ry h;obtain⟨i,j,rfl,rfl,q⟩:=h;obtain⟨t,rfl⟩:=rx;obtain⟨t',rfl⟩:=ry;exact lt_str (mF I q rfl)
theorem o9:CF X (compareOp .In) (fun x y H Q=>∃i j,x=.str i/\y=.str j/\Q (.bl (!(Builtin.Str.occurrences j i 0 j.length 1).isEmpty)) H):=by
 intro pr s σ H x y v u Q I rx ry h;obtain⟨i,j,rfl,rfl,q⟩:=h;obtain⟨t,rfl⟩:=rx;obtain⟨t',rfl⟩:=ry;exact in_str (mF I q rfl)
theorem kh:CF X (compareOp .NotIn) (fun x y H Q=>∃i j,x=.str i/\y=.str j/\Q (.bl (!(!(Builtin.Str.occurrences j i 0 j.length 1).isEmpty))) H):=by
 intro pr s σ H x y v u Q I rx ry h;obtain⟨i,j,rfl,rfl,q⟩:=h;obtain⟨t,rfl⟩:=rx;obtain⟨t',rfl⟩:=ry;exact notIn_str (mF I q rfl)
theorem bO(b:Expr){op:CmpOp}(h:op≠.In:=by decide)(h2:op≠.NotIn:=by decide):behindInMarks op b=false:=by
 have e1:(op==CmpOp.In)=false:=by cases op <;> first|rfl|exact absurd rfl h
 have e2:(op==CmpOp.NotIn)=false:=by cases op <;> first|rfl|exact absurd rfl h2
 cases b <;> simp[behindInMarks,e1,e2]
theorem pb{op:CmpOp}{r:R2}(ho:CF X (compareOp op) r)(ha:PE X a ta)(hb:PE X b tb)(hm:behindInMarks op b=false):PE X (.Compare a [op] [b] pos) (Jf r ta tb):=by
 intro pr s σ H Q I h;exact wpAny_Compare1 (zy ha hb I h fun v u s2 x y H2 I2 rx ry q=>ho pr s2 σ H2 x y v u Q I2 rx ry q) hm
def zF(t:TE):TT:=fun σ H Q=>t σ H fun x H'=>∃k,x=.bl k/\Q k H'
theorem pd{op:CmpOp}{r:R2}(ho:CF X (compareOp op) r)(ha:PE X a ta)(hb:PE X b tb)(hm:behindInMarks op b=false):PT X (.Compare a [op] [b] pos) (zF (Jf r ta tb)):=by
 intro pr s σ H Q I h;refine wpAny_isTrue_Compare1 (Ci (ha pr s σ H _ I h) fun v s1 ⟨x,H1,I1,r1,q1⟩=>Ci (hb pr s1 σ H1 _ I1 q1) fun u s2 ⟨y,H2,I2,r2,q2⟩=>
  Ci (ho pr s2 σ H2 x y v u _ I2 r1 r2 q2) fun c s3 ⟨z,H3,I3,r3,k,e,q3⟩=>?_) hm
 subst e;cases r3;exact NW ⟨H3,I3,q3⟩
def tF(r r':R2)(ta tb tc:TE):TE:=fun σ H Q=>ta σ H fun x H1=>tb σ H1 fun y H2=>r x y H2 fun z H3=>∃k,z=.bl k/\
 (if k=true then tc σ H3 fun w' H4=>r' y w' H4 Q else Q (.bl false) H3)
theorem rE{op GJ:CmpOp}{r r':R2}(ho:CF X (compareOp op) r)(Fs:CF X (compareOp GJ) r')(ha:PE X a ta)(hb:PE X b tb)(hc:PE X c tc)
  (hm:lastMarks [op,GJ] [b,c]=false:=by with_unfolding_all rfl):PE X (.Compare a [op,GJ] [b,c] pos) (tF r r' ta tb tc):=by
 intro pr s σ H Q I h;refine Compare_chain (Ci (ha pr s σ H _ I h) fun v s1 ⟨x,H1,I1,r1,q1⟩=>chain_link (Ci (hb pr s1 σ H1 _ I1 q1) fun u s2 ⟨y,H2,I2,r2,q2⟩=>
  Ci (ho pr s2 σ H2 x y v u _ I2 r1 r2 q2) fun d s3 ⟨z,H3,I3,r3,k,e,q3⟩=>?_)) hm
 subst e;cases r3;refine NW ?_;cases k with
 |false=>exact ite_ff ⟨.bl false,H3,I3,rfl,q3⟩
 |true=>exact ite_tt (chain_last (Ci (hc pr s3 σ H3 _ I3 q3) fun w' s4 ⟨z',H4,I4,r4,q4⟩=>Fs pr s4 σ H4 y z' u w' Q I4 r2 r4 q4))
theorem ki:(sizeLine:Nat)<2 ^ 63:=by rw[Nr];decide
theorem nW:CF X (binaryOp .Add) (fun x y H Q=>∃i j,x=.str i/\y=.str j/\i.length+j.length<=sizeLine/\Q (.str (i++j)) H):=by
 intro pr s σ H x y v u Q I rx ry h;obtain⟨i,j,rfl,rfl,hz,q⟩:=h;obtain⟨t,rfl⟩:=rx;obtain⟨t',rfl⟩:=ry;exact add_str (fun t' tk=>⟨.str (i++j),H,I.tok _,⟨_,rfl⟩,q⟩) hz
theorem gL{x:V}{us:List Value}(r:Vals [x] us):∃u,us=[u]/\RelV x u:=by
 cases r with
 |cons r1 r2=>cases r2;exact⟨_,rfl,r1⟩
theorem pe{x y:V}{us:List Value}(r:Vals [x,y] us):∃u w',us=[u,w']/\RelV x u/\RelV y w':=by
 cases r with
 |cons r1 r2=>
  cases r2 with
  |cons r3 r4=>cases r4;exact⟨_,_,rfl,r1,r3⟩
end
section
variable{prog:Program}{w:World}{A:Around}{E:Value->Shared->Prop}{s:Shared}{K:W.Frag}{x dx C f:Addr}{mA:Str->Option Value}{name:Str}{v:Value}
end
theorem RelO.none_of{o:Option Value}(r:RelO none o):o=none:=by
 cases o with
 |none=>rfl
 |some u=>exact(show False from r).elim
section
variable{P:Program}{w:World}{H H':Hp}{h h':Heap}{a C dx:Addr}{fs KU:List (Str×V)}
end
structure Cls(K:W.Frag)(C:Addr):Prop where
 pg:PySem.W.plainGet K C Str.empty=true
 hd:PySem.W.hasDictIn K C=true
 po:PySem.W.plainOver K C=true
 sa:PySem.W.findIn K (.ref C) "__setattr__" = some (some (.builtin "object.__setattr__"))
theorem Cls.get{K:W.Frag}{C:Addr}(c:Cls K C)(f:Str):PySem.W.plainGet K C f=true:=c.pg
section
variable{X:Cx}{pr:List (Addr×Obj)}{σ:St}{H:Hp}{s:Shared}{a C dx:Addr}{fs:List (Str×V)}{f:Str}{v:V}{A:Around}{E:Value->Shared->Prop}
end
section
variable{X:Cx}{o e value:Expr}{f:Str}{pos pos' Ib:Pos}{ta tv:TE}
end
section
variable{X:Cx}{pr:List (Addr×Obj)}{σ:St}{H:Hp}{s:Shared}{A:Around}{E:Value->Shared->Prop}{Q:Value->Shared->Prop}{c:Value}{b:Bool}
end
structure Room(k:Nat)(A:Around):Prop where
 hd:A.handled=none
 dp:A.depth+3*k+5<recursionLimit
 un:A.units+16*k+200<cLine
theorem Room.mono{j k:Nat}{A:Around}(r:Room k A)(h:j<=k):Room j A:=⟨r.hd,by have:=r.dp;lia,by have:=r.un;lia⟩
theorem Room.m{j k:Nat}{A:Around}(r:Room k A)(h:j<=k:=by decide):Room j A:=r.mono h
theorem Room.deeper{k:Nat}{A:Around}(r:Room (k+1) A)(env:Env):Room k (A.deeper env):=
 ⟨r.hd,by have:=r.dp;show A.depth+1+3*k+5<_;lia,by have:=r.un;show A.units+3+16*k+200<_;lia⟩
theorem Room.depth{k:Nat}{A:Around}(r:Room k A):A.depth<recursionLimit:=by have:=r.dp;lia
theorem Room.units{k:Nat}{A:Around}(r:Room k A):A.units+64<cLine:=by have:=r.un;lia
theorem Room.units0{k:Nat}{A:Around}(r:Room k A):A.units<cLine:=by have:=r.un;lia
def ze:TA:=fun _ H Q=>Q [] H
def rF(ta:TE)(tr:TA):TA:=fun σ H Q=>ta σ H fun x H1=>tr σ H1 fun xs H2=>Q (x::xs) H2
section
variable{X:Cx}{e:Expr}{es:List Expr}{te:TE}{t:TA}{pos:Pos}
theorem g6:PA X [] ze:=fun _ _ _ _ H Q I h=>Calls.spliced_nil ⟨[],H,I,.nil,h⟩
theorem cY(ha:PE X e te)(hr:PA X es t)(hs:starEach (e::es) X.env=(false,eval e X.env)::starEach es X.env:=by rfl):PA X (e::es) (rF te t):=by
 intro pos pr s σ H Q I h;rw[hs];show wpAny _ _ (spliced ((false,eval e X.env)::backTo pos (starEach es X.env))) _ _ s;refine Calls.spliced_cons (Ci (ha pr s σ H _ I h) fun u s1 Cp=>?_);obtain⟨x,H1,I1,r1,q1⟩:=Cp;exact Ci (hr pos pr s1 σ H1 _ I1 q1) fun us s2 ⟨xs,H2,I2,r2,q2⟩=>⟨x::xs,H2,I2,.cons r1 r2,q2⟩
def A8(t:TA):TE:=fun σ H Q=>t σ H fun xs H1=>xs.length<=sizeLine/\∀p,H1 p=none->Q (.ref p) (upd H1 p (.tup xs))
def A9(t:TA):TE:=fun σ H Q=>t σ H fun xs H1=>xs.length<=sizeLine/\∀p,H1 p=none->Q (.ref p) (upd H1 p (.lst xs))
theorem xA{x1}(h:PA X es t):PE X (.Tuple es x1 pos) (A8 t):=by
 intro pr s σ H Q I hq;refine wpAny_Tuple_spliced (Ci (h pos pr s σ H _ I hq) fun us s1 ⟨xs,H1,I1,r,z,q⟩=>⟨by rw[<-r.length];exact z,?_⟩);have hf:H1 s1.heap.objs.size=none:=I1.hok.fresh (MH _);refine⟨.ref s1.heap.objs.size,upd H1 s1.heap.objs.size (.tup xs),I1.laid (t':=s1.toks) (fun b u e=>MB _ e) (MH _) ?_,rfl,q _ hf⟩;exact⟨z,us,r,⟨_,MR _ rfl,rfl,⟨_,rfl⟩,rfl⟩⟩
theorem pf(h:PA X es t):PE X (.List es pos) (A9 t):=by
 intro pr s σ H Q I hq;refine wpAny_List_spliced (Ci (h pos pr s σ H _ I hq) fun us s1 ⟨xs,H1,I1,r,z,q⟩=>⟨by rw[<-r.length];exact z,?_⟩);have hf:H1 s1.heap.objs.size=none:=I1.hok.fresh (MH _);refine⟨.ref s1.heap.objs.size,upd H1 s1.heap.objs.size (.lst xs),I1.laid (t':=s1.toks) (fun b u e=>MB _ e) (MH _) ?_,rfl,q _ hf⟩;exact⟨z,us,0,r,MR _ rfl⟩
end
abbrev Sp:=List V->Hp->VK->XK->Prop
abbrev Fj:=List Env->Hp->Shared->XK->Value->Shared->Prop
structure Env0(P:Program)(w:World)(K:W.Frag)(mg:Str->Option Value)(base:Heap)(A:Around)(outer:List Env)(s:Shared)(H:Hp):Prop where
 frames:A.frames=some outer
 mod:Mod K mg base
 bs:∀b o,base.get? b=some o->s.heap.get? b=some o/\H b=none
 bsz:base.objs.size<=s.heap.objs.size
 funs:s.heap.FunFrames base outer
 frf:∀b∈CU outer,H b=none
 hok:HOk P w H s.heap
 bare:AllBare s.gens
def CE(outer:List Env)(P:Program)(w:World)(H:Hp)(s:Shared)(Q:VK)(u:Value)(s':Shared):Prop:=
 ∃v H',s'.os=s.os/\AllBare s'.gens/\Un (CU outer) [] H H' s.heap s'.heap/\HOk P w H' s'.heap/\RelV v u/\Q v H'
def CR(CX:Fj)(outer:List Env)(P:Program)(w:World)(H:Hp)(s:Shared)(Q:VK)(E:XK)(r:Result)(s':Shared):Prop:=
 match r with
 | .ok (.ret u)=>CE outer P w H s Q u s'
 | .ok _=>False
 | .error e=>CX outer H s E e s'
structure FnOk(P:Program)(w:World)(K:W.Frag)(mg:Str->Option Value)(base:Heap)(CX:Fj)(k:Nat)(f:Addr)(fd:FuncData)(ps:List Str)(sp:Sp):Prop where
 len:∀vs H Q E,sp vs H Q E->vs.length=ps.length
 run:∀(A:Around) (outer:List Env) (s:Shared) (H:Hp) (args:Args) (us:List Value) (vs:List V) (Q:VK) (E:XK),Room k A->Env0 P w K mg base A outer s H->BindsTo s fd args (ps.zip us)->Vals vs us->sp vs H Q E->
  codeAny (model P w) A (.call (.ref f) args) (CR CX outer P w H s Q E) s
theorem FnOk.mono{P:Program}{w:World}{K:W.Frag}{mg:Str->Option Value}{base:Heap}{CX:Fj}{j k:Nat}{f:Addr}{fd:FuncData}{ps:List Str}{sp:Sp}(F:FnOk P w K mg base CX j f fd ps sp)(h:j<=k):
  FnOk P w K mg base CX k f fd ps sp:=⟨F.len,fun A outer s H args us vs Q E hr=>F.run A outer s H args us vs Q E (hr.mono h)⟩
theorem FnOk.imp{P:Program}{w:World}{K:W.Frag}{mg:Str->Option Value}{base:Heap}{CX:Fj}{k:Nat}{f:Addr}{fd:FuncData}{ps:List Str}{sp LP:Sp}(F:FnOk P w K mg base CX k f fd ps sp)
  (h:∀vs H Q E,LP vs H Q E->sp vs H Q E):FnOk P w K mg base CX k f fd ps LP:=
 ⟨fun vs H Q E q=>F.len vs H Q E (h _ _ _ _ q),fun A outer s H args us vs Q E hr he hb hv hs=>F.run A outer s H args us vs Q E hr he hb hv (h _ _ _ _ hs)⟩
section
variable{X:Cx}{pr:List (Addr×Obj)}{σ:St}{H:Hp}{s s':Shared}
theorem Inv.env0(I:Inv X pr σ H s):Env0 X.prog X.w X.K X.mg X.base X.A X.stack s H:=
 ⟨I.ok.frames,I.ok.mod,I.bs,M4 I.ok.bsz I.sz,I.stack,I.stkFree,I.hok,I.bare⟩
theorem Inv.after{Q:VK}{u:Value}(I:Inv X pr σ H s)(h:CE X.stack X.prog X.w H s Q u s'):EP X pr σ Q u s':=by
 obtain⟨v,H',os,bare,un,hok,r,q⟩:=h;obtain⟨hh,g,d,t,os'⟩:=s';obtain rfl:os'=s.os:=os;exact⟨v,H',I.call (h':=hh) (g':=g) (d':=d) (t':=t) (ch:=[]) un hok bare (fun b z=>absurd z (by simp)),r,q⟩
end
def tCall(sp:Sp)(HN:List V)(E:XK)(t:TA):TE:=fun σ H Q=>t σ H fun vs H1=>sp (vs++HN) H1 Q E
def Binds(K:W.Frag)(fd:FuncData)(ps:List Str)(ds:List Value):Prop:=
 ∀(s:Shared) (us:List Value),K.In s.heap->(us++ds).length=ps.length->BindsTo s fd ⟨us,[]⟩ (ps.zip (us++ds))
theorem Binds.all{K:W.Frag}{fd:FuncData}{ps:List Str}(h:∀us:List Value,us.length=ps.length->bindArgs fd ⟨us,[]⟩=pure (ps.zip us)):Binds K fd ps []:=fun s us _ hl=>by
 rw[M5]at hl ⊢;exact .of_eq (h us hl)
def ph(CX:Fj)(X:Cx)(E:XK):Prop:=∀(pr:List (Addr×Obj)) (σ:St) (H:Hp) (s:Shared) (e:Value) (s':Shared),Inv X pr σ H s->CX X.stack H s E e s'->X.xe e s'
section
variable{X:Cx}{CX:Fj}{k:Nat}{f C:Addr}{fd:FuncData}{ps:List Str}{sp:Sp}{HN:List V}{ds:List Value}{E:XK}{x m:Str}{p pos apos:Pos}{e o:Expr}{es:List Expr}{ta:TE}{t:TA}
theorem xB{pr:List (Addr×Obj)}{σ:St}{H:Hp}{s:Shared}{Q:VK}{us:List Value}{vs:List V}(F:FnOk X.prog X.w X.K X.mg X.base CX k f fd ps sp)(hr:Room k X.A)(hb:Binds X.K fd ps ds)(hd:Vals HN ds)(hx:ph CX X E)
  (I:Inv X pr σ H s) (r:Vals vs us) (h:sp (vs++HN) H Q E):wpAny (model X.prog X.w) X.A (call (.ref f) us) (EP X pr σ Q) X.xe s:=by
 have r2:Vals (vs++HN) (us++ds):=r.append hd;have hl:(us++ds).length=ps.length:=by rw[<-r2.length];exact F.len _ _ _ _ h
 refine wpAny_call (Qg (F.run X.A X.stack s H ⟨us,[]⟩ (us++ds) (vs++HN) Q E hr I.env0 (hb s us I.kIn hl) r2 h) fun r s' hq=>?_);cases r with
 |error e=>exact hx pr σ H s e s' I hq
 |ok fl=>
  cases fl with
  |ret u=>exact I.after hq
  |next=>exact False.elim hq
  |brk=>exact False.elim hq
  |cont=>exact False.elim hq
theorem uH(F:FnOk X.prog X.w X.K X.mg X.base CX k f fd ps sp)(hr:Room k X.A)(hg:Gl X x)(hm:X.mg x=some (.ref f))(hk:PySem.W.keepIn X.K (.ref f)=true)(hb:Binds X.K fd ps ds)(hd:Vals HN ds)(hx:ph CX X E)
  (ha:PA X (e::es) t) (C4:(x==("__debug__" : Str))=false:=by decide) (he:starEach (e::es) X.env=(false,eval e X.env)::starEach es X.env:=by rfl) (Dl:(backTo pos (starEach es X.env)).any (·.1)=false:=by rfl):
  PE X (.Call (.Name x p) (e::es) [] pos) (tCall sp HN E t):=by
 intro pr s σ H Q I h;refine Oe (g5 I hg hm ?_ C4);refine QQ (h₀:=X.base) I.ok.mod.kin hk (Ci (ha pos pr s σ H _ I h) fun us s1 ⟨vs,H1,I1,r,q⟩=>⟨I1.kIn,?_⟩) he Dl;exact xB F hr hb hd hx I1 r q
end
def PK(X:Cx)(JB:List Keyword)(t:TA):Prop:=
 ∀(pos:Pos) (pr:List (Addr×Obj)) (s:Shared) (σ:St) (H:Hp) (Q:List V->Hp->Prop),Inv X pr σ H s->t σ H Q->wpAny (model X.prog X.w) X.A (evalAll ((backToKw pos (keywordEach JB X.env)).map (·.2))) (AP X pr σ Q) X.xe s
section
variable{X:Cx}{CX:Fj}{k:Nat}{f C:Addr}{fd:FuncData}{ps ks:List Str}{sp:Sp}{E:XK}{x m:Str}{p pos apos Fu:Pos}{e o:Expr}{es:List Expr}{JB:List Keyword}{te ta:TE}{t tk:TA}{nm:Option Str}
theorem xC:PK X [] ze:=fun _ _ _ _ H Q I h=>wpAny_evalAll_nil ⟨[],H,I,.nil,h⟩
theorem uI(ha:PE X e te)(hr:PK X JB t):PK X (⟨nm,e,Fu⟩::JB) (rF te t):=by
 intro pos pr s σ H Q I h;show wpAny _ _ (evalAll ((do let v <-eval e X.env;standAt pos;pure v)::(backToKw pos (keywordEach JB X.env)).map (·.2))) _ _ s;refine wpAny_evalAll_cons (Mx (Ci (ha pr s σ H _ I h) fun u s1 ⟨x,H1,I1,r1,q1⟩=>Mx (QR (MD ?_))));exact Ci (hr pos pr s1 σ H1 _ I1 q1) fun us s2 ⟨xs,H2,I2,r2,q2⟩=>⟨x::xs,H2,I2,.cons r1 r2,q2⟩
variable{g:List Value->List Value->List Value}{gV:List V->List V->List V}
end
structure FnScope(N P:List Str)(sc:Scope):Prop where
 kind:sc.kind=.function
 co:sc.isCoroutine=false
 gen:sc.isGenerator=false
 nd:N.Nodup
 pre:N.take P.length=P
 par:∀x∈P,sc.names.lookup x=some .local\/sc.names.lookup x=some .cell
 nofree:∀y∈sc.names,y.2≠.free
theorem fs{N P:List Str}{sc:Scope}(a:sc.kind=.function:=by rfl)(b:sc.isCoroutine=false:=by rfl)(c:sc.isGenerator=false:=by rfl)(d:N.Nodup:=by decide +kernel)(e:N.take P.length=P:=by rfl)(f:∀x∈P,sc.names.lookup x=some .local\/sc.names.lookup x=some .cell:=by decide +kernel)(g:∀y∈sc.names,y.2≠.free:=by decide +kernel):FnScope N P sc:=⟨a,b,c,d,e,f,g⟩
theorem kj{kindOf:Str->Option NameKind}{x:Str}:∀{binds:List (Str×Value)}{m:Str->Option Value},(∀v,(x,v)∉binds)->bindL kindOf binds m x=m x
 |[],_,_=>rfl
 |(n,v)::r,m,h=>by
  unfold bindL;rw[kj fun w hw=>h w (MJ _ hw)];split
  ·have:x≠n:=by rintro rfl;exact h v My
   simp[this]
  ·rfl
theorem kl{kindOf:Str->Option NameKind}{x:Str}:∀{binds:List (Str×Value)}{m:Str->Option Value},(∀v,(x,v)∉binds)->bindC kindOf binds m x=m x
 |[],_,_=>rfl
 |(n,v)::r,m,h=>by
  unfold bindC;rw[kl fun w hw=>h w (MJ _ hw)];split
  ·rfl
  ·have:x≠n:=by rintro rfl;exact h v My
   simp[this]
theorem km{kindOf:Str->Option NameKind}{x:Str}{v:Value}:∀{P:List Str}{vs:List Value}{i:Nat}{m:Str->Option Value},P.Nodup->P[i]?=some x->vs[i]?=some v->kindOf x=some .local->
  bindL kindOf (P.zip vs) m x=some v
 |[],_,_,_,_,h,_,_=>by simp at h
 |_::_,[],_,_,_,_,h,_=>by simp at h
 |p::P,w::vs,0,m,nd,h1,h2,hk=>by
  simp at h1 h2;subst h1;subst h2;show bindL kindOf ((p,w)::P.zip vs) m p=_;unfold bindL;rw[kj fun v hv=>(Nf.mp nd).1 (Qh hv).1,MM hk];simp
 |p::P,w::vs,i+1,m,nd,h1,h2,hk=>by
  show bindL kindOf ((p,w)::P.zip vs) m x=_;unfold bindL;exact km (i:=i) (Nf.mp nd).2 (by simpa using h1) (by simpa using h2) hk
theorem ko{kindOf:Str->Option NameKind}{x:Str}{v:Value}:∀{P:List Str}{vs:List Value}{i:Nat}{m:Str->Option Value},P.Nodup->P[i]?=some x->vs[i]?=some v->kindOf x≠some .local->
  bindC kindOf (P.zip vs) m x=some v
 |[],_,_,_,_,h,_,_=>by simp at h
 |_::_,[],_,_,_,_,h,_=>by simp at h
 |p::P,w::vs,0,m,nd,h1,h2,hk=>by
  simp at h1 h2;subst h1;subst h2;show bindC kindOf ((p,w)::P.zip vs) m p=_;unfold bindC;rw[kl fun v hv=>(Nf.mp nd).1 (Qh hv).1,MO hk];simp
 |p::P,w::vs,i+1,m,nd,h1,h2,hk=>by
  show bindC kindOf ((p,w)::P.zip vs) m x=_;unfold bindC;exact ko (i:=i) (Nf.mp nd).2 (by simpa using h1) (by simpa using h2) hk
def gM(N:List Str)(vs:List V):St:=vs.map some++List.replicate (N.length-vs.length) none
noncomputable def nX(CX:Fj)(P:Program)(w:World)(K:W.Frag)(mg:Str->Option Value)(base:Heap)(N:List Str)(qual:Str)(scope:Scope)(f:Addr)(cd:Value)(A:Around)(outer:List Env)(s:Shared)(H:Hp)(E:XK):Cx where
 prog:=P
 w:=w
 K:=K
 mg:=mg
 base:=base
 A:=A.deeper (envOfC qual scope s.heap.objs.size f cd)
 N:=N
 s₀:=s
 H₀:=H
 env:=envOfC qual scope s.heap.objs.size f cd
 outer:=outer
 stack:=envOfC qual scope s.heap.objs.size f cd::outer
 ex:=[]
 calm:=true
 fn:=fun _=>true
 pn:=[]
 xe:=fun e s'=>wpAny (model P w) (A.deeper (envOfC qual scope s.heap.objs.size f cd)) (leaving (envOfC qual scope s.heap.objs.size f cd) e) (fun _ K4=>CX outer H s E e K4) (fun e' K4=>CX outer H s E e' K4) s'
theorem mG{sc:Scope}{n:Nat}{x:Str}(h:sc.names.lookup x=some .cell):∃c,(cellsFrom n sc.names []).lookup x=some c:=by
 have q:=P9 sc.names n [] (.inl h);exact NB.mp q
theorem pj{CX:Fj}{P:Program}{w:World}{K:W.Frag}{mg:Str->Option Value}{base:Heap}{N ps:List Str}{qual:Str}{scope:Scope}{f:Addr}{cd:Value}{A:Around}{outer:List Env}{s s1:Shared}{H:Hp}{E:XK}{us:List Value}{vs:List V}
  (S:FnScope N ps scope) (hd:A.handled=none) (e0:Env0 P w K mg base A outer s H) (hl:vs.length=ps.length) (r:Vals vs us)
  (x:InCallC s s.heap.objs.size (bindL (envOfC qual scope s.heap.objs.size f cd).kindOf (ps.zip us) fun _=>none) (cellsFrom (s.heap.objs.size+1) scope.names []) (bindC (envOfC qual scope s.heap.objs.size f cd).kindOf (ps.zip us) fun _=>none) s1):
  Inv (nX CX P w K mg base N qual scope f cd A outer s H E) [] (gM N vs) H s1:=by
 have Dl:ps.length<=N.length:=by have:=NQ List.length S.pre;rw[Oc]at this;lia
 obtain⟨h1,tk,rfl,hk⟩:=x.done;have JC:∀b:Addr,b∉(nX CX P w K mg base N qual scope f cd A outer s H E).ex:=fun b z=>absurd (show b∈([]:List Addr) from z) (by simp)
 refine⟨⟨e0.mod,S.kind,rfl,rfl,MH _,fun y z c h1 h2=>?_,fun y hy=>?_,fun y c _ h=>?_,fun _=>hd,Around.frames_deeper e0.frames,.inr ⟨rfl,rfl⟩,fun b z=>absurd z (JC b),e0.bs,e0.bsz,fun b _ _=>JC b,fun b z=>absurd z (JC b),e0.funs,e0.frf⟩,
  rfl,e0.bare,Un.kept hk,⟨_,x.toInCall.ns,fun i y v h1 h2 h3=>?_⟩,fun y c h=>⟨_,x.cell y c h⟩,e0.hok.fresh (MH _),fun y c h=>?_,fun p hp=>absurd (show p∈([]:List (Addr×Obj)) from hp) (by simp),e0.hok.kept hk,?_⟩
 ·exact name_of_addr x.apart (N0 h1) (N0 h2)
 ·have hy:scope.names.lookup y=some .cell\/scope.names.lookup y=some .free:=hy;rcases hy with hy|hy
  ·exact mG hy
  ·exact absurd rfl (S.nofree _ (N0 hy))
 ·exact Qe (x.above y c (N0 h))
 ·have hi:i<vs.length:=by
   unfold gM at h2;by_cases hi:i<vs.length
   ·exact hi
   ·rw[List.getElem?_append_right (by simpa using hi)]at h2;rw[List.getElem?_replicate]at h2;split at h2 <;> cases h2
  have ha:vs[i]?=some v:=by
   unfold gM at h2;rw[List.getElem?_append_left (by simpa using hi),Nh]at h2;cases e:vs[i]? with
   |none=>rw[e]at h2;cases h2
   |some a=>rw[e]at h2;cases h2;rfl
  obtain⟨u,hu,rv⟩:=r.get ha;have hp:ps[i]?=some y:=by
   rw[<-S.pre,List.getElem?_take_of_lt (by lia)];exact h1
  have LQ:ps.Nodup:=by rw[<-S.pre];exact S.nd.sublist (List.take_sublist _ _)
  refine⟨u,rv,?_⟩;rcases S.par y (NI hp) with k|k
  ·exact .inl ⟨k,km LQ hp hu k⟩
  ·obtain⟨c,e⟩:=mG (n:=s.heap.objs.size+1) k;refine .inr ⟨.inl k,c,e,?_⟩;have q:=x.cell y c e;rw[ko LQ hp hu (by show scope.names.lookup y≠_;rw[k];decide)]at q;exact q
 ·exact e0.hok.fresh (Qe (x.above y c (N0 h)))
 ·unfold gM;show _=N.length;rw[Nt,MA,List.length_replicate];lia
theorem xD{CX:Fj}{P:Program}{w:World}{K:W.Frag}{mg:Str->Option Value}{base:Heap}{k:Nat}{f:Addr}{name qual:Str}{params:Arguments}{body:List Stmt}{scope:Scope}{dV kV doc pm Cg ct oc:Value}{an od:Option Addr}
  {F0:Array (Option Value)}{N ps:List Str}{sp:Sp}(lk:K.lookup f=some ⟨oc,od,.func (PySem.W.fnOf name qual params body scope dV kV doc pm an Cg ct),F0⟩) (Ft:PySem.W.codeIn K Cg qual=true) (S:FnScope N ps scope)
  (len:∀vs H Q E,sp vs H Q E->vs.length=ps.length)
  (EJ:∀(A:Around) (outer:List Env) (s:Shared) (H:Hp) (vs:List V) (Q:VK) (E:XK),Room k (A.deeper (envOfC qual scope s.heap.objs.size f Cg))->sp vs H Q E->
   ∃t,PSs (nX CX P w K mg base N qual scope f Cg A outer s H E) body t/\t {nx:=fun _ H'=>Q .non H',rt:=Q} (gM N vs) H):
  FnOk P w K mg base CX (k+1) f (PySem.W.fnOf name qual params body scope dV kV doc pm an Cg ct) ps sp:=by
 refine⟨len,fun A outer s H args us vs Q E hr e0 hb r GK=>?_⟩;have hl:=len _ _ _ _ GK;have KX:K.In s.heap:=e0.mod.kin.keeps fun b o e=>(e0.bs b o e).1
 have lim:s.heap.NoLimit:=e0.mod.nolimit.keeps fun b o e=>(e0.bs b o e).1
 have D2:∀y∈ps.zip us,scope.names.lookup y.1=some .local\/(scope.names.lookup y.1=some .cell/\((cellsFrom (s.heap.objs.size+1) scope.names []).lookup y.1).isSome=true):=fun B1 hy=>by
  obtain⟨n,v⟩:=B1;rcases S.par n (Qh hy).1 with q|q
  ·exact .inl q
  ·exact .inr ⟨q,P9 _ _ _ (.inl q)⟩
 refine codeAny_call_function hr.depth (KX _ _ lk) rfl S.co S.gen rfl (PySem.W.codeRec_of KX Ft) (hb _ _ _ _ ?_);refine wpAny_newFunctionEnv_cells S.kind D2 fun env he s1 x=>?_
 subst he;refine⟨lim.keeps x.toInCall.keep,codeAny_func ?_⟩;obtain⟨t,ht,hq⟩:=EJ A outer s H vs Q E (hr.deeper _) GK;have I:Inv (nX CX P w K mg base N qual scope f Cg A outer s H E) [] (gM N vs) H s1:=pj S hr.hd e0 hl r x;refine Nv (ht [] s1 (gM N vs) H _ I hq) (fun fl s' hs=>?_) fun e s' hs=>hs
 have fin:∀{σ':St}{H':Hp}{v:V}{u:Value},Inv (nX CX P w K mg base N qual scope f Cg A outer s H E) [] σ' H' s'->RelV v u->Q v H'->CE outer P w H s Q u s':=
  fun{σ' H' v u} J rv q=>⟨v,H',J.os,J.bare,J.base,J.hok,rv,q⟩
 cases fl with
 |ret u=>
  obtain⟨v,σ',H',J,rv,q⟩:=hs;exact fin J rv q
 |next=>
  obtain⟨σ',H',J,q⟩:=hs;exact fin (v:=V.non) (u:=Value.none) J rfl q
 |brk=>
  obtain⟨_,_,_,q⟩:=hs;exact False.elim q
 |cont=>
  obtain⟨_,_,_,q⟩:=hs;exact False.elim q
section
variable{X:Cx}{x:Str}{p pos:Pos}{e:Expr}{es:List Expr}{t:TA}{id T:String}{r:List V->Hp->VK->Prop}
def K5(r:List V->Hp->VK->Prop)(t:TA):TE:=fun σ H Q=>t σ H fun vs H1=>r vs H1 Q
theorem gT(hc:cX X (.builtin id) r)(hg:Gl X x)(hm:X.mg x=none)(hv:bootBuiltins x=some (.builtin id))(ha:PA X (e::es) t)(hn:x≠"__name__":=by decide)(C4:(x==("__debug__" : Str))=false:=by decide)
  (he:starEach (e::es) X.env=(false,eval e X.env)::starEach es X.env:=by rfl) (Dl:(backTo pos (starEach es X.env)).any (·.1)=false:=by rfl):PE X (.Call (.Name x p) (e::es) [] pos) (K5 r t):=by
 intro pr s σ H Q I h;refine Oe (iV I hg hm hv ?_ hn C4);exact PyProof.Rows.callWith_builtin1 (Ci (ha pos pr s σ H _ I h) fun us s1 ⟨vs,H1,I1,r1,q1⟩=>hc pr s1 σ H1 vs us Q I1 r1 q1) he Dl
theorem pk(hc:cX X (.type T) r)(hg:Gl X x)(hm:X.mg x=none)(hv:bootBuiltins x=some (.type T))(ha:PA X (e::es) t)(hn:x≠"__name__":=by decide)(C4:(x==("__debug__" : Str))=false:=by decide)
  (he:starEach (e::es) X.env=(false,eval e X.env)::starEach es X.env:=by rfl) (Dl:(backTo pos (starEach es X.env)).any (·.1)=false:=by rfl):PE X (.Call (.Name x p) (e::es) [] pos) (K5 r t):=by
 intro pr s σ H Q I h;refine Oe (iV I hg hm hv ?_ hn C4);exact Oi (Ci (ha pos pr s σ H _ I h) fun us s1 ⟨vs,H1,I1,r1,q1⟩=>hc pr s1 σ H1 vs us Q I1 r1 q1) he Dl
end
end L2
namespace HT
open PySem PyProof.Rows
section
open PySem.SeqAt
open PySem.AutoSeq1 (wpAny_loadPart')
open PySem.MeetsSeq PySem.MeetsSeq2 PySem.MeetsSeq3
end
section
variable{prog:Program}{w:World}{A:Around}{E:Value->Shared->Prop}{s:Shared}
theorem uJ{t b:Addr}{vs ws:List Value}{Q:Value->Shared->Prop}(ht:IsTup s.heap t vs.toArray)(hb:IsTup s.heap b ws.toArray)(hv:vs≠[])
  (h1:ws=[]->Q (.ref t) s) (h2:ws≠[]->Q (.ref s.heap.objs.size) {s with heap:=s.heap.push {cls:=.type "tuple",data:=.seq (vs++ws).toArray}})
  (hsz:vs.length+ws.length<=sizeLine):wpAny (model prog w) A (binaryOp .Add (.ref t) (.ref b)) Q E s:=by
 obtain⟨⟨cls,dd,data,sl⟩,ho,hc,n,hd⟩:=id ht;obtain⟨⟨Ic,GL,data2,GN⟩,DE,F1,n2,hd2⟩:=id hb;simp only at hc hd F1 hd2;subst hc hd F1 hd2;have e:vs.toArray++ws.toArray=(vs++ws).toArray:=by simp
 by_cases hw:ws=[]
 ·exact Qi ⟨_,ho,rfl⟩ ⟨_,DE,rfl⟩ PZ QU OK OG (Oz _ _)
   (tuple_addW1 t b vs.toArray ws.toArray n n2 dd GL sl GN (by simpa using hv) (by simp[hw])) ⟨ho,DE,h1 hw⟩
 ·refine Qi ⟨_,ho,rfl⟩ ⟨_,DE,rfl⟩ PZ QU OK OG (Oz _ _)
   (tuple_addW2 t b vs.toArray ws.toArray n n2 dd GL sl GN (by simpa using hv) (by simpa using hw) (by rw[MC,MC];exact hsz)) ⟨ho,DE,?_⟩
  rw[e];exact h2 hw
def sIx(n d:Nat):Option Int->Nat
 |none=>d
 |some v=>if v<0 then(v+(n:Int)).toNat else min v.toNat n
theorem pq(n d k:Nat):sIx n d (some (k:Int))=min k n:=by
 show(if(k:Int)<0 then((k:Int)+(n:Int)).toNat else min (k:Int).toNat n)=min k n;rw[MO (by lia),Nm]
theorem pw(n d:Nat)(hd:d<=n)(o:Option Int):sIx n d o<=n:=by
 cases o with
 |none=>exact hd
 |some v=>
  show(if v<0 then(v+(n:Int)).toNat else min v.toNat n)<=n;by_cases hv:v<0
  ·rw[MM hv];lia
  ·rw[MO hv];exact Nat.min_le_right _ _
theorem px(v:Int)(n d:Nat):(if v<0 then max (v+(n:Int)) 0 else min v (n:Int))=((sIx n d (some v):Nat):Int):=by
 show(if v<0 then max (v+(n:Int)) 0 else min v (n:Int))=(((if v<0 then(v+(n:Int)).toNat else min v.toNat n):Nat):Int)
 by_cases hv:v<0
 ·simp only[MM hv];lia
 ·simp only[MO hv];lia
theorem nZ(lo hi:Option Int)(n:Nat):Builtin.Slice.sliceAdjust lo hi 1 (n:Int)=(((sIx n 0 lo:Nat):Int),((sIx n n hi:Nat):Int)):=by
 have h1:¬ ((1:Int)<0):=by lia
 unfold Builtin.Slice.sliceAdjust;simp only[h1,OP];refine Prod.ext ?_ ?_
 ·cases lo with
  |none=>rfl
  |some v=>exact px v n 0
 ·cases hi with
  |none=>rfl
  |some v=>exact px v n n
theorem n3(i j:Nat):Builtin.Slice.slicePlaces (i:Int) (j:Int) 1=j-i:=by
 unfold Builtin.Slice.slicePlaces;have h1:(1:Int)>0:=by lia
 simp only[h1,OH,Int.ediv_one];split <;> lia
theorem iW{v:Value}{o:Option Int}{Q:Option Int->Shared->Prop}(p:IsPart v o)(h:Q o s):wpAny (model prog w) A (Builtin.Slice.slicePartIndex v) Q E s:=by
 cases p with
 |none=>exact slicePart_none h
 |int i t=>exact slicePart_int h
theorem dM{sl:Addr}{vl vu:Value}{lo hi:Option Int}{n:Nat}{Q:Int×Int×Nat->Shared->Prop}(hs:s.heap.IsSliceOf sl vl vu .none)(pl:IsPart vl lo)(pu:IsPart vu hi)
  (h:Q (((sIx n 0 lo:Nat):Int),1,sIx n n hi-sIx n 0 lo) s):wpAny (model prog w) A (Builtin.Slice.sliceApplied (.ref sl) (pure (n:Int))) Q E s:=by
 obtain⟨os,GP,Jg,GQ⟩:=id hs;unfold Builtin.Slice.sliceApplied Builtin.Slice.sliceFields;refine Mx (Mx (wpAny_field GP GQ (x:=vl) rfl (Mx (wpAny_field GP GQ (x:=vu) rfl (Mx (wpAny_field GP GQ (x:=.none) rfl (MD ?_)))))));refine Mx (slicePart_none ?_);show wpAny _ _ (if((1:Int)==0)=true then _ else _) _ _ s;rw[MO (by decide)];refine Mx (iW pl (Mx (iW pu (Mx (MD ?_)))));show wpAny _ _ (match Builtin.Slice.sliceAdjust lo hi 1 (n:Int) with|(lo,hi)=>pure (lo,(1:Int),Builtin.Slice.slicePlaces lo hi 1)) _ _ s;rw[nZ lo hi n];show wpAny _ _ (pure (((sIx n 0 lo:Nat):Int),(1:Int),Builtin.Slice.slicePlaces ((sIx n 0 lo:Nat):Int) ((sIx n n hi:Nat):Int) 1)) _ _ s;rw[n3];exact MD h
theorem rH(xs:Array Value)(i k:Nat):((List.range k).filterMap fun(m:Nat)=>xs[((i:Int)+(m:Int)*1).toNat]?).toArray=((xs.toList.drop i).take k).toArray:=by
 have e:(fun(m:Nat)=>xs[((i:Int)+(m:Int)*1).toNat]?)=fun m=>xs[i+m]?:=by
  funext m
  have:((i:Int)+(m:Int)*1).toNat=i+m:=by lia
  rw[this]
 rw[e];have:=pick_run xs i k;rw[List.filterMap_map]at this;have e2:((fun x=>xs[x]?)∘fun x=>i+x)=fun m=>xs[i+m]?:=rfl
 rw[e2]at this;rw[this]
theorem fV{t sl:Addr}{items:Array Value}{vl vu:Value}{lo hi:Option Int}{Q:Value->Shared->Prop}(ht:IsTup s.heap t items)(hs:s.heap.IsSliceOf sl vl vu .none)(pl:IsPart vl lo)(pu:IsPart vu hi)
  (hw:¬ (sIx items.size 0 lo=0/\sIx items.size items.size hi=items.size))
  (h:Q (.ref s.heap.objs.size) {s with heap:=s.heap.push {cls:=.type "tuple",data:=.seq ((items.toList.drop (sIx items.size 0 lo)).take (sIx items.size items.size hi-sIx items.size 0 lo)).toArray}})
  (hsz:items.size<=sizeLine):wpAny (model prog w) A (getItem (.ref t) (.ref sl)) Q E s:=by
 have Fl:sizeOk (.seq ((items.toList.drop (sIx items.size 0 lo)).take (sIx items.size items.size hi-sIx items.size 0 lo)).toArray):=by
  show((items.toList.drop (sIx items.size 0 lo)).take (sIx items.size items.size hi-sIx items.size 0 lo)).toArray.size<=sizeLine;rw[MC,Oc,P0,NA];lia
 have hj:sIx items.size items.size hi<=items.size:=pw _ _ (MH _) hi;obtain⟨os,GP,Jg,GQ⟩:=id hs;have K6:s.TypeIs (.ref sl) "slice":=⟨os,GP,Jg⟩
 unfold getItem;try with_reducible refine N8 ?_
 first|refine Mx (MD ?_)|skip
 refine Mx (wpAny_sequenceKey ht.typeIs (by decide) ?_);refine Mx (NU (name:=Str.ofString "__getitem__") ht.typeIs NL
  (N4 NL ht.typeIs entry_tuple_getitem ?_ (args_tuple_getitem _ _)))
 show wpAny _ _ (Builtin.Tuple.tupleItemsOf (.ref t) >>= _) _ _ s;refine Mx (tupleItemsOf_ ht ?_);refine Mx (OA K6 ?_);rw[MM (by decide)];refine Mx (dM hs pl pu ?_);have JD:¬ ((((sIx items.size 0 lo:Nat):Int)==0&&(1:Int)==1&&(sIx items.size items.size hi-sIx items.size 0 lo)==items.size)=true):=by
  intro q;rw[MG,MG]at q;have q1:((sIx items.size 0 lo:Nat):Int)=0:=eq_of_beq q.1.1;have q2:sIx items.size items.size hi-sIx items.size 0 lo=items.size:=eq_of_beq q.2;exact hw ⟨by lia,by lia⟩
 show wpAny _ _ (if(((sIx items.size 0 lo:Nat):Int)==0&&(1:Int)==1&&(sIx items.size items.size hi-sIx items.size 0 lo)==items.size)=true then _ else _) _ _ s;rw[MO JD,rH];first
  |exact Mx (m:=Builtin.Tuple.tupleExact _) (NC (MD ⟨_,rfl,MD h⟩) Fl)
  |exact Mx (m:=Builtin.Tuple.tupleExact _) (NC (Mx (MD (MD ⟨_,rfl,MD h⟩))) Fl)
  |exact Mx (Mx (m:=Builtin.Tuple.tupleExact _) (NC (MD (MD ⟨_,rfl,MD h⟩)) Fl))
  |exact Mx (Mx (m:=Builtin.Tuple.tupleExact _) (NC (MD ⟨_,rfl,MD h⟩) Fl))
end
end HT
namespace L2
open PySem PySem.Spec PyProof.Rows
abbrev TO:=St->Hp->(Option Int->Hp->Prop)->Prop
def PO(X:Cx)(e:Option Expr)(t:TO):Prop:=
 ∀(pr:List (Addr×Obj)) (s:Shared) (σ:St) (H:Hp) (Q:Option Int->Hp->Prop),Inv X pr σ H s->t σ H Q->
  wpAny (model X.prog X.w) X.A (evalPart e X.env) (fun u s'=>∃o H',Inv X pr σ H' s'/\IsPart u o/\Q o H') X.xe s
def zG(t:TE):TO:=fun σ H Q=>t σ H fun x H1=>∃i,x=.int i/\Q (some i) H1
section
variable{X:Cx}{e:Expr}{te:TE}{lo hi:Option Expr}{tl th:TO}{pos p2:Pos}
theorem uK(h:PE X e te):PO X (some e) (zG te):=by
 intro pr s σ H Q I hw;rw[evalPart_some];refine Ci (h pr s σ H _ I hw) fun u s1 Cp=>?_
 obtain⟨x,H1,I1,r1,q1⟩:=Cp;obtain⟨i,rfl,q⟩:=q1;obtain⟨t,rfl⟩:=r1;exact⟨some i,H1,I1,.int i t,q⟩
def Ie(X:Cx)(r:V->Option Int->Option Int->Hp->VK->Prop):Prop:=
 ∀(pr:List (Addr×Obj)) (s:Shared) (σ:St) (H:Hp) (x:V) (v vl vu:Value) (lo hi:Option Int) (sl:Addr) (Q:VK),Inv X pr σ H s->RelV x v->s.heap.IsSliceOf sl vl vu .none->IsPart vl lo->IsPart vu hi->r x lo hi H Q->
  ∃T id,typeLookup (.type T) "__getitem__" = pure (some (.builtin id))/\s.TypeIs v T/\wpAny (model X.prog X.w) X.A (getItem v (.ref sl)) (EP X pr σ Q) X.xe s
def tSl(r:V->Option Int->Option Int->Hp->VK->Prop)(te:TE)(tl th:TO):TE:=fun σ H Q=>te σ H fun x H1=>tl σ H1 fun l H2=>th σ H2 fun u H3=>r x l u H3 Q
theorem rJ{r:V->Option Int->Option Int->Hp->VK->Prop}(hr:Ie X r)(he:PE X e te)(hl:PO X lo tl)(hu:PO X hi th):PE X (.Subscript e (.Slice lo hi none p2) pos) (tSl r te tl th):=by
 intro pr s σ H Q I h;refine Subscript_ (Ci (he pr s σ H _ I h) fun v s1 Cp=>?_);obtain⟨x,H1,I1,r1,q1⟩:=Cp;refine wpAny_Slice (Ci (hl pr s1 σ H1 _ I1 q1) fun vl s2 ⟨l,H2,I2,pl,q2⟩=>Ci (hu pr s2 σ H2 _ I2 q2) fun vu s3 Cp=>?_);obtain⟨u,H3,I3,pu,q3⟩:=Cp;rw[evalPart_none];refine MD ?_;have I4:Inv X pr σ H3 {s3 with heap:=s3.heap.push {cls:=.type "slice",data:=.fields #[vl,vu,.none]}}:=I3.kept (t':=s3.toks) fun b ob q=>MB _ q
 obtain⟨T,id,hT,ht,hg⟩:=hr pr {s3 with heap:=s3.heap.push {cls:=.type "slice",data:=.fields #[vl,vu,.none]}} σ H3 x v vl vu l u s3.heap.objs.size Q I4 r1 (Heap.IsSliceOf.new ..) pl pu q3;show wpAny (model X.prog X.w) X.A (subscriptTail e (.Slice lo hi none p2) v (.ref s3.heap.objs.size)) (EP X pr σ Q) X.xe {s3 with heap:=s3.heap.push {cls:=.type "slice",data:=.fields #[vl,vu,.none]}};exact tail_any (ops:=[.ref s3.heap.objs.size,v]) ht hT hg (by with_unfolding_all rfl)
def tG(xs:List V)(lo hi:Option Int):List V:=(xs.drop (HT.sIx xs.length 0 lo)).take (HT.sIx xs.length xs.length hi-HT.sIx xs.length 0 lo)
theorem g7(xs:List V)(lo hi:Option Int):(tG xs lo hi).length<=xs.length:=by
 unfold tG;rw[Oc,P0];lia
def Ba(K:W.Frag):V->Option Int->Option Int->Hp->VK->Prop:=fun x lo hi H Q=>∃a xs,x=.ref a/\SqT K H a xs/\
 ¬ (HT.sIx xs.length 0 lo=0/\HT.sIx xs.length xs.length hi=xs.length)/\∀p,H p=none->Q (.ref p) (upd H p (.tup (tG xs lo hi)))
theorem xE:Ie X (Ba X.K):=by
 intro pr s σ H x v vl vu lo hi sl Q I rx hs pl pu h;obtain⟨a,xs,rfl,hx,hw,q⟩:=h;cases rx;obtain⟨BR,r,ht,hz⟩:=I.tuple hx;have hlen:BR.toArray.size=xs.length:=by rw[MC];exact r.length.symm
 refine⟨"tuple",_,PyProof.Rows.slot_tuple_getitem.lookup,ht.typeIs,?_⟩;refine HT.fV ht hs pl pu (by rw[hlen];exact hw) ?_ (by rw[hlen];exact hz);rw[hlen];refine⟨.ref s.heap.objs.size,_,I.laid (t':=s.toks) (o:=.tup (tG xs lo hi)) (fun b ob q=>MB _ q) (MH _) ?_,rfl,q _ (I.hok.fresh (MH _))⟩;exact⟨M4 (g7 xs lo hi) hz,_,(r.drop (HT.sIx xs.length 0 lo)).take (HT.sIx xs.length xs.length hi-HT.sIx xs.length 0 lo),IsTupN.new _ _⟩
def zH(K:W.Frag):R2:=fun x y H Q=>∃a b xs ys,x=.ref a/\y=.ref b/\SqT K H a xs/\SqT K H b ys/\xs≠[]/\xs.length+ys.length<=sizeLine/\
 (ys=[]->Q (.ref a) H)/\(ys≠[]->∀p,H p=none->Q (.ref p) (upd H p (.tup (xs++ys))))
theorem Vals.nil_iff{xs:List V}{us:List Value}(r:Vals xs us):us=[]<->xs=[]:=by
 cases r with
 |nil=>simp
 |cons _ _=>simp
theorem uL:CF X (binaryOp .Add) (zH X.K):=by
 intro pr s σ H x y v u Q I rx ry h;obtain⟨a,b,xs,ys,rfl,rfl,ha,hb,hx,hz,q1,q2⟩:=h;cases rx;cases ry;obtain⟨BR,r1,p1,_⟩:=I.tuple ha;obtain⟨Fv,r2,p2,_⟩:=I.tuple hb;refine HT.uJ p1 p2 (fun z=>hx (r1.nil_iff.mp z)) (fun z=>⟨.ref a,H,I,rfl,q1 (r2.nil_iff.mp z)⟩) (fun z=>?_) (by rw[<-r1.length,<-r2.length];exact hz);refine⟨.ref s.heap.objs.size,_,I.laid (t':=s.toks) (o:=.tup (xs++ys)) (fun b ob q=>MB _ q) (MH _) ?_,rfl,q2 (fun w=>z (r2.nil_iff.mpr w)) _ (I.hok.fresh (MH _))⟩;exact⟨by rw[Nt];exact hz,_,r1.append r2,IsTupN.new _ _⟩
end
def ixN(n:Nat)(i:Int):Option Nat:=if 0<=i then(if i<n then some i.toNat else none) else if -(n:Int)<=i then some (i+n).toNat else none
def DN{α:Type}(xs:List α)(i:Int):Option α:=(ixN xs.length i).bind fun j=>xs[j]?
theorem uM{n:Nat}{i:Int}{j:Nat}(h:ixN n i=some j):seqIndex? i n=some j/\j<n/\-(n:Int)<=i/\i<n:=by
 unfold ixN at h;by_cases h0:0<=i
 ·rw[MM h0]at h;by_cases h1:i<n
  ·rw[MM h1]at h;have e:i.toNat=j:=Na h;exact⟨by rw[seqIndex_of h0 h1,e],by lia,by lia,h1⟩
  ·rw[MO h1]at h;cases h
 ·rw[MO h0]at h;by_cases h1:-(n:Int)<=i
  ·rw[MM h1]at h;have e:(i+n).toNat=j:=Na h;exact⟨by rw[seqIndex_neg (by lia) h1,e],by lia,h1,by lia⟩
  ·rw[MO h1]at h;cases h
theorem lR{α:Type}{xs:List α}{i:Int}{v:α}(h:DN xs i=some v):∃j,seqIndex? i xs.length=some j/\xs[j]?=some v/\j<xs.length/\-(xs.length:Int)<=i/\i<xs.length:=by
 unfold DN at h;cases e:ixN xs.length i with
 |none=>rw[e]at h;cases h
 |some j=>
  rw[e]at h;obtain⟨h1,h2,h3,h4⟩:=uM e;exact⟨j,h1,h,h2,h3,h4⟩
theorem eW{α:Type}{xs:List α}{j:Nat}{v:α}(h:xs[j]?=some v):DN xs (j:Int)=some v:=by
 have hj:j<xs.length:=(MF.mp h).1;have e:ixN xs.length (j:Int)=some j:=by
  unfold ixN;rw[MM (by lia),MM (by lia)];simp
 unfold DN;rw[e];exact h
def pA(b:Expr):Prop:=∀o i,subscripted b false o i=operate [o,i] (getItem o i)
def JE(X:Cx)(r:R2):Prop:=
 ∀(value slice:Expr) (pr:List (Addr×Obj)) (s:Shared) (σ:St) (H:Hp) (x y:V) (v u:Value) (Q:VK),Inv X pr σ H s->RelV x v->RelV y u->r x y H Q->
  subscripted slice false v u=operate [v,u] (getItem v u)->wpAny (model X.prog X.w) X.A (subscriptTail value slice v u) (EP X pr σ Q) X.xe s
def LR(X:Cx)(id:String)(r:V->List V->Hp->VK->Prop):Prop:=
 ∀(pr:List (Addr×Obj)) (s:Shared) (σ:St) (H:Hp) (x:V) (xs:List V) (v:Value) (us:List Value) (Q:VK),Inv X pr σ H s->RelV x v->Vals xs us->r x xs H Q->
  wpAny (model X.prog X.w) X.A (call (.builtin id) (v::us)) (EP X pr σ Q) X.xe s
section
variable{X:Cx}{a b:Expr}{ta tb:TE}{pos:Pos}
theorem zI{r:R2}(hr:JE X r)(ha:PE X a ta)(hb:PE X b tb)(hs:pA b):PE X (.Subscript a b pos) (Jf r ta tb):=by
 intro pr s σ H Q I h;exact Subscript_ (zy ha hb I h fun v u s2 x y H2 I2 rx ry q=>hr a b pr s2 σ H2 x y v u Q I2 rx ry q (hs _ _))
def Bb(K:W.Frag):R2:=fun x y H Q=>∃p xs i v,x=.ref p/\y=.int i/\SqL K H p xs/\DN xs i=some v/\Q v H
def Bc(K:W.Frag):R2:=fun x y H Q=>∃p xs i v,x=.ref p/\y=.int i/\SqT K H p xs/\DN xs i=some v/\Q v H
def Bd:R2:=fun x y H Q=>∃z i c,x=.str z/\y=.int i/\z.length<=sizeLine/\DN z.cps.toList i=some c/\Q (.str ⟨#[c]⟩) H
theorem uN:JE X (Bb X.K):=by
 intro value slice pr s σ H x y v u Q I rx ry h hs;obtain⟨p,xs,i,z,rfl,rfl,hq,he,q⟩:=h;cases rx;obtain⟨t,rfl⟩:=ry;obtain⟨BR,r,pl,hz⟩:=I.list hq;obtain⟨j,h1,h2,h3,h4,h5⟩:=lR he;obtain⟨w,ew,Ig⟩:=r.get h2;have hl:=r.length;have hn:=ki;have fin:EP X pr σ Q w s:=⟨z,H,I,Ig,q⟩
 by_cases h0:0<=i
 ·have hj:i.toNat=j:=by
   rw[seqIndex_of h0 h5]at h1;exact Na h1
  exact item_listR pl.isList h0 (by lia) (by rw[hj];simpa using ew) fin hs
 ·have hj:(i+(BR.toArray.size:Int)).toNat=j:=by
   rw[seqIndex_neg (by lia) h4]at h1;rw[MC,<-hl];exact Na h1
  exact subscriptTail_builtinR (x:=w) pl.isList.typeIs slot_list_getitem.lookup
   (wpAny_getItem_list_neg (Q:=fun r s'=>r=w/\EP X pr σ Q r s') pl.isList (by lia) (by rw[MC] <;> lia) (by lia) (by rw[hj];simpa using ew) ⟨rfl,fin⟩) hs
theorem xF:JE X (Bc X.K):=by
 intro value slice pr s σ H x y v u Q I rx ry h hs;obtain⟨p,xs,i,z,rfl,rfl,hq,he,q⟩:=h;cases rx;obtain⟨t,rfl⟩:=ry;obtain⟨BR,r,pl,hz⟩:=I.tuple hq;obtain⟨j,h1,h2,h3,h4,h5⟩:=lR he;obtain⟨w,ew,Ig⟩:=r.get h2;have hl:=r.length;have hn:=ki;have fin:EP X pr σ Q w s:=⟨z,H,I,Ig,q⟩
 exact subscriptTail_builtinR (x:=w) pl.typeIs slot_tuple_getitem.lookup
  (getItem_tuple (j:=j) (Q:=fun r s'=>r=w/\EP X pr σ Q r s') pl (by lia) (by lia) (by rw[MC,<-hl];exact h1) (by simpa using ew) ⟨rfl,fin⟩) hs
theorem xG:JE X Bd:=by
 intro value slice pr s σ H x y v u Q I rx ry h hs;obtain⟨z,i,c,rfl,rfl,hz,he,q⟩:=h;obtain⟨t,rfl⟩:=rx;obtain⟨t',rfl⟩:=ry;obtain⟨j,h1,h2,h3,h4,h5⟩:=lR he;have hl:z.cps.toList.length=z.length:=by simp[Str.length]
 rw[hl]at h1 h4 h5;have hn:=ki;exact tail_any (Qt s z t) slot_str_getitem.lookup (getItem_str (c:=c) (by
  have e1:decide (i < -(2 ^ 63:Int))=false:=MZ (by lia);have e2:decide (i>=2 ^ 63)=false:=MZ (by lia);rw[e1,e2,Bool.or_false]) (by rw[h1];simpa using h2) ⟨.str ⟨#[c]⟩,H,I.tok _,⟨_,rfl⟩,q⟩) hs
theorem Inv.lst{pr:List (Addr×Obj)}{σ:St}{H:Hp}{s:Shared}{p:Addr}{xs:List V}(I:Inv X pr σ H s)(h:H p=some (.lst xs)):
  ∃(BR:List Value) (n:Nat),Vals xs BR/\s.heap.get? p=some {cls:=.type "list",data:=.seq BR.toArray n}/\xs.length<=sizeLine:=by
 obtain⟨z,BR,n,r,e⟩:=I.hok p _ h;exact⟨BR,n,r,e,z⟩
theorem kq(lo hi:Option Int)(n:Nat):(sliceBounds lo hi none n).1=((HT.sIx n 0 lo:Nat):Int)/\(sliceBounds lo hi none n).2.1=((HT.sIx n n hi:Nat):Int)/\(sliceBounds lo hi none n).2.2=1:=by
 refine⟨?_,?_,rfl⟩
 ·cases lo with
  |none=>simp[sliceBounds,HT.sIx]
  |some i=>
   simp only[sliceBounds,HT.sIx,P4,show(1:Int)>0 by decide,OH];by_cases h:i<0
   ·simp only[h,OH] <;> lia
   ·simp only[h,OP] <;> lia
 ·cases hi with
  |none=>simp[sliceBounds,HT.sIx]
  |some i=>
   simp only[sliceBounds,HT.sIx,P4,show(1:Int)>0 by decide,OH];by_cases h:i<0
   ·simp only[h,OH] <;> lia
   ·simp only[h,OP] <;> lia
theorem jr(BR:List Value)(lo hi:Option Int):slicePick BR.toArray lo hi none=((BR.drop (HT.sIx BR.length 0 lo)).take (HT.sIx BR.length BR.length hi-HT.sIx BR.length 0 lo)).toArray:=by
 obtain⟨h1,h2,h3⟩:=kq lo hi BR.toArray.size;unfold slicePick;rw[h1,h2,h3];simp only[sliceRange_one,pick_run,MC] <;> rfl
def Be(K:W.Frag):V->Option Int->Option Int->Hp->VK->Prop:=fun x lo hi H Q=>∃a xs,x=.ref a/\SqL K H a xs/\∀p,H p=none->Q (.ref p) (upd H p (.lst (tG xs lo hi)))
theorem uO:Ie X (Be X.K):=by
 intro pr s σ H x v vl vu lo hi sl Q I rx hs pl pu h;obtain⟨a,xs,rfl,hx,q⟩:=h;cases rx;obtain⟨BR,r,ht,hz⟩:=I.list hx;have hlen:=r.length;refine⟨"list",_,slot_list_getitem.lookup,ht.isList.typeIs,?_⟩;refine wpAny_getItem_list_slice ht.isList hs pl pu .none (by simp) ?_ (by rw[MC] <;> lia);rw[jr,<-hlen];refine⟨.ref s.heap.objs.size,_,I.laid (t':=s.toks) (o:=.lst (tG xs lo hi)) (fun b ob q=>MB _ q) (MH _) ?_,rfl,q _ (I.hok.fresh (MH _))⟩;exact⟨M4 (g7 xs lo hi) hz,_,0,(r.drop (HT.sIx xs.length 0 lo)).take (HT.sIx xs.length xs.length hi-HT.sIx xs.length 0 lo),MR _ rfl⟩
def rK:V->Bool
 | .non=>true
 | .bl _=>true
 | .int _=>true
 | .str _=>true
 |_=>false
def K7:V->V->Bool
 | .non,.non=>true
 | .bl a,.bl b=>a==b
 | .bl a,.int b=>(if a then 1 else 0)==b
 | .int a,.bl b=>a==(if b then 1 else 0)
 | .int a,.int b=>a==b
 | .str a,.str b=>a==b
 |_,_=>false
theorem tH{A:Around}{s:Shared}{y x:V}{u v:Value}(ry:RelV y u)(rx:RelV x v)(fy:rK y=true)(fx:rK x=true):SeqAt.EqAt A s u v (K7 y x):=by
 cases y with
 |non=>
  cases ry;cases x with
  |non=>cases rx;exact SeqAt.EqAt.same _
  |bl b=>cases rx;exact SeqAt.EqAt.none_bool b
  |int b=>obtain⟨t,rfl⟩:=rx;exact SeqAt.EqAt.none_int b t
  |str b=>obtain⟨t,rfl⟩:=rx;exact SeqAt.EqAt.none_str b t
  |_=>exact absurd (show false=true from fx) MP
 |bl a=>
  cases ry;cases x with
  |non=>cases rx;exact SeqAt.EqAt.bool_none a
  |bl b=>cases rx;exact SeqAt.EqAt.bool_bool a b
  |int b=>obtain⟨t,rfl⟩:=rx;exact SeqAt.EqAt.bool_int a b t
  |str b=>obtain⟨t,rfl⟩:=rx;exact SeqAt.EqAt.bool_str a b t
  |_=>exact absurd (show false=true from fx) MP
 |int a=>
  obtain⟨t',rfl⟩:=ry;cases x with
  |non=>cases rx;exact SeqAt.EqAt.int_none a t'
  |bl b=>cases rx;exact SeqAt.EqAt.int_bool a t' b
  |int b=>obtain⟨t,rfl⟩:=rx;exact SeqAt.EqAt.int_int a t' b t
  |str b=>obtain⟨t,rfl⟩:=rx;exact SeqAt.EqAt.int_str a t' b t
  |_=>exact absurd (show false=true from fx) MP
 |str a=>
  obtain⟨t',rfl⟩:=ry;cases x with
  |non=>cases rx;exact SeqAt.EqAt.str_none a t'
  |bl b=>cases rx;exact SeqAt.EqAt.str_bool a t' b
  |int b=>obtain⟨t,rfl⟩:=rx;exact SeqAt.EqAt.str_int a t' b t
  |str b=>obtain⟨t,rfl⟩:=rx;exact SeqAt.EqAt.str_str a t' b t
  |_=>exact absurd (show false=true from fx) MP
 |_=>exact absurd (show false=true from fy) MP
theorem gu:cX X (.builtin "len") (fun xs H Q=>∃p ys,xs=[.ref p]/\(SqL X.K H p ys\/SqT X.K H p ys)/\Q (.int ys.length) H):=by
 intro pr s σ H xs us Q I r h;obtain⟨p,ys,rfl,hq,q⟩:=h;obtain⟨u,rfl,rx⟩:=gL r;cases rx;have hn:=ki;rcases hq with hq|hq
 ·obtain⟨BR,r',pl,hz⟩:=I.list hq;have hlen:=r'.length;exact Calls.call_len_list pl.isList (by simp only[MC] <;> lia) ⟨.int ys.length,H,I.tok _,⟨s.toks+1,by rw[MC,hlen]⟩,q⟩
 ·obtain⟨BR,r',pl,hz⟩:=I.tuple hq;have hlen:=r'.length;exact len_tuple pl (by simp only[MC] <;> lia) ⟨.int ys.length,H,I.tok _,⟨s.toks+1,by rw[MC,hlen]⟩,q⟩
theorem kr:cX X (.builtin "len") (fun xs H Q=>∃z,xs=[.str z]/\z.length<=sizeLine/\Q (.int z.length) H):=by
 intro pr s σ H xs us Q I r h;obtain⟨z,rfl,hz,q⟩:=h;obtain⟨u,rfl,t,rfl⟩:=gL r;have hn:=ki;exact len_str (by lia) ⟨.int z.length,H,I.tok _,⟨_,rfl⟩,q⟩
theorem gv:cX X (.type "list") (fun xs H Q=>∃p ys,xs=[.ref p]/\(SqL X.K H p ys\/SqT X.K H p ys)/\∀l,H l=none->Q (.ref l) (upd H l (.lst ys))):=by
 intro pr s σ H xs us Q I r h;obtain⟨p,ys,rfl,hq,q⟩:=h;obtain⟨u,rfl,rx⟩:=gL r;cases rx;have fin:∀(BR:List Value),Vals ys BR->ys.length<=sizeLine->∀(h':Heap) (c':Nat),(∀b o',s.heap.get? b=some o'->h'.get? b=some o')->
   h'.get? s.heap.objs.size=some {cls:=.type "list",dict:=none,data:=.seq BR.toArray c',slots:=#[]}->EP X pr σ Q (.ref s.heap.objs.size) {s with heap:=h'}:=fun BR r' hz h' c' kp e=>
  ⟨.ref s.heap.objs.size,_,I.laid (t':=s.toks) kp (MH _) (show ObjOk X.prog X.w _ h' _ (.lst ys) from⟨hz,BR,c',r',e⟩),rfl,q _ (I.hok.fresh (MH _))⟩
 rcases hq with hq|hq
 ·obtain⟨BR,r',pl,hz⟩:=I.list hq;have hlen:=r'.length;obtain⟨o,ho,hc,n,hd⟩:=pl.isList;exact call_list_seq p (.inl rfl) ho hc hd (fun h' c' kp e=>fin BR r' hz h' c' kp e) (by simp only[MC] <;> lia)
 ·obtain⟨BR,r',pl,hz⟩:=I.tuple hq;have hlen:=r'.length;obtain⟨o,ho,hc,n,hd⟩:=pl;exact call_list_seq p (.inr rfl) ho hc hd (fun h' c' kp e=>fin BR r' hz h' c' kp e) (by simp only[MC] <;> lia)
theorem fB:cX X (.type "tuple") (fun xs H Q=>∃p ys,xs=[.ref p]/\((SqL X.K H p ys/\∀l,H l=none->Q (.ref l) (upd H l (.tup ys)))\/(SqT X.K H p ys/\Q (.ref p) H))):=by
 intro pr s σ H xs us Q I r h;obtain⟨p,ys,rfl,h⟩:=h;obtain⟨u,rfl,rx⟩:=gL r;cases rx;rcases h with⟨hq,q⟩|⟨hq,q⟩
 ·obtain⟨BR,r',pl,hz⟩:=I.list hq;have hlen:=r'.length;refine call_tuple_list pl.isList (fun h' kp=>?_) (by simp only[MC] <;> lia);have I1:Inv X pr σ H {s with heap:=h'}:=I.kept (t':=s.toks) kp;have I2:Inv X pr σ (upd H h'.objs.size (.tup ys)) {s with heap:=h'.push {cls:=.type "tuple",data:=.seq BR.toArray}}:=
   I1.laid (t':=s.toks) (fun b o e=>MB _ e) (MH _) (show ObjOk X.prog X.w _ _ _ (.tup ys) from⟨hz,BR,r',IsTupN.new _ _⟩)
  exact⟨.ref h'.objs.size,_,I2,rfl,q _ (I1.hok.fresh (MH _))⟩
 ·obtain⟨BR,r',pl,hz⟩:=I.tuple hq;exact call_tuple_same pl ⟨.ref p,H,I,rfl,q⟩
def Kw(K:W.Frag)(T:String)(x:V)(H:Hp):Prop:=match x with
 | .str _=>T = "str"
 | .int _=>T = "int"
 | .ref p=>(T = "list"/\∃xs,SqL K H p xs)\/(T = "tuple"/\∃o,K.lookup p=some o/\o.cls=.type "tuple"/\o.dict=none)\/
   (T = "dict"/\((∃BV,H p=some (.dK BV))\/∃BV,H p=some (.dT BV)))\/(T = "set"/\∃S n,H p=some (.set S n))
 |_=>False
theorem tI{pr:List (Addr×Obj)}{σ:St}{H:Hp}{s:Shared}{T:String}{x:V}{v:Value}(I:Inv X pr σ H s)(r:RelV x v)(ty:Kw X.K T x H):
  s.TypeIs v T/\∀a,v=.ref a->∃ob,s.heap.get? a=some ob/\ob.dict=none:=by
 cases x with
 |str z=>
  obtain⟨t,rfl⟩:=r;cases(show T = "str" from ty);exact⟨Qt s z t,fun _ e=>nomatch e⟩
 |int i=>
  obtain⟨t,rfl⟩:=r;cases(show T = "int" from ty);exact⟨O8 s i t,fun _ e=>nomatch e⟩
 |ref p=>
  cases r;rcases ty with⟨rfl,xs,hq⟩|⟨rfl,o,hk,hc,hd⟩|⟨rfl,hk⟩|⟨rfl,S,n,hk⟩
  ·obtain⟨BR,_,pl,_⟩:=I.list hq;refine⟨pl.isList.typeIs,fun a e=>?_⟩;cases e;obtain⟨o,n,e,c,hd,_⟩:=pl;exact⟨o,e,hd⟩
  ·refine⟨⟨o,I.kIn p o hk,hc⟩,fun a e=>?_⟩;cases e;exact⟨o,I.kIn _ o hk,hd⟩
  ·have z:∃o,s.heap.get? p=some o/\o.ExactDict:=by
    rcases hk with⟨BV,hk⟩|⟨BV,hk⟩
    ·obtain⟨_,_,_,_,o,_,_,e,ex,_⟩:=I.hok p _ hk;exact⟨o,e,ex⟩
    ·obtain⟨_,_,_,_,o,_,_,e,ex,_⟩:=I.hok p _ hk;exact⟨o,e,ex⟩
   obtain⟨o,e,ex⟩:=z;refine⟨⟨o,e,ex.1⟩,fun a e2=>?_⟩;cases e2;exact⟨o,e,ex.2.1⟩
  ·obtain⟨o,_,_,_,e,ex,_⟩:=I.hok p _ hk;refine⟨⟨o,e,ex.1⟩,fun a e2=>?_⟩;cases e2;exact⟨o,e,ex.2.1⟩
 |_=>exact False.elim ty
def Bf(K:W.Frag)(T:String)(r:V->List V->Hp->VK->Prop)(to:TE):TE:=fun σ H Q=>to σ H fun x H1=>Kw K T x H1/\r x [] H1 Q
def tBM(K:W.Frag)(T:String)(r:V->List V->Hp->VK->Prop)(to:TE)(t:TA):TE:=fun σ H Q=>to σ H fun x H1=>Kw K T x H1/\t σ H1 fun xs H2=>r x xs H2 Q
variable{o e:Expr}{es:List Expr}{to:TE}{t:TA}{name:Str}{apos Cy:Pos}{T id:String}{r:V->List V->Hp->VK->Prop}
theorem xH(pa:PlainAttrs T)(slot:Slot T name id)(JF:typeOf (.builtin id)=pure (.type "method_descriptor"))(hm:LR X id r)(ho:PE X o to)
  (DF:attributeBase o name X.env (eval o X.env)=eval o X.env:=by rfl) (D3:(apos.endLine==Cy.line)=true:=by rfl):PE X (.Call (.Attribute o name apos) [] [] Cy) (Bf X.K T r to):=by
 intro pr s σ H Q I h;refine wpAny_Call_method0_late DF D3 (Ci (ho pr s σ H _ I h) fun v s1 Cp=>?_);obtain⟨x,H1,I1,r1,ty,q1⟩:=Cp;obtain⟨h1,h2⟩:=tI I1 r1 ty;exact⟨T,id,pa,slot,JF,h1,h2,Calls.callWith_builtin rfl (PySem.evalArgs_none (hm pr s1 σ H1 x [] v [] Q I1 r1 .nil q1))⟩
theorem zJ(pa:PlainAttrs T)(slot:Slot T name id)(JF:typeOf (.builtin id)=pure (.type "method_descriptor"))(hm:LR X id r)(ho:PE X o to)(ha:PA X (e::es) t)
  (DF:attributeBase o name X.env (eval o X.env)=eval o X.env:=by rfl)
  (Ih:((backTo Cy (starEach (e::es) X.env)).all (fun x=>!x.1)&&(backToKw Cy (keywordEach [] X.env)).all (fun x=>x.1.isSome)
   && decide ((e::es).length+([]:List Keyword).length+(if([]:List Keyword).isEmpty then 0 else 1)<30))=true:=by rfl)
  (D3:(apos.endLine==Cy.line)=true:=by rfl) (hs:starEach (e::es) X.env=(false,eval e X.env)::starEach es X.env:=by rfl) (E1:(backTo Cy (starEach es X.env)).any (·.1)=false:=by rfl):
  PE X (.Call (.Attribute o name apos) (e::es) [] Cy) (tBM X.K T r to t):=by
 intro pr s σ H Q I h;refine wpAny_Call_method_late DF Ih D3 rfl (Ci (ho pr s σ H _ I h) fun v s1 Cp=>?_);obtain⟨x,H1,I1,r1,ty,q1⟩:=Cp;obtain⟨h1,h2⟩:=tI I1 r1 ty;refine⟨T,id,pa,slot,JF,h1,h2,?_⟩;have hA:=ha Cy pr s1 σ H1 _ I1 q1;rw[hs]at hA ⊢;refine Calls.callWith_builtin (by show(false||(backTo Cy (starEach es X.env)).any (·.1))=false;rw[E1] <;> rfl) (Calls.evalArgs_plain ?_);exact Ci hA fun us s2 ⟨vs,H2,I2,r2,q2⟩=>hm pr s2 σ H2 x vs v us Q I2 r1 r2 q2
end
def MtM(X:Cx)(id:String)(r:V->List V->Hp->VK->Prop):Prop:=
 ∀(pr:List (Addr×Obj)) (s:Shared) (σ:St) (H:Hp) (x:V) (xs:List V) (v:Value) (us:List Value) (Q:VK),Inv X pr σ H s->RelV x v->Vals xs us->r x xs H Q->
  wpAny (model X.prog X.w) X.A (call (.builtin id) (v::us)) (EP X pr σ Q) X.xe s
theorem Vals.one:∀{x:V}{us:List Value},Vals [x] us->∃u,us=[u]/\RelV x u
 |_,_,.cons r .nil=>⟨_,rfl,r⟩
theorem Vals.zero:∀{us:List Value},Vals [] us->us=[]
 |_,.nil=>rfl
theorem Vals.dropLast{xs:List V}{us:List Value}(h:Vals xs us):Vals xs.dropLast us.dropLast:=by
 induction h with
 |nil=>exact .nil
 |cons r t ih=>
  cases t with
  |nil=>exact .nil
  |cons q t'=>exact .cons r ih
theorem Vals.eraseIdx:∀{xs:List V}{us:List Value}(i:Nat),Vals xs us->Vals (xs.eraseIdx i) (us.eraseIdx i)
 |_,_,_,.nil=>.nil
 |_,_,0,.cons _ t=>t
 |_,_,i+1,.cons r t=>.cons r (Vals.eraseIdx i t)
theorem Vals.rep{xs:List V}{us:List Value}(h:Vals xs us):∀k:Nat,Vals (List.replicate k xs).flatten (List.replicate k us).flatten
 | 0=>.nil
 |k+1=>by
  rw[NM,NM,NY,NY];exact Vals.append h (Vals.rep h k)
theorem n4{α:Type}(l:List α):l.eraseIdx (l.length-1)=l.dropLast:=by
 induction l with
 |nil=>rfl
 |cons a r ih=>
  cases r with
  |nil=>rfl
  |cons b r=>
   have e:(a::b::r).length-1=((b::r).length-1)+1:=by
    have h1:(a::b::r).length=r.length+2:=rfl;have h2:(b::r).length=r.length+1:=rfl;lia
   rw[e,List.eraseIdx_cons_succ,ih];all_goals rfl
theorem g8(BR:List Value):∀(k:Nat) (acc:List Value),
  List.foldl (fun x1 x2=>x1++x2) acc.toArray (List.replicate k BR.toArray)=(acc++(List.replicate k BR).flatten).toArray
 | 0,acc=>by simp
 |k+1,acc=>by
  have e:acc.toArray++BR.toArray=(acc++BR).toArray:=by simp
  have e2:(acc++BR)++(List.replicate k BR).flatten=acc++(List.replicate (k+1) BR).flatten:=by
   rw[NM,NY,Nn]
  rw[<-e2,<-g8 BR k (acc++BR),<-e,NM,Oj]
section
variable{X:Cx}{pr:List (Addr×Obj)}{σ:St}{H:Hp}{s:Shared}{l b:Addr}{xs ys zs:List V}
theorem Inv.lset{BR its':List Value}{n:Nat}{f:Array Value->Array Value}{t':Nat}(I:Inv X pr σ H s)(hH:H l=some (.lst xs))
  (e:s.heap.get? l=some {cls:=.type "list",data:=.seq BR.toArray n}) (hf:f BR.toArray=its'.toArray) (hv:Vals ys its') (hz:ys.length<=sizeLine):
  Inv X pr σ (upd H l (.lst ys)) {s with heap:=s.heap.update l (Obj.mapSeq f),toks:=t'}:=by
 have q:=PySem.IsL.update e f;rw[hf]at q;refine I.write (x:=l) (e:=l) (by rw[hH];exact trivial) (.inl rfl) (fun b' u hb hu=>(M9 s.heap (Obj.mapSeq f) (N2 hb)).trans hu) ⟨_,q⟩ ?_;exact⟨hz,its',_,hv,q⟩
theorem Inv.lnew{BR:List Value}{t':Nat}(I:Inv X pr σ H s)(hv:Vals ys BR)(hz:ys.length<=sizeLine):
  Inv X pr σ (upd H s.heap.objs.size (.lst ys)) {s with heap:=s.heap.push {cls:=.type "list",data:=.seq BR.toArray},toks:=t'}:=
 I.laid (fun _ _ q=>MB _ q) (MH _) ⟨hz,BR,0,hv,MR _ rfl⟩
theorem Inv.fresh(I:Inv X pr σ H s):H s.heap.objs.size=none:=I.hok.fresh (MH _)
theorem Inv.lstM(I:Inv X pr σ H s)(hH:H l=some (.lst xs)):xs.length<=sizeLine/\∃(BR:List Value) (n:Nat),Vals xs BR/\xs.length=BR.length/\s.heap.get? l=some {cls:=.type "list",data:=.seq BR.toArray n}:=by
 obtain⟨z,BR,n,r,e⟩:=I.hok l _ hH;exact⟨z,BR,n,r,r.length,e⟩
theorem rL{n:Nat}(h:n<=sizeLine):Builtin.List.listTooLong n=false:=by
 unfold Builtin.List.listTooLong;exact MZ (by lia)
end
section
variable{X:Cx}
def uP:V->List V->Hp->VK->Prop:=fun x vs H Q=>∃l xs y,x=.ref l/\vs=[y]/\H l=some (.lst xs)/\xs.length<sizeLine/\Q .non (upd H l (.lst (xs++[y])))
theorem ku:MtM X "list.append" uP:=by
 intro pr s σ H x vs v us Q I rx rv h;obtain⟨l,xs,y,rfl,rfl,hH,hz,q⟩:=h;cases rx;obtain⟨u,rfl,ru⟩:=rv.one;obtain⟨z,BR,n,r,hl,e⟩:=I.lstM hH;refine OB F.slot_list_append ⟨_,e,rfl⟩ F.entry_list_append (F.args_list_append_2 _ _) (PySem.list_append l BR.toArray n u (by rw[MC];lia)) ⟨e,?_⟩;refine⟨.non,_,I.lset (its':=BR++[u]) hH e (by simp) (r.append (.cons ru .nil)) ?_,rfl,q⟩;rw[Nt,List.length_singleton];lia
def Bg:V->List V->Hp->VK->Prop:=fun x vs H Q=>∃l xs y,x=.ref l/\vs=[]/\H l=some (.lst xs)/\xs[xs.length-1]?=some y/\Q y (upd H l (.lst xs.dropLast))
theorem Az:MtM X "list.pop" Bg:=by
 intro pr s σ H x vs v us Q I rx rv h;obtain⟨l,xs,y,rfl,rfl,hH,hy,q⟩:=h;cases rx;have K8:=rv.zero;subst K8;obtain⟨z,BR,n,r,hl,e⟩:=I.lstM hH;obtain⟨u,hu,ru⟩:=r.get hy;have hy':BR.toArray[BR.toArray.size-1]?=some u:=by
  show BR.toArray[BR.length-1]?=some u;rw[<-OR,<-hl];exact hu
 refine OB F.slot_list_pop ⟨_,e,rfl⟩ F.entry_list_pop (F.args_list_pop_1 _) (MeetsSeq.list_pop_last l BR.toArray n u hy' (by rw[MC];lia)) ⟨e,?_⟩;refine⟨y,_,I.lset (its':=BR.dropLast) hH e ?_ r.dropLast ?_,ru,q⟩
 ·show BR.toArray.eraseIdxIfInBounds (BR.toArray.size-1)=BR.dropLast.toArray;rw[MC,List.eraseIdxIfInBounds_toArray,n4]
 ·rw[List.length_dropLast];lia
def xI:V->List V->Hp->VK->Prop:=fun x vs H Q=>∃l xs,x=.ref l/\vs=[]/\H l=some (.lst xs)/\Q .non (upd H l (.lst []))
theorem rM:MtM X "list.clear" xI:=by
 intro pr s σ H x vs v us Q I rx rv h;obtain⟨l,xs,rfl,rfl,hH,q⟩:=h;cases rx;have K8:=rv.zero;subst K8;obtain⟨z,BR,n,r,hl,e⟩:=I.lstM hH;refine OB F.slot_list_clear ⟨_,e,rfl⟩ F.entry_list_clear (F.args_list_clear_1 _) (AutoSeq1.list_clear_list_0 l BR.toArray n (by rw[MC];lia)) ⟨e,?_⟩;exact⟨.non,_,I.lset (its':=[]) (ys:=[]) hH e rfl .nil (Nq _),rfl,q⟩
theorem eX{α:Type}(xs:List α)(k:Nat):(List.replicate k xs).flatten.length=k*xs.length:=by
 induction k with
 |zero=>simp
 |succ k ih=>rw[NM,NY,Nt,ih,Nat.succ_mul,Nat.add_comm]
end
section
variable{prog:Program}{w:World}{A:Around}{E:Value->Shared->Prop}{s:Shared}
end
section
variable{X:Cx}
end
end L2
namespace Att
open PySem PySem.W PySem.Calls PyProof.Rows
theorem g9{P:Params}{h:Heap}:∀(ns:List Int) (vs:List Value),WellAll P h vs (ns.map WData.int)->IntsAre vs ns:=by
 intro ns;induction ns with
 |nil=>
  intro vs w;rw[NJ]at w;cases w;exact .nil
 |cons n ns ih=>
  intro vs w;rw[MS]at w;cases w with
  |cons a b=>
   cases a;exact .cons _ _ (ih _ b)
theorem pB{l:OpenLaw}{n:Nat}(hn:l.most=some n){P:Params}{h:Heap}{args:List WData}{vals:List Value}
  (GR:l.row.toRowW.claim.pre args=true) (K9:WellAll P h vals args):
  ∃a vs ns,vals=[Value.ref a]/\args=[WData.list (ns.map WData.int)]/\h.get? a=some {cls:=.type "list",data:=.seq vs.toArray}/\IntsAre vs ns/\ns.length<=n:=by
 have hsh:WShape.hasAll [] args [.list .int]=true:=(pre_splitW GR).1;have hc:l.pre.holds [] {args:=args}=true:=(pre_splitW GR).2;obtain⟨d,r,rfl,h1,h2⟩:=hasAllW_cons hsh;obtain rfl:=hasAllW_nil h2;obtain⟨xs,rfl,h3⟩:=hasW_list h1;obtain⟨ns,rfl⟩:=items_int h3;have hlen:ns.length<=n:=by
  unfold OpenLaw.pre at hc;have h4:(WTm.not (.lt (.lit (.int (n:Int))) (.len (.arg 0)))).holds [] {args:=[.list (ns.map .int)]}=true:=by
   have h4:=(holds_andW hc).1;rw[hn]at h4;exact h4
  have h5:=condW_of h4 (w_not (w_lt w_lit (w_len_list (w_arg rfl))));rw[MA]at h5;refine Nat.le_of_not_lt fun q=>?_
  have q':(n:Int)<((ns.length:Nat):Int):=by lia
  first
   |(rw[M6 q']at h5;exact absurd h5 (by decide))
   |(simp at h5;lia)
 cases K9 with
 |cons w1 w2=>
  cases w2;cases w1 with
  |list ho Ii=>exact⟨_,_,ns,rfl,rfl,ho,g9 ns _ Ii,hlen⟩
theorem pC(l:OpenLaw)(args:List WData):l.row.toRowW.claim.post args (.bool true) args=true:=
 postW_of (r:=l.row.toRowW) (X:=(true==true))
  (show WShape.has [] (.bool true) .bool=true by first|rfl|decide|simp[WShape.has,WShape.arms,WShape.armsAll])
  (show(WTm.eq .res (.lit (.bool true))).value [] {args:=args,res:=some (.bool true),after:=args}=some (.bool (true==true)) from w_eq_bool (w_res rfl) w_lit) rfl
theorem attach_call{l:OpenLaw}{n:Nat}{q:Program}{loose:List Str}{XP:(Str->Option Value)->Heap->Prop}{YP:World->Heap->Prop}{d:DefRec}
  (hn:l.most=some n) (JG:d.params.defaults=[])
  (call:∀(w:World) (s₀ s₁:Shared) (mg mb:Str->Option Value) (fa:Addr) (o:Obj) (pm cd doc:Value) (a:Addr) (vs:List Value) (ns:List Int),
   Ground q loose [] XP w s₀ mg mb s₁.heap->YP w s₁.heap->
   s₁.heap.get? fa=some o->o.data=.func (docDef d.name d.params d.body d.scope pm cd doc)->s₁.heap.CodeRec cd d.name->mg d.name=some (.ref fa)->
   s₁.heap.get? a=some {cls:=.type "list",data:=.seq vs.toArray}->IntsAre vs ns->ns.length<=n->s₁.gens = #[]->
   codeAny (model l.prog w) callerA (.call (.ref fa) ⟨[.ref a],[]⟩) (fun r s'=>r=.ok (.ret (.bool true))/\OldK s₁.heap s'.heap/\s'.os=s₁.os/\AllBare s'.gens) s₁):
  WalkO q loose XP YP l.row.toRowW d [] (fun f vs=>PySem.call f vs):=by
 intro w s₀ s₁ mg mb G Y fa o pm cd doc dV kV ho hd Ft hD JH hg args vals as GR hlay hrd K9 LS;obtain rfl:dV=.none:=Dflts.none hD JG;obtain rfl:kV=.none:=Dflts.noKw hD;obtain⟨a,vs,ns,rfl,rfl,Ij,hints,hlen⟩:=pB hn GR K9;refine enter_call (Qg (call w s₀ s₁ mg mb fa o pm cd doc a vs ns G Y ho (fd_plain hd) Ft JH Ij hints hlen hg) fun r s' hq=>?_);obtain⟨rfl,h2,h3,h4⟩:=hq;exact⟨.inl ⟨.bool true,.bool true,[],rfl,fun _=>rfl,.bool true,pC l _,fun _=>⟨List.Pairwise.nil,fun _ hm=>(nomatch hm)⟩⟩,h2,h3,h4⟩
section
variable{prog:Program}{w:World}{A:Around}{E:Value->Shared->Prop}{s:Shared}{K:Frag}
end
end Att
namespace L2
open PySem PySem.Spec PyProof.Rows
theorem kx:∀{vs:List Value}{ns:List Int},IntsAre vs ns->Vals (ns.map V.int) vs
 |_,_,.nil=>.nil
 |_,_,.cons n t h=>.cons ⟨t,rfl⟩ (kx h)
def zK(H:Hp):Prop:=∀b,H b=none\/∃o xs,H b=some (.frz o (.lst xs))
theorem rN{P:Program}{w:World}{K:W.Frag}{mg mb:Str->Option Value}{CX:Fj}{k:Nat}{fa a:Addr}{fd:FuncData}{x:Str}{sp:Sp}{s₁:Shared}{vs:List Value}{ns:List Int}
  (KX:K.In s₁.heap) (Jh:s₁.heap.Ns mainGlobals mg) (hb:s₁.heap.Ns builtinsNs mb) (hbb:∀x:Str,x≠"__name__"->mb x=bootBuiltins x) (hlim:s₁.heap.NoLimit) (hg:s₁.gens = #[])
  (ha:s₁.heap.get? a=some {cls:=.type "list",data:=.seq vs.toArray}) (hi:IntsAre vs ns) (hl:ns.length<=sizeLine) (hr:Room k callerA)
  (F:∀base:Heap,K.In base->base.Ns mainGlobals mg->FnOk P w K mg base CX k fa fd [x] sp) (JI:∀(s:Shared) (u:Value),BindsTo s fd ⟨[u],[]⟩ [(x,u)])
  (GK:∀H:Hp,zK H->SqL K H a (ns.map V.int)->sp [.ref a] H (fun v _=>v=.bl true) fun _ _ _=>False)
  (La:∀H e s',CX [] H s₁ (fun _ _ _=>False) e s'->False):
  codeAny (model P w) callerA (.call (.ref fa) ⟨[.ref a],[]⟩) (fun r s'=>r=.ok (.ret (.bool true))/\OldK s₁.heap s'.heap/\s'.os=s₁.os/\AllBare s'.gens) s₁:=by
 have rv:=kx hi;have lenV:=hi.length;have core:∀H:Hp,zK H->SqL K H a (ns.map V.int)->HOk P w H s₁.heap->(∀b,H b≠none->b=a)->(H a≠none->K.lookup a=none)->
   codeAny (model P w) callerA (.call (.ref fa) ⟨[.ref a],[]⟩) (fun r s'=>r=.ok (.ret (.bool true))/\OldK s₁.heap s'.heap/\s'.os=s₁.os/\AllBare s'.gens) s₁:=by
  intro H hO hS hok hA hK;have Fm:∀{b:Addr}{o:Obj},s₁.heap.get? b=some o->H b=none->(rm s₁.heap H).get? b=some o:=fun e n=>rp e n
  have JC:∀{b:Addr}{o:Obj}{es:Array DictEntry}{ep:Nat},s₁.heap.get? b=some o->o.data=.dict es ep->H b=none:=fun{b o es ep} e d=>by
   cases q:H b with
   |none=>rfl
   |some u=>
    have e':b=a:=hA b (by rw[q];simp);subst e';rw[ha]at e;cases e;have d':Data.seq vs.toArray _=Data.dict es ep:=d;cases d'
  have Kx:∀{b:Addr}{m:Str->Option Value},s₁.heap.Ns b m->(rm s₁.heap H).Ns b m:=fun{b m} ⟨o,es,ep,e,d,r⟩=>⟨o,es,ep,Fm e (JC e d),d,r⟩
  have LU:K.In (rm s₁.heap H):=fun b o e=>Fm (KX b o e) (by
   cases q:H b with
   |none=>rfl
   |some u=>
    have e':b=a:=hA b (by rw[q];simp);subst e';rw[hK (by rw[q];simp)]at e;cases e)
  have hM:Mod K mg (rm s₁.heap H):=⟨LU,Kx Jh,⟨mb,Kx hb,hbb⟩,let⟨mc,h1,h2⟩:=hlim;⟨mc,Kx h1,h2⟩⟩
  have e0:Env0 P w K mg (rm s₁.heap H) callerA [] s₁ H:=⟨rfl,hM,fun b o e=>ux e,Nat.le_of_eq (oU _ _),trivial,fun b hb=>absurd (show b∈([]:List Addr) from hb) (by simp),hok,.of_eq hg⟩
  refine Qg ((F _ LU (Kx Jh)).run callerA [] s₁ H ⟨[.ref a],[]⟩ [.ref a] [.ref a] _ _ hr e0 (JI s₁ (.ref a)) (.cons rfl .nil) (GK H hO hS)) fun r s' h=>?_
  cases r with
  |error e=>exact(La H e s' h).elim
  |ok fl=>
   cases fl with
   |next=>exact False.elim h
   |brk=>exact False.elim h
   |cont=>exact False.elim h
   |ret u=>
    obtain⟨v,H',os,bare,un,hok',r',q⟩:=h;have q':v=.bl true:=q;subst q';obtain rfl:u=Value.bool true:=r';refine⟨rfl,OldK.of_keep fun b o e=>?_,os,bare⟩;cases q:H b with
    |none=>exact un.keep b o e q (by intro z;exact absurd (show b∈([]:List Addr) from z) (by simp)) (by simp)
    |some u=>
     rcases hO b with z|⟨ob,xs,z⟩
     ·rw[q]at z;cases z
     ·have z2:=un.frzs b ob _ z;obtain⟨e1,_⟩:=hok b _ z;obtain⟨e2,_⟩:=hok' b _ z2;rw[e]at e1;cases e1;exact e2
 cases hk:K.lookup a with
 |some o=>
  have e:=KX a o hk;rw[ha]at e;cases e;refine core (fun _=>none) (fun _=>.inl rfl) (.inr ⟨_,vs.toArray,_,hk,rfl,rfl,rfl,by rw[MC,lenV];exact hl,by simpa using rv⟩) (fun b u z=>by have z':(none:Option HO)=some u:=z;cases z') (fun b z=>absurd rfl z) fun z=>absurd rfl z
 |none=>
  refine core (fun b=>if b=a then some (.frz {cls:=.type "list",data:=.seq vs.toArray} (.lst (ns.map V.int))) else none) (fun b=>?_) (.inl (.inr ⟨{cls:=.type "list",data:=.seq vs.toArray},MM rfl⟩)) (fun b u z=>?_) (fun b z=>?_) fun _=>hk
  ·by_cases hb:b=a
   ·exact .inr ⟨_,_,MM hb⟩
   ·exact .inl (MO hb)
  ·by_cases hb:b=a
   ·have z':=(MM hb).symm.trans z;cases z';subst hb;exact⟨ha,by rw[MA];exact hl,vs,_,rv,ha⟩
   ·have z':=(MO hb).symm.trans z;cases z'
  ·by_cases hb:b=a
   ·exact hb
   ·exact absurd (MO hb) z
theorem uQ{l:PySem.W.OpenLaw}{n k:Nat}{q:Program}{loose:List Str}{XP:(Str->Option Value)->Heap->Prop}{YP:World->Heap->Prop}{d:DefRec}{K:Params->W.Frag}{CX:World->Fj}{sp:World->Sp}{x:Str}
  (hn:l.most=some n) (hn2:n<=sizeLine) (JG:d.params.defaults=[]) (hr:Room k callerA)
  (hY:∀(w:World) (h:Heap),YP w h->(K w.params).In h)
  (F:∀(w:World) (mg:Str->Option Value) (fa:Addr) (h:Heap),(K w.params).In h->h.Ns mainGlobals mg->mg d.name=some (.ref fa)->
   ∃fd:FuncData,(∀(s:Shared) (u:Value),BindsTo s fd ⟨[u],[]⟩ [(x,u)])/\
    ∀base:Heap,(K w.params).In base->base.Ns mainGlobals mg->FnOk l.prog w (K w.params) mg base (CX w) k fa fd [x] (sp w))
  (GK:∀(w:World) (H:Hp) (a:Addr) (ns:List Int),ns.length<=n->zK H->SqL (K w.params) H a (ns.map V.int)->sp w [.ref a] H (fun v _=>v=.bl true) fun _ _ _=>False)
  (La:∀(w:World) (H:Hp) (s:Shared) (e:Value) (s':Shared),CX w [] H s (fun _ _ _=>False) e s'->False):
  PySem.W.WalkO q loose XP YP l.row.toRowW d [] (fun f vs=>PySem.call f vs):=by
 refine Att.attach_call hn JG fun w s₀ s₁ mg mb fa o pm cd doc a vs ns G Y ho hd Ft JH Ij hints hlen hg=>?_
 have KX:=hY w _ Y;obtain⟨fd,hb,hF⟩:=F w mg fa _ KX G.T.g JH;exact rN KX G.T.g G.T.b G.T.builtins G.T.nolimit hg Ij hints (M4 hlen hn2) hr hF hb (fun H hO hS=>GK w H a ns hlen hO hS) fun H e s'=>La w H s₁ e s'
def dv(s:Stmt):Arguments:=match s with
 | .FunctionDef _ a _ _ _ _ _ _ _ _=>a
 |_=>{posonlyargs:=[],args:=[],vararg:=none,kwonlyargs:=[],kw_defaults:=[],kwarg:=none,defaults:=[]}
def bZ(s:Stmt):List Stmt:=match s with
 | .FunctionDef _ _ b _ _ _ _ _ _ _=>b
 |_=>[]
def defScope(s:Stmt):Scope:=match s with
 | .FunctionDef _ _ _ _ _ _ sc _ _ _=>sc
 |_=>{kind:=.function,names:=[],isGenerator:=false,isCoroutine:=false}
abbrev F2:Fj:=fun _ _ _ _ _ _=>False
abbrev E0:XK:=fun _ _ _=>False
theorem zL{X:Cx}:ph F2 X E0:=fun _ _ _ _ _ _ _ h=>h.elim
structure Fun(K:W.Frag)(x qual:Str)(st:Stmt)(f:Addr)(fd:FuncData):Prop where
 ex:∃(oc:Value) (od:Option Addr) (kV doc pm:Value) (an:Option Addr) (Cg ct:Value) (F0:Array (Option Value)),
  fd=PySem.W.fnOf x qual (dv st) (bZ st) (defScope st) .none kV doc pm an Cg ct/\K.lookup f=some ⟨oc,od,.func fd,F0⟩/\PySem.W.codeIn K Cg qual=true
 kp:PySem.W.keepIn K (.ref f)=true
section
variable{P:Program}{w:World}{K:W.Frag}{mg:Str->Option Value}{base:Heap}
theorem Fun.ok{x qual:Str}{st:Stmt}{f:Addr}{fd:FuncData}{N ps:List Str}{k:Nat}{sp:Sp}(F:Fun K x qual st f fd)(S:FnScope N ps (defScope st))(len:∀vs H Q E,sp vs H Q E->vs.length=ps.length)
  (EJ:∀(Cg:Value) (A:Around) (outer:List Env) (s:Shared) (H:Hp) (vs:List V) (Q:VK) (E:XK),Room k (A.deeper (envOfC qual (defScope st) s.heap.objs.size f Cg))->sp vs H Q E->
   ∃t,PSs (nX F2 P w K mg base N qual (defScope st) f Cg A outer s H E).nox (bZ st) t/\t {nx:=fun _ H'=>Q .non H',rt:=Q} (gM N vs) H):FnOk P w K mg base F2 (k+1) f fd ps sp:=by
 obtain⟨oc,od,kV,doc,pm,an,Cg,ct,F0,rfl,lk,Ft⟩:=F.ex;refine xD lk Ft S len fun A outer s H vs Q E hr GK=>?_
 obtain⟨t,h,q⟩:=EJ Cg A outer s H vs Q E hr GK;exact⟨t,h.nox,q⟩
theorem Fun.binds{x qual:Str}{st:Stmt}{f:Addr}{fd:FuncData}{ps:List Str}(F:Fun K x qual st f fd)
  (h:∀(kV doc pm:Value) (an:Option Addr) (Cg ct:Value) (us:List Value),us.length=ps.length->bindArgs (PySem.W.fnOf x qual (dv st) (bZ st) (defScope st) .none kV doc pm an Cg ct) ⟨us,[]⟩=pure (ps.zip us)):Binds K fd ps []:=by
 obtain⟨oc,od,kV,doc,pm,an,Cg,ct,F0,rfl,lk,Ft⟩:=F.ex;exact .all (h kV doc pm an Cg ct)
theorem tJ{x qual:Str}{st:Stmt}{f:Addr}{oc:Value}{od an:Option Addr}{F0:Array (Option Value)}{kV doc pm Cg ct:Value}(l:K.lookup f=some ⟨oc,od,.func (PySem.W.fnOf x qual (dv st) (bZ st) (defScope st) .none kV doc pm an Cg ct),F0⟩)
  (c:PySem.W.codeIn K Cg qual=true) (k:PySem.W.keepIn K (.ref f)=true):Fun K x qual st f (PySem.W.fnOf x qual (dv st) (bZ st) (defScope st) .none kV doc pm an Cg ct):=⟨⟨oc,od,kV,doc,pm,an,Cg,ct,F0,rfl,l,c⟩,k⟩
end
theorem hu_of{A:Around}{k:Nat}(hr:Room k A):A.units+1<cLine:=Nat.lt_of_le_of_lt (Nat.add_le_add_left (by decide:1<=64) _) hr.units
section
variable{X:Cx}
theorem pv(i:Nat){x:Str}{pos:Pos}(hN:X.N[i]?=some x:=by rfl)(hv:KW X.env.scope x:=by first|exact Or.inl rfl|exact Or.inr (Or.inl rfl)|exact Or.inr (Or.inr rfl))(hd:(x==("__debug__" : Str))=false:=by decide)
  (Ft:(x==("__classdict__" : Str))=false:=by decide):PE X (.Name x pos) (oV i):=w9 hN hv hd Ft
end
theorem iteF{A B:Prop}(h:B):if false=true then A else B:=by
 rw[MO MP];exact h
theorem xJ{A B:Prop}(h:A):if true=true then A else B:=by
 rw[MM rfl];exact h
def Same(H H':Hp):Prop:=∀b o,H b=some o->H' b=some o
theorem Same.refl(H:Hp):Same H H:=fun _ _ h=>h
theorem Same.trans{H H1 H2:Hp}(a:Same H H1)(b:Same H1 H2):Same H H2:=fun c o h=>b c o (a c o h)
theorem Same.free{H H':Hp}(e:Same H H'){l:Addr}(h:H' l=Option.none):H l=Option.none:=by
 cases q:H l with
 |none=>rfl
 |some o=>
  rw[e l o q]at h;cases h
theorem Same.seq{K:W.Frag}{H H':Hp}{a:Addr}{xs:List V}(e:Same H H')(h:SqL K H a xs):SqL K H' a xs:=by
 rcases h with(h|⟨o,h⟩)|h
 ·exact .inl (.inl (e _ _ h))
 ·exact .inl (.inr ⟨o,e _ _ h⟩)
 ·exact .inr h
end L2
set_option maxHeartbeats 0
namespace NX
open PySem PySem.Spec PyProof.Rows L2
section
variable{X:Cx}
theorem pD:CF X (compareOp .LtE) (fun x y H Q=>∃i j,x=.str i/\y=.str j/\Q (.bl (!decide (j.cps.toList<i.cps.toList))) H):=by
 intro pr s σ H x y v u Q I rx ry h;obtain⟨i,j,rfl,rfl,q⟩:=h;obtain⟨t,rfl⟩:=rx;obtain⟨t',rfl⟩:=ry;exact PySem.P.le_str (mF I q rfl)
theorem rO(v:Int)(n:Nat):max (0:Int) (min (if v<0 then v+(n:Int) else v) (n:Int))=((HT.sIx n 0 (some v):Nat):Int):=by
 show _=(((if v<0 then(v+(n:Int)).toNat else min v.toNat n):Nat):Int)
 split <;> lia
theorem xK(a b:Nat):sliceRange (a:Int) (b:Int) 1=(List.range (b-a)).map (fun k=>a+k):=by
 unfold sliceRange;rw[MM (by decide:(1:Int)>0)];by_cases DO:(a:Int)<b
 ·have e3:(((b:Int)-a+1-1) / 1).toNat=b-a:=by first|lia|(simp;done)|(simp;lia)
  simp only[DO,OH,e3];refine NN fun k _=>?_
  lia
 ·have:b-a=0:=by lia
  simp[DO,this]
theorem Bh(lo hi:Option Int)(n:Nat):Builtin.Str.strSliceIndices lo hi 1 n=(List.range (HT.sIx n n hi-HT.sIx n 0 lo)).map (fun k=>HT.sIx n 0 lo+k):=by
 rw[<-xK];unfold Builtin.Str.strSliceIndices;simp only[show(1:Int)>0 from by decide,OH];cases lo with
 |none=>
  cases hi with
  |none=>rfl
  |some v=>exact NQ (fun z=>sliceRange 0 z 1) (rO v n)
 |some u=>
  cases hi with
  |none=>exact NQ (fun z=>sliceRange z (n:Int) 1) (rO u n)
  |some v=>exact(NQ (fun z=>sliceRange z _ 1) (rO u n)).trans (NQ (fun z=>sliceRange _ z 1) (rO v n))
def xM(xs:List Nat)(lo hi:Option Int):List Nat:=(xs.drop (HT.sIx xs.length 0 lo)).take (HT.sIx xs.length xs.length hi-HT.sIx xs.length 0 lo)
theorem tK{α:Type}(l:List α):∀(n a:Nat),a+n<=l.length->((List.range n).map (fun k=>a+k)).filterMap (l[·]?)=(l.drop a).take n
 | 0,_,_=>by simp
 |n+1,a,h=>by
  have DO:a+n<l.length:=by lia
  rw[Pa,Nk,List.filterMap_append,tK l n a (by lia),Pt,List.getElem?_drop];simp[Mz DO]
theorem pE(x:Str)(lo hi:Option Int):(Txt.slice x lo hi).cps.toList=xM x.cps.toList lo hi:=by
 have hl:x.cps.toList.length=x.length:=NA;have ha:=HT.pw x.length 0 (Nq _) lo;have hb:=HT.pw x.length x.length (MH _) hi;unfold Txt.slice xM;rw[Bh,hl];split
 ·rename_i h;have h2:HT.sIx x.length x.length hi-HT.sIx x.length 0 lo=x.length:=by simpa using h
  have ez:HT.sIx x.length 0 lo=0\/x.length=0:=by lia
  rcases ez with e|e
  ·rw[h2,e,List.drop_zero,Qc (by lia)]
  ·have:x.cps.toList=[]:=M7 (by lia);rw[this];simp
 ·have hk:∀(f:List Nat),f.filterMap (x.cps[·]?)=f.filterMap (x.cps.toList[·]?):=fun f=>by
   congr 1
   funext i
   simp
  show(List.filterMap _ _).toArray.toList=_;rw[Pb,hk];by_cases hle:HT.sIx x.length 0 lo<=HT.sIx x.length x.length hi
  ·rw[tK _ _ _ (by lia)]
  ·have e0:HT.sIx x.length x.length hi-HT.sIx x.length 0 lo=0:=by lia
   rw[e0];rfl
abbrev S(l:List Nat):Str:=⟨l.toArray⟩
theorem ky(x:Str):S x.cps.toList=x:=by cases x;simp[S]
theorem S_inj{a b:List Nat}(h:S a=S b):a=b:=by
 have:=NQ (fun z:Str=>z.cps.toList) h;simpa[S] using this
theorem kz(l:List Nat):(S l).length=l.length:=by simp[S,Str.length]
theorem cu(l:List Nat):(S l).cps.toList=l:=by simp[S]
theorem zM(a b:List Nat):S a++S b=S (a++b):=by
 rw[<-ky (S a++S b),PySem.W.KT.app_list,cu,cu]
def Bi:V->Option Int->Option Int->Hp->VK->Prop:=fun x lo hi H Q=>∃l,x=.str (S l)/\l.length<=sizeLine/\Q (.str (S (xM l lo hi))) H
theorem xN:Ie X Bi:=by
 intro pr s σ H x v vl vu lo hi sl Q I rx hs pl pu h;obtain⟨l,rfl,hz,q⟩:=h;obtain⟨t,rfl⟩:=rx;have hz':(S l).length<=sizeLine:=by rw[kz];exact hz
 have e:∀t' k,EP X pr σ Q (.str (Txt.slice (S l) lo hi) t') {s with toks:=k}:=fun t' k=>by
  refine⟨.str (S (xM l lo hi)),H,I.tok _,⟨t',?_⟩,q⟩;have e1:=pE (S l) lo hi;rw[cu]at e1;rw[<-e1,ky]
 refine⟨"str",_,PySem.F.slot_str_getitem.lookup,Qt _ _ _,?_⟩;have key:∀(Ik Ky:Option (Int×Tok)),partValue Ik=vl->partValue Ky=vu->Ik.map (·.1)=lo->Ky.map (·.1)=hi->
   wpAny (model X.prog X.w) X.A (getItem (.str (S l) t) (.ref sl)) (EP X pr σ Q) X.xe s:=by
  rintro Ik Ky rfl rfl rfl rfl;exact wpAny_getItem_str_slice (l:=Ik) (u:=Ky) (st:=none) hs rfl (post_val_or_str ⟨M4 (Txt.slice_le (S l) _ _) hz',fun t' k=>e t' k⟩)
 cases pl with
 |none=>
  cases pu with
  |none=>exact key none none rfl rfl rfl rfl
  |int j uj=>exact key none (some (j,uj)) rfl rfl rfl rfl
 |int i ui=>
  cases pu with
  |none=>exact key (some (i,ui)) none rfl rfl rfl rfl
  |int j uj=>exact key (some (i,ui)) (some (j,uj)) rfl rfl rfl rfl
end
def Def(K:W.Frag)(mg:Str->Option Value)(x:Str)(st:Stmt):Prop:=∃f fd,Fun K x x st f fd/\mg x=some (.ref f)
def Ct(P:Program)(w:World)(K:W.Frag)(mg:Str->Option Value)(base:Heap)(x:Str)(k:Nat)(sp:Sp):Prop:=
 ∃f fd ps,FnOk P w K mg base F2 k f fd ps sp/\mg x=some (.ref f)/\PySem.W.keepIn K (.ref f)=true/\Binds K fd ps []
theorem Ct.mono{P:Program}{w:World}{K:W.Frag}{mg:Str->Option Value}{base:Heap}{x:Str}{j k:Nat}{sp:Sp}(h:Ct P w K mg base x j sp)(l:j<=k):Ct P w K mg base x k sp:=by
 obtain⟨f,fd,ps,G,m,kp,b⟩:=h;exact⟨f,fd,ps,G.mono l,m,kp,b⟩
section
variable{X:Cx}{e:Expr}{es:List Expr}{t:TA}{x:Str}{p pos:Pos}{k:Nat}{sp:Sp}
theorem zN(C:Ct X.prog X.w X.K X.mg X.base x k sp)(hr:Room k X.A)(hg:Gl X x)(ha:PA X (e::es) t)(C4:(x==("__debug__" : Str))=false:=by decide)
  (he:starEach (e::es) X.env=(false,eval e X.env)::starEach es X.env:=by rfl) (Dl:(backTo pos (starEach es X.env)).any (·.1)=false:=by rfl):
  PE X (.Call (.Name x p) (e::es) [] pos) (tCall sp [] E0 t):=by
 obtain⟨f,fd,ps,G,m,kp,b⟩:=C;exact uH G hr hg m kp b .nil zL ha C4 he Dl
end
theorem bt_len:bootBuiltins "len" = some (.builtin "len"):=by decide +kernel
theorem dw:bootBuiltins "isinstance" = some (.builtin "isinstance"):=by decide +kernel
theorem pF:bootBuiltins "list" = some (.type "list"):=by decide +kernel
theorem xO:bootBuiltins "int" = some (.type "int"):=by decide +kernel
theorem jt:bootBuiltins "tuple" = some (.type "tuple"):=by decide +kernel
theorem lS:bootBuiltins "bool" = some (.type "bool"):=by decide +kernel
theorem line_eq:sizeLine=16777216:=Nr
theorem flat_strs(a:List (List Nat)):(a.map fun l=>V.str (S l)).all rK=true:=by
 rw[M3];intro v hv;obtain⟨l,_,rfl⟩:=NK.mp hv;rfl
section
variable{X:Cx}{e:Expr}{st:Stmt}
end
def clOf(scope:Scope)(env:Env):List (Str×Addr):=scope.names.foldl (fun cs y=>if y.2==NameKind.free then(y.1,(env.cells.lookup y.1).getD 0)::cs else cs) []
def fC(scope:Scope)(env:Env):Bool:=scope.names.all fun y=>y.2 != NameKind.free||env.kindOf y.1==some .cell||env.kindOf y.1==some .free
theorem eB(env:Env):∀(l:List (Str×NameKind)) (cs:List (Str×Addr)),(∀y∈l,y.2=.free->∃c,env.cells.lookup y.1=some c)->
  (forIn l cs fun(y:Str×NameKind) (r:List (Str×Addr))=>(do
   if y.2==NameKind.free then
    let a <-cellOf env y.1
    pure (ForInStep.yield ((y.1,a)::r))
   else pure (ForInStep.yield r):Sem (ForInStep (List (Str×Addr)))))=pure (l.foldl (fun cs y=>if y.2==NameKind.free then(y.1,(env.cells.lookup y.1).getD 0)::cs else cs) cs)
 |[],cs,_=>by simp
 |y::l,cs,h=>by
  rw[List.forIn_cons,Oj];by_cases k:y.2=.free
  ·obtain⟨c,e⟩:=h y My k;have e2:cellOf env y.1=pure c:=by unfold cellOf;rw[e]
   simp only[k,Nl,OH,e2,e,Option.getD_some,pure_bind];exact eB env l _ fun z hz=>h z (MJ _ hz)
  ·have kb:(y.2==NameKind.free)=false:=by simpa using k
   simp only[kb,NR,OP,pure_bind];exact eB env l _ fun z hz=>h z (MJ _ hz)
theorem eM(env:Env)(x:Str)(c:Addr):∀(l:List (Str×NameKind)) (cs:List (Str×Addr)),(∀y∈l,y.2=.free->∃c,env.cells.lookup y.1=some c)->(cs.lookup x=some c->env.cells.lookup x=some c)->
  (l.foldl (fun cs y=>if y.2==NameKind.free then(y.1,(env.cells.lookup y.1).getD 0)::cs else cs) cs).lookup x=some c->env.cells.lookup x=some c
 |[],_,_,h,e=>h e
 |y::l,cs,hf,h,e=>by
  rw[Oj]at e;refine eM env x c l _ (fun z hz=>hf z (MJ _ hz)) (fun q=>?_) e;split at q
  ·rename_i k;have k:y.2=.free:=by simpa using k
   obtain⟨d,ed⟩:=hf y My k;rw[Nz]at q;cases hx:x==y.1 with
   |true=>
    rw[hx]at q;have exy:x=y.1:=by simpa using hx
    rw[ed,Option.getD_some]at q;rw[exy,ed];exact q
   |false=>
    rw[hx]at q;exact h q
  ·exact h q
theorem hE(env:Env)(x:Str):∀(l:List (Str×NameKind)) (cs:List (Str×Addr)),((∃d,cs.lookup x=some d)\/(x,NameKind.free)∈l)->
  ∃d,(l.foldl (fun cs y=>if y.2==NameKind.free then(y.1,(env.cells.lookup y.1).getD 0)::cs else cs) cs).lookup x=some d
 |[],_,h=>by
  rcases h with h|h
  ·exact h
  ·cases h
 |y::l,cs,h=>by
  rw[Oj];refine hE env x l _ ?_;rcases h with⟨d,h⟩|h
  ·refine .inl ?_;split
   ·rw[Nz];cases hx:x==y.1 with
    |true=>exact⟨_,rfl⟩
    |false=>exact⟨d,h⟩
   ·exact⟨d,h⟩
  ·rcases MN.mp h with h|h
   ·refine .inl ?_;rw[<-h];refine⟨(env.cells.lookup x).getD 0,?_⟩;show List.lookup x ((x,_)::cs)=_;rw[Nz,Nl]
   ·exact .inr h
noncomputable def bG(X:Cx)(scope:Scope)(N:List Str)(C:Addr)(s:Shared)(H:Hp)(fp:List Addr)(pn:List (Addr×Obj)):Cx:=
 {X with N:=N,s₀:=s,H₀:=H,env:=compEnvC scope (clOf scope X.env) C X.env,outer:=X.stack,ex:=fp,fn:=fun _=>false,pn:=pn,xe:=fun _ _=>False}
def iX(ix:List (Option Nat))(σ:L2.St):L2.St:=ix.map fun i=>i.bind fun i=>(σ[i]?).bind id
noncomputable def uR(wi:TI)(ix:List (Option Nat))(g:TG)(tc:TT)(te:TE):TE:=fun σ H Q=>wi σ H fun J H1=>∀D,H1 D=none->∃W:Nat->Nat->L2.St->Hp->Prop,(∃m,W 0 m (iX ix σ) (upd H1 D (.lst [])))/\
 ∀i m σ1 H2,W i m σ1 H2->(J.stop i H2/\Q (.ref D) H2)\/(J.go i H2/\∀x H3,J.yld i H2 x H3->g x σ1 H3 fun σ2 H4=>tc σ2 H4 fun b H5=>if b=true then te σ2 H5 fun v H6=>
  ∃ys,H6 D=some (.lst ys)/\ys.length<sizeLine/\∃m',m'<m/\W (i+1) m' σ2 (upd H6 D (.lst (ys++[v]))) else ∃m',m'<m/\W (i+1) m' σ2 H5)
abbrev GS:Value->Shared->Prop:=fun _ _=>False
theorem Ji{α:Type}{M:Model}{A:Around}{t:Sem α}{Q Q':α->Shared->Prop}{E:Value->Shared->Prop}{s:Shared}(h:wpAny M A t Q GS s)(k:∀a s,Q a s->Q' a s):wpAny M A t Q' E s:=Nv h k fun _ _ z=>z.elim
theorem pG{prog:Program}{w:World}{A:Around}{R:Result->Shared->Prop}{s:Shared}{elt target iter:Expr}{ifs:List Expr}{scope:Scope}{pos:Pos}{it acc:Value}{env:Env}(I:Nat->Shared->Prop)
  (turn:∀n s,I n s->wpAny (model prog w) A (pyNext it) (fun r s₁=>match r with
   |none=>R (.ok .next) s₁
   |some v=>wpAny (model prog w) A (letOwnedTupleGo target it v) (fun _ s₂=>wpAny (model prog w) A (assign target env v) (fun _ s₃=>
     wpAny (model prog w) A (forIn ifs true fun c r=>if r=true then do let ok <-isTrue c env (eval c env);pure (ForInStep.yield ok) else pure (ForInStep.yield r)) (fun ok s₄=>
      if ok=true then wpAny (model prog w) A (eval elt env) (fun x s₅=>
       wpAny (model prog w) A (call (.builtin "list.append") [acc,x]) (fun _ s₆=>∃m,m<n/\I m s₆) GS s₅) GS s₄
      else ∃m,m<n/\I m s₄) GS s₃) GS s₂) GS s₁) GS s)
  (n:Nat) (h:I n s):codeAny (model prog w) A (.compLoop (.ListComp elt [⟨target,iter,ifs,0⟩] scope pos) 0 it acc env) R s:=by
 refine codeAny_loop rfl I (fun n s hI=>?_) n h;show wpAny _ A ((compTurn (.ListComp elt [⟨target,iter,ifs,0⟩] scope pos) 0 it acc env).onRaise (fun x=>do noteFrame x env;theTreesLotGoes x)) _ _ s;refine wpAny_noted ?_;rw[compTurn_list];refine Mx (QR (Mx (Ji (turn n s hI) fun r s₁ h₁=>?_)));cases r with
 |none=>exact MD h₁
 |some v=>
  refine Mx (Ji h₁ fun _ s₂ h₂=>Mx (Ji h₂ fun _ s₃ h₃=>Mx (Ji h₃ fun ok s₄ h₄=>?_)));cases ok with
  |false=>exact MD ⟨rfl,h₄⟩
  |true=>exact Mx (Mx (Ji h₄ fun x s₅ h₅=>Mx (Ji h₅ fun _ s₆ h₆=>MD (MD ⟨rfl,h₆⟩))))
def Jj(X:Cx)(ifs:List Expr)(t:TT):Prop:=
 ∀(pr:List (Addr×Obj)) (s:Shared) (σ:L2.St) (H:Hp) (Q:Bool->Hp->Prop),Inv X pr σ H s->t σ H Q->
  wpAny (model X.prog X.w) X.A (forIn ifs true fun c r=>if r=true then do let ok <-isTrue c X.env (eval c X.env);pure (ForInStep.yield ok) else pure (ForInStep.yield r)) (TP X pr σ Q) X.xe s
def Bj:TT:=fun _ H Q=>Q true H
theorem uS{X:Cx}:Jj X [] Bj:=fun _ _ _ H _ I h=>wpAny_tests_nil ⟨H,I,h⟩
theorem uT{X:Cx}{c:Expr}{t:TT}(h:PT X c t):Jj X [c] t:=fun pr s σ H Q I k=>wpAny_tests_one (h pr s σ H Q I k)
def tL(X:Cx)(scope:Scope)(N:List Str)(ix:List (Option Nat)):Bool:=
 N.length==ix.length&&(N.zip ix).all fun y=>match y.2 with
  |none=>true
  |some j=>X.N[j]?==some y.1&&scope.names.lookup y.1==some .free
theorem kA{scope:Scope}{env:Env}{x:Str}(h:scope.names.lookup x=some .free):(relabel scope env).names.lookup x=some .cell\/(relabel scope env).names.lookup x=some .free:=by
 unfold relabel;dsimp only;generalize scope.names=l at h;induction l with
 |nil=>cases h
 |cons y l ih=>
  obtain⟨n,k⟩:=y;rw[Nz]at h;rw[MS];cases hx:x==n with
  |true=>
   rw[hx]at h;have hk:k=.free:=Na h;subst hk;dsimp only;split
   ·exact .inl (by rw[Nz,hx])
   ·exact .inr (by rw[Nz,hx])
  |false=>
   rw[hx]at h;dsimp only;split
   ·rw[Nz,hx];exact ih h
   ·rw[Nz,hx];exact ih h
theorem kB{scope:Scope}{env:Env}{x:Str}(hc:∀y∈scope.names,y.2≠.cell)(h:(relabel scope env).names.lookup x=some .cell\/(relabel scope env).names.lookup x=some .free):(x,NameKind.free)∈scope.names:=by
 unfold relabel at h;dsimp only at h;generalize scope.names=l at h hc;induction l with
 |nil=>rcases h with h|h <;> cases h
 |cons y l ih=>
  obtain⟨n,k⟩:=y;rw[MS]at h;dsimp only at h;have nk:k≠.cell:=hc (n,k) My;have LV:=ih (hc:=fun z hz=>hc z (MJ _ hz));by_cases cnd:(k==NameKind.free&&env.scope.kind==.function&&env.kindOf n==some .cell)=true
  ·rw[MM cnd,Nz]at h;have kf:k=.free:=by
    have:(k==NameKind.free)=true:=by
     simp only[MG]at cnd;exact cnd.1.1
    simpa using this
   cases hx:x==n with
   |true=>
    have:x=n:=by simpa using hx
    rw[this,kf];exact My
   |false=>
    rw[hx]at h;exact MJ _ (LV h)
  ·rw[MO cnd,Nz]at h;cases hx:x==n with
   |true=>
    rw[hx]at h;have:x=n:=by simpa using hx
    rcases h with h|h
    ·exact absurd (Na h) nk
    ·rw[this,<-Na h];exact My
   |false=>
    rw[hx]at h;exact MJ _ (LV h)
section
variable{X:Cx}{pr:List (Addr×Obj)}{σ:L2.St}{H:Hp}{s:Shared}{scope:Scope}{N:List Str}{ix:List (Option Nat)}{fp:List Addr}
theorem ju(ok:X.Ok)(hf:fC scope X.env=true):∀y∈scope.names,y.2=.free->∃c,X.env.cells.lookup y.1=some c:=fun y hy k=>by
 have:=M3.mp hf y hy;rw[k]at this;simp only[Pu,Bool.false_or,Pc,Nb]at this;exact ok.has y.1 this
theorem hG(ok:X.Ok)(hf:fC scope X.env=true){x:Str}{c:Addr}(h:(clOf scope X.env).lookup x=some c):X.env.cells.lookup x=some c:=
 eM X.env x c scope.names [] (ju ok hf) (fun z=>nomatch z) h
theorem pH(ok:X.Ok)(hf:fC scope X.env=true){x:Str}(h:(x,NameKind.free)∈scope.names):∃c,(clOf scope X.env).lookup x=some c/\X.env.cells.lookup x=some c:=by
 obtain⟨c,e⟩:=hE X.env x scope.names [] (.inr h);exact⟨c,e,hG ok hf e⟩
theorem _root_.L2.Inv.block(I:Inv X pr σ H s)(hf:fC scope X.env=true)(hk:scope.kind=.function)(CM:∀y∈scope.names,y.2≠.cell)(EW:tL X scope N ix=true)(fo:∀b∈fp,rg X pr H b)(fin:∀b∈fp,∃o,s.heap.get? b=some o)
  {h1:Heap}{t1:Nat}{D C:Addr}(hD:D=s.heap.objs.size) (hC:C=s.heap.objs.size+1) (old:∀b o,s.heap.get? b=some o->h1.get? b=some o) {n:Nat}(acc:h1.get? D=some {cls:=.type "list",data:=.seq #[] n})
  {m:Str->Option Value}(ns:h1.Ns C m):Inv (bG X scope N C s H fp (X.pn++pr)) [] (iX ix σ) (upd H D (.lst [])) {s with heap:=h1,toks:=t1}:=by
 have E2:s.heap.objs.size<=C:=by rw[hC];exact Oy _
 have freshD:s.heap.objs.size<=D:=by rw[hD];exact MH _
 have nD:H D=none:=I.hok.fresh freshD;have DC:D≠C:=by rw[hD,hC];exact MT (Ox _)
 have Il:∀b,H b=none->b≠D->upd H D (.lst []) b=none:=fun b n z=>by rw[aJ z];exact n
 have Jk:∀b o,s.heap.get? b=some o->b≠D:=fun b o e=>MT (ML (MK e) freshD)
 have GU:∀b o,s.heap.get? b=some o->b≠C:=fun b o e=>MT (ML (MK e) E2)
 have cellAt:∀x c,(clOf scope X.env).lookup x=some c->∃v o,s.heap.get? c=some o/\o.data=.cell v:=fun x c e=>by
  obtain⟨v,o,ho,hd⟩:=I.cell x c (hG I.ok hf e);exact⟨v,o,ho,hd⟩
 have okY:(bG X scope N C s H fp (X.pn++pr)).Ok:=by
  refine⟨I.ok.mod,hk,I.ok.glob,I.ok.blt,E2,fun x y c e1 e2=>?_,fun x hx=>?_,fun x c z _=>?_,I.ok.hd,I.ok.frames,.inl rfl,fun b hb=>?_,I.bs,?_,fun b o e hb=>?_,fun b hb hs=>?_,I.stack,I.stkFree⟩
  ·exact I.ok.inj x y c (hG I.ok hf e1) (hG I.ok hf e2)
  ·obtain⟨c,e,_⟩:=pH I.ok hf (kB CM hx);exact⟨c,e⟩
  ·exact absurd (show false=true from z) MP
  ·obtain⟨f0,f1,f2,f3,f4,f5⟩:=fo b hb;refine⟨?_,fun x c e=>f4 x c (hG I.ok hf e)⟩;intro z;have z:b=C:=z;obtain⟨o,ho⟩:=fin b hb;exact GU b o ho z
  ·exact M4 I.ok.bsz I.sz
  ·obtain⟨f0,f1,f2,f3,f4,f5⟩:=fo b hb;rcases f3 with q|q
   ·exact I.ok.noex b o e q
   ·exact absurd (ML (MK e) (M4 I.ok.bsz q)) (N7 _)
  ·obtain⟨f0,f1,f2,_⟩:=fo b hb;exact(MN.mp (I.stkSub b hs)).elim f1 f2
 refine⟨okY,rfl,I.bare,Un.laid old freshD nD,⟨m,ns,fun i x v e1 e2 e3=>?_⟩,fun x c e=>?_,?_,fun x c e=>?_,fun p hp=>?_,I.hok.laid old freshD ⟨Nq _,[],n,.nil,acc⟩,?_⟩
 ·
  have e2:(ix.map fun i=>i.bind fun i=>(σ[i]?).bind id)[i]?=some (some v):=e2;have e1:N[i]?=some x:=e1;unfold tL at EW;rw[MG]at EW;rw[Nh]at e2;cases q:ix[i]? with
  |none=>rw[q]at e2;cases e2
  |some o=>
   rw[q]at e2;have e2:(o.bind fun i=>(σ[i]?).bind id)=some v:=Na e2;cases o with
   |none=>cases e2
   |some j=>
    have e2:(σ[j]?).bind id=some v:=e2;have hσ:σ[j]?=some (some v):=by
     cases w':σ[j]? with
     |none=>rw[w']at e2;cases e2
     |some y=>rw[w']at e2;exact NQ some e2
    have hz:(N.zip ix)[i]?=some (x,some j):=by
     rw[List.getElem?_zip_eq_some];exact⟨e1,q⟩
    have hy:=M3.mp EW.2 _ (NI hz);simp only[MG,Nb]at hy;have LX:(x,NameKind.free)∈scope.names:=N0 hy.2;obtain⟨c,c1,c2⟩:=pH I.ok hf LX;have LY:X.env.kindOf x=some .cell\/X.env.kindOf x=some .free:=by
     have:=M3.mp hf _ LX;simpa using this
    obtain⟨mo,JD,LS⟩:=I.loc;obtain⟨u,r,l⟩:=LS j x v hy.1 hσ (.inr LY);refine⟨u,r,.inr ⟨kA hy.2,c,c1,?_⟩⟩;rcases l with⟨k1,_⟩|⟨_,c',e',Fs⟩
    ·rcases LY with k2|k2 <;> (rw[k1]at k2;cases k2)
    ·rw[c2]at e';cases e';obtain⟨o,ho,hd⟩:=Fs;exact⟨o,old c o ho,hd⟩
 ·obtain⟨v,o,ho,hd⟩:=cellAt x c e;exact⟨v,o,old c o ho,hd⟩
 ·exact Il C (I.hok.fresh E2) (N2 DC)
 ·obtain⟨v,o,ho,hd⟩:=cellAt x c e;exact Il c (I.freeC x c (hG I.ok hf e)) (Jk c o ho)
 ·have hp:p∈X.pn++pr:=by
   have:p∈(X.pn++pr)++[]:=hp
   rwa [M5]at this
  obtain⟨e,nn,ne,nf,d⟩:=I.pin p hp;refine⟨old _ _ e,Il _ nn (Jk _ _ e),GU _ _ e,fun z=>?_,d⟩;exact(MN.mp (I.stkSub p.1 z)).elim ne nf
 ·unfold tL at EW;rw[MG]at EW;have:N.length=ix.length:=by simpa using EW.1
  show(ix.map _).length=N.length;rw[MA,this]
theorem _root_.L2.Inv.unblock{C:Addr}{σ1:L2.St}{H1:Hp}{s1:Shared}{h2:Heap}(I:Inv X pr σ H s)(fo:∀b∈fp,rg X pr H b)(hC:s.heap.objs.size<=C)(J:Inv (bG X scope N C s H fp (X.pn++pr)) [] σ1 H1 s1)(hs:Heap.SameBut C s1.heap h2):
  Inv X pr σ H1 {s1 with heap:=h2}:=by
 have GU:∀b o,s.heap.get? b=some o->b≠C:=fun b o e=>MT (ML (MK e) hC)
 have bb:Un (CU X.stack) fp H H1 s.heap s1.heap:=J.base;have jf:H1 C=none:=J.free;refine I.call' (s':={s1 with heap:=h2}) (ch:=fp) J.os ⟨fun b o e n hb hx=>?_,fun b o e n hb hx=>?_,bb.free,fun b o e hx=>?_,bb.tups,bb.frzs,bb.tbls⟩ (fun b ob e=>?_) J.bare fun b hb=>?_
 ·exact(hs.2 b (GU b o e)).trans (bb.keep b o e n hb hx)
 ·obtain⟨sl,q⟩:=bb.slot b o e n hb hx;exact⟨sl,(hs.2 b (GU b o e)).trans q⟩
 ·obtain⟨o',q⟩:=bb.there b o e hx;exact⟨o',(hs.2 b (GU b o e)).trans q⟩
 ·refine(J.hok b ob e).stay (fun c w' hc q=>(hs.2 c ?_).trans q) (fun _ q=>q) fun _ _ q=>q
  rintro rfl;rcases hc with rfl|hc
  ·rw[jf]at e;cases e
  ·rw[jf]at hc;cases hc
 ·obtain⟨f0,f1,f2,f3,f4,f5⟩:=fo b hb;exact⟨f3,f1,f4,f5⟩
end
section
variable{X:Cx}{scope:Scope}{N:List Str}{ix:List (Option Nat)}{tg iter elt:Expr}{ifs:List Expr}{pos:Pos}{wi:TI}{g:TG}{tc:TT}{te:TE}
theorem iY{pr:List (Addr×Obj)}{σ:L2.St}{H2:Hp}{s2:Shared}{J:It}{fp:List Addr}{it:Addr}{tn:Nat->Heap->Prop}{Q:VK}{RR:Value->Addr->Result->Shared->Prop}{E:Value->Shared->Prop}
  (hc:X.calm=true) (I2:Inv X pr σ H2 s2) (T:Turn X.prog X.w X.K tg J fp it tn) (B0:tn 0 s2.heap) (f2:∀b∈fp,rg X pr H2 b)
  (hg:∀C s H fp pn,PG (bG X scope N C s H fp pn) tg g) (ht:∀C s H fp pn,Jj (bG X scope N C s H fp pn) ifs tc) (he:∀C s H fp pn,PE (bG X scope N C s H fp pn) elt te)
  (hf:fC scope X.env=true) (hk:scope.kind=.function) (CM:∀y∈scope.names,y.2≠.cell) (EW:tL X scope N ix=true)
  (q:∀D,H2 D=none->∃W:Nat->Nat->L2.St->Hp->Prop,(∃m,W 0 m (iX ix σ) (upd H2 D (.lst [])))/\
   ∀i m σ1 H3,W i m σ1 H3->(J.stop i H3/\Q (.ref D) H3)\/(J.go i H3/\∀x H4,J.yld i H3 x H4->g x σ1 H4 fun σ2 H5=>tc σ2 H5 fun b H6=>if b=true then te σ2 H6 fun v H7=>
    ∃ys,H7 D=some (.lst ys)/\ys.length<sizeLine/\∃m',m'<m/\W (i+1) m' σ2 (upd H7 D (.lst (ys++[v]))) else ∃m',m'<m/\W (i+1) m' σ2 H6))
  (hRR:∀(D C:Addr) (σ1:L2.St) (H1:Hp) (s1:Shared),s2.heap.objs.size<=C->Inv (bG X scope N C s2 H2 fp (X.pn++pr)) [] σ1 H1 s1->Q (.ref D) H1->RR (.ref D) C (.ok .next) s1):
  wpAny (model X.prog X.w) X.A (newList []) (fun acc s₃=>wpAny (model X.prog X.w) X.A (newFunctionEnv scope X.env.globals (clOf scope X.env) [] X.env.qual none .none (some X.env)) (fun JJ s₄=>
   codeAny (model X.prog X.w) X.A (.compStart (.ListComp elt [⟨tg,iter,ifs,0⟩] scope pos) 0 (.ref it) acc {JJ with scope:=relabel scope X.env}) (RR acc JJ.locals) s₄) E s₃) E s2:=by
 refine NC (wpAny_newFunctionEnv CM (by intro y hy;simp at hy) (fun h₁ hns₁ hsb₁=>?_) hk);dsimp only at hns₁ hsb₁ ⊢;generalize hH2:s2.heap.push {cls:=.type "list",dict:=none,data:=.seq ([]:List Value).toArray}=HH at hns₁ hsb₁ ⊢;have hC:HH.objs.size=s2.heap.objs.size+1:=by rw[<-hH2,Qw]
 have hDC:s2.heap.objs.size≠HH.objs.size:=by rw[hC];exact MT (Ox _)
 have JK:s2.heap.objs.size<=HH.objs.size:=by rw[hC];exact Oy _
 have GU:∀b o,s2.heap.get? b=some o->b≠HH.objs.size:=fun b o e=>MT (ML (MK e) JK)
 have old:∀b o,s2.heap.get? b=some o->h₁.get? b=some o:=fun b o e=>hsb₁.extBut b o (GU b o e) (MB _ (hH2▸MB _ e))
 have GV:h₁.get? s2.heap.objs.size=some {cls:=.type "list",data:=.seq #[] 0}:=hsb₁.extBut _ _ hDC (MB _ (hH2▸MR _ rfl));obtain⟨W,⟨m0,w0⟩,turn⟩:=q s2.heap.objs.size (I2.hok.fresh (MH _));have fin:∀b∈fp,∃o,s2.heap.get? b=some o:=fun b hb=>let⟨o,e,_⟩:=T.obj 0 _ B0 b hb;⟨o,e⟩
 have EZ:∀{H':Hp},(∀b∈fp,H' b=none)->∀b∈fp,rg (bG X scope N HH.objs.size s2 H2 fp (X.pn++pr)) [] H' b:=fun{H'} hn b hb=>by
  obtain⟨f0,f1,ff,f3,f4,f5⟩:=f2 b hb;refine⟨hn b hb,?_,fun z=>?_,.inl hb,fun x c e=>f4 x c (hG I2.ok hf e),fun p hp=>?_⟩
  ·intro z;have z:b=HH.objs.size:=z;obtain⟨o,ho⟩:=fin b hb;exact GU b o ho z
  ·exact(MN.mp (I2.stkSub b z)).elim f1 ff
  ·have hp:p∈X.pn++pr:=by
    have:p∈(X.pn++pr)++[]:=hp
    rwa [M5]at this
   exact f5 p hp
 have loop:∀s₃:Shared,s₃={s2 with heap:=h₁,toks:=s2.toks+([]:List (Str×Value)).length}->
   codeAny (model X.prog X.w) X.A (.compLoop (.ListComp elt [⟨tg,iter,ifs,0⟩] scope pos) 0 (.ref it) (.ref s2.heap.objs.size) (compEnvC scope (clOf scope X.env) HH.objs.size X.env)) (RR (.ref s2.heap.objs.size) HH.objs.size) s₃:=by
  rintro s₃ rfl;refine pG (fun n s'=>∃i σ' H',Inv (bG X scope N HH.objs.size s2 H2 fp (X.pn++pr)) [] σ' H' s'/\tn i s'.heap/\(∀b∈fp,H' b=none)/\W i n σ' H') ?_ m0
   ⟨0,_,_,I2.block hf hk CM EW f2 fin rfl hC old GV hns₁,T.keep 0 _ _ B0 fun b _ o e=>old b o e,fun b hb=>?_,w0⟩
  ·rintro n s3 ⟨i,σ3,H3,I3,CI,JA,w3⟩;rcases turn i n σ3 H3 w3 with⟨stop,qn⟩|⟨go,step⟩
   ·refine Ci (T.done (bG X scope N HH.objs.size s2 H2 fp (X.pn++pr)) rfl rfl rfl hc i [] s3 σ3 H3 GS I3 (EZ JA) CI stop) fun r s4 Cp=>?_
    obtain⟨hr,I4⟩:=Cp;subst hr;exact hRR _ _ σ3 H3 s4 JK I4 qn
   ·refine Ci (T.item (bG X scope N HH.objs.size s2 H2 fp (X.pn++pr)) rfl rfl rfl hc i [] s3 σ3 H3 GS I3 (EZ JA) CI go) fun r s4 Cp=>?_
    obtain⟨u,hr,h4⟩:=Cp;subst hr;refine Ci h4 fun _ s5 Cp=>?_
    obtain⟨x,H5,I5,r5,y5,D1,K1⟩:=Cp;have K2:=I5.pinned (EZ K1) (T.obj _ _ D1);refine Ci (hg _ _ _ _ _ _ s5 σ3 H5 x u _ K2 r5 (step x H5 y5)) fun _ s6 Cp=>?_
    obtain⟨σ6,H6,I6,q6⟩:=Cp;refine Ci (ht _ _ _ _ _ _ s6 σ6 H6 _ I6 q6) fun ok s7 Cp=>?_
    obtain⟨H7,I7,q7⟩:=Cp;have again:∀{H8:Hp}{s8:Shared},Inv (bG X scope N HH.objs.size s2 H2 fp (X.pn++pr)) ([]++kg fp s5.heap) σ6 H8 s8->(∃m',m'<n/\W (i+1) m' σ6 H8)->
      ∃m,m<n/\∃i σ' H',Inv (bG X scope N HH.objs.size s2 H2 fp (X.pn++pr)) [] σ' H' s8/\tn i s8.heap/\(∀b∈fp,H' b=none)/\W i m σ' H':=fun{H8 s8} I8 ⟨m',hm,w8⟩=>by
     refine⟨m',hm,i+1,σ6,H8,I8.unpinned,T.keep _ _ _ D1 fun b hb o e=>(I8.pin (b,o) (MI _ (MI _ (eh hb e)))).1,fun b hb=>?_,w8⟩;obtain⟨o,e,d⟩:=T.obj _ _ D1 b hb;exact(I8.pin (b,o) (MI _ (MI _ (eh hb e)))).2.1
    cases ok with
    |false=>exact again I7 q7
    |true=>
     show wpAny _ _ _ _ _ _;refine Ci (he _ _ _ _ _ _ s7 σ6 H7 _ I7 q7) fun x8 s8 Cp=>?_
     obtain⟨v8,H8,I8,r8,ys,LZ,DO,q8⟩:=Cp;refine Ci (ku _ s8 σ6 H8 (.ref s2.heap.objs.size) [v8] (.ref s2.heap.objs.size) [x8] (fun _ H9=>∃m',m'<n/\W (i+1) m' σ6 H9) I8 rfl (.cons r8 .nil) ⟨_,ys,v8,rfl,rfl,LZ,DO,q8⟩) fun _ s9 Cp=>?_
     obtain⟨_,H9,I9,_,q9⟩:=Cp;exact again I9 q9
  ·rw[aJ (fun z=>by
    obtain⟨o,ho⟩:=fin b hb;exact absurd z (MT (MK ho)))]
   exact(f2 b hb).1
 exact codeAny_compStart_list (loop _ rfl) (T.self _ 0 _ _ _ (T.keep 0 _ _ B0 fun b _ o e=>old b o e) (loop _ rfl))
theorem uU(ix:List (Option Nat))(N:List Str)(hc:X.calm=true)(hi:PI X tg iter wi)(hg:∀C s H fp pn,PG (bG X scope N C s H fp pn) tg g)(ht:∀C s H fp pn,Jj (bG X scope N C s H fp pn) ifs tc)(he:∀C s H fp pn,PE (bG X scope N C s H fp pn) elt te)
  (hf:fC scope X.env=true:=by rfl) (hk:scope.kind=.function:=by rfl) (CM:∀y∈scope.names,y.2≠.cell:=by decide +kernel) (Ds:∀y∈scope.names,y.2=.local->scope.names.lookup y.1=some .local:=by decide +kernel) (EW:tL X scope N ix=true:=by rfl)
  (hs:∀x,foldedSetIterable iter X.env x=pure x:=by intro _;rfl):PE X (.ListComp elt [⟨tg,iter,ifs,0⟩] scope pos) (uR wi ix g tc te):=by
 intro pr s σ H Q I h;rw[eval_ListComp];have F3:closureFor scope X.env=pure (clOf scope X.env):=by
  unfold closureFor clOf;have:=eB X.env scope.names [] (ju I.ok hf);simpa using this
 refine Pw (use:=none) rfl hs F3 hk Ds (Ci (hi pr s σ H _ I h) fun v s1 h1=>Ci h1 fun Ku s2 h2=>?_);obtain⟨it,fp,tn,J,H2,e,I2,T,B0,f2,q⟩:=h2;subst e;refine iY (RR:=fun acc C=>compPost (model X.prog X.w) X.A X.xe none (EP X pr σ Q) acc C) (Q:=Q) (iter:=iter) hc I2 T B0 f2 hg ht he hf hk CM EW q fun D C σ1 H1 s1 hC J1 q1=>?_
 obtain⟨m,ns,_⟩:=J1.loc;exact⟨m,ns,fun h' JL=>⟨.ref D,H1,I2.unblock f2 hC J1 JL,rfl,q1⟩⟩
end
section
variable{X:Cx}{scope:Scope}{N:List Str}{ix:List (Option Nat)}{tg iter elt:Expr}{ifs:List Expr}{pos:Pos}{wi:TI}{g:TG}{tc:TT}{te:TE}
theorem uV{i:Nat}{y:Str}{py F4:Pos}(ix:List (Option Nat))(N:List Str)(hN:X.N.Nodup)(Lb:X.N[i]?=some y)(hy:Loc X.env.scope y)(hc:X.calm=true)(hi:PI X tg iter wi)(hg:∀C s H fp pn,PG (bG X scope N C s H fp pn) tg g)(ht:∀C s H fp pn,Jj (bG X scope N C s H fp pn) ifs tc)
  (he:∀C s H fp pn,PE (bG X scope N C s H fp pn) elt te) (Lc:swapsWith (.ListComp elt [⟨tg,iter,ifs,0⟩] scope pos) (some (.Name y py)) F4.line X.env=pure true:=by rfl)
  (hf:fC scope X.env=true:=by rfl) (hk:scope.kind=.function:=by rfl) (CM:∀y∈scope.names,y.2≠.cell:=by decide +kernel) (Ds:∀y∈scope.names,y.2=.local->scope.names.lookup y.1=some .local:=by decide +kernel) (EW:tL X scope N ix=true:=by rfl)
  (hs:∀x,foldedSetIterable iter X.env x=pure x:=by intro _;rfl) (HY:X.fn y=true\/X.env.scope.names.lookup y=some .local:=by first|exact .inl rfl|exact .inr rfl):
  PS X (.Assign [.Name y py] (.ListComp elt [⟨tg,iter,ifs,0⟩] scope pos) F4) (fun D σ H=>uR wi ix g tc te σ H fun v H'=>D.nx (σ.set i (some v)) H'):=by
 intro pr s σ H Dd I h;rw[exec_Assign_Name_used _ _ _ _ Lc];have F3:closureFor scope X.env=pure (clOf scope X.env):=by
  unfold closureFor clOf;have:=eB X.env scope.names [] (ju I.ok hf);simpa using this
 refine Mx (QR (Mx ?_));show wpAny _ X.A (do let _ <-comprehension (.ListComp elt [⟨tg,iter,ifs,0⟩] scope pos) scope X.env _ (newList []) false (eval iter X.env) (some (assign (.Name y py) X.env))) _ _ s;refine Mx (Nv (Pw (use:=some (assign (.Name y py) X.env)) (Q:=fun _ s'=>SP X pr Dd .next s') rfl hs F3 hk Ds
  (Ci (hi pr s σ H _ I h) fun v s1 h1=>Ci h1 fun Ku s2 h2=>?_)) (fun _ s' hq=>MD (MD hq)) fun _ _ e=>e)
 obtain⟨it,fp,tn,J,H2,e,I2,T,B0,f2,q⟩:=h2;subst e;refine iY (RR:=fun acc C=>compPost (model X.prog X.w) X.A X.xe (some (assign (.Name y py) X.env)) (fun _ s'=>SP X pr Dd .next s') acc C) (Q:=fun v H'=>Dd.nx (σ.set i (some v)) H') (iter:=iter) hc I2 T B0 f2 hg ht he hf hk CM EW q fun D C σ1 H1 s1 hC J1 q1=>?_
 obtain⟨m,ns,_⟩:=id J1.loc;have ns:s1.heap.Ns C m:=ns;have I3:Inv X pr σ H1 s1:=I2.unblock f2 hC J1 (.refl ..);show wpAny _ X.A (assign (.Name y py) X.env (.ref D)) _ _ s1;refine wpAny_assign_Name (ke I3 hN Lb hy (v:=.ref D) rfl (fun s4 I4 ⟨a,sb,ha⟩=>?_) HY);have aC:C≠a:=by
  intro z;rcases ha with ha|ha
  ·exact MT (ML I2.lt hC) (ha▸z.symm)
  ·obtain⟨v,o,ho,_⟩:=I2.cell y a ha;exact MT (ML (MK ho) hC) z.symm
 refine⟨m,ns.sameBut sb aC,fun h' JL=>?_⟩;have jf:H1 C=none:=J1.free;have kk:∀b o,b≠C->s4.heap.get? b=some o->h'.get? b=some o:=fun b o hb e=>(JL.2 b hb).trans e
 refine⟨σ.set i (some (.ref D)),H1,?_,q1⟩;have z:=I4.turned (t':=s4.toks) kk jf (fun z=>MT (ML I2.lt hC) z.symm) (.inr (M4 I2.sz hC)) (fun x c e z=>by
  obtain⟨v,o,ho,_⟩:=I2.cell x c e;exact MT (ML (MK ho) hC) z) (fun p hp z=>MT (ML (MK (I2.pin p hp).1) hC) z)
 exact z
end
def Itv(val:Nat->V)(n:Nat):It:=⟨fun i _=>i<n,fun i H x H'=>H'=H/\x=val i,fun i _=>i=n⟩
theorem mH{P:Program}{w:World}{K:W.Frag}{tg:Expr}(ty:String)(JF:["enumerate","zip","dict_itemiterator","dict_reverseitemiterator","odict_iterator","itertools.zip_longest","itertools.pairwise"].contains ty=false)(l:List Nat)(t:Tok)(it:Addr)
  (Wk:∀A:Around,A.handled=none->Walks P w A it [it] [it] (S l).cps.size (SignAt (S l)) (fun i h=>h.IsStrIter it ty (S l) t i))
  (self:∀(A:Around) (i:Nat) (s:Shared) (Q:Value->Shared->Prop) (E:Value->Shared->Prop),s.heap.IsStrIter it ty (S l) t i->Q (.ref it) s->wpAny (model P w) A (pyIter (.ref it)) Q E s):
  Turn P w K tg (Itv (fun i=>.str (S [l.getD i 0])) l.length) [it] it (fun i h=>h.IsStrIter it ty (S l) t i) where
 mem:=by simp
 obj:=fun i h st b hb=>by
  have e:b=it:=by simpa using hb
  subst e;obtain⟨o,e,c,d⟩:=st;exact⟨o,e,fun v z=>by rw[d]at z;cases z⟩
 keep:=fun i h h' st k=>by
  obtain⟨o,e,r⟩:=st;exact⟨o,k it (by simp) o e,r⟩
 item:=by
  intro X hP hw hK hc i pr s σ H E I hf st hg;subst hP hw hK;obtain⟨f0,f1,f2,f3,f4,f5⟩:=hf it (by simp);have hg:i<l.length:=hg;refine(Wk X.A (I.ok.hd hc)).item i s _ _ (by simpa[S] using hg) st fun v h' tk hv D0 kk=>?_
  obtain⟨c,u,Ks,rfl⟩:=hv;have I1:Inv X pr σ H {s with heap:=h',toks:=tk}:=I.turned (fun b o hb e=>kk b o (by simpa using hb) e) f0 f1 f3 f4 f5;obtain⟨o,e,cc,d⟩:=id D0;have Ld:l.getD i 0=c:=by
   have:l[i]?=some c:=by simpa[S] using Ks
   rw[MQ,this];rfl
  refine⟨_,rfl,rD (s:={s with heap:=h',toks:=tk}) e cc d JF ⟨.str (S [l.getD i 0]),H,I1,⟨u,?_⟩,⟨rfl,rfl⟩,D0,fun b hb=>(hf b hb).1⟩⟩;rw[Ld]
 done:=by
  intro X hP hw hK hc i pr s σ H E I hf st hg;subst hP hw hK;obtain⟨f0,f1,f2,f3,f4,f5⟩:=hf it (by simp);have hg:i=l.length:=hg;have hn:(S l).cps.size=i:=by rw[hg];simp[S]
  refine(Wk X.A (I.ok.hd hc)).done s _ _ (by rw[hn];exact st) fun h' tk kk=>⟨rfl,I.turned (fun b o hb e=>kk b o (by simpa using hb) e) f0 f1 f3 f4 f5⟩
 self:=self
def Bk(tl:TE):TI:=fun σ H R=>tl σ H fun x H1=>∃l,x=.str (S l)/\R (Itv (fun i=>.str (S [l.getD i 0])) l.length) H1
section
variable{X:Cx}{tg:Expr}
theorem xP{l:Expr}{tl:TE}(hl:PE X l tl):PI X tg l (Bk tl):=by
 intro pr s σ H R I h;refine Ci (hl pr s σ H _ I h) fun v s1 Cp=>?_
 obtain⟨x,H1,I1,r1,l,e,q⟩:=Cp;subst e;obtain⟨t,rfl⟩:=r1;cases ha:(S l).cps.all (·< 128)
 ·refine wpAny_pyIter_wide ha ?_;refine⟨s1.heap.objs.size,[s1.heap.objs.size],_,_,H1,rfl,I1.kept (t':=s1.toks) fun b o e=>MB _ e,
   mH "str_iterator" (by decide) l t _ (fun A hA=>Walks.strWide hA _ _ _) (fun _ _ _ _ _ st h=>wpAny_pyIter_striter_wide st h),⟨_,MR _ rfl,rfl,rfl⟩,fun b hb=>?_,q⟩
  have e:b=s1.heap.objs.size:=by simpa using hb
  subst e;exact I1.fpOk (MH _) (I1.hok.fresh (MH _))
 ·refine wpAny_pyIter_ascii ha ?_;refine⟨s1.heap.objs.size,[s1.heap.objs.size],_,_,H1,rfl,I1.kept (t':=s1.toks) fun b o e=>MB _ e,
   mH "str_ascii_iterator" (by decide) l t _ (fun A hA=>Walks.strAscii hA _ _ _) (fun _ _ _ _ _ st h=>wpAny_pyIter_striter_ascii st h),⟨_,MR _ rfl,rfl,rfl⟩,fun b hb=>?_,q⟩
  have e:b=s1.heap.objs.size:=by simpa using hb
  subst e;exact I1.fpOk (MH _) (I1.hok.fresh (MH _))
theorem mI{pr:List (Addr×Obj)}{s:Shared}{σ:L2.St}{H:Hp}{p:Addr}{xs:List V}{E:Value->Shared->Prop}{R:Value->Shared->Prop}(hc:X.calm=true)(I:Inv X pr σ H s)(h:SqL X.K H p xs\/SqT X.K H p xs)
  (k:∀(it:Addr) (fp:List Addr) (o:Obj) (us:List Value) (Sx:Nat->Heap->Prop),Vals xs us->Walks X.prog X.w X.A.in1 it fp [it] us.length (fun i v=>us[i]?=some v) Sx->Sx 0 (s.heap.push o)->(∀b∈fp,b<(s.heap.push o).objs.size)->it=s.heap.objs.size->R (.ref it) {s with heap:=s.heap.push o}):
  wpAny (model X.prog X.w) X.A.in1 (pyIter (.ref p)) R E s:=by
 have hh:X.A.in1.handled=none:=I.ok.hd hc;rcases h with h|h
 ·obtain⟨us,r,pl,hz⟩:=I.list h;have DO:p<s.heap.objs.size:=by obtain⟨o,ho,_⟩:=pl.isList;exact MK ho
  refine wpAny_pyIter_list pl.isList (k s.heap.objs.size [s.heap.objs.size,p] _ us (fun i h=>h.IsListIter s.heap.objs.size p i/\h.IsList p us.toArray) r (by
   have W:=Walks.list (prog:=X.prog) (w:=X.w) hh s.heap.objs.size p (MT DO) us.toArray;simpa using W) ⟨⟨_,MR _ rfl,rfl,rfl⟩,pl.isList.at fun o e=>MB _ e⟩ (fun b hb=>?_) rfl)
  rw[Qw];rcases MN.mp hb with rfl|hb
  ·exact Ox _
  ·rw[Nu]at hb;rw[hb];exact Px DO
 ·obtain⟨us,r,pl,hz⟩:=I.tuple h;have Ik:s.heap.IsTuple p us.toArray:=pl;have DO:p<s.heap.objs.size:=by obtain⟨o,ho,_⟩:=pl;exact MK ho
  refine wpAny_pyIter_tuple Ik (k s.heap.objs.size [s.heap.objs.size,p] _ us (fun i h=>h.IsTupleIter s.heap.objs.size p i/\h.IsTuple p us.toArray) r (by
   have W:=Walks.tuple (prog:=X.prog) (w:=X.w) hh s.heap.objs.size p (MT DO) us.toArray;simpa using W) ⟨⟨_,MR _ rfl,rfl,rfl⟩,Ik.at fun o e=>MB _ e⟩ (fun b hb=>?_) rfl)
  rw[Qw];rcases MN.mp hb with rfl|hb
  ·exact Ox _
  ·rw[Nu]at hb;rw[hb];exact Px DO
theorem iZ{pr:List (Addr×Obj)}{s:Shared}{σ:L2.St}{H:Hp}{o:Obj}{h':Heap}{tk:Nat}(I:Inv X pr σ H s)(kk:∀b ob,b∉[s.heap.objs.size]->(s.heap.push o).get? b=some ob->h'.get? b=some ob):
  Inv X pr σ H {s with heap:=h',toks:=tk}:=I.kept fun b ob e=>kk b ob (fun z=>MT (MK e) (by simpa using z)) (MB _ e)
theorem bg{α:Type}(l:List α)(i:Nat)(d:α)(h:i<l.length):l.getD i d=l[i]:=by
 rw[MQ,Mz h];rfl
theorem eY{ns:List Int}{us:List Value}(r:Vals (ns.map V.int) us){i:Nat}{v:Value}(h:us[i]?=some v):∃t,v=.int (ns.getD i 0) t:=by
 have hl:=r.length;rw[MA]at hl;obtain⟨hi,_⟩:=MF.mp h;have e1:(ns.map V.int)[i]?=some (.int (ns.getD i 0)):=by
  rw[Nh,Mz (by lia),bg _ _ _ (by lia)];rfl
 obtain⟨u,hu,t,rfl⟩:=r.get e1;rw[h]at hu;exact⟨t,Na hu⟩
theorem mJ{ns:List Int}{us:List Value}(r:Vals (ns.map V.int) us)(A:Around):CmpOf X.prog X.w A .Gt (fun i v=>us[i]?=some v) (fun i j=>decide (ns.getD j 0<ns.getD i 0)):=by
 intro i j vi vj s Q E hi hj q;obtain⟨t,rfl⟩:=eY r hi;obtain⟨t',rfl⟩:=eY r hj;exact gt_int q
def n5(ns:List Int):Int:=ns.foldl max (ns.headD 0)
def zO(ns:List Int):Int:=ns.foldl min (ns.headD 0)
theorem jv(ns:List Int):∀k,k<ns.length->argBest (fun i j=>decide (ns.getD j 0<ns.getD i 0)) k<ns.length/\ns.getD (argBest (fun i j=>decide (ns.getD j 0<ns.getD i 0)) k) 0=(ns.take (k+1)).foldl max (ns.headD 0)
 | 0,h=>by
  refine⟨h,?_⟩;cases ns with
  |nil=>cases h
  |cons a l=>show a=max a a;lia
 |k+1,h=>by
  obtain⟨ih1,ih2⟩:=jv ns k (by lia);have et:ns.take (k+1+1)=ns.take (k+1)++[ns.getD (k+1) 0]:=by
   rw[Pt,Mz h,bg _ _ _ h];rfl
  rw[et,List.foldl_append,<-ih2];show(if decide (ns.getD (argBest (fun i j=>decide (ns.getD j 0<ns.getD i 0)) k) 0<ns.getD (k+1) 0)=true then k+1 else argBest (fun i j=>decide (ns.getD j 0<ns.getD i 0)) k)<ns.length/\
   ns.getD (if decide (ns.getD (argBest (fun i j=>decide (ns.getD j 0<ns.getD i 0)) k) 0<ns.getD (k+1) 0)=true then k+1 else argBest (fun i j=>decide (ns.getD j 0<ns.getD i 0)) k) 0=max _ _
  split
  ·rename_i hd;have:=NZ hd;exact⟨h,by lia⟩
  ·rename_i hd;rw[ME]at hd;exact⟨ih1,by lia⟩
theorem pI(hc:X.calm=true):cX X (.builtin "max") (fun vs H Q=>∃(p:Addr) (ns:List Int),vs=[.ref p]/\(SqL X.K H p (ns.map V.int)\/SqT X.K H p (ns.map V.int))/\ns≠[]/\Q (.int (n5 ns)) H):=by
 intro pr s σ H vs us Q I r h;obtain⟨p,ns,rfl,hp,EK,q⟩:=h;obtain⟨u,rfl,r1⟩:=gL r;cases r1;have hn:0<ns.length:=by cases ns with|nil=>exact absurd rfl EK|cons _ _=>simp
 refine call_max_walk (mI hc I hp fun it fp o ws Sx rv W st hf hit=>?_);have hl:=rv.length;rw[MA]at hl;refine⟨it,fp,[it],_,_,Sx,_,rfl,W,st,hf,by lia,mJ rv _,fun v h' tk hv kk=>?_⟩;subst hit;obtain⟨b1,b2⟩:=jv ns (ns.length-1) (by lia);rw[<-hl]at hv;obtain⟨t,rfl⟩:=eY rv hv;refine⟨.int (n5 ns),H,iZ (s:=s) I kk,⟨t,?_⟩,q⟩;rw[b2,show ns.length-1+1=ns.length by lia,OX];rfl
end
section
variable{prog:Program}{w:World}{A:Around}{R:Result->Shared->Prop}{it:Addr}{fp wr:List Addr}{n:Nat}{Pv:Nat->Value->Prop}{Sx:Nat->Heap->Prop}{kw:List (Str×Value)}
theorem jw:(toString "max"++toString ".loop" : String) = "max.loop":=by decide
theorem zP(Wk:Walks prog w A.in1 it fp wr n Pv Sx)(bt:Nat->Nat->Bool)(cm:CmpOf prog w A.in1 .Gt Pv bt)(T:Addr)(nT:T∉fp):∀(k j:Nat) (s:Shared) (vb:Value) (c:Nat),n-(j+1)=k->j+1<=n->Sx (j+1) s.heap->Pv (argBest bt j) vb->
   s.heap.get? T=some {cls:=.type "list",dict:=none,data:=.seq #[vb,vb] c,slots:=#[]}->
   (∀v h' tk,Pv (argBest bt (n-1)) v->(∀b o,b∉wr->b≠T->s.heap.get? b=some o->h'.get? b=some o)->R (.ok (.ret v)) {s with heap:=h',toks:=tk})->codeAny (model prog w) A (.builtin "max.loop" ⟨[.ref it,.none,.ref T],kw⟩) R s:=by
 have Kz:T∉wr:=fun z=>nT (Wk.sub _ z)
 intro k;induction k with
 |zero=>
  intro j s vb c hk hj st hp hT fin;have ej:j+1=n:=by lia
  refine Pd P5 ?_;rw[O2 N5 _];show wpAny _ A.in1 (seqItems? (.ref T) >>= _) _ _ s;refine Mx (Qx hT rfl ?_);show wpAny _ A.in1 (tryCatch (pyNext (.ref it)) _ >>= _) _ _ s;refine Mx (OQ (Wk.done s _ _ (ej▸st) fun h' tk kk=>?_));have HP:=kk T _ Kz hT;show wpAny _ A.in1 (updateSeq T (fun _=>#[]) >>= _) _ _ _;refine Mx (Qj HP rfl (Mx (PH (MD ?_))));exact fin vb _ tk (by rw[<-ej];exact hp) fun b o bw bT e=>(M9 _ _ (N2 bT)).trans (kk b o bw e)
 |succ k ih=>
  intro j s vb c hk hj st hp hT fin;have jn:j+1<n:=by lia
  refine Pd P5 ?_;rw[O2 N5 _];show wpAny _ A.in1 (seqItems? (.ref T) >>= _) _ _ s;refine Mx (Qx hT rfl ?_);show wpAny _ A.in1 (tryCatch (pyNext (.ref it)) _ >>= _) _ _ s;refine Mx (OQ (Wk.item (j+1) s _ _ jn st fun v h' tk pv D0 kk=>?_));have HP:=kk T _ Kz hT;show wpAny _ A.in1 (tryCatch (holding [v,v] (richCompare .Gt v vb >>= _)) _ >>= _) _ _ _;refine Mx (OQ (N8 (Mx (cm (j+1) (argBest bt j) v vb _ _ _ pv hp (Mx (N8 (NW (Mx (PH (MD ?_))))))))));cases eb:bt (j+1) (argBest bt j) with
  |true=>
   rw[MM rfl];refine Mx (Qj HP rfl (Mx (PH ?_)));rw[jw];refine MD ⟨PJ N5 _,ih (j+1) _ v _ (by lia) jn (Wk.frame _ _ _ D0 fun b bf o e=>?_) (by simp only[argBest,eb,OH];exact pv) (OS _ HP rfl) fun v2 h2 t2 p2 k2=>?_⟩
   ·exact(M9 _ _ (fun z:T=b=>nT (by rw[z];exact bf))).trans e
   ·exact fin v2 h2 t2 p2 fun b o bw bT e=>k2 b o bw bT ((M9 _ _ (N2 bT)).trans (kk b o bw e))
  |false=>
   rw[MO MP];refine Mx (PH ?_);rw[jw];refine MD ⟨PJ N5 _,ih (j+1) _ vb c (by lia) jn D0 (by simp only[argBest,eb,NR,OP];exact hp) HP fun v2 h2 t2 p2 k2=>?_⟩;exact fin v2 h2 t2 p2 fun b o bw bT e=>k2 b o bw bT (kk b o bw e)
theorem rP(Wk:Walks prog w A.in1 it fp wr n Pv Sx)(bt:Nat->Nat->Bool)(cm:CmpOf prog w A.in1 .Gt Pv bt)(T:Addr)(nT:T∉fp){s:Shared}{c:Nat}{d:Value}(hkw:kw=[(Str.ofString "default",d)])(st:Sx 0 s.heap)
  (hT:s.heap.get? T=some {cls:=.type "list",dict:=none,data:=.seq #[] c,slots:=#[]}) (fin:∀v h' tk,(if n=0 then v=d else Pv (argBest bt (n-1)) v)->(∀b o,b∉wr->b≠T->s.heap.get? b=some o->h'.get? b=some o)->R (.ok (.ret v)) {s with heap:=h',toks:=tk}):
  codeAny (model prog w) A (.builtin "max.loop" ⟨[.ref it,.none,.ref T],kw⟩) R s:=by
 have Kz:T∉wr:=fun z=>nT (Wk.sub _ z)
 refine Pd P5 ?_;rw[O2 N5 _];show wpAny _ A.in1 (seqItems? (.ref T) >>= _) _ _ s;refine Mx (Qx hT rfl ?_);show wpAny _ A.in1 (tryCatch (pyNext (.ref it)) _ >>= _) _ _ s;by_cases hn:n=0
 ·refine Mx (OQ (Wk.done s _ _ (by rw[hn];exact st) fun h' tk kk=>?_));subst hkw;refine Mx (wpAny_rule (MD ?_));exact fin d _ tk (by rw[MM hn]) fun b o bw bT e=>kk b o bw e
 ·refine Mx (OQ (Wk.item 0 s _ _ (by lia) st fun v h' tk pv D0 kk=>?_));have HP:=kk T _ Kz hT;show wpAny _ A.in1 (updateSeq T (fun _=>#[v,v]) >>= _) _ _ _;refine Mx (Qj HP rfl ?_);rw[jw];refine MD ⟨PJ N5 _,zP Wk bt cm T nT _ 0 _ v _ rfl (by lia) (Wk.frame _ _ _ D0 fun b bf o e=>?_) pv (OS _ HP rfl) fun v2 h2 t2 p2 k2=>?_⟩
  ·exact(M9 _ _ (fun z:T=b=>nT (by rw[z];exact bf))).trans e
  ·exact fin v2 h2 t2 (by rw[MO hn];exact p2) fun b o bw bT e=>k2 b o bw bT ((M9 _ _ (N2 bT)).trans (kk b o bw e))
end
theorem tree_kw{prog:Program}{w:World}{A:Around}{E:Value->Shared->Prop}{s:Shared}{id:String}{bf:Builtin}{args:List Value}{kw:List (Str×Value)}{Q:Value->Shared->Prop}(hk:builtinKind id=none)(hp:plainId id=true)
  (hb:entryFor table id=some bf) (ha:argsOk id ⟨args,kw⟩)
  (hc:wpAny (model prog w) A.in1 (bf ⟨args,kw⟩) (fun fin s'=>match fin with
   | .done f=>(match(Except.ok f:Result) with | .ok (.ret v)=>Q v s' | .ok _=>False | .error e=>E e s')
   | .again c'=>c'.quiet=true/\codeAny (model prog w) A c' (fun r s'=>match r with | .ok (.ret v)=>Q v s' | .ok _=>False | .error e=>E e s') s') E s):wpAny (model prog w) A (call (.builtin id) args kw) Q E s:=by
 refine wpAny_call (O3 hp hb ?_);simp only[checkBuiltinCall,hk];cases hsig:Manifest.signature? id with
 |none=>exact MD hc
 |some sig=>
  have ha2:Bind.checkArgs id sig ⟨args,kw⟩=pure ():=by simpa only[argsOk,hsig] using ha
  simp only[ha2];exact MD hc
theorem pJ(a d:Value):argsOk "max" ⟨[a],[(Str.ofString "default",d)]⟩:=by unfold argsOk;kernel_rfl
section
variable{X:Cx}{e k:Expr}{te tk:TE}{p pos Fu:Pos}
def maxD(ns:List Int)(d:Int):Int:=if ns=[] then d else n5 ns
def zQ(K:W.Frag)(te tk:TE):TE:=fun σ H Q=>rF te ze σ H fun vs H1=>rF tk ze σ H1 fun ks H2=>∃(a:Addr) (ns:List Int) (d:Int),vs=[.ref a]/\ks=[.int d]/\(SqL K H2 a (ns.map V.int)\/SqT K H2 a (ns.map V.int))/\Q (.int (maxD ns d)) H2
theorem uW(hc:X.calm=true)(hg:Gl X "max")(hm:X.mg "max" = none)(he:PE X e te)(hk:PE X k tk)(hs:starEach [e] X.env=[(false,eval e X.env)]:=by rfl):
  PE X (.Call (.Name "max" p) [e] [⟨some "default",k,Fu⟩] pos) (zQ X.K te tk):=by
 intro pr s σ H Q I h;refine Oe (iV I hg hm (by decide +kernel:bootBuiltins "max" = some (.builtin "max")) ?_ (by decide) (by decide));refine callWith_kw (Ci (cY he g6 (hs:=hs) pos pr s σ H _ I h) fun us s1 ⟨vs,H1,I1,r1,q1⟩=>?_) (by rw[hs];rfl) (by rw[hs];rfl);refine Ci (uI hk xC pos pr s1 σ H1 _ I1 q1) fun ws s2 Cp=>?_
 obtain⟨ks,H2,I2,r2,a,ns,d,e1,e2,hp,q⟩:=Cp;subst e1 e2;obtain⟨u,rfl,ru⟩:=gL r1;obtain⟨w',rfl,t,rfl⟩:=gL r2;cases ru;show wpAny _ _ (call (.builtin "max") [.ref a] [(Str.ofString "default",.int d t)]) _ _ s2;refine tree_kw F.kind_max F.plain_max F.entry_max (pJ _ _) ?_;show wpAny _ X.A.in1 (Builtin.Builtins.bindParams "max" ["key","default"] 0 ⟨[],[(Str.ofString "default",.int d t)]⟩ >>= _) _ _ s2;refine Mx (wpAny_of_eq (show Builtin.Builtins.bindParams "max" ["key","default"] 0 ⟨[],[(Str.ofString "default",.int d t)]⟩=pure [none,some (.int d t)] from rfl) ?_);refine Mx (MD ?_);refine Mx (mI hc I2 hp fun it fp o ws Sx rv Wk st hf hit=>?_);have hl:=rv.length;rw[MA]at hl;refine Mx (NC ?_);have nT:(s2.heap.push o).objs.size∉fp:=fun z=>N7 _ (hf _ z)
 rw[jw];refine MD ⟨PJ N5 _,rP Wk _ (mJ rv _) (s2.heap.push o).objs.size nT rfl (Wk.frame _ _ _ st fun b _ ob e=>MB _ e) (MR _ rfl) fun v h' tk' hv kk=>?_⟩;subst hit;have I3:Inv X pr σ H2 {s2 with heap:=h',toks:=tk'}:=iZ (s:=s2) (o:=o) I2 fun b ob nb e=>kk b ob nb (MT (MK e)) (MB _ e)
 refine⟨.int (maxD ns d),H2,I3,?_,q⟩;unfold maxD;by_cases hn:ns=[]
 ·rw[MM (by rw[<-hl,hn];rfl)]at hv;rw[MM hn,hv];exact⟨t,rfl⟩
 ·have h0:0<ns.length:=NO.mpr hn;rw[MO (by lia)]at hv;rw[MO hn];obtain⟨b1,b2⟩:=jv ns (ns.length-1) (by lia);rw[<-hl]at hv;obtain⟨t2,rfl⟩:=eY rv hv;refine⟨t2,?_⟩;rw[b2,show ns.length-1+1=ns.length by lia,OX];rfl
end
section
variable{prog:Program}{w:World}{A:Around}{E:Value->Shared->Prop}{s:Shared}
def IsIt(k:Bool)(h:Heap)(it l:Addr)(i:Nat):Prop:=match k with
 |true=>h.IsListIter it l i
 |false=>h.IsTupleIter it l i
def IsSq(k:Bool)(h:Heap)(l:Addr)(xs:Array Value):Prop:=match k with
 |true=>h.IsList l xs
 |false=>h.IsTuple l xs
theorem IsIt.at{k:Bool}{h h':Heap}{it l:Addr}{i:Nat}(x:IsIt k h it l i)(e:∀o,h.get? it=some o->h'.get? it=some o):IsIt k h' it l i:=by
 cases k with
 |true=>obtain⟨o,ho,r⟩:=(show h.IsListIter it l i from x);exact(show h'.IsListIter it l i from⟨o,e o ho,r⟩)
 |false=>obtain⟨o,ho,r⟩:=(show h.IsTupleIter it l i from x);exact(show h'.IsTupleIter it l i from⟨o,e o ho,r⟩)
theorem IsSq.at{k:Bool}{h h':Heap}{l:Addr}{xs:Array Value}(x:IsSq k h l xs)(e:∀o,h.get? l=some o->h'.get? l=some o):IsSq k h' l xs:=by
 cases k with
 |true=>obtain⟨o,ho,r⟩:=(show h.IsList l xs from x);exact(show h'.IsList l xs from⟨o,e o ho,r⟩)
 |false=>obtain⟨o,ho,r⟩:=(show h.IsTuple l xs from x);exact(show h'.IsTuple l xs from⟨o,e o ho,r⟩)
theorem IsSq.get{k:Bool}{h:Heap}{l:Addr}{xs:Array Value}(x:IsSq k h l xs):∃o,h.get? l=some o:=by
 cases k with
 |true=>obtain⟨o,ho,_⟩:=(show h.IsList l xs from x);exact⟨o,ho⟩
 |false=>obtain⟨o,ho,_⟩:=(show h.IsTuple l xs from x);exact⟨o,ho⟩
end
section
variable{X:Cx}{pr:List (Addr×Obj)}{σ:L2.St}{H:Hp}{s:Shared}
end
section
variable{X:Cx}{es:List Expr}{kt:Nat}{pt:Pos}
end
end NX
namespace NX
open PySem PySem.W PyProof.Rows
section
variable{n:Nat}{O:KeyOrd}{κ:Nat->O.α}{cmp:Nat->Nat->(Bool->Shared->Prop)->Shared->Prop}{Good:Shared->Prop}
def kk(κ:Nat->O.α)(p:Array Nat)(i:Nat):O.α:=κ (p.getD i 0)
structure POk(n:Nat)(p:Array Nat):Prop where
 perm:p.toList.Perm (List.range n)
theorem POk.size{p:Array Nat}(h:POk n p):p.size=n:=by
 have:=h.perm.length_eq;simpa using this
theorem POk.lt{p:Array Nat}(h:POk n p){i:Nat}(hi:i<n):p.getD i 0<n:=by
 have hs:=h.size;have E3:i<p.size:=by lia
 have e:p.getD i 0=p[i]:=by simp[Array.getD,E3]
 rw[e];exact Nx.mp (h.perm.mem_iff.mp (Array.getElem_mem_toList E3))
theorem POk.of{p q:Array Nat}(h:POk n p)(hq:q.Perm p):POk n q:=⟨(Array.perm_iff_toList_perm.mp hq).trans h.perm⟩
def aU(κ:Nat->O.α)(p:Array Nat)(m:Nat):Prop:=∀i j,i<=j->j<m->O.kle (kk κ p i) (kk κ p j)
def dy(κ:Nat->O.α)(p:Array Nat)(m:Nat):Prop:=∀i j,i<=j->j<m->O.kle (kk κ p j) (kk κ p i)
theorem df{p q:Array Nat}{i j:Nat}(h:p[i]?=q[j]?):p.getD i 0=q.getD j 0:=by
 rw[Pe,Pe,h]
theorem mK{p:Array Nat}{i j:Nat}(hj:j<=p.size)(k:Nat):kk κ (kas_rev p i j) k=if i<=k/\k<j then kk κ p (i+j-1-k) else kk κ p k:=by
 have e:=getElem?_mirror_all (i:=i) hj k;unfold kk kas_rev;split
 ·rename_i h;rw[MM h]at e;rw[df e]
 ·rename_i h;rw[MO h]at e;rw[df e]
theorem tM{p:Array Nat}{src d:Nat}(hs:src<p.size)(hd:d<=src)(k:Nat):kk κ (bubble p src d) k=if k=src-d then kk κ p src else if src-d<k/\k<=src then kk κ p (k-1) else kk κ p k:=by
 have e:=getElem?_bubble hs d hd k;by_cases h:k=src-d
 ·rw[MM h]at e ⊢;exact NQ κ (df e)
 ·rw[MO h]at e ⊢;by_cases h2:src-d<k/\k<=src
  ·rw[MM h2]at e ⊢;exact NQ κ (df e)
  ·rw[MO h2]at e ⊢;exact NQ κ (df e)
theorem POk.rev{p:Array Nat}(h:POk n p)(i j:Nat):POk n (kas_rev p i j):=h.of (mirror_perm _ _ _ _)
theorem POk.bub{p:Array Nat}(h:POk n p)(i j:Nat):POk n (bubble p i j):=h.of (bubble_perm _ _ _)
theorem n6(p:Array Nat):aU κ p 1:=fun i j a b=>by
 have e:i=j:=by lia
 rw[e];exact N1 _
theorem lT{p:Array Nat}{m:Nat}(h1:1<=m)(h:aU κ p m)(hm:O.kle (kk κ p (m-1)) (kk κ p m)):aU κ p (m+1):=by
 intro i j EG hj;by_cases e:j=m
 ·subst e;by_cases e2:i=j
  ·subst e2;exact N1 _
  ·exact OY (h i (j-1) (by lia) (by lia)) hm
 ·exact h i j EG (by lia)
theorem dg{p:Array Nat}{m:Nat}(h1:1<=m)(h:dy κ p m)(hm:O.kle (kk κ p m) (kk κ p (m-1))):dy κ p (m+1):=by
 intro i j EG hj;by_cases e:j=m
 ·subst e;by_cases e2:i=j
  ·subst e2;exact N1 _
  ·exact OY hm (h i (j-1) (by lia) (by lia))
 ·exact h i j EG (by lia)
variable(hc:∀i j,i<n->j<n->∀(Q:Bool->Shared->Prop) s,Good s->(∀s',Good s'->Q (O.blt (κ i) (κ j)) s')->cmp i j Q s)
include hc
theorem pK{p:Array Nat}(hp:POk n p){CB:Nat}(hn:CB<=n){Q:Nat->Shared->Prop}:∀(f m:Nat) (s:Shared),Good s->1<=m->m+f=CB->aU κ p m->
  (∀r s',Good s'->m<=r->r<=CB->aU κ p r->(r<CB->O.klt (kk κ p r) (kk κ p (r-1)))->Q r s')->(kas_asc p f m).kasWp cmp Q s
 | 0,m,s,g,h1,hf,hs,k=>k m s g (MH _) (by lia) hs (fun z=>by lia)
 |f+1,m,s,g,h1,hf,hs,k=>by
  show cmp (p.getD m 0) (p.getD (m-1) 0) _ s;refine hc _ _ (hp.lt (by lia)) (hp.lt (by lia)) _ s g fun s' g'=>?_
  cases e:O.blt (κ (p.getD m 0)) (κ (p.getD (m-1) 0)) with
  |true=>
   (try dsimp only)
   rw[MM rfl];exact k m s' g' (MH _) (by lia) hs fun _=>e
  |false=>
   (try dsimp only)
   rw[MO MP];exact pK hp hn f (m+1) s' g' (by lia) (by lia) (lT h1 hs e) fun r s2 g2 a b c d=>k r s2 g2 (by lia) b c d
def uX(κ:Nat->O.α)(p:Array Nat)(m q:Nat):Prop:=∀k,m-(q+1)<=k->k<m->kk κ p k=kk κ p (m-1)
omit hc in
theorem kC{p:Array Nat}{m q:Nat}(hm:m<=p.size)(h:uX κ p m q)(k:Nat):kk κ (kas_rev p (m-(q+1)) m) k=kk κ p k:=by
 rw[mK hm];split
 ·rename_i hk;rw[h _ (by lia) (by lia),h k hk.1 hk.2]
 ·rfl
omit hc in
theorem fW{p p':Array Nat}{m:Nat}(e:∀k,kk κ p' k=kk κ p k)(h:dy κ p m):dy κ p' m:=fun i j a b=>by rw[e,e];exact h i j a b
theorem jx{CB:Nat}(hn:CB<=n){Q:Array Nat×Nat×Nat->Shared->Prop}:∀(f:Nat) (p:Array Nat) (m q:Nat) (s:Shared),POk n p->Good s->1<=m->q+1<=m->m+f=CB->dy κ p m->uX κ p m q->
  (∀p' m' q' s',POk n p'->Good s'->m<=m'->m'<=CB->q'+1<=m'->dy κ p' m'->uX κ p' m' q'->Q (p',m',q') s')->(kas_desc f p m q).kasWp cmp Q s
 | 0,p,m,q,s,hp,g,h1,hq,hf,hs,ha,k=>k p m q s hp g (MH _) (by lia) hq hs ha
 |f+1,p,m,q,s,hp,g,h1,hq,hf,hs,ha,k=>by
  show cmp (p.getD m 0) (p.getD (m-1) 0) _ s;refine hc _ _ (hp.lt (by lia)) (hp.lt (by lia)) _ s g fun s' g'=>?_
  have hsz:=hp.size;cases e:O.blt (κ (p.getD m 0)) (κ (p.getD (m-1) 0)) with
  |true=>
   (try dsimp only)
   rw[MM rfl];have le:O.kle (kk κ p m) (kk κ p (m-1)):=ON e;by_cases h0:q>0
   ·rw[MM h0];have same:=kC (κ:=κ) (p:=p) (m:=m) (q:=q) (by lia) ha;refine jx hn f _ (m+1) 0 s' (hp.rev _ _) g' (by lia) (by lia) (by lia) (dg h1 (fW same hs) (by rw[same,same];exact le)) ?_ fun p' m' q' s2 a b c d e' f' g2=>k p' m' q' s2 a b (by lia) d e' f' g2
    intro k' a b;have:k'=m:=by lia
    rw[this];rfl
   ·rw[MO h0];refine jx hn f p (m+1) 0 s' hp g' (by lia) (by lia) (by lia) (dg h1 hs le) ?_ fun p' m' q' s2 a b c d e' f' g2=>k p' m' q' s2 a b (by lia) d e' f' g2
    intro k' a b;have:k'=m:=by lia
    rw[this];rfl
  |false=>
   (try dsimp only)
   rw[MO MP];show cmp (p.getD (m-1) 0) (p.getD m 0) _ s';refine hc _ _ (hp.lt (by lia)) (hp.lt (by lia)) _ s' g' fun s2 g2=>?_
   cases e2:O.blt (κ (p.getD (m-1) 0)) (κ (p.getD m 0)) with
   |true=>
    (try dsimp only)
    rw[MM rfl];exact k p m q s2 hp g2 (MH _) (by lia) hq hs ha
   |false=>
    (try dsimp only)
    rw[MO MP];have eq:kk κ p (m-1)=kk κ p m:=KeyOrd.kle_antisymm (O:=O) e e2;refine jx hn f p (m+1) (q+1) s2 hp g2 (by lia) (by lia) (by lia) (dg h1 hs (by rw[eq];exact N1 _)) ?_ fun p' m' q' s3 a b c d e' f' g3=>k p' m' q' s3 a b (by lia) d e' f' g3
    intro k' a b;show kk κ p k'=kk κ p m;by_cases z:k'=m
    ·rw[z]
    ·rw[ha k' (by lia) (by lia),eq]
omit hc in
theorem n8{p:Array Nat}{m:Nat}(hm:m<=p.size)(h:dy κ p m):aU κ (kas_rev p 0 m) m:=by
 intro i j a b;rw[mK hm,mK hm,MM (by lia),MM (by lia)];exact h _ _ (by lia) (by lia)
theorem pL{p:Array Nat}(hp:POk n p){m CB:Nat}(hn:CB<=n)(h1:1<=m)(hm:m<=CB)(hs:dy κ p m){Q:Nat×Array Nat->Shared->Prop}{s:Shared}(g:Good s)
  (k:∀r p' s',POk n p'->Good s'->1<=r->r<=CB->aU κ p' r->Q (r,p') s'):(kas_tail3 m CB p).kasWp cmp Q s:=by
 unfold kas_tail3;rw[KasT.kasWp_bind];have hsz:=hp.size;refine pK hc (hp.rev 0 m) hn (CB-m) m s g h1 (by lia) (n8 (by lia) hs) fun r s' g' a b c _=>?_
 exact k r _ s' (hp.rev 0 m) g' (by lia) b c
theorem hJ{p:Array Nat}(hp:POk n p){m CB:Nat}(hn:CB<=n)(h1:1<=m)(hm:m+1<=CB)(hs:dy κ p (m+1)){Q:Nat×Array Nat->Shared->Prop}{s:Shared}(g:Good s)
  (k:∀r p' s',POk n p'->Good s'->1<=r->r<=CB->aU κ p' r->Q (r,p') s'):(kas_descPart m CB p).kasWp cmp Q s:=by
 unfold kas_descPart;rw[KasT.kasWp_bind];refine jx hc hn (CB-(m+1)) p (m+1) 0 s hp g (by lia) (by lia) (by lia) hs ?_ fun p' m' q' s' a b c d e f g2=>?_
 ·intro k' a b;have:k'=m:=by lia
  rw[this];rfl
 ·have hsz:=a.size;dsimp only;split
  ·have same:=kC (κ:=κ) (p:=p') (m:=m') (q:=q') (by lia) g2;exact pL hc (a.rev _ _) hn (by lia) d (fW same f) b k
  ·exact pL hc a hn (by lia) d f b k
theorem rQ{p:Array Nat}(hp:POk n p){CB:Nat}(hn:CB<=n)(h1:1<=CB){Q:Nat×Array Nat->Shared->Prop}{s:Shared}(g:Good s)
  (k:∀r p' s',POk n p'->Good s'->1<=r->r<=CB->aU κ p' r->Q (r,p') s'):(kas_count CB p).kasWp cmp Q s:=by
 unfold kas_count;rw[KasT.kasWp_bind];have hsz:=hp.size;refine pK hc hp hn (CB-1) 1 s g (MH _) (by lia) (n6 p) fun m s' g' a b c d=>?_
 by_cases e:m=CB
 ·rw[MM (by simpa using e)];exact k m p s' hp g' (by lia) (by lia) c
 ·rw[MO (by simpa using e)];have dd:=d (by lia);by_cases h2:m>1
  ·rw[MM h2];show cmp (p.getD 0 0) (p.getD (m-1) 0) _ s';refine hc _ _ (hp.lt (by lia)) (hp.lt (by lia)) _ s' g' fun s2 g2=>?_
   cases e2:O.blt (κ (p.getD 0 0)) (κ (p.getD (m-1) 0)) with
   |true=>
    (try dsimp only)
    rw[MM rfl];exact k m p s2 hp g2 (by lia) b c
   |false=>
    (try dsimp only)
    rw[MO MP];have eq:∀i,i<m->kk κ p i=kk κ p 0:=fun i hi=>by
     have x1:=c 0 i (by lia) hi;have x2:=c i (m-1) (by lia) (by lia);exact KeyOrd.kle_antisymm (O:=O) (OY x2 e2) x1
    have same:∀i,kk κ (kas_rev p 0 m) i=kk κ p i:=fun i=>by
     rw[mK (by lia)];split
     ·rw[eq _ (by lia),eq i (by lia)]
     ·rfl
    refine hJ hc (hp.rev 0 m) hn (by lia) (by lia) ?_ g2 k;refine fW same (dg (by lia) (fun i j x y=>?_) (ON dd));rw[eq i (by lia),eq j y];exact N1 _
  ·rw[MO h2];refine hJ hc hp hn (by lia) (by lia) (dg (by lia) (fun i j x y=>?_) (ON dd)) g' k;have:i=j:=by lia
   rw[this];exact N1 _
theorem jy{p:Array Nat}(hp:POk n p){t:Nat}(ht:t<n)(hs:aU κ p t){Q:Nat->Shared->Prop}:∀(f l r:Nat) (s:Shared),Good s->l<=r->r<=t->r-l<=f->(∀i,i<l->O.kle (kk κ p i) (kk κ p t))->(∀i,r<=i->i<t->O.klt (kk κ p t) (kk κ p i))->
  (∀x s',Good s'->x<=t->(∀i,i<x->O.kle (kk κ p i) (kk κ p t))->(∀i,x<=i->i<t->O.klt (kk κ p t) (kk κ p i))->Q x s')->(kas_place p t f l r).kasWp cmp Q s
 | 0,l,r,s,g,h1,h2,h3,lo,hi,k=>k l s g (by lia) lo fun i a b=>hi i (by lia) b
 |f+1,l,r,s,g,h1,h2,h3,lo,hi,k=>by
  unfold kas_place;by_cases e:l>=r
  ·rw[MM e];exact k l s g (by lia) lo fun i a b=>hi i (by lia) b
  ·rw[MO e];show cmp (p.getD t 0) (p.getD ((l+r) / 2) 0) _ s;refine hc _ _ (hp.lt ht) (hp.lt (by lia)) _ s g fun s' g'=>?_
   cases e2:O.blt (κ (p.getD t 0)) (κ (p.getD ((l+r) / 2) 0)) with
   |true=>
    (try dsimp only)
    rw[MM rfl];refine jy hp ht hs f l ((l+r) / 2) s' g' (by lia) (by lia) (by lia) lo (fun i a b=>?_) k;exact KeyOrd.klt_of_klt_of_kle (O:=O) e2 (hs _ i a b)
   |false=>
    (try dsimp only)
    rw[MO MP];refine jy hp ht hs f ((l+r) / 2+1) r s' g' (by lia) (by lia) (by lia) (fun i a=>?_) hi k;exact OY (O:=O) (hs i ((l+r) / 2) (by lia) (by lia)) e2
theorem tN{Q:Array Nat->Shared->Prop}:∀(f:Nat) (p:Array Nat) (t:Nat) (s:Shared),POk n p->Good s->t+f=n->aU κ p t->(∀p' s',POk n p'->Good s'->aU κ p' n->Q p' s')->(kas_bin f p t).kasWp cmp Q s
 | 0,p,t,s,hp,g,hf,hs,k=>k p s hp g (by rw[show n=t by lia];exact hs)
 |f+1,p,t,s,hp,g,hf,hs,k=>by
  unfold kas_bin;rw[KasT.kasWp_bind];have hsz:=hp.size;refine jy hc hp (by lia) hs t 0 t s g (Nq _) (MH _) (by lia) (fun i a=>by lia) (fun i a b=>by lia) fun x s' g' hx lo hi=>?_
  refine tN f _ (t+1) s' (hp.bub _ _) g' (by lia) ?_ k;have ex:t-(t-x)=x:=by lia
  intro i j a b;rw[tM (by lia) (by lia),tM (by lia) (by lia),ex];have lo':=lo;by_cases i1:i=x
  ·by_cases j1:j=x
   ·rw[MM i1,MM j1];exact N1 _
   ·rw[MM i1,MO j1,MM (by lia)];exact ON (hi (j-1) (by lia) (by lia))
  ·rw[MO i1];by_cases i2:x<i/\i<=t
   ·rw[MM i2,MO (by lia),MM (by lia)];exact hs (i-1) (j-1) (by lia) (by lia)
   ·rw[MO i2];by_cases j1:j=x
    ·rw[MM j1];exact lo i (by lia)
    ·rw[MO j1];by_cases j2:x<j/\j<=t
     ·rw[MM j2];exact hs i (j-1) (by lia) (by lia)
     ·rw[MO j2];exact hs i j a (by lia)
theorem uY(h1:1<=n){Q:Array Nat->Shared->Prop}{s:Shared}(g:Good s)(k:∀p s',POk n p->Good s'->aU κ p n->Q p s'):(kas_sort n).kasWp cmp Q s:=by
 unfold kas_sort;rw[KasT.kasWp_bind];refine rQ hc (p:=List.toArray (List.range n)) ⟨by simp⟩ (MH _) h1 g fun r p' s' hp g' a b c=>?_
 dsimp only;split
 ·have e:max r 1=r:=by lia
  rw[e];exact tN hc (n-r) p' r s' hp g' (by lia) c k
 ·exact k p' s' hp g' (by rw[show n=r by lia];exact c)
end
end NX
namespace NX
open PySem PySem.W PySem.Spec PyProof.Rows L2
section
variable{prog:Program}{w:World}{A:Around}{E:Value->Shared->Prop}{s:Shared}
theorem mL(n:Nat):POk n (List.toArray (List.range n)):=⟨by simp⟩
theorem fD{O:KeyOrd}{key:Nat->O.α}{kd:SortKind}{a:Addr}{vs:List Value}{n:Nat}{P:PySem.Fin->Shared->Prop}(ho:s.heap.get? a=some (seqObj "list" vs.toArray n))(Fw:vs.length<64)
  (D2:2<=vs.length->∀(h':Heap),(∀b o,b≠a->s.heap.get? b=some o->h'.get? b=some o)->∀Q:SortKind->Shared->Prop,Q kd {s with heap:=h'}->wpAny (model prog w) A (keyKind' vs.toArray) Q E {s with heap:=h'})
  (F5:∀i j,i<vs.length->j<vs.length->∀(h':Heap),(∀b o,b≠a->s.heap.get? b=some o->h'.get? b=some o)->∀C:Bool->Shared->Prop,C (O.blt (key i) (key j)) {s with heap:=h'}->kas_ask prog w A kd vs i j C {s with heap:=h'})
  (h:∀p h',POk vs.length p->aU key p vs.length->(∃e,h'.get? a=some (seqObj "list" (List.toArray (p.toList.map fun i=>vs.getD i .none)) e))->(∀b o,b≠a->s.heap.get? b=some o->h'.get? b=some o)->P (.done (.ret .none)) {s with heap:=h'}):
  wpAny (model prog w) A (Builtin.«list.sort» ⟨[.ref a],[]⟩) P E s:=by
 rw[list_sort_plain];have la:a<s.heap.objs.size:=MK ho;have zs:vs.toArray.size=vs.length:=by simp
 refine Mx (listItems_at ho rfl (Mx (listUpdate_at ho rfl ?_ (by rw[zs,Nr];lia) (Nq _))));obtain⟨e1,h1⟩:∃e1,(s.heap.update a (Obj.mapSeq fun _=>#[])).get? a=some (seqObj "list" #[] e1):=⟨_,get?_update_seq ho (fun _=>#[])⟩
 refine Mx (seqEpoch_at h1 rfl (Mx (wpAny_newTuple (Mx (QZ (N8 ?_))) (by simp only[Pb];rw[Nr];lia))));generalize e6:((s.heap.update a (Obj.mapSeq fun _=>#[])).push {cls:=.type "tuple",data:=.seq vs.toArray.toList.toArray}).push {cls:=.type "list",data:=.seq ([]:List Value).toArray}=h6;have k6:∀b o,b≠a->s.heap.get? b=some o->h6.get? b=some o:=fun b o nb e=>by
  rw[<-e6];exact MB _ (MB _ ((M9 _ _ (N2 nb)).trans e))
 have JM:h6.get? a=some (seqObj "list" #[] e1):=by
  rw[<-e6];exact MB _ (MB _ h1)
 dsimp only;have fin:∀(p:Array Nat),POk vs.length p->aU key p vs.length->∀out:Array Value,out=List.toArray (p.toList.map fun i=>vs.getD i .none)->
   P (.done (.ret .none)) {s with heap:=h6.update a (Obj.mapSeq fun _=>out)}:=fun p hp hs out eo=>by
  subst eo;exact h p _ hp hs ⟨_,get?_update_seq JM _⟩ fun b o nb e=>(M9 _ _ (N2 nb)).trans (k6 b o nb e)
 have fits:∀{out:Array Value}{p:Array Nat},POk vs.length p->out=List.toArray (p.toList.map fun i=>vs.getD i .none)->out.size<=sizeLine+1:=fun{out p} hp e=>by
  rw[e,MC,MA,hp.perm.length_eq,M8,Nr];lia
 by_cases h2:vs.toArray.size<2
 ·rw[MM h2,MM h2];refine Mx (MD ?_);rw[StateT.run_pure];refine Mx (MD ?_);dsimp only;have eo:(arrOf (SortSt.mk' general' (vs.toArray.zip vs.toArray) #[] 7 none)).map (·.2)=List.toArray ((List.toArray (List.range vs.length)).toList.map fun i=>vs.getD i .none):=by
   show(vs.toArray.zip vs.toArray).map (·.2)=_;apply Array.toList_inj.mp;simp only[Array.toList_map,Array.toList_zip,Pb];have a1:(vs.zip vs).map (·.2)=vs:=by
    rw[List.map_snd_zip];exact MH _
   rw[a1];apply Oq;intro i;by_cases hi:i<vs.length
   ·simp[hi]
   ·simp[hi]
  refine Mx (seqEpoch_at JM rfl (Mx (listUpdate_at JM rfl ?_ (Nq _) (fits (mL _) eo))));simp only[Pu,NR,OP];refine MD (fin _ (mL _) ?_ _ eo);intro i j x y;have:i=j:=by lia
  rw[this];exact N1 _
 ·rw[MO h2,MO h2];have L0:2<=vs.length:=by lia
  refine Mx (D2 L0 h6 k6 _ ?_);refine Mx (Nv (kat_run (ks:=vs) (vs:=vs) (Q:=fun D0 s'=>∃p,POk vs.length p/\aU key p vs.length/\arrOf D0=p.map (kas_item (vs.toArray.zip vs.toArray))/\failedOf D0=none/\s'={s with heap:=h6})
   (G:=fun p s'=>POk vs.length p/\aU key p vs.length/\s'={s with heap:=h6}) rfl L0 Fw (fun p D0 s' hz Le hf hg=>⟨p,hg.1,hg.2.1,Le,hf,hg.2.2⟩)
   (uY (n:=vs.length) (O:=O) (κ:=key) (Good:=fun s'=>s'={s with heap:=h6}) (fun i j hi hj Q s' g k=>?_) (by lia) rfl fun p s' hp g hs=>⟨hp,hs,g⟩)) (fun r s' hq=>?_) fun _ _ e=>e)
  ·subst g;exact F5 i j hi hj h6 k6 Q (k _ rfl)
  ·obtain⟨p,hp,hs,Le,hf,rfl⟩:=hq;have eo:=kat_snds (ks:=vs) (vs:=vs) rfl Le;refine Mx (seqEpoch_at JM rfl (Mx (listUpdate_at JM rfl ?_ (Nq _) (fits hp eo))));rw[hf];simp only[Pu,NR,OP];exact MD (fin p hp hs _ eo)
theorem fX{O:KeyOrd}{key:Nat->O.α}{kd:SortKind}{l:Addr}{vs:List Value}{Q:Value->Shared->Prop}(hl:s.heap.IsList l vs.toArray)(Fw:vs.length<64)
  (D2:2<=vs.length->∀(A':Around) (E':Value->Shared->Prop) (h':Heap),(∀b o,s.heap.get? b=some o->h'.get? b=some o)->∀Q:SortKind->Shared->Prop,Q kd {s with heap:=h'}->wpAny (model prog w) A' (keyKind' vs.toArray) Q E' {s with heap:=h'})
  (F5:∀i j,i<vs.length->j<vs.length->∀(h':Heap),(∀b o,s.heap.get? b=some o->h'.get? b=some o)->∀C:Bool->Shared->Prop,C (O.blt (key i) (key j)) {s with heap:=h'}->kas_ask prog w A.in1.in1 kd vs i j C {s with heap:=h'})
  (h:∀p h' e,POk vs.length p->aU key p vs.length->h'.get? (s.heap.objs.size+1)=some (seqObj "list" (List.toArray (p.toList.map fun i=>vs.getD i .none)) e)->(∀b o,s.heap.get? b=some o->h'.get? b=some o)->Q (.ref (s.heap.objs.size+1)) {s with heap:=h'}):
  wpAny (model prog w) A (call (.builtin "sorted") [.ref l]) Q E s:=by
 refine Ou kind_sorted plain_sorted entry_sorted (args_sorted1 _) ?_;unfold Builtin.«sorted»;refine Mx (m:=checkCount "sorted" 1 1 _) (MD (Mx (collect_list hl (Mx (QZ ?_ (by rw[Nr];lia))) (by rw[Nr];lia))));have zz:((s.heap.push (seqObj "list" #[] 0)).update s.heap.objs.size (Obj.mapSeq (·++vs.toArray))).objs.size=s.heap.objs.size+1:=by rw[Heap.size_update,size_push']
 generalize e5:(s.heap.push (seqObj "list" #[] 0)).update s.heap.objs.size (Obj.mapSeq (·++vs.toArray))=h5 at zz ⊢;have k5:∀b o,s.heap.get? b=some o->(h5.push (seqObj "list" vs.toArray 0)).get? b=some o:=fun b o e=>by
  rw[<-e5];exact MB _ ((M9 _ _ (N2 (MT (MK e)))).trans (MB _ e))
 have hL:(h5.push (seqObj "list" vs.toArray 0)).get? (s.heap.objs.size+1)=some (seqObj "list" vs.toArray 0):=by
  rw[<-zz];exact MR _ rfl
 have ne:∀b o,s.heap.get? b=some o->b≠s.heap.objs.size+1:=fun b o e=>MT (Px (MK e))
 show wpAny _ _ _ _ _ {s with heap:=h5.push (seqObj "list" vs.toArray 0)};rw[zz];refine Mx (N8 (N4 slot_list_sort ⟨_,hL,rfl⟩ entry_list_sort (fD (key:=key) (kd:=kd) hL Fw (fun h2 h' kk Q' q=>D2 h2 _ _ h' (fun b o e=>kk b o (ne b o e) (k5 b o e)) Q' q)
  (fun i j hi hj h' kk C q=>F5 i j hi hj h' (fun b o e=>kk b o (ne b o e) (k5 b o e)) C q) fun p h' hp hs ⟨e,he⟩ kk=>⟨_,rfl,?_⟩) (args_list_sort _)))
 exact MD ⟨_,rfl,h p h' e hp hs he fun b o q=>kk b o (ne b o q) (k5 b o q)⟩
end
def intO:KeyOrd where
 α:=Int
 blt a b:=decide (a<b)
 irrefl a:=by simp
 trans a b c h1 h2:=by simp only[ME] at *;lia
 negTrans a b c h:=by simp only[ME] at *;lia
 total a b h1 h2:=by simp only[Np] at *;lia
abbrev AB:KeyOrd:=strKind.toKeyOrd
noncomputable def mM:KeyOrd where
 α:=Key
 blt a b:=match a,b with
  | .inl i,.inl j=>decide (i<j)
  | .inr x,.inr y=>decide (x.cps.toList<y.cps.toList)
  | .inl _,.inr _=>true
  | .inr _,.inl _=>false
 irrefl a:=by
  cases a with
  |inl i=>simp
  |inr x=>simpa using List.lt_irrefl x.cps.toList
 trans a b c h1 h2:=by
  cases a <;> cases b <;> cases c <;> simp_all
  ·lia
  ·exact List.lt_trans h1 h2
 negTrans a b c h:=by
  cases a <;> cases b <;> cases c <;> simp_all
  ·lia
  ·rename_i x y z;by_cases q:x.cps.toList<y.cps.toList
   ·exact .inl q
   ·exact .inr (List.lt_of_le_of_lt (PM.mp q) h)
 total a b h1 h2:=by
  cases a <;> cases b <;> simp_all
  ·lia
  ·rename_i x y;have e:x.cps.toList=y.cps.toList:=List.le_antisymm (by first|exact h2|exact PM.mp h2) (by first|exact h1|exact PM.mp h1);rw[<-ky x,<-ky y,e]
def cP:List Key->List Key->Bool
 |[],[]=>false
 |[],_::_=>true
 |_::_,[]=>false
 |a::r,b::t=>if a=b then cP r t else mM.blt a b
theorem eZ:∀a:List Key,cP a a=false
 |[]=>rfl
 |a::r=>by
  show(if a=a then cP r r else _)=false;rw[MM rfl];exact eZ r
theorem uZ{a b:Key}(h:mM.blt a b=true):a≠b:=by
 rintro rfl;have:=mM.irrefl a;rw[h]at this;cases this
theorem eC:∀a b c:List Key,cP a b=true->cP b c=true->cP a c=true
 |[],[],_,h,_=>by cases h
 |[],_::_,[],_,h=>by cases h
 |[],_::_,_::_,_,_=>rfl
 |_::_,[],_,h,_=>by cases h
 |_::_,_::_,[],_,h=>by cases h
 |a::r,b::t,c::u,h1,h2=>by
  have h1:(if a=b then cP r t else mM.blt a b)=true:=h1;have h2:(if b=c then cP t u else mM.blt b c)=true:=h2;show(if a=c then cP r u else mM.blt a c)=true;by_cases e1:a=b
  ·by_cases e2:b=c
   ·rw[MM e1]at h1;rw[MM e2]at h2;rw[MM (e1.trans e2)];exact eC r t u h1 h2
   ·rw[MO e2]at h2;rw[e1,MO e2];exact h2
  ·rw[MO e1]at h1;by_cases e2:b=c
   ·rw[<-e2,MO e1];exact h1
   ·rw[MO e2]at h2;have h3:=mM.trans a b c h1 h2;rw[MO (uZ h3)];exact h3
theorem eD:∀a b:List Key,cP a b=false->cP b a=false->a=b
 |[],[],_,_=>rfl
 |[],_::_,h,_=>by cases h
 |_::_,[],_,h=>by cases h
 |a::r,b::t,h1,h2=>by
  have h1:(if a=b then cP r t else mM.blt a b)=false:=h1;have h2:(if b=a then cP t r else mM.blt b a)=false:=h2;by_cases e:a=b
  ·rw[MM e]at h1;rw[MM e.symm]at h2;rw[e,eD r t h1 h2]
  ·rw[MO e]at h1;rw[MO (N2 e)]at h2;exact absurd (mM.total a b h1 h2) e
theorem rR(a b c:List Key)(h:cP a c=true):cP a b=true\/cP b c=true:=by
 cases e:cP a b with
 |true=>exact .inl rfl
 |false=>
  refine .inr ?_;cases e2:cP b a with
  |true=>exact eC b a c e2 h
  |false=>
   rw[<-eD a b e e2];exact h
def zf:KeyOrd where
 α:=List Key
 blt:=cP
 irrefl:=eZ
 trans:=eC
 negTrans:=rR
 total:=eD
section
variable{O:KeyOrd}
def n9(p:Array Nat)(xs:List V):List V:=p.toList.map fun i=>xs.getD i .non
theorem iK{α:Type}(xs:List α)(d:α):((List.range xs.length).map fun i=>xs.getD i d)=xs:=by
 apply Oq;intro i;by_cases hi:i<xs.length
 ·simp[hi]
 ·simp[hi]
theorem gU{α:Type}{p:Array Nat}{xs:List α}(d:α)(hp:POk xs.length p):(p.toList.map fun i=>xs.getD i d).Perm xs:=by
 have:=hp.perm.map (fun i=>xs.getD i d)
 rwa [iK]at this
theorem eE{α:Type}{p:Array Nat}{xs:List α}(d:α)(key:α->O.α)(hp:POk xs.length p)(hs:aU (O:=O) (fun i=>key (xs.getD i d)) p xs.length):(p.toList.map fun i=>xs.getD i d).Pairwise fun a b=>O.kle (key a) (key b):=by
 rw[List.pairwise_iff_getElem];intro i j hi hj EG;have hsz:=hp.size;have E3:i<p.size:=by simpa using hi
 have Im:j<p.size:=by simpa using hj
 have h:=hs i j (Qe EG) (by lia);unfold kk at h;simp only[List.getElem_map,Array.getElem_toList];have e1:p.getD i 0=p[i]:=by simp[Array.getD,E3]
 have e2:p.getD j 0=p[j]:=by simp[Array.getD,Im]
 rw[e1,e2]at h;exact h
theorem vals_pick{xs:List V}{us:List Value}(r:Vals xs us):∀l:List Nat,(∀i∈l,i<xs.length)->Vals (l.map fun i=>xs.getD i .non) (l.map fun i=>us.getD i .none)
 |[],_=>.nil
 |i::l,h=>by
  refine .cons ?_ (vals_pick r l fun j hj=>h j (MJ _ hj));have hi:=h i My;have e1:xs[i]?=some (xs.getD i .non):=by rw[bg _ _ _ hi];exact Mz hi
  obtain⟨u,hu,ru⟩:=r.get e1;have e2:us.getD i .none=u:=by rw[MQ,hu];rfl
  show L2.RelV (xs.getD i .non) (us.getD i .none);rw[e2];exact ru
theorem gW{xs:List V}{us:List Value}{p:Array Nat}(r:Vals xs us)(hp:POk xs.length p):Vals (n9 p xs) (p.toList.map fun i=>us.getD i .none):=
 vals_pick r _ fun i hi=>Nx.mp (hp.perm.mem_iff.mp hi)
end
section
variable{X:Cx}
theorem fE{pr:List (Addr×Obj)}{s:Shared}{σ:L2.St}{H:Hp}{h':Heap}{ys:List V}{us:List Value}{e:Nat}{D:Addr}(I:Inv X pr σ H s)(kk:∀b o,s.heap.get? b=some o->h'.get? b=some o)(hD:s.heap.objs.size<=D)
  (ho:h'.get? D=some (seqObj "list" (List.toArray us) e)) (r:Vals ys us) (hz:ys.length<=sizeLine):Inv X pr σ (upd H D (.lst ys)) {s with heap:=h'}:=
 I.laid (t':=s.toks) kk hD ⟨hz,us,e,r,ho⟩
theorem gN(hc:X.calm=true):cX X (.builtin "sorted") (fun vs H Q=>∃(p:Addr) (ns:List Int),vs=[.ref p]/\SqL X.K H p (ns.map V.int)/\ns.length<64/\∀(D:Addr) (ms:List Int),H D=none->ms.Perm ns->ms.Pairwise (·<=·)->Q (.ref D) (upd H D (.lst (ms.map V.int)))):=by
 intro pr s σ H vs us Q I r h;obtain⟨p,ns,rfl,hp,Fw,q⟩:=h;obtain⟨u,rfl,r1⟩:=gL r;cases r1;obtain⟨ws,rv,pl,hz⟩:=I.list hp;have hl:=rv.length;rw[MA]at hl;have isI:∀v∈ws,∃n t,v=.int n t:=fun v hv=>by
  obtain⟨i,hi⟩:=Ol.mp hv;obtain⟨t,e⟩:=eY rv hi;exact⟨_,t,e⟩
 refine fX (O:=intO) (key:=fun i=>ns.getD i 0) (kd:=oneType') pl.isList (by lia) (fun h2 A' E' h' kk Q' q'=>?_) (fun i j hi hj h' kk C q'=>?_) fun pp h' e DP hs he kk=>?_
 ·refine kas_kind h2 (T:=.type "int") (fun v hv=>?_) (by decide) (by decide) q';obtain⟨n,t,rfl⟩:=isI v hv;exact fun A Q E s _ q=>OA (O8 s n t) q
 ·unfold kas_ask;have e1:ws[i]?=some (ws.getD i .none):=by rw[bg _ _ _ hi];exact Mz hi
  have e2:ws[j]?=some (ws.getD j .none):=by rw[bg _ _ _ hj];exact Mz hj
  obtain⟨t,Lf⟩:=eY rv e1;obtain⟨t',Lg⟩:=eY rv e2;rw[Lf,Lg];exact kat_lt_int q'
 ·rw[<-hl]at DP hs;have Io:POk (ns.map V.int).length pp:=by rw[MA];exact DP
  have eo:n9 pp (ns.map V.int)=(pp.toList.map fun i=>ns.getD i 0).map V.int:=by
   unfold n9;rw[Ni];refine NN fun i hi=>?_
   have hi:=Nx.mp (DP.perm.mem_iff.mp hi);show(ns.map V.int).getD i .non=V.int (ns.getD i 0);rw[bg _ _ _ (by rw[MA];exact hi),bg _ _ _ hi];simp
  have hn:H (s.heap.objs.size+1)=none:=I.hok.fresh (Oy _);refine⟨.ref (s.heap.objs.size+1),_,fE I kk (Oy _) he (gW rv Io) ?_,rfl,?_⟩
  ·show(n9 pp (ns.map V.int)).length<=sizeLine;rw[eo,MA,MA,DP.perm.length_eq,M8,Nr];lia
  ·rw[eo];refine q _ _ hn (gU 0 DP) ?_;have:=eE (O:=intO) 0 (fun i:Int=>i) DP hs;refine this.imp fun{a b} HQ=>?_
   have HQ:decide (b<a)=false:=HQ;have:=Q0 HQ;lia
theorem lU{ls:List (List Nat)}{us:List Value}(r:Vals (ls.map fun l=>V.str (S l)) us){i:Nat}{v:Value}(h:us[i]?=some v):∃t,v=.str (S (ls.getD i [])) t:=by
 have hl:=r.length;rw[MA]at hl;obtain⟨hi,_⟩:=MF.mp h;have e1:(ls.map fun l=>V.str (S l))[i]?=some (.str (S (ls.getD i []))):=by
  rw[Nh,Mz (by lia),bg _ _ _ (by lia)];rfl
 obtain⟨u,hu,t,rfl⟩:=r.get e1;rw[h]at hu;exact⟨t,Na hu⟩
theorem gO(hc:X.calm=true):cX X (.builtin "sorted") (fun vs H Q=>∃(p:Addr) (ls:List (List Nat)),vs=[.ref p]/\SqL X.K H p (ls.map fun l=>V.str (S l))/\ls.length<64/\∀(D:Addr) (ms:List (List Nat)),H D=none->ms.Perm ls->ms.Pairwise (fun a b=>¬ b<a)->Q (.ref D) (upd H D (.lst (ms.map fun l=>V.str (S l))))):=by
 intro pr s σ H vs us Q I r h;obtain⟨p,ls,rfl,hp,Fw,q⟩:=h;obtain⟨u,rfl,r1⟩:=gL r;cases r1;obtain⟨ws,rv,pl,hz⟩:=I.list hp;have hl:=rv.length;rw[MA]at hl;refine fX (O:=AB) (key:=fun i=>ls.getD i []) (kd:=oneType') pl.isList (by lia) (fun h2 A' E' h' kk Q' q'=>?_) (fun i j hi hj h' kk C q'=>?_) fun pp h' e DP hs he kk=>?_
 ·refine kas_kind h2 (T:=.type "str") (fun v hv=>?_) (by decide) (by decide) q';obtain⟨i,hi⟩:=Ol.mp hv;obtain⟨t,rfl⟩:=lU rv hi;exact fun A Q E s _ q=>OA (Qt s _ t) q
 ·unfold kas_ask;have e1:ws[i]?=some (ws.getD i .none):=by rw[bg _ _ _ hi];exact Mz hi
  have e2:ws[j]?=some (ws.getD j .none):=by rw[bg _ _ _ hj];exact Mz hj
  obtain⟨t,Lf⟩:=lU rv e1;obtain⟨t',Lg⟩:=lU rv e2;rw[Lf,Lg];refine kas_lt_str ?_;rw[cu,cu];exact q'
 ·rw[<-hl]at DP hs;have Io:POk (ls.map fun l=>V.str (S l)).length pp:=by rw[MA];exact DP
  have eo:n9 pp (ls.map fun l=>V.str (S l))=(pp.toList.map fun i=>ls.getD i []).map fun l=>V.str (S l):=by
   unfold n9;rw[Ni];refine NN fun i hi=>?_
   have hi:=Nx.mp (DP.perm.mem_iff.mp hi);show(ls.map fun l=>V.str (S l)).getD i .non=V.str (S (ls.getD i []));rw[bg _ _ _ (by rw[MA];exact hi),bg _ _ _ hi];simp
  have hn:H (s.heap.objs.size+1)=none:=I.hok.fresh (Oy _);refine⟨.ref (s.heap.objs.size+1),_,fE I kk (Oy _) he (gW rv Io) ?_,rfl,?_⟩
  ·show(n9 pp (ls.map fun l=>V.str (S l))).length<=sizeLine;rw[eo,MA,MA,DP.perm.length_eq,M8,Nr];lia
  ·rw[eo];refine q _ _ hn (gU [] DP) ?_;have:=eE (O:=AB) [] (fun l:List Nat=>l) DP hs;refine this.imp fun{a b} HQ=>?_
   have HQ:decide (b<a)=false:=HQ;exact Q0 HQ
end
def kinds(k:List Key):List Bool:=k.map fun x=>x.isLeft
section
variable{prog:Program}{w:World}{A:Around}{s:Shared}
theorem pM(a b:Key):K7 (kV a) (kV b)=decide (a=b):=by
 cases a <;> cases b <;> (rw[MV];simp[kV,K7])
theorem gX(a:Key):rK (kV a)=true:=by cases a <;> rfl
theorem xQ{a b:Key}{u v:Value}{top:Bool}{Q:Bool->Shared->Prop}(ra:L2.RelV (kV a) u)(rb:L2.RelV (kV b) v)(hk:a.isLeft=b.isLeft)(q:Q (mM.blt a b) s):wpAny (model prog w) A (oneLt' top u v) Q (fun _ _=>False) s:=by
 cases a with
 |inl i=>
  cases b with
  |inr _=>cases hk
  |inl j=>
   obtain⟨t,rfl⟩:=ra;obtain⟨t',rfl⟩:=rb;cases top with
   |true=>exact kat_lt_int (E:=fun _ _=>False) q
   |false=>exact kat_one _ _ (lt_int q)
 |inr x=>
  cases b with
  |inl _=>cases hk
  |inr y=>
   obtain⟨t,rfl⟩:=ra;obtain⟨t',rfl⟩:=rb;cases top with
   |true=>exact oneLt_str q
   |false=>exact kat_one _ _ (lt_str q)
theorem hU{Q:Bool->Shared->Prop}:∀(k1 k2:List Key) (us ws:List Value) (i:Nat),Vals (k1.map kV) us->Vals (k2.map kV) ws->kinds k1=kinds k2->Q (cP k1 k2) s->KatLex prog w A true false Q (us.zip ws) i s
 |[],[],_,_,_,.nil,.nil,_,q=>q
 |[],_::_,_,_,_,_,_,h,_=>by cases h
 |_::_,[],_,_,_,_,_,h,_=>by cases h
 |a::r,b::t,u::us,v::ws,i,.cons ru rus,.cons rv rvs,h,q=>by
  have h1:a.isLeft=b.isLeft:=(O6 h).1;have h2:kinds r=kinds t:=(O6 h).2;have q:Q (if a=b then cP r t else mM.blt a b) s:=q;refine kat_cons (tH (A:=A) (s:=s) ru rv (gX a) (gX b) prog w _ _ ?_);rw[pM];by_cases e:a=b
  ·rw[MM e]at q;rw[M6 e];exact kat_yes (hU r t us ws (i+1) rus rvs h2 q)
  ·rw[MO e]at q;rw[MZ e];exact kat_no (xQ ru rv h1 q)
end
section
variable{X:Cx}{pr:List (Addr×Obj)}{σ:L2.St}{H:Hp}{s:Shared}
theorem tup_at(I:Inv X pr σ H s){a:Addr}{xs:List V}(h:SqT X.K H a xs):∃(us:List Value) (o:Obj) (n:Nat),Vals xs us/\s.heap.get? a=some o/\o.cls=.type "tuple"/\o.data=.seq us.toArray n:=by
 obtain⟨us,r,pl,_⟩:=I.tuple h;obtain⟨o,ho,oc,n,od⟩:=pl;exact⟨us,o,n,r,ho,oc,od⟩
theorem jz{al:List (Addr×List Key)}{us:List Value}(r:Vals (al.map fun a=>V.ref a.1) us){i:Nat}(h:i<al.length):us.getD i .none=.ref (al.getD i (0,[])).1:=by
 have e1:(al.map fun a=>V.ref a.1)[i]?=some (.ref (al.getD i (0,[])).1):=by
  rw[Nh,Mz h,bg _ _ _ h];rfl
 obtain⟨u,hu,ru⟩:=r.get e1;rw[MQ,hu];exact ru
theorem mO{al:List (Addr×List Key)}{us:List Value}{h':Heap}(I:Inv X pr σ H s)(kk:∀b o,s.heap.get? b=some o->h'.get? b=some o)(top:Bool):
  (r:Vals (al.map fun a=>V.ref a.1) us)->(∀a∈al,SqT X.K H a.1 (a.2.map kV)/\∃t,kinds a.2=top::t)->∃fs:List Value,KatTups h' us fs/\fs.length=al.length/\∀v∈fs,∀M:Model,Looks M h' (typeOf v) (.type (if top then "int" else "str")):=by
 induction al generalizing us with
 |nil=>
  intro r _;cases r;exact⟨[],trivial,rfl,fun v hv=>by cases hv⟩
 |cons a al ih=>
  intro r h;cases r with
  |cons ra rs=>
   cases ra;obtain⟨fs,t1,t2,t3⟩:=ih rs fun b hb=>h b (MJ _ hb)
   obtain⟨ha,kt,hk⟩:=h a My;obtain⟨ws,o,n,rv,ho,oc,od⟩:=tup_at I ha;cases e2:a.2 with
   |nil=>rw[e2]at hk;cases hk
   |cons k ks=>
    rw[e2]at rv hk;have L1:k.isLeft=top:=(O6 hk).1;cases rv with
    | @cons _ f _ fr rf rfs=>
     refine⟨f::fs,KatTups.cons (kk _ _ ho) oc od (by simp) t1,by simp[t2],fun v hv M=>?_⟩;rcases MN.mp hv with rfl|hv
     ·cases k with
      |inl i=>
       obtain⟨t,rfl⟩:=rf;have:top=true:=L1.symm;subst this;exact fun A Q E s _ q=>OA (O8 s _ t) q
      |inr x=>
       obtain⟨t,rfl⟩:=rf;have:top=false:=L1.symm;subst this;exact fun A Q E s _ q=>OA (Qt s _ t) q
     ·exact t3 v hv M
end
section
variable{X:Cx}
theorem gP(hc:X.calm=true):cX X (.builtin "sorted") (fun vs H Q=>∃(p:Addr) (al:List (Addr×List Key)) (top:Bool) (t:List Bool),vs=[.ref p]/\SqL X.K H p (al.map fun a=>V.ref a.1)/\(∀a∈al,SqT X.K H a.1 (a.2.map kV)/\kinds a.2=top::t)/\al.length<64/\
  ∀(D:Addr) (ms:List (Addr×List Key)),H D=none->ms.Perm al->ms.Pairwise (fun a b=>cP b.2 a.2=false)->Q (.ref D) (upd H D (.lst (ms.map fun a=>V.ref a.1)))):=by
 intro pr s σ H vs us Q I r h;obtain⟨p,al,top,kt,rfl,hp,CJ,Fw,q⟩:=h;obtain⟨u,rfl,r1⟩:=gL r;cases r1;obtain⟨ws,rv,pl,hz⟩:=I.list hp;have hl:=rv.length;rw[MA]at hl;refine fX (O:=zf) (key:=fun i=>(al.getD i (0,[])).2) (kd:=tuples' true) pl.isList (by lia) (fun h2 A' E' h' kk Q' q'=>?_) (fun i j hi hj h' kk C q'=>?_) fun pp h' e DP hs he kk=>?_
 ·obtain⟨fs,t1,t2,t3⟩:=mO I kk top rv fun a ha=>⟨(CJ a ha).1,kt,(CJ a ha).2⟩
  refine kat_kind (T:=.type (if top then "int" else "str")) t1 (by lia) (fun v hv=>t3 v hv _) (by simp) ?_;have:((Value.type (if top then "int" else "str")) != Value.type "tuple")=true:=by cases top <;> decide
  rw[this];exact q'
 ·unfold kas_ask;have E3:i<al.length:=by lia
  have Im:j<al.length:=by lia
  rw[jz rv E3,jz rv Im];have mi:al.getD i (0,[])∈al:=by rw[bg _ _ _ E3];exact NS _
  have mj:al.getD j (0,[])∈al:=by rw[bg _ _ _ Im];exact NS _
  obtain⟨u1,o1,n1,r1,g1,_,d1⟩:=tup_at I (CJ _ mi).1;obtain⟨u2,o2,n2,r2,g2,_,d2⟩:=tup_at I (CJ _ mj).1;have ek:kinds (al.getD i (0,[])).2=kinds (al.getD j (0,[])).2:=by rw[(CJ _ mi).2,(CJ _ mj).2]
  have el:u1.length=u2.length:=by
   have a1:=r1.length;have a2:=r2.length;have a3:=NQ List.length ek;simp only[kinds,MA]at a1 a2 a3;lia
  refine kat_lt (kk _ _ g1) d1 (kk _ _ g2) d2 ?_;have ef:decide (u1.toArray.size<u2.toArray.size)=false:=by simp[el]
  rw[ef];exact hU _ _ _ _ 0 r1 r2 ek q'
 ·rw[<-hl]at DP hs;have Io:POk (al.map fun a=>V.ref a.1).length pp:=by rw[MA];exact DP
  have eo:n9 pp (al.map fun a=>V.ref a.1)=(pp.toList.map fun i=>al.getD i (0,[])).map fun a=>V.ref a.1:=by
   unfold n9;rw[Ni];refine NN fun i hi=>?_
   have hi:=Nx.mp (DP.perm.mem_iff.mp hi);show(al.map fun a=>V.ref a.1).getD i .non=V.ref (al.getD i (0,[])).1;rw[bg _ _ _ (by rw[MA];exact hi),bg _ _ _ hi];simp
  have hn:H (s.heap.objs.size+1)=none:=I.hok.fresh (Oy _);refine⟨.ref (s.heap.objs.size+1),_,fE I kk (Oy _) he (gW rv Io) ?_,rfl,?_⟩
  ·show(n9 pp (al.map fun a=>V.ref a.1)).length<=sizeLine;rw[eo,MA,MA,DP.perm.length_eq,M8,Nr];lia
  ·rw[eo];refine q _ _ hn (gU (0,[]) DP) ?_;exact eE (O:=zf) (0,[]) (fun a:Addr×List Key=>a.2) DP hs
end
end NX
namespace L2
open PySem PySem.Spec PyProof.Rows
section
variable{κ:Type}[DecidableEq κ]
def kE(BV:List (κ×V))(k:κ):Option V:=(BV.find? fun kv=>decide (kv.1=k)).map (·.2)
def iL(BV:List (κ×V))(k:κ)(v:V):List (κ×V):=
 if(BV.any fun kv=>decide (kv.1=k))=true then BV.map (fun kv=>if kv.1=k then(kv.1,v) else kv) else BV++[(k,v)]
theorem jA{p:κ×V}{r:List (κ×V)}{k:κ}(e:p.1=k):kE (p::r) k=some p.2:=by simp[kE,Om,e]
theorem jB{p:κ×V}{r:List (κ×V)}{k:κ}(e:¬ p.1=k):kE (p::r) k=kE r k:=by simp[kE,Om,e]
theorem mP(k:κ):∀BV:List (κ×V),(BV.any fun kv=>decide (kv.1=k))=(kE BV k).isSome
 |[]=>rfl
 |p::r=>by
  rw[Q1];by_cases e:p.1=k
  ·simp only[jA e,M6 e,Bool.true_or,Option.isSome_some]
  ·rw[jB e,MZ e,Bool.false_or];exact mP k r
theorem hV(BV:List (κ×V))(k:κ)(v:V):(iL BV k v).length<=BV.length+1:=by
 unfold iL;split
 ·rw[MA];lia
 ·rw[Nt,MY,Qk];lia
theorem RelO.isSome_eq{o:Option V}{u:Option Value}(r:RelO o u):o.isSome=u.isSome:=by
 cases o with
 |none=>cases u with
  |none=>rfl
  |some _=>exact(show False from r).elim
 |some _=>cases u with
  |none=>exact(show False from r).elim
  |some _=>rfl
theorem RelO.getD{o:Option V}{u:Option Value}{d:V}{d':Value}(r:RelO o u)(rd:RelV d d'):RelV (o.getD d) (u.getD d'):=by
 cases o with
 |none=>cases u with
  |none=>exact rd
  |some _=>exact(show False from r).elim
 |some _=>cases u with
  |none=>exact(show False from r).elim
  |some _=>exact r
theorem KV.val{BV:List (κ×V)}{vs:List (κ×Value)}(r:KV BV vs)(k:κ):RelO (kE BV k) (valueAt vs k):=by
 unfold KV at r;induction r with
 |nil=>exact True.intro
 | @cons p q ps qs h t ih=>
  obtain⟨h1,h2⟩:=h;by_cases e:p.1=k
  ·have e':q.1=k:=h1.symm.trans e;have b:valueAt (q::qs) k=some q.2:=by simp[valueAt,Om,e']
   rw[jA e,b];exact h2
  ·have e':¬ q.1=k:=fun z=>e (h1.trans z)
   have b:valueAt (q::qs) k=valueAt qs k:=by simp[valueAt,Om,e']
   rw[jB e,b];exact ih
theorem KV.any{BV:List (κ×V)}{vs:List (κ×Value)}(r:KV BV vs)(k:κ):(BV.any fun kv=>decide (kv.1=k))=vs.any fun kv=>decide (kv.1=k):=by
 unfold KV at r;induction r with
 |nil=>rfl
 |cons h t ih=>rw[Q1,Q1,ih,h.1]
theorem KV.repl{BV:List (κ×V)}{vs:List (κ×Value)}(r:KV BV vs)(k:κ){y:V}{u:Value}(ry:RelV y u):
  KV (BV.map fun kv=>if kv.1=k then(kv.1,y) else kv) (vs.map fun kv=>if kv.1=k then(kv.1,u) else kv):=by
 unfold KV at r ⊢;induction r with
 |nil=>exact .nil
 | @cons p q ps qs h t ih=>
  rw[MS,MS];refine .cons ?_ ih;obtain⟨h1,h2⟩:=h;by_cases e:p.1=k
  ·rw[MM e,MM (h1.symm.trans e)];exact⟨h1,ry⟩
  ·rw[MO e,MO (fun z=>e (h1.trans z))];exact⟨h1,h2⟩
theorem KV.put{BV:List (κ×V)}{vs:List (κ×Value)}(r:KV BV vs)(k:κ){y:V}{u:Value}(ry:RelV y u):KV (iL BV k y) (stored vs k u):=by
 unfold iL stored;rw[r.any k];by_cases e:(vs.any fun kv=>decide (kv.1=k))=true
 ·rw[MM e,MM e];exact r.repl k ry
 ·rw[MO e,MO e];exact Paired.snoc r ⟨rfl,ry⟩
theorem KV.length{BV:List (κ×V)}{vs:List (κ×Value)}(r:KV BV vs):BV.length=vs.length:=O5 r
end
theorem kV_is{P:Program}{w:World}{k:Key}{u:Value}(r:RelV (kV k) u):(mixKind P w).is k u=true:=by
 cases k with
 |inl i=>obtain⟨t,e⟩:=(show ∃t,u=Value.int i t from r);subst e;exact lP P w i t
 |inr x=>obtain⟨t,e⟩:=(show ∃t,u=Value.str x t from r);subst e;exact lQ P w x t
theorem kF{P:Program}{w:World}:∀{ks:List Key}{us:List Value},Vals (ks.map kV) us->ItemsAre (mixKind P w) ks us
 |[],_,r=>by rw[NJ]at r;cases r;exact .nil
 |k::ks,_,r=>by
  rw[MS]at r;cases r with
  |cons h t=>exact .cons (kV_is h) (kF t)
abbrev KT(H:Hp):List (List Key×V)->List (List Key×Addr×Value)->Prop:=Paired fun p q=>p.1=q.1/\H q.2.1=some (.tup (p.1.map kV))/\RelV p.2 q.2.2
theorem KT.val{H:Hp}{BV:List (List Key×V)}{xs:List (List Key×Addr×Value)}(r:KT H BV xs)(k:List Key):RelO (kE BV k) ((atKey xs k).map (·.2)):=by
 induction r with
 |nil=>exact True.intro
 | @cons p q ps qs h t ih=>
  obtain⟨h1,_,h2⟩:=h;by_cases e:p.1=k
  ·have e':q.1=k:=h1.symm.trans e;have b:atKey (q::qs) k=some q.2:=by simp[atKey,Om,e']
   rw[jA e,b];exact h2
  ·have e':¬ q.1=k:=fun z=>e (h1.trans z)
   have b:atKey (q::qs) k=atKey qs k:=by simp[atKey,Om,e']
   rw[jB e,b];exact ih
theorem KT.repl{H:Hp}{BV:List (List Key×V)}{xs:List (List Key×Addr×Value)}(r:KT H BV xs)(k:List Key){y:V}{u:Value}(ry:RelV y u):
  KT H (BV.map fun kv=>if kv.1=k then(kv.1,y) else kv) (xs.map (putAt k u)):=by
 induction r with
 |nil=>exact .nil
 | @cons p q ps qs h t ih=>
  rw[MS,MS];refine .cons ?_ ih;obtain⟨h1,h2,h3⟩:=h;unfold putAt;by_cases e:p.1=k
  ·rw[MM e,MM (h1.symm.trans e)];exact⟨h1,h2,ry⟩
  ·rw[MO e,MO (fun z=>e (h1.trans z))];exact⟨h1,h2,h3⟩
theorem KT.put{H:Hp}{BV:List (List Key×V)}{xs:List (List Key×Addr×Value)}(r:KT H BV xs)(k:List Key){b:Addr}{y:V}{u:Value}(hb:H b=some (.tup (k.map kV)))(ry:RelV y u):
  KT H (iL BV k y) (storedH xs k b u):=by
 have e:(BV.any fun kv=>decide (kv.1=k))=(atKey xs k).isSome:=by
  rw[mP,(r.val k).isSome_eq,Py]
 unfold iL storedH;rw[e];by_cases q:(atKey xs k).isSome=true
 ·rw[MM q,MM q];exact r.repl k ry
 ·rw[MO q,MO q];exact Paired.snoc r ⟨rfl,hb,ry⟩
theorem KT.keeps{H H':Hp}{BV:List (List Key×V)}{xs:List (List Key×Addr×Value)}(r:KT H BV xs)(ht:∀b ys,H b=some (.tup ys)->H' b=some (.tup ys)):KT H' BV xs:=
 Paired.mapP r fun _ _ z=>⟨z.1,ht _ _ z.2.1,z.2.2⟩
section
variable{P:Program}{w:World}{H:Hp}{h:Heap}{a:Addr}
theorem xR{u:HO}(ok:HOk P w H h)(e:Rd H a u):ObjOk P w H h a u:=e.ok ok
theorem u4{BV:List (Key×V)}(ok:HOk P w H h)(e:Rd H a (.dK BV)):BV.length<=sizeLine/\(a==sysModules)=false/\∃vs,KV BV vs/\h.DictOf (mixKind P w) a vs:=
 show ObjOk P w H h a (.dK BV) from xR ok e
theorem zR{BV:List (Key×V)}(ok:HOk P w H h)(e:H a=some (.dK BV)):BV.length<=sizeLine/\(a==sysModules)=false/\∃vs,KV BV vs/\h.DictOf (mixKind P w) a vs:=u4 ok (.inl e)
theorem mQ{ks:List Key}(ok:HOk P w H h)(e:H a=some (.tup (ks.map kV))):(tupleKind (mixKind P w)).is h ks a:=by
 obtain⟨_,BR,r,o,h1,h2,⟨n,h3⟩,_⟩:=(show ObjOk P w H h a (.tup (ks.map kV)) from ok a _ e)
 exact⟨o,BR.toArray,n,h1,h2,h3,by simpa using kF r⟩
theorem u5{BV:List (List Key×V)}(ok:HOk P w H h)(e:Rd H a (.dT BV)):BV.length<=sizeLine/\(a==sysModules)=false/\
  ∃xs,KT H BV xs/\h.DictOfH (tupleKind (mixKind P w)) a xs:=by
 obtain⟨z,y,xs,r,o,es,ep,h1,h2,h3,h4,h5⟩:=(show ObjOk P w H h a (.dT BV) from xR ok e)
 refine⟨z,y,xs,r,o,es,ep,h1,h2,h3,h4,fun x hx=>?_,h5⟩;have all:∀{l:List (List Key×V)}{m:List (List Key×Addr×Value)},KT H l m->∀x∈m,(tupleKind (mixKind P w)).is h x.1 x.2.1:=by
  intro l m q;induction q with
  |nil=>intro x hx;exact nomatch hx
  | @cons p q ps qs hq t ih=>
   intro x hx;rcases MN.mp hx with e|hx
   ·subst e;exact mQ ok (by rw[<-hq.1];exact hq.2.1)
   ·exact ih x hx
 exact all r x hx
theorem zS{BV:List (List Key×V)}(ok:HOk P w H h)(e:H a=some (.dT BV)):BV.length<=sizeLine/\(a==sysModules)=false/\
  ∃xs,KT H BV xs/\h.DictOfH (tupleKind (mixKind P w)) a xs:=u5 ok (.inl e)
end
def DGet(H:Hp)(a:Addr)(y:V)(r:Option V):Prop:=
 (∃BV k,Rd H a (.dK BV)/\y=kV k/\r=kE BV k)\/∃BV k b,Rd H a (.dT BV)/\y=.ref b/\H b=some (.tup (k.map kV))/\r=kE BV k
def DPut(H:Hp)(a:Addr)(y v:V)(H':Hp):Prop:=
 (∃BV k,H a=some (.dK BV)/\y=kV k/\BV.length<sizeLine/\H'=upd H a (.dK (iL BV k v)))\/
 ∃BV k b,H a=some (.dT BV)/\y=.ref b/\H b=some (.tup (k.map kV))/\BV.length<sizeLine/\H'=upd H a (.dT (iL BV k v))
theorem DGet.k{H:Hp}{a:Addr}{BV:List (Key×V)}{k:Key}(e:H a=some (.dK BV)):DGet H a (kV k) (kE BV k):=.inl ⟨BV,k,.inl e,rfl,rfl⟩
theorem DGet.t{H:Hp}{a b:Addr}{BV:List (List Key×V)}{k:List Key}(e:H a=some (.dT BV))(eb:H b=some (.tup (k.map kV))):DGet H a (.ref b) (kE BV k):=.inr ⟨BV,k,b,.inl e,rfl,eb,rfl⟩
theorem DPut.k{H:Hp}{a:Addr}{BV:List (Key×V)}{k:Key}{v:V}(e:H a=some (.dK BV))(hl:BV.length<sizeLine):DPut H a (kV k) v (upd H a (.dK (iL BV k v))):=.inl ⟨BV,k,e,rfl,hl,rfl⟩
theorem DPut.t{H:Hp}{a b:Addr}{BV:List (List Key×V)}{k:List Key}{v:V}(e:H a=some (.dT BV))(eb:H b=some (.tup (k.map kV)))(hl:BV.length<sizeLine):
  DPut H a (.ref b) v (upd H a (.dT (iL BV k v))):=.inr ⟨BV,k,b,e,rfl,eb,hl,rfl⟩
section
variable{X:Cx}{pr:List (Addr×Obj)}{σ:St}{H:Hp}{s:Shared}{a:Addr}{y v:V}{u r:Value}{o:Option V}{A:Around}{E:Value->Shared->Prop}
theorem Inv.big(I:Inv X pr σ H s):sysModules<s.heap.objs.size:=by
 have h:mainGlobals<s.heap.objs.size:=(I.mod.glob.keeps I.bk).lt;exact Nat.lt_trans (by decide) h
theorem Bl{Q:Value->Shared->Prop}(hu:A.units+1<cLine)(I:Inv X pr σ H s)(g:DGet H a y o)(ry:RelV y u)(h:∀s',Inv X pr σ H s'->Q (.bool o.isSome) s'):
  wpAny (model X.prog X.w) A (compareOp .In u (.ref a)) Q E s:=by
 rcases g with⟨BV,k,e,ey,l⟩|⟨BV,k,b,e,ey,eb,l⟩
 ·subst ey;obtain⟨z,hd,vs,rel,dd⟩:=u4 I.hok e;refine wpAny_in_of (kV_is ry) hd dd.mapOf ?_;rw[<-(rel.val k).isSome_eq,<-l];exact h _ (I.tok _)
 ·subst ey;cases(show u=Value.ref b from ry);obtain⟨z,hd,xs,rel,dd⟩:=u5 I.hok e;refine wpAny_in_heap (Pk hu) (mQ I.hok eb) hd dd ?_;have q:=(rel.val k).isSome_eq;rw[Py]at q;rw[<-q,<-l];exact h _ (I.tok _)
theorem u6{Q:Value->Shared->Prop}(hu:A.units+1<cLine)(I:Inv X pr σ H s)(g:DGet H a y o)(ry:RelV y u)(h:∀s',Inv X pr σ H s'->Q (.bool (!o.isSome)) s'):
  wpAny (model X.prog X.w) A (compareOp .NotIn u (.ref a)) Q E s:=by
 rcases g with⟨BV,k,e,ey,l⟩|⟨BV,k,b,e,ey,eb,l⟩
 ·subst ey;obtain⟨z,hd,vs,rel,dd⟩:=u4 I.hok e;refine wpAny_notIn_of (kV_is ry) hd dd.mapOf ?_;rw[<-(rel.val k).isSome_eq,<-l];exact h _ (I.tok _)
 ·subst ey;cases(show u=Value.ref b from ry);obtain⟨z,hd,xs,rel,dd⟩:=u5 I.hok e;refine wpAny_notIn_heap (Pk hu) (mQ I.hok eb) hd dd ?_;have q:=(rel.val k).isSome_eq;rw[Py]at q;rw[<-q,<-l];exact h _ (I.tok _)
theorem pN{h':Heap}{t':Nat}{ob:HO}(I:Inv X pr σ H s)(mu:Jx (H a))(hs:Heap.SameBut a s.heap h')(he:∃q,h'.get? a=some q)(new:ObjOk X.prog X.w (upd H a ob) h' a ob):
  Inv X pr σ (upd H a ob) {s with heap:=h',toks:=t'}:=
 I.write (x:=a) (e:=a) mu (.inl rfl) (fun b q hb z=>(hs.2 b hb).trans z) he new
theorem xS{P:Program}{w:World}{H':Hp}{h':Heap}{BV:List (Key×V)}{vs:List (Key×Value)}(z:BV.length<=sizeLine)(hd:(a==sysModules)=false)(rel:KV BV vs)(dd:h'.DictOf (mixKind P w) a vs):
  ObjOk P w H' h' a (.dK BV):=⟨z,hd,vs,rel,dd⟩
theorem pO{H':Hp}{Q:Unit->Shared->Prop}(hu:A.units+1<cLine)(I:Inv X pr σ H s)(g:DPut H a y v H')(ry:RelV y u)(rv:RelV v r)(h:∀s',Inv X pr σ H' s'->Q () s'):
  wpAny (model X.prog X.w) A (setItem (.ref a) u r) Q E s:=by
 rcases g with⟨BV,k,e,ey,l,eH⟩|⟨BV,k,b,e,ey,eb,l,eH⟩
 ·subst ey eH;obtain⟨z,hd,vs,rel,dd⟩:=zR I.hok e;have hz:vs.length<=sizeLine:=by rw[<-rel.length];exact z
  have hl:(iL BV k v).length<=sizeLine:=by have:=hV BV k v;lia
  refine wpAny_setItem_pairs (hsz:=hz) (kV_is ry) dd fun h' Jl hs=>h _ ?_
  have he:∃q,h'.get? a=some q:=let⟨q,_,_,hq,_⟩:=Jl;⟨q,hq⟩
  exact pN I (by rw[e];exact True.intro) hs he (xS hl hd (rel.put k rv) Jl)
 ·subst ey eH;cases(show u=Value.ref b from ry);obtain⟨z,hd,xs,rel,dd⟩:=zS I.hok e;have hz:xs.length<=sizeLine:=by rw[<-O5 rel];exact z
  have hl:(iL BV k v).length<=sizeLine:=by have:=hV BV k v;lia
  refine wpAny_setItem_heap (hsz:=hz) (Pk hu) (mQ I.hok eb) dd fun h' Jl hs=>h _ ?_
  obtain⟨q,es,ep,hq,h2,h3,h4,_,h5⟩:=Jl;refine pN I (by rw[e];exact True.intro) hs ⟨q,hq⟩ ⟨hl,hd,_,(rel.put k eb rv).keeps fun c ys ec=>?_,q,es,ep,hq,h2,h3,h4,h5⟩;rw[aJ (zk ec e (fun z=>nomatch z))];exact ec
end
section
variable{X:Cx}{pr:List (Addr×Obj)}{σ:St}{H:Hp}{s:Shared}{a:Addr}{BV:List (Key×V)}{k:Key}{u:Value}{A:Around}{E:Value->Shared->Prop}
end
def sDPut(td ty tv:TE):TS:=fun D σ H=>tv σ H fun v H1=>td σ H1 fun x H2=>ty σ H2 fun y H3=>∃a H4,x=.ref a/\DPut H3 a y v H4/\D.nx σ H4
section
variable{X:Cx}{o i e value:Expr}{pos pos' Ib:Pos}{td ty tv:TE}
theorem ve(hu:X.A.units+1<cLine)(ho:PE X o td)(hi:PE X i ty)(hv:PE X value tv)(hs:swapsWith value (some (.Subscript o i pos')) pos.line X.env=pure false):
  PS X (.Assign [.Subscript o i pos'] value pos) (sDPut td ty tv):=by
 intro pr s σ H D I h;refine wpAny_Assign_Subscript (Ci (hv pr s σ H _ I h) fun r s1 ⟨v,H1,I1,rv,q1⟩=>Ci (ho pr s1 σ H1 _ I1 q1) fun u s2 ⟨x,H2,I2,rx,q2⟩=>Ci (hi pr s2 σ H2 _ I2 q2) fun iv s3 ⟨y,H3,I3,ry,a,H4,ex,g,q3⟩=>?_) hs;subst ex;obtain rfl:u=Value.ref a:=rx;exact pO hu I3 g ry rv fun s4 I4=>⟨σ,H4,I4,q3⟩
end
theorem dt_empty{P:Program}{w:World}{H:Hp}(h:Heap)(hb:sysModules<h.objs.size):ObjOk P w H (h.push {cls:=.type "dict",data:=.dict #[]}) h.objs.size (.dT []):=
 ⟨Nq _,Oa.mpr (N2 (MT hb)),[],.nil,_,#[],0,MR _ rfl,⟨rfl,rfl,rfl⟩,rfl,rfl,Ov⟩
def xT:TE:=fun _ H Q=>∀p,H p=none->Q (.ref p) (upd H p (.dT []))
section
variable{X:Cx}{pos:Pos}
theorem rS:PE X (.Dict [] [] pos) xT:=fun pr s σ H Q I h=>
 wpAny_Dict_empty ⟨.ref s.heap.objs.size,_,I.laid (a:=s.heap.objs.size) (o:=.dT []) (t':=s.toks) (fun _ _ q=>MB _ q) (MH _) (dt_empty s.heap I.big),rfl,h _ (I.hok.fresh (MH _))⟩
end
section
variable{X:Cx}{pr:List (Addr×Obj)}{σ:St}{H:Hp}{s:Shared}{a:Addr}{y d:V}{u r:Value}{o:Option V}{A:Around}{E:Value->Shared->Prop}
end
section
variable{X:Cx}{o e f:Expr}{apos Cy:Pos}{td ty tx:TE}
end
section
variable{X:Cx}{pr:List (Addr×Obj)}{σ:St}{H:Hp}{s:Shared}{a:Addr}{BV:List (Key×V)}{A:Around}{E:Value->Shared->Prop}
end
section
variable{X:Cx}{pr:List (Addr×Obj)}{σ:St}{H:Hp}{s:Shared}{a:Addr}{y:V}{u:Value}{A:Around}{E:Value->Shared->Prop}
end
section
variable{κ:Type}[DecidableEq κ]
end
end L2
namespace NX
open PySem PySem.Spec PyProof.Rows L2
def RawD(h:Heap)(d:Addr)(es:Array DictEntry)(ep:Nat):Prop:=∃o,h.get? d=some o/\o.ExactDict/\o.data=.dict es ep
theorem RawD.at{h h':Heap}{d:Addr}{es:Array DictEntry}{ep:Nat}(x:RawD h d es ep)(e:∀o,h.get? d=some o->h'.get? d=some o):RawD h' d es ep:=by
 obtain⟨o,g,r⟩:=x;exact⟨o,e o g,r⟩
section
variable{prog:Program}{w:World}{A:Around}{E:Value->Shared->Prop}{s:Shared}{d it:Addr}{es:Array DictEntry}{ep i:Nat}
theorem gY(x:RawD s.heap d es ep):s.TypeIs (.ref d) "dict":=by
 obtain⟨o,g,ex,_⟩:=x;exact⟨o,g,ex.1⟩
theorem rT{Q:Value->Shared->Prop}(nm:(d==sysModules)=false)(x:RawD s.heap d es ep)
  (q:Q (.ref s.heap.objs.size) {s with heap:=s.heap.push {cls:=.type "dict_keyiterator",data:=.fields #[.ref d,.int 0 0,.int es.size 0,.int ep 0]}}):wpAny (model prog w) A (pyIter (.ref d)) Q E s:=by
 have ty:=gY x;obtain⟨o,g,ex,dat⟩:=x;refine wpAny_pyIter_slot ty F.slot_dict_iter (N4 F.slot_dict_iter ty F.entry_dict_iter (Mx ?_) (F.args_dict_iter_1 _));refine Mx (wpAny_notOrdered_dict ty (MD ?_));show wpAny _ _ (Builtin.Dict.showsAll d >>= fun _=>_) _ _ s;have ns:Builtin.Dict.showsAll d=pure ():=by
  unfold Builtin.Dict.showsAll;rw[nm];rfl
 rw[ns];refine Mx (MD (Mx (OO g dat (Mx (Ql g dat (Mx (NC (MD ⟨_,rfl,"dict_keyiterator",_,⟨_,MR _ rfl,rfl⟩,F.slot_dict_keyiterator_next.lookup,?_⟩))))))));exact q
theorem rV{Q:Option Value->Shared->Prop}{e:DictEntry}(hit:s.heap.IsKeyIter it d i es.size ep)(x:RawD s.heap d es ep)(hx:es[i]?=some e)
  (q:∀h',h'.IsKeyIter it d (i+1) es.size ep->Heap.SameBut it s.heap h'->Q (some e.key) {s with heap:=h'}):wpAny (model prog w) A (pyNext (.ref it)) Q E s:=by
 have ti:=hit.typeIs;obtain⟨o,g,oc,od⟩:=hit;obtain⟨ob,gd,_,dat⟩:=x;have DO:i<es.size:=(Array.getElem?_eq_some_iff.mp hx).1;unfold pyNext;refine Mx (Q2 (NU (name:=Str.ofString "__next__") ti NV (N4 NV ti OZ
  (Mx (MD (Mx (Mx ?_)))) (OT _))))
 refine Mx (NT ti (MD (Mx (wpAny_fieldsOf g od ?_))));have Fq:Builtin.Dict_items.ownsTuple "dict_keyiterator" = false:=by decide
 simp only[Fq,NR,OP];show wpAny _ _ (if(Value.ref d==Value.none)=true then _ else _) _ _ s;have nz:¬ ((Value.ref d==Value.none)=true):=MP;rw[MO nz];refine Mx (MD (Mx (OO gd dat ?_)));rw[MO (by simp)];refine Mx (MD (Mx (Ql gd dat ?_)));rw[MO (by simp)];refine MD ?_;simp only[MO (show ¬ ((i:Int)<0) by lia),Nm,hx];refine Mx (Mx (NT ti (MD (Mx (wpAny_isOneOf_keyiter ti ?_)))));show wpAny _ _ (setField (.ref it) 1 (rawInt ((i:Int)+1)) >>= fun _=>_) _ _ s;refine Mx (wpAny_setField g od (by simp) ?_);have nx:(s.heap.update it (Obj.mapFields fun y=>y.setIfInBounds 1 (rawInt ((i:Int)+1)))).IsKeyIter it d (i+1) es.size ep:=
  ⟨_,OS _ g (Obj.isFreed_of_fields (Obj.data_mapFields od _)),(Obj.cls_mapFields ..).trans oc,(Obj.data_mapFields od _).trans (by simp[rawInt])⟩
 refine Mx (N8 (Mx (wpAny_isOneOf_keyiter (s:={s with heap:=s.heap.update it (Obj.mapFields fun y=>y.setIfInBounds 1 (rawInt ((i:Int)+1)))}) nx.typeIs ?_)));show wpAny _ _ (pure e.key) _ _ _;exact MD (MD ⟨_,rfl,MD (q _ nx (Heap.SameBut.update ..))⟩)
theorem vf{Q:Option Value->Shared->Prop}(hh:A.handled=none)(hit:s.heap.IsKeyIter it d i es.size ep)(x:RawD s.heap d es ep)(hx:es[i]?=none)
  (q:∀h',Heap.ExtBut it s.heap h'->Q none {s with heap:=h'}):wpAny (model prog w) A (pyNext (.ref it)) Q E s:=by
 have ti:=hit.typeIs;obtain⟨o,g,oc,od⟩:=hit;obtain⟨ob,gd,_,dat⟩:=x;unfold pyNext;refine Mx (Q2 (NU (name:=Str.ofString "__next__") ti NV (N4 NV ti OZ
  (Mx (MD (Mx (Mx ?_)))) (OT _))))
 refine Mx (NT ti (MD (Mx (wpAny_fieldsOf g od ?_))));have Fq:Builtin.Dict_items.ownsTuple "dict_keyiterator" = false:=by decide
 simp only[Fq,NR,OP];show wpAny _ _ (if(Value.ref d==Value.none)=true then _ else _) _ _ s;have nz:¬ ((Value.ref d==Value.none)=true):=MP;rw[MO nz];refine Mx (MD (Mx (OO gd dat ?_)));rw[MO (by simp)];refine Mx (MD (Mx (Ql gd dat ?_)));rw[MO (by simp)];refine MD ?_;simp only[MO (show ¬ ((i:Int)<0) by lia),Nm,hx];refine Mx (Mx (NT ti (MD ?_)));show wpAny _ _ (setField (.ref it) 0 .none >>= fun _=>_) _ _ s;refine Mx (wpAny_setField g od (by simp) ?_);show wpAny _ _ (newExc (.type "StopIteration") [] >>= fun _=>_) _ _ _;refine Mx ?_;simp only[newExc,newTuple];refine Mx (NC (Mx (m:=firstArgMember _ _) (wpAny_of_eq (a:=Value.none) (by first|rfl|(simp only[firstArgMember];rfl)) (NC ?_ (by size_fits)))) (by size_fits));simp only[raiseNew];refine Mx (wpAny_handled ?_);rw[show A.in1.handled=none from hh];refine Mx (MD (wpAny_throw ?_));refine Mx (wpAny_isInstance (b:=true) (T:="StopIteration") ⟨_,MR _ rfl,rfl⟩ isSubtype_stop ?_);exact MD (q _ (((Heap.SameBut.update ..).extBut.push _).push _))
theorem pP(hh:A.handled=none)(I:Addr)(ne:d≠I):Walks prog w A I [I,d] [I] es.size (fun i v=>∃e,es[i]?=some e/\v=e.key) (fun i h=>h.IsKeyIter I d i es.size ep/\RawD h d es ep) where
 sub:=fun b hb=>by
  rw[Nu]at hb;rw[hb];exact My
 frame:=fun _ _ _ st hk=>⟨st.1.at fun o e=>hk I My o e,st.2.at fun o e=>hk d (MJ _ My) o e⟩
 item:=fun i s Q E hi st hQ=>by
  refine rV st.1 st.2 (Po hi) fun h' it' sb=>?_
  exact hQ _ h' s.toks ⟨_,Po hi,rfl⟩ ⟨it',st.2.at fun o e=>sb.extBut d o ne e⟩ fun b o hb e=>sb.extBut b o (fun z=>hb (by rw[z];exact My)) e
 done:=fun s Q E st hQ=>vf hh st.1 st.2 (Array.getElem?_eq_none (MH _)) fun h' ext=>hQ h' s.toks fun b o hb e=>ext b o (fun z=>hb (by rw[z];exact My)) e
 self:=fun _ _ _ _ st hQ=>wpAny_pyIter_keyiter st.1 hQ
theorem vg(nm:(d==sysModules)=false):PySem.W.KdlSrc prog w "dict" d d es.size (fun i v=>∃e,es[i]?=some e/\v=e.key) (fun h=>RawD h d es ep) where
 type:=fun _ x=>gY x
 there:=fun _ x=>by
  obtain⟨o,g,_⟩:=x;exact⟨MK g,MK g⟩
 keep:=fun _ _ x hk=>x.at fun o e=>hk d (.inl rfl) o e
 notList:=by decide
 notTuple:=by decide
 hint:=fun _ _ _ _ x q=>PySem.W.kdl_hint_dict (gY x) q
 iter:=fun _ s hh x=>⟨_,_,(fun _ _ q=>rT nm x q),pP hh _ (by obtain⟨o,g,_⟩:=x;exact MT (MK g)),⟨⟨_,MR _ rfl,rfl,rfl⟩,x.at fun o e=>MB _ e⟩⟩
end
end NX
namespace NX
open PySem PySem.W PySem.Spec PyProof.Rows L2
section
variable{prog:Program}{w:World}{A:Around}{E:Value->Shared->Prop}{s:Shared}
theorem og{O:KeyOrd}{key:Nat->O.α}{kd:SortKind}{l:Addr}{vs:List Value}{Q:Value->Shared->Prop}
  (hcol:∀Q':List Value->Shared->Prop,(∀h' tk,(∀b o,s.heap.get? b=some o->h'.get? b=some o)->Q' vs {s with heap:=h',toks:=tk})->wpAny (model prog w) A.in1 (collect (.ref l)) Q' E s) (Fw:vs.length<64)
  (D2:2<=vs.length->∀(A':Around) (E':Value->Shared->Prop) (s':Shared),(∀b o,s.heap.get? b=some o->s'.heap.get? b=some o)->∀Q:SortKind->Shared->Prop,Q kd s'->wpAny (model prog w) A' (keyKind' vs.toArray) Q E' s')
  (F5:∀i j,i<vs.length->j<vs.length->∀s':Shared,(∀b o,s.heap.get? b=some o->s'.heap.get? b=some o)->∀C:Bool->Shared->Prop,C (O.blt (key i) (key j)) s'->kas_ask prog w A.in1.in1 kd vs i j C s')
  (h:∀(p:Array Nat) (h5 h':Heap) (tk e:Nat),POk vs.length p->aU key p vs.length->(∀b o,s.heap.get? b=some o->h5.get? b=some o)->(∀b o,h5.get? b=some o->h'.get? b=some o)->h'.get? h5.objs.size=some (seqObj "list" (List.toArray (p.toList.map fun i=>vs.getD i .none)) e)->Q (.ref h5.objs.size) {s with heap:=h',toks:=tk}):
  wpAny (model prog w) A (call (.builtin "sorted") [.ref l]) Q E s:=by
 refine Ou kind_sorted plain_sorted entry_sorted (args_sorted1 _) ?_;unfold Builtin.«sorted»;refine Mx (m:=checkCount "sorted" 1 1 _) (MD (Mx (hcol _ fun h5 tk k5=>?_)));refine Mx (QZ ?_ (by rw[Nr];lia));have k6:∀b o,s.heap.get? b=some o->(h5.push (seqObj "list" vs.toArray 0)).get? b=some o:=fun b o e=>MB _ (k5 b o e)
 have hL:(h5.push (seqObj "list" vs.toArray 0)).get? h5.objs.size=some (seqObj "list" vs.toArray 0):=MR _ rfl;have L3:∀b o,s.heap.get? b=some o->b<h5.objs.size:=fun b o e=>MK (k5 b o e)
 show wpAny _ _ _ _ _ {s with heap:=h5.push (seqObj "list" vs.toArray 0),toks:=tk};refine Mx (N8 (N4 slot_list_sort ⟨_,hL,rfl⟩ entry_list_sort (fD (key:=key) (kd:=kd) hL Fw (fun h2 h' kk Q' q=>D2 h2 _ _ _ (fun b o e=>kk b o (MT (L3 b o e)) (k6 b o e)) Q' q)
  (fun i j hi hj h' kk C q=>F5 i j hi hj _ (fun b o e=>kk b o (MT (L3 b o e)) (k6 b o e)) C q) fun p h' hp hs ⟨e,he⟩ kk=>⟨_,rfl,?_⟩) (args_list_sort _)))
 exact MD ⟨_,rfl,h p h5 h' tk e hp hs k5 (fun b o q=>kk b o (MT (MK q)) (MB _ q)) he⟩
end
section
variable{X:Cx}{pr:List (Addr×Obj)}{σ:L2.St}{H:Hp}{s:Shared}
theorem vh{H:Hp}{BV:List (List Key×V)}{xs:List (List Key×Addr×Value)}(r:KT H BV xs):xs.map (·.1)=BV.map (·.1):=by
 induction r with
 |nil=>rfl
 |cons hq _ ih=>rw[MS,MS,ih,hq.1]
theorem zT{H:Hp}{BV:List (List Key×V)}{xs:List (List Key×Addr×Value)}(r:KT H BV xs):∀y∈xs,H y.2.1=some (.tup (y.1.map kV)):=by
 induction r with
 |nil=>exact fun y hy=>nomatch hy
 |cons hq _ ih=>
  intro y hy;rcases MN.mp hy with rfl|hy
  ·rw[<-hq.1];exact hq.2.1
  ·exact ih y hy
theorem vk(I:Inv X pr σ H s){a:Addr}{BV:List (List Key×V)}(h:Rd H a (.dT BV)):(a==sysModules)=false/\∃(al:List (Addr×List Key)) (es:Array DictEntry) (ep:Nat),
  RawD s.heap a es ep/\es.toList.map (·.key)=al.map (fun x=>Value.ref x.1)/\al.map (·.2)=BV.map (·.1)/\∀x∈al,H x.1=some (.tup (x.2.map kV)):=by
 obtain⟨_,nm,xs,r,o,es,ep,h1,h2,h3,h4,_⟩:=h.ok I.hok;refine⟨nm,xs.map fun x=>(x.2.1,x.1),es,ep,⟨o,h1,h2,h3⟩,?_,?_,?_⟩
 ·rw[h4,Ni,Ni];rfl
 ·rw[Ni];exact vh r
 ·intro x hx;obtain⟨y,hy,rfl⟩:=NK.mp hx;exact zT r y hy
theorem iM(hc:X.calm=true):cX X (.builtin "sorted") (fun vs H Q=>∃(p:Addr) (BV:List (List Key×V)) (top:Bool) (t:List Bool),vs=[.ref p]/\Rd H p (.dT BV)/\(∀kv∈BV,kinds kv.1=top::t)/\BV.length<64/\
  ∀(D:Addr) (ms:List (Addr×List Key)),H D=none->(∀a∈ms,H a.1=some (.tup (a.2.map kV)))->(ms.map (·.2)).Perm (BV.map (·.1))->ms.Pairwise (fun a b=>cP b.2 a.2=false)->Q (.ref D) (upd H D (.lst (ms.map fun a=>V.ref a.1)))):=by
 intro pr s σ H vs us Q I r h;obtain⟨p,BV,top,kt,rfl,hp,hk,Fw,q⟩:=h;obtain⟨u,rfl,r1⟩:=gL r;cases r1;obtain⟨nm,al,es,ep,raw,F6,KA,Ip⟩:=vk I hp;have Ii:al.length=BV.length:=by
  have:=NQ List.length KA;simpa using this
 have CJ:∀a∈al,SqT X.K H a.1 (a.2.map kV)/\kinds a.2=top::kt:=fun a ha=>by
  refine⟨SqT.of (Ip a ha),?_⟩;have:a.2∈BV.map (·.1):=by rw[<-KA];exact NK.mpr ⟨a,ha,rfl⟩
  obtain⟨kv,E4,e⟩:=NK.mp this;rw[<-e];exact hk kv E4
 have rv:Vals (al.map fun a=>V.ref a.1) (al.map fun a=>Value.ref a.1):=by
  clear F6 KA Ip Ii CJ;induction al with
  |nil=>exact .nil
  |cons a al ih=>exact .cons rfl ih
 have hl:(al.map fun a=>Value.ref a.1).length=al.length:=MA ..;refine og (O:=zf) (key:=fun i=>(al.getD i (0,[])).2) (kd:=tuples' true) (vs:=al.map fun a=>Value.ref a.1) (fun Q' hq=>?_) (by lia) (fun h2 A' E' s' kk Q' q'=>?_) (fun i j hi hj s' kk C q'=>?_) fun pp h5 h' tk e DP hs k5 k' he=>?_
 ·refine kdu_collect (vg nm) (I.ok.hd hc) raw (by have:=NQ List.length F6;simp only[MA,NA]at this;rw[Nr];lia) fun h' tk acc kk GV=>?_
  have ea:acc.toList=al.map fun a=>Value.ref a.1:=by
   rw[<-F6];apply Oq;intro j;rw[Nh,OR,OR];cases hj:acc[j]? with
   |none=>
    have:es[j]?=none:=by
     rw[Array.getElem?_eq_none_iff]at hj ⊢;rw[<-GV.1];exact hj
    rw[this];rfl
   |some v=>
    obtain⟨en,h1,h2⟩:=GV.2 j v hj;rw[h1,h2];rfl
  have:=hq h' tk kk;rw[<-ea]at this;exact this
 ·obtain⟨fs,t1,t2,t3⟩:=mO (h':=s'.heap) I kk top rv fun a ha=>⟨(CJ a ha).1,kt,(CJ a ha).2⟩
  refine kat_kind (T:=.type (if top then "int" else "str")) t1 (by lia) (fun v hv=>t3 v hv _) (by simp) ?_;have:((Value.type (if top then "int" else "str")) != Value.type "tuple")=true:=by cases top <;> decide
  rw[this];exact q'
 ·unfold kas_ask;have E3:i<al.length:=by lia
  have Im:j<al.length:=by lia
  rw[jz rv E3,jz rv Im];have mi:al.getD i (0,[])∈al:=by rw[bg _ _ _ E3];exact NS _
  have mj:al.getD j (0,[])∈al:=by rw[bg _ _ _ Im];exact NS _
  obtain⟨u1,o1,n1,r1,g1,_,d1⟩:=tup_at I (CJ _ mi).1;obtain⟨u2,o2,n2,r2,g2,_,d2⟩:=tup_at I (CJ _ mj).1;have ek:kinds (al.getD i (0,[])).2=kinds (al.getD j (0,[])).2:=by rw[(CJ _ mi).2,(CJ _ mj).2]
  have el:u1.length=u2.length:=by
   have a1:=r1.length;have a2:=r2.length;have a3:=NQ List.length ek;simp only[kinds,MA]at a1 a2 a3;lia
  refine kat_lt (kk _ _ g1) d1 (kk _ _ g2) d2 ?_;have ef:decide (u1.toArray.size<u2.toArray.size)=false:=by simp[el]
  rw[ef];exact hU _ _ _ _ 0 r1 r2 ek q'
 ·rw[hl]at DP hs;have Io:POk (al.map fun a=>V.ref a.1).length pp:=by rw[MA];exact DP
  have eo:n9 pp (al.map fun a=>V.ref a.1)=(pp.toList.map fun i=>al.getD i (0,[])).map fun a=>V.ref a.1:=by
   unfold n9;rw[Ni];refine NN fun i hi=>?_
   have hi:=Nx.mp (DP.perm.mem_iff.mp hi);show(al.map fun a=>V.ref a.1).getD i .non=V.ref (al.getD i (0,[])).1;rw[bg _ _ _ (by rw[MA];exact hi),bg _ _ _ hi];simp
  have I5:Inv X pr σ H {s with heap:=h5,toks:=tk}:=I.kept k5;have hn:H h5.objs.size=none:=I5.hok.fresh (MH _);refine⟨.ref h5.objs.size,_,fE (s:={s with heap:=h5,toks:=tk}) I5 k' (MH _) he (gW rv Io) ?_,rfl,?_⟩
  ·show(n9 pp (al.map fun a=>V.ref a.1)).length<=sizeLine;rw[eo,MA,MA,DP.perm.length_eq,M8,Nr];lia
  ·rw[eo];have pm:=gU (0,[]) DP;refine q _ _ hn (fun a ha=>Ip a (pm.mem_iff.mp ha)) ?_ ?_
   ·rw[<-KA];exact pm.map _
   ·exact eE (O:=zf) (0,[]) (fun a:Addr×List Key=>a.2) DP hs
end
end NX
namespace NX
open PySem PySem.Spec PyProof.Rows L2
section
open PySem.SeqAt
open PySem.AutoSeq1 (wpAny_loadPart')
open PySem.MeetsSeq PySem.MeetsSeq2 PySem.MeetsSeq3
theorem rW{A:Around}{s:Shared}{a c:Key}{u v:Value}(ra:RelV (kV a) u)(rc:RelV (kV c) v):EqAt A s u v (decide (a=c)):=by
 have h:=tH (A:=A) (s:=s) ra rc (gX a) (gX c);rw[pM]at h;exact h
theorem rX{prog:Program}{w:World}{A:Around}{E:Value->Shared->Prop}{s:Shared}{Q:Value->Shared->Prop}{a c:Key}{u v:Value}(ra:RelV (kV a) u)(rc:RelV (kV c) v)(hk:a.isLeft=c.isLeft)(h:Q (.bool (mM.blt a c)) s):
  wpAny (model prog w) A (richCompare .Lt u v) Q E s:=by
 cases a with
 |inl i=>
  cases c with
  |inr _=>cases hk
  |inl j=>
   obtain⟨t,rfl⟩:=ra;obtain⟨t',rfl⟩:=rc;exact(PyProof.Rows.lt_int h:wpAny (model prog w) A (compareOp .Lt (.int i t) (.int j t')) Q E s)
 |inr x=>
  cases c with
  |inl _=>cases hk
  |inr y=>
   obtain⟨t,rfl⟩:=ra;obtain⟨t',rfl⟩:=rc;exact(PyProof.Rows.lt_str h:wpAny (model prog w) A (compareOp .Lt (.str x t) (.str y t')) Q E s)
theorem pQ(a c:Key)(r t:List Key):cP (a::r) (c::t)=if a=c then cP r t else mM.blt a c:=rfl
theorem jC(l b:Addr)(items D4:Array Value)(n n2:Nat)(dd GL:Option Addr)(sl GN:Array (Option Value))(ks js:List Key)(hi:Vals (ks.map kV) items.toList)(hj:Vals (js.map kV) D4.toList)(hk:kinds ks=kinds js):
  Meets (Builtin.«tuple.__lt__» ⟨[.ref l,.ref b],[]⟩)
   (fun _ R s=>s.heap.get? l=some {cls:=.type "tuple",dict:=dd,data:=.seq items n,slots:=sl}/\s.heap.get? b=some {cls:=.type "tuple",dict:=GL,data:=.seq D4 n2,slots:=GN}/\R (.ok (.ret (.bool (cP ks js)))) s):=
 .of_wp fun prog w A R s h=>by
  obtain⟨hp,g,d,tk,os⟩:=s;obtain⟨hl,hb,h⟩:=h;have f2:=AutoSeq1.sub_tuple_tuple;have z1:items.size=ks.length:=by have:=hi.length;simp at this;lia
  have z2:D4.size=js.length:=by have:=hj.length;simp at this;lia
  have z3:ks.length=js.length:=by have:=NQ List.length hk;simpa[kinds] using this
  wp_walk using wpAny_loadPart' hl,wpAny_loadPart' hb,wpAny_forIn_list _ (fun ck b s'=>b.1=none/\s'=⟨hp,g,d,tk,os⟩/\∃(vs ws:List Value) (EX Fx:List Key),ck=vs.zip ws/\
   Vals (EX.map kV) vs/\Vals (Fx.map kV) ws/\kinds EX=kinds Fx/\R (.ok (.ret (.bool (cP EX Fx)))) ⟨hp,g,d,tk,os⟩) _
  case turn=>
   rintro⟨y,x⟩ ck b s' ⟨Lh,rfl,vs,ws,EX,Fx,hz,Jm,Li,Jn,hR⟩;cases EX with
   |nil=>
    cases Jm;rw[List.zip_nil_left]at hz;cases hz
   |cons a EX=>
    cases Fx with
    |nil=>cases Jn
    |cons c Fx=>
     cases Jm with
     | @cons _ va _ DY ra hvi'=>
      cases Li with
      | @cons _ vc _ JN rc hwi'=>
       rw[Of]at hz;injection hz with hyx hrest;injection hyx with hy hx;subst hy hx;have hk1:a.isLeft=c.isLeft:=(O6 Jn).1;have hk2:kinds EX=kinds Fx:=(O6 Jn).2;rw[pQ]at hR;have he:=rW (A:=A.in1) (s:=⟨hp,g,d,tk,os⟩) ra rc;refine Mx (he prog w _ _ ?_);by_cases hac:a=c
       ·rw[MM hac]at hR;rw[M6 hac]
        wp_walk
        exact⟨rfl,rfl,_,_,_,_,hrest,hvi',hwi',hk2,hR⟩
       ·rw[MO hac]at hR;rw[MZ hac];have hri:=fun E Q=>rX (prog:=prog) (w:=w) (A:=A.in1) (E:=E) (s:=⟨hp,g,d,tk,os⟩) (Q:=Q) ra rc hk1
        wp_walk using hri
        exact⟨_,rfl,by simpa using hR⟩
  case fin=>
   rintro⟨b1,b2⟩ s' ⟨Lh,rfl,vs,ws,EX,Fx,hz,Jm,Li,Jn,hR⟩;simp only at Lh;subst Lh;have hv:cP EX Fx=decide (items.size<D4.size):=by
    cases EX with
    |nil=>
     cases Fx with
     |nil=>exact(MZ (by lia)).symm
     |cons c Fx=>cases Jn
    |cons a EX=>
     cases Fx with
     |nil=>cases Jn
     |cons c Fx=>
      cases Jm;cases Li;rw[Of]at hz;cases hz
   rw[hv]at hR
   wp_walk
   exact⟨_,rfl,by simpa[Builtin.Tuple.tupleCompareSizes] using hR⟩
  case h=>
   exact⟨rfl,rfl,items.toList,D4.toList,ks,js,rfl,hi,hj,hk,h⟩
end
section
variable{X:Cx}
def Bm(K:W.Frag)(neg:Bool):R2:=fun x y H Q=>∃a b ks js,x=.ref a/\y=.ref b/\SqT K H a (ks.map kV)/\SqT K H b (js.map kV)/\kinds ks=kinds js/\Q (.bl (if neg then !cP ks js else cP ks js)) H
theorem xU(hu:X.A.units<cLine):CF X (compareOp .Lt) (Bm X.K false):=by
 intro pr s σ H x y v u Q I rx ry h;obtain⟨a,b,ks,js,rfl,rfl,ha,hb,hk,q⟩:=h;cases rx;cases ry;obtain⟨BR,r1,p1,_⟩:=I.tuple ha;obtain⟨Fv,r2,p2,_⟩:=I.tuple hb;obtain⟨⟨cls,dd,data,sl⟩,ho,hc,n,hd⟩:=id p1;obtain⟨⟨Ic,GL,data2,GN⟩,DE,F1,n2,hd2⟩:=id p2;simp only at hc hd F1 hd2;subst hc hd F1 hd2;exact richCompare_meets_room (op:=.Lt) ⟨_,ho,rfl⟩ ⟨_,DE,rfl⟩ PySem.F.slot_tuple_lt PySem.F.entry_tuple_lt (PySem.F.args_tuple_lt_2 _ _) (jC a b _ _ n n2 dd GL sl GN ks js (by simpa using r1) (by simpa using r2) hk)
  ⟨ho,DE,show Value.bool (cP ks js)≠Value.notImplemented/\EP X pr σ Q (.bool (cP ks js)) s from⟨(fun x=>nomatch x),⟨.bl (cP ks js),H,I,rfl,q⟩⟩⟩ hu
end
section
variable{prog:Program}{w:World}{A:Around}{E:Value->Shared->Prop}{s:Shared}
end
section
variable{X:Cx}{pr:List (Addr×Obj)}{σ:L2.St}{H:Hp}{s:Shared}{scope:Scope}{N:List Str}{ix:List (Option Nat)}{fp:List Addr}
end
section
variable{X:Cx}{scope:Scope}{N:List Str}{ix:List (Option Nat)}{tg iter elt:Expr}{ifs:List Expr}{pos:Pos}{wi:TI}{g:TG}{tc:TT}{te:TE}
end
theorem ook_get{P:Program}{w:World}{H:Hp}{h:Heap}{a:Addr}{o:HO}(x:ObjOk P w H h a o):∃u,h.get? a=some u:=by
 cases o with
 |lst xs=>obtain⟨_,_,_,_,e⟩:=x;exact⟨_,e⟩
 |tup xs=>obtain⟨_,_,_,_,e,_⟩:=x;exact⟨_,e⟩
 |dK BV=>obtain⟨_,_,_,_,_,_,_,e,_⟩:=x;exact⟨_,e⟩
 |dT BV=>obtain⟨_,_,_,_,_,_,_,e,_⟩:=x;exact⟨_,e⟩
 |set S n=>obtain⟨_,_,_,_,e,_⟩:=x;exact⟨_,e⟩
 |ins C dx fs=>obtain⟨_,_,_,e,_⟩:=x;exact⟨_,e⟩
 |own y=>exact x
 |xd fs=>obtain⟨_,⟨_,_,_,e,_⟩,_⟩:=x;exact⟨_,e⟩
 |rng lo hi=>obtain⟨_,_,_,e⟩:=x;exact⟨_,e⟩
 |frz ob u=>obtain⟨e,_⟩:=x;exact⟨_,e⟩
 |tbl ps=>exact⟨_,x⟩
 |met f y=>exact⟨_,x⟩
 |ext φ=>obtain⟨_,e,_⟩:=x;exact e
def XCl(mg:Str->Option Value)(base:Heap)(x:Str)(C:Addr):Prop:=∃B newId initId bm,ExcBaseFacts B newId initId bm/\OwnCls x C bm newId mg base
theorem tP{K:W.Frag}{h:Heap}{mg:Str->Option Value}{x:Str}{C:Addr}{mB:List Value}{nw:String}(X:K.In h)(G:h.Ns mainGlobals mg)(e:PySem.W.nsIn K mainGlobals x=some (some (.ref C)))(q:PySem.W.excIn K C mB nw=true):OwnCls x C mB nw mg h:=by
 refine⟨NF X G e,?_⟩;unfold PySem.W.excIn at q;split at q
 ·rename_i zd cd sl ho;split at q
  ·rename_i C' mro z0 z1 z2 z3 z4 z5 hm hs;rw[MG,MG,MG,MG,MG]at q;obtain⟨⟨⟨⟨⟨q1,q2⟩,q3⟩,q4⟩,q5⟩,q6⟩:=q;have d1:=Nb.mp q1;have d2:=Nb.mp q2;have d6:=Nb.mp q6;have d3:cd.hasDel=false:=by revert q3;cases cd.hasDel <;> decide
   clear q1 q2 q3 q6;subst d1;subst d2;cases cd;dsimp only at hm d3 q5 d6;subst hm;subst d3;have ez:sl = #[z0,z1,z2,z3,some (.builtin z4),z5]:=by
    cases sl;dsimp only at hs;rw[hs]
   subst ez;exact⟨_,_,_,_,_,_,_,_,_,_,_,_,_,_,_,_,_,X _ _ ho,.of_isNs (PySem.W.isNs_of_in X q5),PySem.W.nsMap_none_of_in X q5 d6,PySem.W.tail_of_in X q4⟩
  ·cases q
 ·cases q
noncomputable def HR(P:Program)(w:World)(base:Heap)(C:Addr):Fj:=fun outer H s E e s'=>
 ∃(a t:Addr) (B:Heap) (H':Hp),e=.ref a/\s'.os=s.os/\AllBare s'.gens/\Un (CU outer) [] H H' s.heap s'.heap/\HOk P w H' s'.heap/\Heap.FlyingW B outer a (.ref C) (.ref t) s'.heap/\
  (∀b u,s'.heap.get? b=some u->(H' b≠none\/∃o,s.heap.get? b=some o)->b∉CU outer->B.get? b=some u)/\E (.ref C) none H'
def Acc(X:Cx)(C:Addr)(Ww:Hp->Prop):Prop:=∀(pr:List (Addr×Obj)) (σ:L2.St) (H:Hp) (s:Shared) (h':Heap) (a:Addr) (args:List Value),Inv X pr σ H s->Ww H->Heap.MadeExcOf s.heap h' a (.ref C) args->X.xe (.ref a) {s with heap:=h'}
theorem xV{P:Program}{w:World}{K:W.Frag}{mg:Str->Option Value}{base:Heap}{N:List Str}{qual:Str}{scope:Scope}{f C:Addr}{cd:Value}{A:Around}{outer:List Env}{s:Shared}{H:Hp}{E:XK}:
  Acc (nX (HR P w base C) P w K mg base N qual scope f cd A outer s H E) C (fun H'=>E (.ref C) none H'):=by
 intro pr σ H1 s1 h' a args I hW hm;have Lj:∀b,b∈CU (envOfC qual scope s.heap.objs.size f cd::outer)->b∈s.heap.objs.size::CU outer:=I.stkSub;have nl:∀b o,s.heap.get? b=some o->b∉CU outer->b∉CU (envOfC qual scope s.heap.objs.size f cd::outer):=fun b o e n z=>by
  rcases MN.mp (Lj b z) with r|r
  ·exact absurd (MK e) (by rw[r];exact N7 _)
  ·exact n r
 have nt:∀b,H1 b≠none->b∉CU (envOfC qual scope s.heap.objs.size f cd::outer):=fun b n z=>n (I.stkFree b z)
 refine wpAny_leaves_madeW (base:=PySem.W.hideAll s1.heap (CU (envOfC qual scope s.heap.objs.size f cd::outer))) (L:=s.heap.objs.size) I.ok.frames rfl (fun b o q=>QL _ q) (PySem.W.funFrames_hide I.stack fun env he b hb=>Od.mpr ⟨env,he,hb⟩) hm fun h2 t F7 _ _ sm=>?_
 have k:∀b u,s1.heap.get? b=some u->b∉CU (envOfC qual scope s.heap.objs.size f cd::outer)->h2.get? b=some u:=fun b u q n=>F7.1 b u (O9 _ q n)
 have sl:∀b u,s1.heap.get? b=some u->b∈CU outer->∃z,h2.get? b=some {u with slots:=z}:=fun b u q n=>by
  obtain⟨_,o,ho,hd⟩:=I.funs.mem n;rw[q]at ho;cases ho;exact sm b u (hm.keeps b u q) hd
 have there:∀b o,s.heap.get? b=some o->∃o',s1.heap.get? b=some o':=fun b o q=>I.base.there b o q (fun z=>nomatch z)
 refine⟨a,t,_,H1,rfl,I.os,I.bare,⟨fun b o q n hb hx=>k b o (I.base.keep b o q n hb hx) (nl b o q hb),fun b o q n hb hx=>?_,I.base.free,fun b o q hx=>?_,I.base.tups,I.base.frzs,I.base.tbls⟩,fun b o e=>?_,F7,fun b u q hb n=>?_,hW⟩
 ·obtain⟨z,e⟩:=I.base.slot b o q n hb hx;obtain⟨z',e'⟩:=sl b _ e hb;exact⟨z',e'⟩
 ·obtain⟨o',e⟩:=there b o q;by_cases hb:b∈CU outer
  ·obtain⟨z,e'⟩:=sl b o' e hb;exact⟨_,e'⟩
  ·exact⟨o',k b o' e (nl b o q hb)⟩
 ·refine(I.hok b o e).stay (fun c u hc q=>k c u q (nt c ?_)) (fun _ q=>q) fun _ _ q=>q
  rcases hc with rfl|hc
  ·rw[e];exact fun z=>nomatch z
  ·rw[hc];exact fun z=>nomatch z
 ·have h1:∃u0,s1.heap.get? b=some u0/\b∉CU (envOfC qual scope s.heap.objs.size f cd::outer):=by
   rcases hb with hb|⟨o,ho⟩
   ·cases hq:H1 b with
    |none=>exact absurd hq hb
    |some ho=>
     obtain⟨u0,e0⟩:=ook_get (I.hok b ho hq);exact⟨u0,e0,nt b hb⟩
   ·obtain⟨o',e⟩:=there b o ho;exact⟨o',e,nl b o ho n⟩
  obtain⟨u0,e0,n0⟩:=h1;have:=k b u0 e0 n0;rw[show h2.get? b=some u from q]at this;cases this;exact O9 _ e0 n0
def PX(X:Cx)(st:List Stmt)(t:L2.St->Hp->Prop):Prop:=
 ∀(pr:List (Addr×Obj)) (s:Shared) (σ:L2.St) (H:Hp),Inv X pr σ H s->t σ H->wpAny (model X.prog X.w) X.A (execs st X.env) (fun _ _=>False) X.xe s
section
variable{X:Cx}{st:Stmt}{ck:List Stmt}{t:TS}{u u':L2.St->Hp->Prop}{e:Expr}{es:List Expr}{x:Str}{C:Addr}{Ww:Hp->Prop}{np Cy pos:Pos}
theorem rY{ta:TA}(O:XCl X.mg X.base x C)(acc:Acc X C Ww)(hc:X.calm=true)(hg:Gl X x)(ha:PA X (e::es) ta)(C4:(x==("__debug__" : Str))=false:=by decide)
  (he:starEach (e::es) X.env=(false,eval e X.env)::starEach es X.env:=by rfl) (Dl:(backTo Cy (starEach es X.env)).any (·.1)=false:=by rfl):
  PX X (.Raise (some (.Call (.Name x np) (e::es) [] Cy)) none pos::ck) (fun σ H=>ta σ H fun vs H1=>vs.length<=sizeLine/\Ww H1):=by
 intro pr s σ H I h;obtain⟨B,nw,ini,bm,FB,O⟩:=O;obtain⟨tl,N,nm,q,bs,hdct,sn,sub,ab,col,dd,k0,k1,k2,k3,k5,mN,hC,hN,L4,T⟩:=O.obj;refine N3 (wpAny_Raise_call_subT (C:=C) (nm:=nm) (q:=q) (N:=N) (bs:=bs) (bm:=tl) (hdct:=hdct) (sn:=sn) (sub:=sub) (ab:=ab) (col:=col) (dd:=dd) (k0:=k0) (k1:=k1) (k2:=k2) (k3:=k3) (k5:=k5) FB (mN:=mN) (T.hasType FB.hasBase) (I.ok.hd hc) (by rw[he];show(false||(backTo Cy (starEach es X.env)).any (·.1))=false;rw[Dl];rfl) L4 (g5 I hg O.bound ⟨rfl,?_⟩ C4));have z:=ha Cy pr s σ H _ I h;rw[he]at z ⊢;exact Calls.evalArgs_plain (Nv z (fun us s2 ⟨vs,H1,I1,r,hl,hw⟩=>⟨rfl,by rw[<-r.length];exact hl,I1.bk _ _ hC,hN.keeps I1.bk,T.keeps I1.bk,fun h' a hm=>acc pr σ H1 s2 h' a us I1 hw hm⟩) fun _ _ y=>y)
theorem zU{c:Expr}{a b:List Stmt}{tc:TT}(hc:PT X c tc)(ha:PX X a u):PX X (.If c a b pos::ck) (fun σ H=>tc σ H fun bb H1=>bb=true/\u σ H1):=by
 intro pr s σ H I h;refine N3 (wpAny_If (Ci (hc pr s σ H _ I h) fun d s1 Cp=>?_));obtain⟨H1,I1,e,q⟩:=Cp;subst e;exact Nv (ha pr s1 σ H1 I1 q) (fun _ _ z=>z.elim) fun _ _ z=>z
theorem pR(h:PX X ck u)(k:∀σ H,u' σ H->u σ H):PX X ck u':=fun pr s σ H I z=>h pr s σ H I (k σ H z)
theorem xW(h:PX X ck u):PSs X ck (fun _ σ H=>u σ H):=fun pr s σ H _ I z=>Nv (h pr s σ H I z) (fun _ _ z=>z.elim) fun _ _ z=>z
theorem xX{t:TA}(h:PA X.nox es t):PA X es t:=fun p pr s σ H Q I hw=>Nv (h p pr s σ H Q (I.wish _) hw) (fun _ _ ⟨v,H',I',r,q⟩=>⟨v,H',I'.unwish,r,q⟩) fun _ _ z=>False.elim z
end
def CtX(P:Program)(w:World)(K:W.Frag)(mg:Str->Option Value)(base:Heap)(x:Str)(k:Nat)(C:Addr)(sp:Sp):Prop:=
 ∃f fd ps,FnOk P w K mg base (HR P w base C) k f fd ps sp/\mg x=some (.ref f)/\PySem.W.keepIn K (.ref f)=true/\Binds K fd ps []
theorem vm{P:Program}{w:World}{K:W.Frag}{mg:Str->Option Value}{base:Heap}{x qual:Str}{st:Stmt}{f C:Addr}{fd:FuncData}{N ps:List Str}{k:Nat}{sp:Sp}(F:Fun K x qual st f fd)(S:FnScope N ps (defScope st))(len:∀vs H Q E,sp vs H Q E->vs.length=ps.length)
  (EJ:∀(Cg:Value) (A:Around) (outer:List Env) (s:Shared) (H:Hp) (vs:List V) (Q:VK) (E:XK),Room k (A.deeper (envOfC qual (defScope st) s.heap.objs.size f Cg))->sp vs H Q E->
   ∃t,PX (nX (HR P w base C) P w K mg base N qual (defScope st) f Cg A outer s H E) (bZ st) t/\t (gM N vs) H):FnOk P w K mg base (HR P w base C) (k+1) f fd ps sp:=by
 obtain⟨oc,od,kV,doc,pm,an,Cg,ct,F0,rfl,lk,Ft⟩:=F.ex;refine xD lk Ft S len fun A outer s H vs Q E hr GK=>?_
 obtain⟨t,h,q⟩:=EJ Cg A outer s H vs Q E hr GK;exact⟨_,xW h,q⟩
def XP(X:Cx)(pr:List (Addr×Obj))(σ:L2.St)(C:Addr)(Ww:Hp->Prop)(e:Value)(s':Shared):Prop:=∃(s1:Shared) (H1:Hp),Inv X pr σ H1 s1/\HR X.prog X.w X.base C X.stack H1 s1 (fun _ _ H'=>Ww H') e s'
abbrev TX:=L2.St->Hp->(Hp->Prop)->Prop
def KC(X:Cx)(e:Expr)(C:Addr)(t:TX):Prop:=∀(pr:List (Addr×Obj)) (s:Shared) (σ:L2.St) (H:Hp) (Ww:Hp->Prop),Inv X pr σ H s->t σ H Ww->wpAny (model X.prog X.w) X.A (eval e X.env) (fun _ _=>False) (XP X pr σ C Ww) s
def PSX(X:Cx)(st:List Stmt)(C:Addr)(t:TX):Prop:=∀(pr:List (Addr×Obj)) (s:Shared) (σ:L2.St) (H:Hp) (Ww:Hp->Prop),Inv X pr σ H s->t σ H Ww->wpAny (model X.prog X.w) X.A (execs st X.env) (fun _ _=>False) (XP X pr σ C Ww) s
section
variable{X:Cx}{st:Stmt}{ck:List Stmt}{tx:TX}{e a b:Expr}{es:List Expr}{x:Str}{C:Addr}{k:Nat}{sp:Sp}{p pos:Pos}
theorem rZ{t:TA}(c:CtX X.prog X.w X.K X.mg X.base x k C sp)(hr:Room k X.A)(hg:Gl X x)(ha:PA X.nox (e::es) t)(C4:(x==("__debug__" : Str))=false:=by decide)
  (he:starEach (e::es) X.env=(false,eval e X.env)::starEach es X.env:=by rfl) (Dl:(backTo pos (starEach es X.env)).any (·.1)=false:=by rfl):
  KC X (.Call (.Name x p) (e::es) [] pos) C (fun σ H Ww=>t σ H fun vs H1=>sp vs H1 (fun _ _=>False) fun _ _ H'=>Ww H'):=by
 intro pr s σ H Ww I h;obtain⟨f,fd,ps,F,m,kp,b⟩:=c;refine Oe (g5 I hg m ?_ C4);refine QQ (h₀:=X.base) I.ok.mod.kin kp (Nv (ha pos pr s σ H _ (I.wish _) h) (fun us s1 ⟨vs,H1,I1,r,q⟩=>⟨I1.kIn,?_⟩) fun _ _ z=>z.elim) he Dl;have I1:=I1.unwish;have hl:us.length=ps.length:=by rw[<-r.length];exact F.len _ _ _ _ q
 have hb:BindsTo s1 fd ⟨us,[]⟩ (ps.zip us):=by
  have:=b s1 us I1.kIn (by rw[M5];exact hl);rw[M5]at this;exact this
 refine wpAny_call (Qg (F.run X.A X.stack s1 H1 ⟨us,[]⟩ us vs _ _ hr I1.env0 hb r q) fun r s' hq=>?_);cases r with
 |error e=>exact⟨s1,H1,I1,hq⟩
 |ok fl=>
  cases fl with
  |ret u=>obtain⟨_,_,_,_,_,_,_,z⟩:=hq;exact z.elim
  |next=>exact False.elim hq
  |brk=>exact False.elim hq
  |cont=>exact False.elim hq
theorem r6(h:KC X e C tx)(hs:swapsWith e none pos.line X.env=pure false:=by rfl):PSX X (.Expr e pos::ck) C tx:=fun pr s σ H Ww I z=>
 N3 (Qv (Nv (h pr s σ H Ww I z) (fun _ _ z=>z.elim) fun _ _ z=>z) I.quiet hs)
end
abbrev handX(X:Cx)(a:Addr):Cx:={X with A:=X.A.mark (some (.ref a)),calm:=false,xe:=fun _ _=>False}
theorem r9{X:Cx}{pr:List (Addr×Obj)}{σ:L2.St}{H:Hp}{s:Shared}(I:Inv X pr σ H s)(a:Addr):Inv (handX X a) pr σ H s:=
 ⟨⟨I.ok.mod,I.ok.kind,I.ok.glob,I.ok.blt,I.ok.above,I.ok.inj,I.ok.has,I.ok.cab,(fun z=>nomatch z),I.ok.frames,I.ok.stk,I.ok.exf,I.ok.bs,I.ok.bsz,I.ok.noex,I.ok.exfs,I.ok.funs,I.ok.frf⟩,I.os,I.bare,I.base,I.loc,I.cell,I.free,I.freeC,I.pin,I.hok,I.len⟩
open PySem.Builtin.ObjectAttr PySem.Builtin.Getset_descriptor
def ExAt(x D:Addr)(h:Heap):Prop:=∃o vs,h.get? x=some o/\o.cls=.ref D/\o.data=.fields vs
structure Asks(K:W.Frag)(D:Addr):Prop where
 ga:PySem.W.findIn K (.ref D) "__getattribute__" = some (some (.builtin "BaseException.__getattribute__"))
 gn:PySem.W.findIn K (.ref D) "__getattr__" = some none
 hc:PySem.W.hasDictIn K D=true
 fi:PySem.W.findIn K (.ref D) "__class__" = some (some (.builtin "object.__class__"))
 sp:PySem.W.specialIn K (.builtin "object.__class__") "__get__" = some (some (.builtin "getset_descriptor.__get__"))
 tk:PySem.W.takesIn K (.builtin "object.__class__")=some true
 mo:PySem.W.mroIn K D (.type "object")=some true
 mb:PySem.W.mroIn K D (.type "BaseException")=some true
theorem Asks.cls{K:W.Frag}{D:Addr}(k:Asks K D):∃cd,PySem.W.clsIn K D=some cd:=by
 obtain⟨cd,e,_⟩:=PySem.W.any_some k.hc;exact⟨cd,e⟩
section
variable{prog:Program}{w:World}{A:Around}{E:Value->Shared->Prop}{s:Shared}{K:W.Frag}{x D:Addr}
theorem ExAt.ty{M:Model}{h:Heap}(I:ExAt x D h):PySem.W.Looks M h (typeOf (.ref x)) (.ref D):=by
 obtain⟨o,vs,e,c,_⟩:=I;exact c▸(PySem.W.Looks.ld e).andThen .now
theorem sd{M:Model}{h:Heap}(k:Asks K D)(X:K.In h):PySem.W.Looks M h (find (.ref x) (.ref D) "__class__") (.bind (.builtin "getset_descriptor.__get__") (.builtin "object.__class__")):=by
 have T:=PySem.W.looks_takesIn (M:=M) X k.tk;have T':PySem.W.Looks M h (dataDescriptor? (some (.builtin "object.__class__")) (some (.builtin "getset_descriptor.__get__"))) (some (.builtin "getset_descriptor.__get__",.builtin "object.__class__")):=T.andThen .now;exact(O4 X k.fi).andThen ((show PySem.W.Looks M h (getOf (some (.builtin "object.__class__"))) (some (.builtin "getset_descriptor.__get__")) from PySem.W.looks_specialIn X k.sp).andThen (T'.andThen (PySem.W.Looks.tag .now)))
theorem vn{R:Result->Shared->Prop}{tp:Value}(k:Asks K D)(X:K.In s.heap)(I:ExAt x D s.heap)(h:R (.ok (.ret (.ref D))) s):
  codeAny (model prog w) A (.call (.builtin "getset_descriptor.__get__") ⟨[.builtin "object.__class__",.ref x,tp],[]⟩) R s:=by
 obtain⟨hp,gs,dr,tt,oo⟩:=s;have Ty:=I.ty (M:=model prog w);have Mo:=Pf (M:=model prog w) X k.mo;refine O3 PySem.W.KF.slot_gs.plain PySem.W.KF.entry_gs (PySem.W.KF.slot_gs.check _ _ _ _ _ _ _ _ PySem.W.KF.type_class (PySem.W.KF.args_gs _ _ _) ?_);unfold Builtin.«getset_descriptor.__get__» descrGet;rw[PySem.W.dga_obj];refine Mx (MD ?_);unfold descrGetter descrCheckInstance descrNameAndClass isInstance;simp only[PySem.W.KF.owner_class];repeat lk
 refine⟨Code.quiet_builtin _ (by decide +kernel),Pd PySem.W.KF.entry_class ?_⟩;unfold Builtin.«object.__class__» shownTypeOf;repeat lk
 exact h
theorem pS{tk:Tok}{Q:PySem.Fin->Shared->Prop}(k:Asks K D)(X:K.In s.heap)(I:ExAt x D s.heap)(h:Q (.done (.ret (.ref D))) s):
  wpAny (model prog w) A (Builtin.«object.__getattribute__» ⟨[.ref x,.str "__class__" tk],[]⟩) Q E s:=by
 obtain⟨hp,gs,dr,tt,oo⟩:=s;have Ty:=I.ty (M:=model prog w);have Fd:=sd (M:=model prog w) (x:=x) k X;unfold Builtin.«object.__getattribute__»;repeat (any_goals (first|assumption|with_reducible refine Ty.at ?_|with_reducible refine Fd.at ?_|wp_step))
 refine vn k X I ?_;repeat (any_goals (first|assumption|wp_step))
theorem pT{M:Model}{nv:Value}{Q:Unit->Shared->Prop}(k:Asks K D)(X:K.In s.heap)(I:ExAt x D s.heap)(h:Q () s):wpAny M A (checkBuiltinCall "BaseException.__getattribute__" ⟨[.ref x,nv],[]⟩) Q E s:=by
 obtain⟨hp,gs,dr,tt,oo⟩:=s;have z1:builtinKind "BaseException.__getattribute__" = some .slot:=by decide +kernel
 have z2:splitId "BaseException.__getattribute__" = some ("BaseException","__getattribute__"):=by decide +kernel
 have z3:=F.args_bexc_ga (.ref x) nv;have Ty:=I.ty (M:=M);have Mb:=Pf (M:=M) X k.mb;simp only[checkBuiltinCall,z1,z2];refine Mx ?_;unfold isInstance;repeat (any_goals (first|assumption|with_reducible refine Ty.at ?_|with_reducible refine Mb.at ?_|wp_step))
theorem xY{tk:Tok}{fill ex:Bool}{Q:Value->Shared->Prop}(k:Asks K D)(X:K.In s.heap)(I:ExAt x D s.heap)(h:Q (.ref D) s):wpAny (model prog w) A (getAttrBy (.ref x) (.str "__class__" tk) fill ex) Q E s:=by
 obtain⟨hp,gs,dr,tt,oo⟩:=s;have Ty:=I.ty (M:=model prog w);have G1:=O4 (M:=model prog w) X k.ga;have G2:=O4 (M:=model prog w) X k.gn;have z0:(ex&&onTheHeap (Value.builtin "BaseException.__getattribute__"))=false:=by cases ex <;> rfl
 have z2:(Value.builtin "BaseException.__getattribute__" == Value.builtin "object.__getattribute__")=false:=by decide +kernel
 have z1:(onTheHeap (Value.ref D)&&Value.builtin "BaseException.__getattribute__" == Value.builtin "object.__getattribute__")=false:=by rw[z2];rfl
 have z3:=F.attr_ValueError.ga.bind (.ref x);repeat (any_goals (first|assumption|with_reducible refine Ty.at ?_|with_reducible refine G1.at ?_|with_reducible refine G2.at ?_|wp_step))
 refine O3 F.attr_ValueError.ga.plain F.entry_bexc_ga (pT k X I (pS k X I ?_));repeat (any_goals (first|assumption|wp_step))
theorem pU(k:Asks K D)(X:K.In s.heap)(I:ExAt x D s.heap){Q:Option Value->Shared->Prop}(h:Q (some (.ref D)) {s with toks:=s.toks+1}):wpAny (model prog w) A (getAttr? (.ref x) "__class__") Q E s:=by
 unfold getAttr? getAttrBy?;refine Mx (wpAny_mkText (Mx (Q2 (xY (s:={s with toks:=s.toks+1}) k X I (MD h)))))
theorem lV(k:Asks K D):PySem.W.KitX K (.ref x) (.ref D) (ExAt x D) where
 ty:=fun _ _ _ I=>I.ty
 it:=fun M h X _=>by
  obtain⟨cd,e⟩:=k.cls;unfold PySem.W.clsIn at e;split at e
  ·rename_i ho;intro A' Q' E' s' kk q;unfold isType loadHead;exact Mx (wpAny_loadPart (kk _ _ (X _ _ ho)) (MD q))
  ·cases e
 ne:=fun h tp dd BR n sl X htp=>by
  obtain⟨cd,e⟩:=k.cls;refine Bool.eq_false_iff.mpr fun q=>?_
  cases Value.ref.inj (Nb.mp q);unfold PySem.W.clsIn at e;split at e
  ·rename_i ho;cases(X _ _ ho).symm.trans htp
  ·cases e
 ca:=fun X I h=>pU k X I h
end
abbrev asX(X:Cx)(a:Addr)(o:Obj):Cx:={X with A:=X.A.mark (some (.ref a)),calm:=false,xe:=fun _ _=>False,pn:=(a,o)::X.pn}
section
variable{X:Cx}{pr:List (Addr×Obj)}{σ:L2.St}{H:Hp}{s:Shared}{a:Addr}{o:Obj}
theorem xZ(I:Inv X pr σ H s)(h1:s.heap.get? a=some o)(h2:H a=none)(h3:a≠X.env.locals)(h4:a∉X.fs)(h5:∀v,o.data≠.cell v):Inv (asX X a o) pr σ H s:=
 ⟨⟨I.ok.mod,I.ok.kind,I.ok.glob,I.ok.blt,I.ok.above,I.ok.inj,I.ok.has,I.ok.cab,(fun z=>nomatch z),I.ok.frames,I.ok.stk,I.ok.exf,I.ok.bs,I.ok.bsz,I.ok.noex,I.ok.exfs,I.ok.funs,I.ok.frf⟩,I.os,I.bare,I.base,I.loc,I.cell,I.free,I.freeC,fun p hp=>by
  rcases MN.mp (show p∈(a,o)::(X.pn++pr) from hp) with rfl|hp
  ·exact⟨h1,h2,h3,h4,h5⟩
  ·exact I.pin p hp,I.hok,I.len⟩
theorem se(ok:X.Ok)(I:Inv (asX X a o) pr σ H s):Inv X pr σ H s:=⟨ok,I.os,I.bare,I.base,I.loc,I.cell,I.free,I.freeC,fun p hp=>I.pin p (MJ _ hp),I.hok,I.len⟩
theorem sf{i:Nat}{x:Str}{m:Str->Option Value}{v:Option Value}{h':Heap}{t':Nat}(I:Inv X pr σ H s)(hN:X.N.Nodup)(hi:X.N[i]?=some x)(hm:s.heap.Ns X.env.locals m)
  (hn:h'.Ns X.env.locals (fun y=>if y=x then v else m y)) (hs:Heap.SameBut X.env.locals s.heap h'):Inv X pr (σ.set i none) H {s with heap:=h',toks:=t'}:=by
 have Lk:∀b o,X.s₀.heap.get? b=some o->b≠X.env.locals:=fun b o e=>MT (ML (MK e) I.ok.above)
 have hl:i<σ.length:=by rw[I.len];exact(MF.mp hi).1
 refine⟨I.ok,I.os,I.bare,⟨fun b o e n hb hx=>?_,fun b o e n hb hx=>?_,I.base.free,fun b o e hx=>?_,I.base.tups,I.base.frzs,I.base.tbls⟩,⟨_,hn,fun j y v' e1 e2 e3=>?_⟩,fun y c e=>?_,I.free,I.freeC,fun p hp=>?_,fun b ob e=>?_,by rw[Ny];exact I.len⟩
 ·rw[hs.2 b (Lk b o e)];exact I.base.keep b o e n hb hx
 ·rw[hs.2 b (Lk b o e)];exact I.base.slot b o e n hb hx
 ·rw[hs.2 b (Lk b o e)];exact I.base.there b o e hx
 ·have hj:j≠i:=fun z=>by
   subst z;rw[MW hl]at e2;cases e2
  rw[M0 (N2 hj)]at e2;obtain⟨m',hm',hl'⟩:=I.loc;obtain⟨u',r',q⟩:=hl' j y v' e1 e2 e3;refine⟨u',r',?_⟩;rcases q with⟨kk,e⟩|⟨kk,c,e,z⟩
  ·refine .inl ⟨kk,?_⟩;have ne:y≠x:=fun e=>hj (jm hN e1 (e▸hi))
   dsimp only;rw[MO ne];obtain⟨o1,Ll,ep1,a1,b1,c1,d1⟩:=hm;obtain⟨o2,Jo,ep2,a2,b2,c2,d2⟩:=hm';rw[a1]at a2;cases a2;rw[b1]at b2;cases b2;rw[<-d1 y,d2 y];exact e
  ·exact .inr ⟨kk,c,e,z.sameBut hs (I.cne y c e)⟩
 ·obtain⟨w',z⟩:=I.cell y c e;exact⟨w',z.sameBut hs (I.cne y c e)⟩
 ·obtain⟨e,n,ne,nf,d⟩:=I.pin p hp;exact⟨(hs.2 p.1 ne).trans e,n,ne,nf,d⟩
 ·refine(I.hok b ob e).stay (fun c w' hc q=>(hs.2 c ?_).trans q) (fun _ q=>q) fun _ _ q=>q
  rintro rfl;rcases hc with rfl|hc
  ·rw[I.free]at e;cases e
  ·rw[I.free]at hc;cases hc
end
def goneE(i:Nat)(D:Ends):Ends:={nx:=fun σ H=>D.nx (σ.set i none) H,rt:=D.rt,bk:=fun σ H=>D.bk (σ.set i none) H,ct:=fun σ H=>D.ct (σ.set i none) H}
end NX
namespace NX
open PySem PySem.W PySem.Spec PyProof.Rows L2
section
variable{prog:Program}{w:World}{A:Around}{E:Value->Shared->Prop}{s:Shared}
end
section
variable{X:Cx}
end
end NX
namespace NX
open PySem PySem.Spec PyProof.Rows L2
section
variable{X:Cx}{es:List Expr}{kt:Nat}{pt:Pos}
end
end NX
namespace NX
open PySem
namespace ST
noncomputable def JO(m:Nat)(p:SetTable.Probe):SetTable.Probe:=if p.more>0 then{p with j:=p.j+1,more:=p.more-1} else
 {p with j:=(SetTable.leap m p.i p.perturb).1,more:=SetTable.runEnd m (SetTable.leap m p.i p.perturb).1-(SetTable.leap m p.i p.perturb).1,i:=(SetTable.leap m p.i p.perturb).1,perturb:=(SetTable.leap m p.i p.perturb).2}
def EH(m:Nat):Nat->SetTable.Probe->SetTable.Probe
 | 0,p=>p
 |k+1,p=>EH m k (JO m p)
theorem pV(m:Nat):∀(a b:Nat) (p:SetTable.Probe),EH m (a+b) p=EH m b (EH m a p)
 | 0,b,p=>by rw[OU];rfl
 |a+1,b,p=>by
  rw[show a+1+b=(a+b)+1 by lia,EH,pV m a b];rfl
def fr(m:Nat)(x:Nat×Nat)(d:Option Nat):SetTable.Probe:={j:=x.1,more:=SetTable.runEnd m x.1-x.1,i:=x.1,perturb:=x.2,dummy:=d}
theorem pW(m:Nat):∀(r:Nat) (q:SetTable.Probe),q.more=r->EH m (r+1) q=fr m (SetTable.leap m q.i q.perturb) q.dummy
 | 0,q,h=>by
  show JO m q=_;unfold JO;rw[MO (by lia)];rfl
 |r+1,q,h=>by
  rw[EH];have e:JO m q={q with j:=q.j+1,more:=q.more-1}:=by
   unfold JO;rw[MM (by lia)]
  rw[e,pW m r _ (by show q.more-1=r;lia)]
def lp(m:Nat):Nat->Nat×Nat->Nat×Nat
 | 0,x=>x
 |l+1,x=>lp m l (SetTable.leap m x.1 x.2)
theorem tR(m:Nat):∀(a b:Nat) (x:Nat×Nat),lp m (a+b) x=lp m b (lp m a x)
 | 0,b,x=>by rw[OU];rfl
 |a+1,b,x=>by
  rw[show a+1+b=(a+b)+1 by lia,lp,tR m a b];rfl
theorem vo(m i:Nat):SetTable.runEnd m i-i<=9:=by
 unfold SetTable.runEnd;split <;> lia
theorem pX(m:Nat):∀(l:Nat) (x:Nat×Nat) (d:Option Nat),∃k,k<=10*l/\EH m k (fr m x d)=fr m (lp m l x) d
 | 0,x,d=>⟨0,MH _,rfl⟩
 |l+1,x,d=>by
  obtain⟨k,hk,e⟩:=pX m l (SetTable.leap m x.1 x.2) d;have h1:=pW m (SetTable.runEnd m x.1-x.1) (fr m x d) rfl;have h2:=vo m x.1;refine⟨(SetTable.runEnd m x.1-x.1+1)+k,by lia,?_⟩;rw[pV,h1];exact e
theorem tS(m:Nat):∀(l:Nat) (x:Nat×Nat),(lp m l x).2=x.2 / 32 ^ l
 | 0,x=>(Nat.div_one _).symm
 |l+1,x=>by
  rw[lp,tS m l];show x.2 / 32 / 32 ^ l=_;rw[Nat.div_div_eq_div_mul,Nat.pow_succ,Qn]
def cy(m:Nat):Nat->Nat->Nat
 | 0,i=>i
 |l+1,i=>cy m l ((i*5+1)%(m+1))
theorem mR(m:Nat):∀(a b i:Nat),cy m (a+b) i=cy m b (cy m a i)
 | 0,b,i=>by rw[OU];rfl
 |a+1,b,i=>by
  rw[show a+1+b=(a+b)+1 by lia,cy,mR m a b];rfl
theorem x3(m:Nat):∀(l i:Nat),lp m l (i,0)=(cy m l i,0)
 | 0,i=>rfl
 |l+1,i=>by
  show lp m l ((i*5+1+0 / 32)%(m+1),0 / 32)=_;rw[Nat.zero_div,Nat.add_zero,x3 m l];rfl
def Iq(m:Nat):Prop:=m=7\/m=31\/m=127
def x4(m:Nat):Bool:=(List.range (m+1)).all fun s=>(List.range (m+1)).any fun a=>cy m a 0==s
theorem pY{m:Nat}(h:Iq m):∀s,s<=m->∃a,a<=m/\cy m a 0=s:=by
 have key:x4 m=true:=by
  rcases h with rfl|rfl|rfl <;> decide +kernel
 intro s hs;unfold x4 at key;rw[M3]at key;obtain⟨a,ha,e⟩:=N6.mp (key s (Nx.mpr (by lia)));exact⟨a,by have:=Nx.mp ha;lia,Nb.mp e⟩
theorem vp{m:Nat}(h:Iq m):cy m (m+1) 0=0:=by
 rcases h with rfl|rfl|rfl <;> decide +kernel
theorem x5{m:Nat}(h:Iq m){i s:Nat}(hi:i<=m)(hs:s<=m):∃l,l<=m/\cy m l i=s:=by
 obtain⟨a,ha,rfl⟩:=pY h i hi;obtain⟨b,hb,rfl⟩:=pY h s hs;by_cases HQ:a<=b
 ·refine⟨b-a,by lia,?_⟩;rw[<-mR,show a+(b-a)=b by lia]
 ·refine⟨m+1-a+b,by lia,?_⟩;rw[<-mR,show a+(m+1-a+b)=(m+1)+b by lia,mR,vp h]
theorem tT(m:Nat):∀(l:Nat) (x:Nat×Nat),0<l->(lp m l x).1<=m
 | 1,x,_=>by
  show(x.1*5+1+x.2 / 32)%(m+1)<=m;have:=Nat.mod_lt (x.1*5+1+x.2 / 32) (show 0<m+1 by lia);lia
 |l+2,x,_=>tT m (l+1) _ (by lia)
theorem zV{m:Nat}(h:Iq m){x:Nat×Nat}(hx:x.2<2 ^ 64){s:Nat}(hs:s<=m):∃l,l<=13+m/\(lp m l x).1=s:=by
 have h0:(lp m 13 x).2=0:=by
  rw[tS];exact Nat.div_eq_of_lt (ML hx (by decide))
 obtain⟨l,hl,e⟩:=x5 h (tT m 13 x (by decide)) hs;refine⟨13+l,by lia,?_⟩;rw[tR,show lp m 13 x=((lp m 13 x).1,0) by rw[<-h0],x3];exact e
theorem si{m:Nat}(h:Iq m){x:Nat×Nat}(hx:x.2<2 ^ 64)(d:Option Nat){s:Nat}(hs:s<=m):∃k,k<10*(m+15)/\(EH m k (fr m x d)).j=s:=by
 obtain⟨l,hl,e⟩:=zV h hx hs;obtain⟨k,hk,e2⟩:=pX m l x d;exact⟨k,by lia,by rw[e2];exact e⟩
theorem vq(h:Int):SetTable.bits h<2 ^ 64:=by
 unfold SetTable.bits;have h1:=OI h (show((2:Int) ^ 64)≠0 by decide);have h2:=Og h (show(0:Int)<2 ^ 64 by decide);have:(2:Int) ^ 64=((2 ^ 64:Nat):Int):=by decide
 lia
theorem mS{P:Nat->Bool}:∀(k:Nat),P k=true->∃n,n<=k/\P n=true/\∀i<n,P i=false
 |k,h=>by
  cases e:(List.range k).find? P with
  |none=>
   refine⟨k,MH _,h,fun i hi=>?_⟩;have:=List.find?_eq_none.mp e i (Nx.mpr hi);simpa using this
  |some a=>
   have ha:=Nx.mp (List.mem_of_find?_eq_some e);have hp:=List.find?_some e;obtain⟨n,hn,h1,h2⟩:=mS a hp;exact⟨n,by lia,h1,h2⟩
termination_by k=>k
theorem pZ{m:Nat}{L:List Nat}(hL:L.length<=m):∃s,s<=m/\s∉L:=by
 have:∀(l k:List Nat),l.Nodup->(∀x∈l,x∈k)->l.length<=k.length:=by
  intro l;induction l with
  |nil=>exact fun k _ _=>Nq _
  |cons a l ih=>
   intro k nd h;rw[Nf]at nd;have ha:=h a My;have:=ih (k.erase a) nd.2 fun x hx=>(List.mem_erase_of_ne (fun e=>nd.1 (by rw[<-e];exact hx))).mpr (h x (MJ _ hx))
   have h2:=List.length_erase_of_mem ha;have h3:=List.length_pos_of_mem ha;rw[MY];lia
 refine Pp fun hn=>?_
 have:=this (List.range (m+1)) L List.nodup_range fun x hx=>Pp fun Jp=>hn ⟨x,by have:=Nx.mp hx;lia,Jp⟩
 rw[M8]at this;lia
theorem p0{m:Nat}(h:Iq m){L:List Nat}(hL:L.length<=m){x:Nat×Nat}(hx:x.2<2 ^ 64)(d:Option Nat):∃n,n<10*(m+15)/\(EH m n (fr m x d)).j∉L/\∀i<n,(EH m i (fr m x d)).j∈L:=by
 obtain⟨s,hs,hn⟩:=pZ hL;obtain⟨k,hk,e⟩:=si h hx d hs;obtain⟨n,h1,h2,h3⟩:=mS (P:=fun k=>!decide ((EH m k (fr m x d)).j∈L)) k (by rw[e,MZ hn];rfl);refine⟨n,by lia,by simpa using h2,fun i hi=>by simpa using h3 i hi⟩
end ST
end NX
namespace NX
open PySem
namespace ST
def Up(l:List Nat):Prop:=l.Pairwise (·< ·)
def Jq(m:Nat)(h:Int):SetTable.Probe:=fr m (SetTable.bits h%(m+1),SetTable.bits h) none
structure Tb(t:SetTable)(es:List (Int×Value))(m:Nat):Prop where
 ms:t.mask=m
 msk:Iq m
 dm:t.dummies = #[]
 sz:t.place.size=es.length
 le:es.length<=m
 up:Up t.place.toList
 bd:∀j∈t.place.toList,j<=m
 rc:∀z∈t.place.toList.zip es,∃k,(EH m k (Jq m z.2.1)).j=z.1/\∀i<k,(EH m i (Jq m z.2.1)).j∈t.place.toList
theorem sj(m:Nat)(h:Int):(SetTable.bits h%(m+1),SetTable.bits h).2<2 ^ 64:=vq h
theorem Tb.free{t:SetTable}{es:List (Int×Value)}{m:Nat}(T:Tb t es m)(h:Int):∃n,n<10*(m+15)/\(EH m n (Jq m h)).j∉t.place.toList/\∀i<n,(EH m i (Jq m h)).j∈t.place.toList:=
 p0 T.msk (by rw[NA,T.sz];exact T.le) (sj m h) none
end ST
end NX
namespace NX
open PySem
namespace ST
def own(o:Array (Option Nat))(l:List Nat):List (Nat×Nat):=l.filterMap fun j=>(o.getD j none).map (j,·)
structure Ly(m:Nat)(P:List Int)(o:Array (Option Nat)):Prop where
 sz:o.size=m+1
 pm:((own o (List.range (m+1))).map (·.2)).Perm (List.range P.length)
 rc:∀j c,o.getD j none=some c->∃h,P[c]?=some h/\∃k,(EH m k (Jq m h)).j=j/\∀i<k,∃c',o.getD (EH m i (Jq m h)).j none=some c'
theorem Ly.len{m:Nat}{P:List Int}{o:Array (Option Nat)}(L:Ly m P o):(own o (List.range (m+1))).length=P.length:=by
 have:=L.pm.length_eq;rw[MA,M8]at this;exact this
end ST
end NX
namespace NX
open PySem
namespace ST
section
variable{prog:Program}{w:World}{K:Type}[DecidableEq K]{knd:KeyKind prog w K}{A:Around}{E:Value->Shared->Prop}{s:Shared}
end
end ST
end NX
namespace NX
open PySem
namespace ST
section
variable{prog:Program}{w:World}{K:Type}[DecidableEq K]{knd:KeyKind prog w K}{A:Around}{E:Value->Shared->Prop}{s:Shared}
end
end ST
end NX
namespace NX
open PySem
namespace ST
section
variable{prog:Program}{w:World}{K:Type}[DecidableEq K]{knd:KeyKind prog w K}{A:Around}{E:Value->Shared->Prop}{s:Shared}
end
end ST
end NX
namespace NX
open PySem
namespace ST
section
variable{prog:Program}{w:World}{K:Type}[DecidableEq K]{knd:KeyKind prog w K}{A:Around}
def met(kf:Nat->List K):Nat->List (List K)
 | 0=>[]
 |i+1=>if kf i∈met kf i then met kf i else kf i::met kf i
variable{R:Result->Shared->Prop}{I:Addr}{fp wr:List Addr}{G:Array GenState->Array GenState->Prop}{n:Nat}{P:Nat->Value->Prop}{St:Nat->Shared->Prop}
end
end ST
end NX
namespace NX
open PySem
namespace ST
section
variable{prog:Program}{w:World}{K:Type}[DecidableEq K]{knd:KeyKind prog w K}{A:Around}{E:Value->Shared->Prop}{s:Shared}
end
end ST
end NX
namespace NX
open PySem PySem.Spec PyProof.Rows L2
namespace ST
section
variable{X:Cx}{e:Expr}{ta:TA}{p p2 pos Fy:Pos}
end
end ST
end NX
namespace NX
open PySem PySem.Spec PyProof.Rows L2
namespace ST
section
variable{X:Cx}{e:Expr}{ta:TA}{p p2 pos Fy:Pos}
end
end ST
end NX
namespace NX
open PySem PySem.Spec PyProof.Rows L2
section
variable{X:Cx}{ck:List Stmt}{tx:TX}{e a b:Expr}{C:Addr}{pos p:Pos}{Ww:Hp->Prop}
end
open PySem.Builtin.ObjectAttr PySem.Builtin.Getset_descriptor
section
variable{M:Model}{A:Around}{E:Value->Shared->Prop}{K:W.Frag}{C P N ab:Addr}
theorem sk{nm q bs bm hdct sn sub ab col dd k0 k1 k2 k3 k5 newId}{s:Shared}{e:Addr}{oe:Obj}{Q:Bool->Shared->Prop}(X:K.In s.heap)(up:PySem.W.mroIn K C (.ref P)=some true)
  (hP:s.heap.get? P=some (excClassObj nm q P N bs bm hdct sn sub ab col dd k0 k1 k2 k3 k5 newId)) (he:s.heap.get? e=some oe) (HX:oe.cls=.ref C) (DF:bm.contains (.type "BaseException")=true)
  (hq:Q true s):wpAny M A (excMatches (.ref e) (.ref P)) Q E s:=by
 obtain⟨h,g,d,t,os⟩:=s;have Mp:=Pf (M:=M) X up;have hcB:(Value.ref P::bm).contains (.type "BaseException")=true:=by rw[List.contains_cons,DF,Bool.or_true]
 have f:=tc_notTuple;unfold excMatches;repeat (first|(with_reducible refine wpAny_loadPart_at he ?_;rw[HX])|with_reducible refine wpAny_loadPart_at hP ?_|(with_reducible refine wpAny_isSubtype_exc hP ?_;rw[hcB])|with_reducible refine Mp.at ?_|wp_step)
 exact hq
end
theorem ps_tryUp{X:Cx}{body EL:List Stmt}{b0:Stmt}{x n:Str}{i:Nat}{C P:Addr}{np GW pos:Pos}{t:TS}{th:Addr->TS}{tx:TX}(O:XCl X.mg X.base x P)(up:PySem.W.mroIn X.K C (.ref P)=some true)(hg:Gl X x)(hn:PSs X.nox body t)(hx:PSX X body C tx)
  (hh:∀a o vs,o.cls=.ref C->o.data=.fields vs->PSs (asX X a o) (b0::EL) (th a)) (hN:X.N.Nodup) (hi:X.N[i]?=some n) (hl:X.env.kindOf n=some .local) (Jp:X.env.scope.names.lookup n=some .local)
  (hs:X.stack=X.env::X.outer:=by rfl) (hf:X.env.frame=some X.env.locals:=by rfl) (C4:(x==("__debug__" : Str))=false:=by decide):
  PS X (.Try body [.ExceptHandler (some (.Name x np)) (some n) (b0::EL) GW] [] [] pos) (fun D σ H=>t D σ H\/tx σ H fun H'=>∀a,th a (goneE i D) (σ.set i (some (.ref a))) H'):=by
 intro pr s σ H D I h;rcases h with h|h
 ·refine wpAny_Try_except (Nv (hn pr s σ H D (I.wish _) h) (fun f s1 q=>?_) fun _ _ z=>z.elim);have q:=q.unwish;cases f with
  |next=>exact OE q
  |ret v=>exact q
  |brk=>exact q
  |cont=>exact q
 refine wpAny_Try_except (Nv (hx pr s σ H _ I h) (fun _ _ z=>z.elim) fun e s1 z=>?_);obtain⟨s0,H1,I1,a,tt,B,H',rfl,GP,hgen,un,hok,F7,KD,hW⟩:=z;have nt:∀b,H' b≠none->b∉CU X.stack:=fun b n z=>by
  obtain⟨_,o,ho,_⟩:=I1.stack.mem z;exact n (un.free b o ho (I1.stkFree b z) fun z=>nomatch z)
 have key:∀h6:Heap,Heap.FlyingW B X.stack a (.ref C) (.ref tt) h6->s1.heap.UpToSlots h6->Inv X pr σ H' {s1 with heap:=h6}:=fun h6 f6 sm=>by
  have sl:∀b u,s1.heap.get? b=some u->b∈CU X.stack->∃z,h6.get? b=some {u with slots:=z}:=fun b u q n=>by
   obtain⟨_,o,ho,hd⟩:=F7.2.2.1.mem n;rw[q]at ho;cases ho;exact sm b u q hd
  refine I1.call' (ch:=[]) GP ⟨fun b o q n hb hx=>?_,fun b o q n hb hx=>?_,un.free,fun b o q hx=>?_,un.tups,un.frzs,un.tbls⟩ (fun b o e=>?_) hgen fun b z=>nomatch z
  ·have:=un.keep b o q n hb hx;exact f6.1 b o (KD b o this (.inr ⟨o,q⟩) hb)
  ·obtain⟨z,e⟩:=un.slot b o q n hb hx;obtain⟨z',e'⟩:=sl b _ e hb;exact⟨z',e'⟩
  ·obtain⟨o',e⟩:=un.there b o q hx;by_cases hb:b∈CU X.stack
   ·obtain⟨z,e'⟩:=sl b o' e hb;exact⟨_,e'⟩
   ·exact⟨o',f6.1 b o' (KD b o' e (.inr ⟨o,q⟩) hb)⟩
  ·refine(hok b o e).stay (fun c u hc q=>?_) (fun _ q=>q) fun _ _ q=>q
   have hc:H' c≠none:=by
    rcases hc with rfl|hc
    ·rw[e];exact fun z=>nomatch z
    ·rw[hc];exact fun z=>nomatch z
   exact f6.1 c u (KD c u q (.inl hc) (nt c hc))
 have Lm:a∉CU X.stack:=fun z=>by
  obtain⟨_,o,ho,hd⟩:=F7.2.2.1.mem z;obtain⟨_,_,_,oe,vs,T,oT,ts,he,_,hv,_⟩:=F7;rw[he]at ho;cases ho;exact hd vs hv
 have naH:H' a=none:=by
  cases hq:H' a with
  |none=>rfl
  |some u=>
   exfalso;obtain⟨ob,e⟩:=ook_get (hok a u hq);have:=KD a ob e (.inl (by rw[hq];exact fun z=>nomatch z)) Lm;rw[F7.2.1]at this;cases this
 have naL:a≠X.env.locals:=fun z=>Lm (by
  unfold CU;rw[hs,Ob,hf,z];exact My)
 have naF:a∉X.fs:=fun z=>Lm (by
  have z:a∈X.outer.filterMap (·.frame):=z;unfold CU;rw[hs,Ob,hf];exact MJ _ z)
 have fl:Heap.FlyingW B (X.env::X.outer) a (.ref C) (.ref tt) s1.heap:=by rw[<-hs];exact F7
 refine wpAny_looks_onW (by rw[<-hs];exact I1.ok.frames) hf fl fun h4 JP sm4=>?_
 refine wpAny_landsW JP fun h5 Ir sm5=>?_
 have JQ:=sm4.trans sm5;have I5:=r9 (key h5 (by rw[hs];exact Ir) JQ) a;obtain⟨ob,Iu,hobc⟩:=Ir.there;refine wpAny_handleBy_cons (codeAny_handlers_test (g5 I5 hg (show(handX X a).mg x=some (.ref P) from by obtain⟨_,_,_,_,_,O⟩:=O;exact O.bound) ?_ C4)) (by intro q;cases q);obtain⟨_,_,_,bm,FB,O⟩:=O;obtain⟨tl,N,nm,q,bs,hdct,sn,sub,ab,col,dd,k0,k1,k2,k3,k5,mN,hC,hNN,L4,T⟩:=O.obj;refine sk I5.kIn up (I5.bk _ _ hC) Iu hobc (T.hasType FB.hasBase) (codeAny_handlers_suite_as ?_);refine lands_againW Ir fun h6 JR sm6=>?_
 have I6:=key h6 (by rw[hs];exact JR) (JQ.trans sm6);obtain⟨_,_,_,oe,vs,_,_,_,he,Ld,hv,_⟩:=id JR;have I7:=xZ (a:=a) (o:=oe) I6 he naH naL naF fun v z=>by rw[hv]at z;cases z
 refine jo (X:=asX X a oe) (x:=n) (i:=i) (v:=.ref a) I7 hN hi (.inl Jp) rfl (fun s2 I2=>?_) (.inr Jp);refine Nv (hh a oe vs Ld.1 hv pr s2 _ H' (goneE i D) I2 (hW a)) (fun f s3 q=>?_) fun _ _ z=>z.elim
 have go:∀{σ':L2.St}{Iv:Hp},Inv (asX X a oe) pr σ' Iv s3->∀{Q:Unit->Shared->Prop}{A':Around}{E':Value->Shared->Prop},(∀s4,Inv X pr (σ'.set i none) Iv s4->Q () s4)->wpAny (model X.prog X.w) A' (do bindName X.env n .none;unbindBehindTheSuite X.env n GW) Q E' s3:=fun{σ' Iv} I8 {Q A' E'} kk=>by
  have I9:=se I6.ok I8;obtain⟨m,hm,_⟩:=id I9.loc;exact wpAny_nameGoes_keeps hl hm (by rw[I9.ok.kind];rfl) fun h' v KZ sb=>kk _ (sf I9 hN hi hm KZ sb)
 cases f with
 |next=>obtain⟨σ',Iv,I8,q⟩:=q;exact go I8 fun s4 I9=>⟨_,_,I9,q⟩
 |brk=>obtain⟨σ',Iv,I8,q⟩:=q;exact go I8 fun s4 I9=>⟨_,_,I9,q⟩
 |cont=>obtain⟨σ',Iv,I8,q⟩:=q;exact go I8 fun s4 I9=>⟨_,_,I9,q⟩
 |ret u=>obtain⟨v,σ',Iv,I8,r,q⟩:=q;exact go I8 fun s4 I9=>⟨v,_,_,I9,r,q⟩
end NX
namespace PV
open PySem L2 NX
inductive D where
 |non|bl (b:Bool)|int (i:Int)|str (l:List Nat)|tup (ds:List D)|lst (ds:List D)|dct (tk:Bool) (ks vs:List D)
inductive O where
 |f|l (c:O)|t (cs:List O)|d|pin (p:Addr) (c:O)
abbrev R:=O×D
abbrev Env:=List (Option R)
inductive Res(α:Type) where
 |ok (a:α)|exc (c:List Nat)|bad
def kD:Key->D
 | .inl i=>.int i
 | .inr x=>.str x.cps.toList
def isM:HO->Bool
 | .lst _=>true
 | .dK _=>true
 | .dT _=>true
 |_=>false
def isT:HO->Bool
 | .tup _=>true
 | .frz _ (.tup _)=>true
 |_=>false
def tU:Key->Prop
 | .inl _=>True
 | .inr x=>x.cps.toList.length<=sizeLine
def DictO(o:HO)(tk:Bool)(ks:List D)(xs:List V):Prop:=match tk with
 |true=>∃BV:List (List Key×V),o=.dT BV/\ks=BV.map (fun kv=>D.tup (kv.1.map kD))/\xs=BV.map (·.2)/\∀kv∈BV,∀k∈kv.1,tU k
 |false=>∃BV:List (Key×V),o=.dK BV/\ks=BV.map (fun kv=>kD kv.1)/\xs=BV.map (·.2)/\∀kv∈BV,tU kv.1
mutual
noncomputable def Rep(K:W.Frag)(G:Hp):D->V->Prop
 | .non,v=>v=.non
 | .bl b,v=>v=.bl b
 | .int i,v=>v=.int i
 | .str l,v=>v=.str (S l)/\l.length<=sizeLine
 | .tup ds,v=>∃p xs,v=.ref p/\G p=some (.tup xs)/\Reps K G ds xs
 | .lst ds,v=>∃p xs,v=.ref p/\SqL K G p xs/\Reps K G ds xs
 | .dct tk ks vs,v=>∃p xs o,v=.ref p/\Rd G p o/\DictO o tk ks xs/\Reps K G vs xs
noncomputable def Reps(K:W.Frag)(G:Hp):List D->List V->Prop
 |[],xs=>xs=[]
 |d::ds,xs=>∃y ys,xs=y::ys/\Rep K G d y/\Reps K G ds ys
end
def AllO(P:D->V->List Addr->Prop):List D->List V->List Addr->Prop
 |[],xs,fp=>xs=[]/\fp=[]
 |d::ds,xs,fp=>∃y ys a b,xs=y::ys/\fp=a++b/\P d y a/\AllO P ds ys b
mutual
noncomputable def RepO(K:W.Frag)(G H:Hp):O->D->V->List Addr->Prop
 | .f,d,v,fp=>Rep K G d v/\fp=[]
 | .l c,.lst ds,v,fp=>∃p xs BY,v=.ref p/\H p=some (.lst xs)/\fp=p::BY/\AllO (RepO K G H c) ds xs BY
 | .t cs,.tup ds,v,fp=>∃p xs,v=.ref p/\G p=some (.tup xs)/\RepT K G H cs ds xs fp
 | .d,.dct tk ks vs,v,fp=>∃p xs o,v=.ref p/\H p=some o/\DictO o tk ks xs/\fp=[p]/\Reps K G vs xs
 | .pin p c,d,v,fp=>v=.ref p/\RepO K G H c d v fp
 |_,_,_,_=>False
noncomputable def RepT(K:W.Frag)(G H:Hp):List O->List D->List V->List Addr->Prop
 |[],[],xs,fp=>xs=[]/\fp=[]
 |c::cs,d::ds,xs,fp=>∃y ys a b,xs=y::ys/\fp=a++b/\RepO K G H c d y a/\RepT K G H cs ds ys b
 |_,_,_,_=>False
end
section
variable{K:W.Frag}{G G' H H':Hp}
theorem Rd.mono{p:Addr}{u:HO}(h:Same G G')(r:Rd G p u):Rd G' p u:=by
 rcases r with r|⟨o,r⟩
 ·exact .inl (h _ _ r)
 ·exact .inr ⟨o,h _ _ r⟩
theorem fF{p:Addr}{xs:List V}(h:Same G G')(r:SqL K G p xs):SqL K G' p xs:=r.elim (fun r=>.inl (Rd.mono h r)) .inr
theorem bu{p:Addr}{xs:List V}(h:Same G G')(r:SqT K G p xs):SqT K G' p xs:=r.elim (fun r=>.inl (Rd.mono h r)) .inr
mutual
theorem Rep.mono(h:Same G G'):∀{d:D}{v:V},Rep K G d v->Rep K G' d v
 | .non,_,r=>by simpa only[Rep] using r
 | .bl _,_,r=>by simpa only[Rep] using r
 | .int _,_,r=>by simpa only[Rep] using r
 | .str _,_,r=>by simpa only[Rep] using r
 | .tup ds,_,r=>by
  simp only[Rep]at r ⊢;obtain⟨p,xs,e,q,rs⟩:=r;exact⟨p,xs,e,h _ _ q,Reps.mono h rs⟩
 | .lst ds,_,r=>by
  simp only[Rep]at r ⊢;obtain⟨p,xs,e,q,rs⟩:=r;exact⟨p,xs,e,fF h q,Reps.mono h rs⟩
 | .dct tk ks vs,_,r=>by
  simp only[Rep]at r ⊢;obtain⟨p,xs,o,e,q,dd,rs⟩:=r;exact⟨p,xs,o,e,Rd.mono h q,dd,Reps.mono h rs⟩
theorem Reps.mono(h:Same G G'):∀{ds:List D}{xs:List V},Reps K G ds xs->Reps K G' ds xs
 |[],_,r=>by simpa only[Reps] using r
 |d::ds,_,r=>by
  simp only[Reps]at r ⊢;obtain⟨y,ys,e,r1,r2⟩:=r;exact⟨y,ys,e,Rep.mono h r1,Reps.mono h r2⟩
end
theorem AllO.imp{P P':D->V->List Addr->Prop}:∀{ds:List D}{xs:List V}{fp:List Addr},(∀d v a,(∀p∈a,p∈fp)->P d v a->P' d v a)->AllO P ds xs fp->AllO P' ds xs fp
 |[],_,_,_,r=>r
 |d::ds,xs,fp,h,r=>by
  obtain⟨y,ys,a,b,e1,e2,p,q⟩:=r;subst e2;exact⟨y,ys,a,b,e1,rfl,h _ _ _ (fun p hp=>MU _ hp) p,AllO.imp (fun d v c hc=>h d v c fun p hp=>MI _ (hc p hp)) q⟩
mutual
theorem RepO.step(h:Same G G'):∀{o:O}{d:D}{v:V}{fp:List Addr},(∀p∈fp,H' p=H p)->RepO K G H o d v fp->RepO K G' H' o d v fp
 | .f,d,v,fp,hk,r=>by
  simp only[RepO]at r ⊢;exact⟨Rep.mono h r.1,r.2⟩
 | .pin p c,d,v,fp,hk,r=>by
  simp only[RepO]at r ⊢;exact⟨r.1,RepO.step h hk r.2⟩
 | .l c,.lst ds,v,fp,hk,r=>by
  simp only[RepO]at r ⊢;obtain⟨p,xs,BY,e,q,e2,a⟩:=r;subst e2;exact⟨p,xs,BY,e,(hk p My).trans q,rfl,AllO.imp (fun d v c hc=>RepO.step h fun z hz=>hk z (MJ _ (hc z hz))) a⟩
 | .t cs,.tup ds,v,fp,hk,r=>by
  simp only[RepO]at r ⊢;obtain⟨p,xs,e,q,a⟩:=r;exact⟨p,xs,e,h _ _ q,RepT.step h hk a⟩
 | .d,.dct tk ks vs,v,fp,hk,r=>by
  simp only[RepO]at r ⊢;obtain⟨p,xs,o,e,q,dd,e2,rs⟩:=r;subst e2;exact⟨p,xs,o,e,(hk p My).trans q,dd,rfl,Reps.mono h rs⟩
 | .l _,.non,_,_,_,r | .l _,.bl _,_,_,_,r | .l _,.int _,_,_,_,r | .l _,.str _,_,_,_,r | .l _,.tup _,_,_,_,r | .l _,.dct _ _ _,_,_,_,r=>by simp only[RepO]at r
 | .t _,.non,_,_,_,r | .t _,.bl _,_,_,_,r | .t _,.int _,_,_,_,r | .t _,.str _,_,_,_,r | .t _,.lst _,_,_,_,r | .t _,.dct _ _ _,_,_,_,r=>by simp only[RepO]at r
 | .d,.non,_,_,_,r | .d,.bl _,_,_,_,r | .d,.int _,_,_,_,r | .d,.str _,_,_,_,r | .d,.tup _,_,_,_,r | .d,.lst _,_,_,_,r=>by simp only[RepO]at r
theorem RepT.step(h:Same G G'):∀{cs:List O}{ds:List D}{xs:List V}{fp:List Addr},(∀p∈fp,H' p=H p)->RepT K G H cs ds xs fp->RepT K G' H' cs ds xs fp
 |[],[],_,_,_,r=>by simpa only[RepT] using r
 |c::cs,d::ds,xs,fp,hk,r=>by
  simp only[RepT]at r ⊢;obtain⟨y,ys,a,b,e1,e2,r1,r2⟩:=r;subst e2;exact⟨y,ys,a,b,e1,rfl,RepO.step h (fun p hp=>hk p (MU _ hp)) r1,RepT.step h (fun p hp=>hk p (MI _ hp)) r2⟩
 |[],_::_,_,_,_,r=>by simp only[RepT]at r
 |_::_,[],_,_,_,r=>by simp only[RepT]at r
end
theorem AllO.frozen{P:D->V->List Addr->Prop}:∀{ds:List D}{xs:List V}{fp:List Addr},(∀d v a,(∀p∈a,p∈fp)->P d v a->Rep K G' d v)->AllO P ds xs fp->Reps K G' ds xs
 |[],_,_,_,r=>by simp only[Reps];exact r.1
 |d::ds,xs,fp,h,r=>by
  obtain⟨y,ys,a,b,e1,e2,p,q⟩:=r;subst e2;simp only[Reps];exact⟨y,ys,e1,h _ _ _ (fun p hp=>MU _ hp) p,AllO.frozen (fun d v c hc=>h d v c fun p hp=>MI _ (hc p hp)) q⟩
mutual
theorem RepO.frozen(h:Same G G'):∀{o:O}{d:D}{v:V}{fp:List Addr},(∀p∈fp,∀u,H p=some u->G' p=some u)->RepO K G H o d v fp->Rep K G' d v
 | .f,d,v,fp,hk,r=>by
  simp only[RepO]at r;exact Rep.mono h r.1
 | .pin p c,d,v,fp,hk,r=>by
  simp only[RepO]at r;exact RepO.frozen h hk r.2
 | .l c,.lst ds,v,fp,hk,r=>by
  simp only[RepO]at r;simp only[Rep];obtain⟨p,xs,BY,e,q,e2,a⟩:=r;subst e2;exact⟨p,xs,e,SqL.of (hk p My _ q),AllO.frozen (fun d v c hc=>RepO.frozen h fun z hz=>hk z (MJ _ (hc z hz))) a⟩
 | .t cs,.tup ds,v,fp,hk,r=>by
  simp only[RepO]at r;simp only[Rep];obtain⟨p,xs,e,q,a⟩:=r;exact⟨p,xs,e,h _ _ q,RepT.frozen h hk a⟩
 | .d,.dct tk ks vs,v,fp,hk,r=>by
  simp only[RepO]at r;simp only[Rep];obtain⟨p,xs,o,e,q,dd,e2,rs⟩:=r;subst e2;exact⟨p,xs,o,e,.inl (hk p My _ q),dd,Reps.mono h rs⟩
 | .l _,.non,_,_,_,r | .l _,.bl _,_,_,_,r | .l _,.int _,_,_,_,r | .l _,.str _,_,_,_,r | .l _,.tup _,_,_,_,r | .l _,.dct _ _ _,_,_,_,r=>by simp only[RepO]at r
 | .t _,.non,_,_,_,r | .t _,.bl _,_,_,_,r | .t _,.int _,_,_,_,r | .t _,.str _,_,_,_,r | .t _,.lst _,_,_,_,r | .t _,.dct _ _ _,_,_,_,r=>by simp only[RepO]at r
 | .d,.non,_,_,_,r | .d,.bl _,_,_,_,r | .d,.int _,_,_,_,r | .d,.str _,_,_,_,r | .d,.tup _,_,_,_,r | .d,.lst _,_,_,_,r=>by simp only[RepO]at r
theorem RepT.frozen(h:Same G G'):∀{cs:List O}{ds:List D}{xs:List V}{fp:List Addr},(∀p∈fp,∀u,H p=some u->G' p=some u)->RepT K G H cs ds xs fp->Reps K G' ds xs
 |[],[],_,_,_,r=>by simp only[RepT]at r;simp only[Reps];exact r.1
 |c::cs,d::ds,xs,fp,hk,r=>by
  simp only[RepT]at r;simp only[Reps];obtain⟨y,ys,a,b,e1,e2,r1,r2⟩:=r;subst e2;exact⟨y,ys,e1,RepO.frozen h (fun p hp=>hk p (MU _ hp)) r1,RepT.frozen h (fun p hp=>hk p (MI _ hp)) r2⟩
 |[],_::_,_,_,_,r=>by simp only[RepT]at r
 |_::_,[],_,_,_,r=>by simp only[RepT]at r
end
theorem AllO.live{P:D->V->List Addr->Prop}:∀{ds:List D}{xs:List V}{fp:List Addr},(∀d v a,P d v a->∀p∈a,∃u,H p=some u)->AllO P ds xs fp->∀p∈fp,∃u,H p=some u
 |[],_,_,_,r=>by rw[r.2];intro p hp;cases hp
 |d::ds,xs,fp,h,r=>by
  obtain⟨y,ys,a,b,e1,e2,p,q⟩:=r;subst e2;intro z hz;rcases M1.mp hz with hz|hz
  ·exact h _ _ _ p z hz
  ·exact AllO.live h q z hz
mutual
theorem RepO.live:∀{o:O}{d:D}{v:V}{fp:List Addr},RepO K G H o d v fp->∀p∈fp,∃u,H p=some u
 | .f,d,v,fp,r=>by
  simp only[RepO]at r;rw[r.2];intro p hp;cases hp
 | .pin p c,d,v,fp,r=>by
  simp only[RepO]at r;exact RepO.live r.2
 | .l c,.lst ds,v,fp,r=>by
  simp only[RepO]at r;obtain⟨p,xs,BY,e,q,e2,a⟩:=r;subst e2;intro z hz;rcases MN.mp hz with rfl|hz
  ·exact⟨_,q⟩
  ·exact AllO.live (fun d v a=>RepO.live) a z hz
 | .t cs,.tup ds,v,fp,r=>by
  simp only[RepO]at r;obtain⟨p,xs,e,q,a⟩:=r;exact RepT.live a
 | .d,.dct tk ks vs,v,fp,r=>by
  simp only[RepO]at r;obtain⟨p,xs,o,e,q,dd,e2,rs⟩:=r;subst e2;intro z hz;rw[Nu]at hz;exact⟨_,hz▸q⟩
 | .l _,.non,_,_,r | .l _,.bl _,_,_,r | .l _,.int _,_,_,r | .l _,.str _,_,_,r | .l _,.tup _,_,_,r | .l _,.dct _ _ _,_,_,r=>by simp only[RepO]at r
 | .t _,.non,_,_,r | .t _,.bl _,_,_,r | .t _,.int _,_,_,r | .t _,.str _,_,_,r | .t _,.lst _,_,_,r | .t _,.dct _ _ _,_,_,r=>by simp only[RepO]at r
 | .d,.non,_,_,r | .d,.bl _,_,_,r | .d,.int _,_,_,r | .d,.str _,_,_,r | .d,.tup _,_,_,r | .d,.lst _,_,_,r=>by simp only[RepO]at r
theorem RepT.live:∀{cs:List O}{ds:List D}{xs:List V}{fp:List Addr},RepT K G H cs ds xs fp->∀p∈fp,∃u,H p=some u
 |[],[],_,_,r=>by
  simp only[RepT]at r;rw[r.2];intro p hp;cases hp
 |c::cs,d::ds,xs,fp,r=>by
  simp only[RepT]at r;obtain⟨y,ys,a,b,e1,e2,r1,r2⟩:=r;subst e2;intro z hz;rcases M1.mp hz with hz|hz
  ·exact RepO.live r1 z hz
  ·exact RepT.live r2 z hz
 |[],_::_,_,_,r=>by simp only[RepT]at r
 |_::_,[],_,_,r=>by simp only[RepT]at r
end
theorem DictO.isM{o:HO}{tk:Bool}{ks:List D}{xs:List V}(h:DictO o tk ks xs):PV.isM o=true:=by
 cases tk with
 |true=>
  obtain⟨BV,e,_⟩:=h;rw[e];rfl
 |false=>
  obtain⟨BV,e,_⟩:=h;rw[e];rfl
theorem AllO.mut{P:D->V->List Addr->Prop}:∀{ds:List D}{xs:List V}{fp:List Addr},(∀d v a,P d v a->∀p∈a,∃u,H p=some u/\isM u=true)->AllO P ds xs fp->∀p∈fp,∃u,H p=some u/\isM u=true
 |[],_,_,_,r=>by rw[r.2];intro p hp;cases hp
 |d::ds,xs,fp,h,r=>by
  obtain⟨y,ys,a,b,e1,e2,p,q⟩:=r;subst e2;intro z hz;rcases M1.mp hz with hz|hz
  ·exact h _ _ _ p z hz
  ·exact AllO.mut h q z hz
mutual
theorem RepO.mut:∀{o:O}{d:D}{v:V}{fp:List Addr},RepO K G H o d v fp->∀p∈fp,∃u,H p=some u/\isM u=true
 | .f,d,v,fp,r=>by
  simp only[RepO]at r;rw[r.2];intro p hp;cases hp
 | .pin p c,d,v,fp,r=>by
  simp only[RepO]at r;exact RepO.mut r.2
 | .l c,.lst ds,v,fp,r=>by
  simp only[RepO]at r;obtain⟨p,xs,BY,e,q,e2,a⟩:=r;subst e2;intro z hz;rcases MN.mp hz with rfl|hz
  ·exact⟨_,q,rfl⟩
  ·exact AllO.mut (fun d v a=>RepO.mut) a z hz
 | .t cs,.tup ds,v,fp,r=>by
  simp only[RepO]at r;obtain⟨p,xs,e,q,a⟩:=r;exact RepT.mut a
 | .d,.dct tk ks vs,v,fp,r=>by
  simp only[RepO]at r;obtain⟨p,xs,o,e,q,dd,e2,rs⟩:=r;subst e2;intro z hz;rw[Nu]at hz;exact⟨_,hz▸q,dd.isM⟩
 | .l _,.non,_,_,r | .l _,.bl _,_,_,r | .l _,.int _,_,_,r | .l _,.str _,_,_,r | .l _,.tup _,_,_,r | .l _,.dct _ _ _,_,_,r=>by simp only[RepO]at r
 | .t _,.non,_,_,r | .t _,.bl _,_,_,r | .t _,.int _,_,_,r | .t _,.str _,_,_,r | .t _,.lst _,_,_,r | .t _,.dct _ _ _,_,_,r=>by simp only[RepO]at r
 | .d,.non,_,_,r | .d,.bl _,_,_,r | .d,.int _,_,_,r | .d,.str _,_,_,r | .d,.tup _,_,_,r | .d,.lst _,_,_,r=>by simp only[RepO]at r
theorem RepT.mut:∀{cs:List O}{ds:List D}{xs:List V}{fp:List Addr},RepT K G H cs ds xs fp->∀p∈fp,∃u,H p=some u/\isM u=true
 |[],[],_,_,r=>by
  simp only[RepT]at r;rw[r.2];intro p hp;cases hp
 |c::cs,d::ds,xs,fp,r=>by
  simp only[RepT]at r;obtain⟨y,ys,a,b,e1,e2,r1,r2⟩:=r;subst e2;intro z hz;rcases M1.mp hz with hz|hz
  ·exact RepO.mut r1 z hz
  ·exact RepT.mut r2 z hz
 |[],_::_,_,_,r=>by simp only[RepT]at r
 |_::_,[],_,_,r=>by simp only[RepT]at r
end
noncomputable def RepE(K:W.Frag)(G H:Hp):Env->List (Option V)->List Addr->Prop
 |[],vs,fp=>vs=[]/\fp=[]
 |e::es,vs,fp=>∃y ys,vs=y::ys/\match e with
  |none=>RepE K G H es ys fp
  |some r=>∃v a b,y=some v/\fp=a++b/\RepO K G H r.1 r.2 v a/\RepE K G H es ys b
theorem RepE.step(h:Same G G'):∀{es:Env}{vs:List (Option V)}{fp:List Addr},(∀p∈fp,H' p=H p)->RepE K G H es vs fp->RepE K G' H' es vs fp
 |[],_,_,_,r=>r
 |none::es,vs,fp,hk,r=>by
  obtain⟨y,ys,e,r⟩:=r;exact⟨y,ys,e,RepE.step h hk r⟩
 |some r::es,vs,fp,hk,q=>by
  obtain⟨y,ys,e,v,a,b,e1,e2,r1,r2⟩:=q;subst e2;exact⟨y,ys,e,v,a,b,e1,rfl,RepO.step h (fun p hp=>hk p (MU _ hp)) r1,RepE.step h (fun p hp=>hk p (MI _ hp)) r2⟩
theorem RepE.live:∀{es:Env}{vs:List (Option V)}{fp:List Addr},RepE K G H es vs fp->∀p∈fp,∃u,H p=some u
 |[],_,_,r=>by
  rw[r.2];intro p hp;cases hp
 |none::es,vs,fp,r=>by
  obtain⟨y,ys,e,r⟩:=r;exact RepE.live r
 |some r::es,vs,fp,q=>by
  obtain⟨y,ys,e,v,a,b,e1,e2,r1,r2⟩:=q;subst e2;intro z hz;rcases M1.mp hz with hz|hz
  ·exact r1.live z hz
  ·exact RepE.live r2 z hz
theorem RepE.mut:∀{es:Env}{vs:List (Option V)}{fp:List Addr},RepE K G H es vs fp->∀p∈fp,∃u,H p=some u/\isM u=true
 |[],_,_,r=>by
  rw[r.2];intro p hp;cases hp
 |none::es,vs,fp,r=>by
  obtain⟨y,ys,e,r⟩:=r;exact RepE.mut r
 |some r::es,vs,fp,q=>by
  obtain⟨y,ys,e,v,a,b,e1,e2,r1,r2⟩:=q;subst e2;intro z hz;rcases M1.mp hz with hz|hz
  ·exact r1.mut z hz
  ·exact RepE.mut r2 z hz
theorem RepE.length:∀{es:Env}{vs:List (Option V)}{fp:List Addr},RepE K G H es vs fp->vs.length=es.length
 |[],_,_,r=>by rw[r.1];rfl
 |none::es,vs,fp,r=>by
  obtain⟨y,ys,e,r⟩:=r;rw[e,MY,MY,RepE.length r]
 |some r::es,vs,fp,q=>by
  obtain⟨y,ys,e,v,a,b,e1,e2,r1,r2⟩:=q;rw[e,MY,MY,RepE.length r2]
theorem RepE.take:∀{es:Env}{vs:List (Option V)}{fp:List Addr}{i:Nat}{r:R},RepE K G H es vs fp->es[i]?=some (some r)->
  ∃v a b,vs[i]?=some (some v)/\RepO K G H r.1 r.2 v a/\RepE K G H (es.set i none) vs b/\fp.Perm (a++b)
 |[],_,_,_,_,_,e=>by simp at e
 |none::es,vs,fp,0,r,q,e=>by simp at e
 |some r'::es,vs,fp,0,r,q,e=>by
  obtain⟨y,ys,e0,v,a,b,e1,e2,r1,r2⟩:=q;simp at e;subst e;subst e0;subst e1;exact⟨v,a,b,rfl,r1,⟨some v,ys,rfl,r2⟩,by rw[e2]⟩
 |none::es,vs,fp,i+1,r,q,e=>by
  obtain⟨y,ys,e0,q⟩:=q;obtain⟨v,a,b,g1,g2,g3,g4⟩:=RepE.take q (i:=i) (r:=r) (by simpa using e);subst e0;exact⟨v,a,b,by simpa using g1,g2,⟨y,ys,rfl,g3⟩,g4⟩
 |some r'::es,vs,fp,i+1,r,q,e=>by
  obtain⟨y,ys,e0,v',a',b',e1,e2,r1,r2⟩:=q;obtain⟨v,a,b,g1,g2,g3,g4⟩:=RepE.take r2 (i:=i) (r:=r) (by simpa using e);subst e0;refine⟨v,a,a'++b,by simpa using g1,g2,⟨y,ys,rfl,v',a',b,e1,rfl,r1,g3⟩,?_⟩;rw[e2];refine(Qo a' g4).trans ?_;rw[<-Nn,<-Nn];exact Qd b Qp
theorem RepE.put:∀{es:Env}{vs:List (Option V)}{b:List Addr}{i:Nat}{r:R}{v:V}{a:List Addr},RepE K G H es vs b->es[i]?=some none->RepO K G H r.1 r.2 v a->
  ∃fp,RepE K G H (es.set i (some r)) (vs.set i (some v)) fp/\fp.Perm (a++b)
 |[],_,_,_,_,_,_,_,e,_=>by simp at e
 |none::es,vs,b,0,r,v,a,q,e,ro=>by
  obtain⟨y,ys,e0,q⟩:=q;subst e0;exact⟨a++b,⟨some v,ys,rfl,v,a,b,rfl,rfl,ro,q⟩,.refl _⟩
 |some r'::es,vs,b,0,r,v,a,q,e,ro=>by simp at e
 |none::es,vs,b,i+1,r,v,a,q,e,ro=>by
  obtain⟨y,ys,e0,q⟩:=q;obtain⟨fp,g1,g2⟩:=RepE.put q (i:=i) (r:=r) (by simpa using e) ro;subst e0;exact⟨fp,⟨y,_,rfl,g1⟩,g2⟩
 |some r'::es,vs,b,i+1,r,v,a,q,e,ro=>by
  obtain⟨y,ys,e0,v',a',b',e1,e2,r1,r2⟩:=q;obtain⟨fp,g1,g2⟩:=RepE.put r2 (i:=i) (r:=r) (by simpa using e) ro;subst e0;refine⟨a'++fp,⟨y,_,rfl,v',a',fp,e1,rfl,r1,g1⟩,?_⟩;rw[e2];refine(Qo a' g2).trans ?_;rw[<-Nn,<-Nn];exact Qd b' Qp
theorem RepE.any:∀{es:Env}{vs:List (Option V)}{fp:List Addr}{i:Nat}{y:Option V},RepE K G H es vs fp->(es[i]?=some none\/es.length<=i)->RepE K G H es (vs.set i y) fp
 |[],_,_,_,_,q,_=>by
  rw[q.1,q.2];exact⟨rfl,rfl⟩
 |none::es,vs,fp,0,y,q,e=>by
  obtain⟨y',ys,e0,q⟩:=q;subst e0;exact⟨y,ys,rfl,q⟩
 |some r'::es,vs,fp,0,y,q,e=>by simp at e
 |none::es,vs,fp,i+1,y,q,e=>by
  obtain⟨y',ys,e0,q⟩:=q;subst e0;exact⟨y',ys.set i y,rfl,RepE.any q (by simpa using e)⟩
 |some r'::es,vs,fp,i+1,y,q,e=>by
  obtain⟨y',ys,e0,v',a',b',e1,e2,r1,r2⟩:=q;subst e0;exact⟨y',ys.set i y,rfl,v',a',b',e1,e2,r1,RepE.any r2 (by simpa using e)⟩
structure Rel(K:W.Frag)(G H:Hp)(es:Env)(vs:List (Option V))(fp:List Addr):Prop where
 rep:RepE K G H es vs fp
 nd:fp.Nodup
 gn:∀p∈fp,G p=none
 gh:Same G H
structure Step(G H:Hp)(fp:List Addr)(G' H':Hp)(BY:List Addr):Prop where
 gg:Same G G'
 keep:∀q u,H q=some u->q∉fp->H' q=some u
 fpn:∀q∈BY,q∈fp\/H q=none
 gnew:∀q u,G' q=some u->G q=some u\/q∈fp\/H q=none\/isT u=true/\H q=some u
 there:∀q u,H q=some u->∃u',H' q=some u'
theorem Step.refl{fp:List Addr}:Step G H fp G H fp:=⟨.refl _,fun _ _ h _=>h,fun _ h=>.inl h,fun _ _ h=>.inl h,fun _ u h=>⟨u,h⟩⟩
theorem Step.trans{G1 H1 G2 H2:Hp}{fp Cd C0:List Addr}(a:Step G H fp G1 H1 Cd)(b:Step G1 H1 Cd G2 H2 C0):Step G H fp G2 H2 C0:=by
 refine⟨a.gg.trans b.gg,fun q u h n=>?_,fun q hq=>?_,fun q u hq=>?_,fun q u h=>?_⟩
 ·refine b.keep q u (a.keep q u h n) fun hq=>?_
  rcases a.fpn q hq with z|z
  ·exact n z
  ·rw[z]at h;cases h
 ·rcases b.fpn q hq with z|z
  ·exact a.fpn q z
  ·cases e:H q with
   |none=>exact .inr rfl
   |some u=>
    obtain⟨u',e'⟩:=a.there q u e;rw[z]at e';cases e'
 ·rcases b.gnew q u hq with z|z|z|⟨t,z⟩
  ·exact a.gnew q u z
  ·exact .inr ((a.fpn q z).imp_right .inl)
  ·cases e:H q with
   |none=>exact .inr (.inr (.inl rfl))
   |some u=>
    obtain⟨u',e'⟩:=a.there q u e;rw[z]at e';cases e'
  ·cases e:H q with
   |none=>exact .inr (.inr (.inl rfl))
   |some u2=>
    by_cases hf:q∈fp
    ·exact .inr (.inl hf)
    ·rw[a.keep q u2 e hf]at z;cases z;exact .inr (.inr (.inr ⟨t,rfl⟩))
 ·obtain⟨u',h'⟩:=a.there q u h;exact b.there q u' h'
theorem Step.wide{fp fq BY L5:List Addr}(a:Step G H fp G' H' BY)(h:∀q∈fp,q∈fq)(h':∀q∈L5,q∈BY\/q∈fq):Step G H fq G' H' L5:=
 ⟨a.gg,fun q u e n=>a.keep q u e fun z=>n (h q z),fun q hq=>(h' q hq).elim (fun z=>(a.fpn q z).imp_left (h q)) .inl,fun q u e=>(a.gnew q u e).imp_right (Or.imp_left (h q)),a.there⟩
theorem Rel.perm{es:Env}{vs:List (Option V)}{fp fq:List Addr}(r:RepE K G H es vs fq)(nd:fp.Nodup)(gn:∀p∈fp,G p=none)(gh:Same G H)(h:fp.Perm fq):Rel K G H es vs fq:=
 ⟨r,h.nodup_iff.mp nd,fun p hp=>gn p (h.mem_iff.mpr hp),gh⟩
theorem Rel.frame{r:R}{v:V}{es:Env}{vs:List (Option V)}{fp:List Addr}(q:Rel K G H (some r::es) (some v::vs) fp):
  ∃a b,fp=a++b/\RepO K G H r.1 r.2 v a/\Rel K G H es vs b/\∀(G' H':Hp) (Fi:Env) (DY:List (Option V)) (b':List Addr),Step G H b G' H' b'->Rel K G' H' Fi DY b'->
   Rel K G' H' (some r::Fi) (some v::DY) (a++b')/\Step G H (a++b) G' H' (a++b'):=by
 obtain⟨y,ys,e,v',a,b,e1,e2,r1,r2⟩:=q.rep;cases e;cases e1;subst e2;have nd:=ND.mp q.nd;refine⟨a,b,rfl,r1,⟨r2,nd.2.1,fun p hp=>q.gn p (MI _ hp),q.gh⟩,fun G' H' Fi DY b' st k=>?_⟩;have nb:∀p∈a,p∉b:=fun p hp hb=>nd.2.2 p hp p hb rfl
 have same:∀p∈a,H' p=H p:=fun p hp=>by
  obtain⟨u,hu⟩:=r1.live p hp;rw[hu];exact st.keep p u hu (nb p hp)
 refine⟨⟨⟨some v,DY,rfl,v,a,b',rfl,rfl,r1.step st.gg same,k.rep⟩,?_,fun p hp=>?_,k.gh⟩,st.wide (fun p hp=>MI _ hp) fun p hp=>?_⟩
 ·rw[ND];refine⟨nd.1,k.nd,fun p hp z hz e=>?_⟩;subst e;obtain⟨u,hu⟩:=r1.live p hp;rcases st.fpn p hz with z|z
  ·exact nb p hp z
  ·rw[z]at hu;cases hu
 ·rcases M1.mp hp with hp|hp
  ·cases e:G' p with
   |none=>rfl
   |some u=>
    exfalso;obtain⟨u',hu⟩:=r1.live p hp;rcases st.gnew p u e with z|z|z|⟨t,z⟩
    ·rw[q.gn p (MU _ hp)]at z;cases z
    ·exact nb p hp z
    ·rw[z]at hu;cases hu
    ·obtain⟨u2,h2,hm⟩:=r1.mut p hp;rw[z]at h2;cases h2;cases u with
     |tup _=>cases hm
     |frz _ _=>cases hm
     |_=>cases t
  ·exact k.gn p hp
 ·rcases M1.mp hp with hp|hp
  ·exact .inr (MU _ hp)
  ·exact .inl hp
theorem Rel.freeze{r:R}{v:V}{es:Env}{vs:List (Option V)}{fp:List Addr}(q:Rel K G H (some r::es) (some v::vs) fp):
  ∃G' b,Rep K G' r.2 v/\Rel K G' H es vs b/\Step G H fp G' H b:=by
 obtain⟨y,ys,e,v',a,b,e1,e2,r1,r2⟩:=q.rep;cases e;cases e1;subst e2;have nd:=ND.mp q.nd;have nb:∀p∈a,p∉b:=fun p hp hb=>nd.2.2 p hp p hb rfl
 have hg:Same G (fun p=>if p∈a then H p else G p):=fun p u e=>by
  show(if p∈a then H p else G p)=some u;by_cases hp:p∈a
  ·rw[MM hp];exact q.gh p u e
  ·rw[MO hp];exact e
 refine⟨fun p=>if p∈a then H p else G p,b,r1.frozen hg fun p hp u e=>?_,⟨r2.step hg fun _ _=>rfl,nd.2.1,fun p hp=>?_,fun p u e=>?_⟩,⟨hg,fun _ _ e _=>e,fun p hp=>.inl (MI _ hp),fun p u e=>?_,fun _ u e=>⟨u,e⟩⟩⟩
 ·show(if p∈a then H p else G p)=some u;rw[MM hp];exact e
 ·show(if p∈a then H p else G p)=none;rw[MO (fun z=>nb p z hp)];exact q.gn p (MI _ hp)
 ·have e:(if p∈a then H p else G p)=some u:=e;by_cases hp:p∈a
  ·rw[MM hp]at e;exact e
  ·rw[MO hp]at e;exact q.gh p u e
 ·have e:(if p∈a then H p else G p)=some u:=e;by_cases hp:p∈a
  ·exact .inr (.inl (MU _ hp))
  ·rw[MO hp]at e;exact .inl e
end
section
variable{K:W.Frag}{G G' H H':Hp}{es:Env}{vs:List (Option V)}{fp:List Addr}
theorem mT:∀{ds:List D}{xs:List V}{fp:List Addr},AllO (RepO K G H .f) ds xs fp<->Reps K G ds xs/\fp=[]
 |[],xs,fp=>by simp only[AllO,Reps]
 |d::ds,xs,fp=>by
  simp only[AllO,Reps,RepO];constructor
  ·rintro⟨y,ys,a,b,e1,e2,⟨r,e3⟩,q⟩;obtain⟨q1,q2⟩:=mT.mp q;subst e3;subst q2;exact⟨⟨y,ys,e1,r,q1⟩,e2⟩
  ·rintro⟨⟨y,ys,e1,r,q1⟩,e⟩;exact⟨y,ys,[],[],e1,e,⟨r,rfl⟩,mT.mpr ⟨q1,rfl⟩⟩
theorem dh{d:D}{v:V}{a:List Addr}:RepO K G H .f d v a<->Rep K G d v/\a=[]:=by simp only[RepO]
theorem cZ{ds:List D}{v:V}{a:List Addr}:RepO K G H (.l .f) (.lst ds) v a<->∃p xs,v=.ref p/\H p=some (.lst xs)/\a=[p]/\Reps K G ds xs:=by
 rw[RepO];constructor
 ·rintro⟨p,xs,b,e,q,e2,r⟩;obtain⟨r',eb⟩:=mT.mp r;subst eb;exact⟨p,xs,e,q,e2,r'⟩
 ·rintro⟨p,xs,e,q,e2,r⟩;exact⟨p,xs,[],e,q,e2,mT.mpr ⟨r,rfl⟩⟩
theorem Reps.length:∀{ds:List D}{xs:List V},Reps K G ds xs->xs.length=ds.length
 |[],xs,r=>by simp only[Reps]at r;rw[r];rfl
 |d::ds,xs,r=>by
  simp only[Reps]at r;obtain⟨y,ys,e,_,q⟩:=r;rw[e,MY,MY,Reps.length q]
theorem Reps.get:∀{ds:List D}{xs:List V}{i:Nat}{d:D},Reps K G ds xs->ds[i]?=some d->∃v,xs[i]?=some v/\Rep K G d v
 |[],_,_,_,_,e=>by simp at e
 |d'::ds,xs,0,d,r,e=>by
  simp only[Reps]at r;obtain⟨y,ys,e1,q,_⟩:=r;simp at e;subst e;exact⟨y,by rw[e1];rfl,q⟩
 |d'::ds,xs,i+1,d,r,e=>by
  simp only[Reps]at r;obtain⟨y,ys,e1,_,q⟩:=r;obtain⟨v,a,b⟩:=Reps.get q (i:=i) (d:=d) (by simpa using e);exact⟨v,by rw[e1];simpa using a,b⟩
theorem Reps.app:∀{ds es:List D}{xs ys:List V},Reps K G ds xs->Reps K G es ys->Reps K G (ds++es) (xs++ys)
 |[],_,_,_,r,q=>by simp only[Reps]at r;rw[r];exact q
 |d::ds,es,xs,ys,r,q=>by
  simp only[Reps]at r;obtain⟨z,zs,e,r1,r2⟩:=r;rw[e];simp only[List.cons_append,Reps];exact⟨z,_,rfl,r1,r2.app q⟩
theorem Reps.one{d:D}{v:V}(r:Rep K G d v):Reps K G [d] [v]:=by
 simp only[Reps];exact⟨v,[],rfl,r,rfl⟩
theorem Reps.nil:Reps K G [] []:=by simp only[Reps]
theorem Reps.cons{d:D}{v:V}{ds:List D}{xs:List V}(r:Rep K G d v)(q:Reps K G ds xs):Reps K G (d::ds) (v::xs):=by
 simp only[Reps];exact⟨v,xs,rfl,r,q⟩
theorem Reps.cons_iff{d:D}{v:V}{ds:List D}{xs:List V}:Reps K G (d::ds) (v::xs)<->Rep K G d v/\Reps K G ds xs:=by
 simp only[Reps];constructor
 ·rintro⟨y,ys,e,r,q⟩;cases e;exact⟨r,q⟩
 ·rintro⟨r,q⟩;exact⟨v,xs,rfl,r,q⟩
theorem Reps.take:∀{ds:List D}{xs:List V}(n:Nat),Reps K G ds xs->Reps K G (ds.take n) (xs.take n)
 |_,_,0,_=>by rw[Qy,Qy];exact Reps.nil
 |[],xs,n+1,r=>by simp only[Reps]at r;rw[r];exact Reps.nil
 |d::ds,xs,n+1,r=>by
  simp only[Reps]at r;obtain⟨y,ys,e,r1,r2⟩:=r;rw[e,QD,QD];exact .cons r1 (r2.take n)
theorem Reps.drop:∀{ds:List D}{xs:List V}(n:Nat),Reps K G ds xs->Reps K G (ds.drop n) (xs.drop n)
 |_,_,0,r=>r
 |[],xs,n+1,r=>by simp only[Reps]at r;rw[r];exact Reps.nil
 |d::ds,xs,n+1,r=>by
  simp only[Reps]at r;obtain⟨y,ys,e,r1,r2⟩:=r;rw[e,QF,QF];exact r2.drop n
theorem Reps.eraseIdx:∀{ds:List D}{xs:List V}(n:Nat),Reps K G ds xs->Reps K G (ds.eraseIdx n) (xs.eraseIdx n)
 |[],xs,n,r=>by simp only[Reps]at r;rw[r];exact Reps.nil
 |d'::ds,xs,0,r=>by
  simp only[Reps]at r;obtain⟨y,ys,e,r1,r2⟩:=r;rw[e];exact r2
 |d'::ds,xs,n+1,r=>by
  simp only[Reps]at r;obtain⟨y,ys,e,r1,r2⟩:=r;rw[e];exact .cons r1 (r2.eraseIdx n)
theorem Step.cut{fq:List Addr}(h:∀q∈fq,q∈fp):Step G H fp G H fq:=⟨.refl _,fun _ _ e _=>e,fun q hq=>.inl (h q hq),fun _ _ e=>.inl e,fun _ u e=>⟨u,e⟩⟩
theorem Rel.drop{r:R}{y:Option V}(q:Rel K G H (some r::es) (y::vs) fp):∃b,Rel K G H es vs b/\Step G H fp G H b:=by
 obtain⟨y,ys,e,v',a,b,e1,e2,r1,r2⟩:=q.rep;cases e;cases e1;subst e2;have nd:=ND.mp q.nd;exact⟨b,⟨r2,nd.2.1,fun p hp=>q.gn p (MI _ hp),q.gh⟩,Step.cut fun p hp=>MI _ hp⟩
theorem Rel.top{r:R}{v:V}(q:Rel K G H (some r::es) (some v::vs) fp):Rep K H r.2 v:=by
 obtain⟨y,ys,e,v',a,b,e1,e2,r1,r2⟩:=q.rep;cases e;cases e1;exact r1.frozen q.gh fun p hp u e=>e
theorem Rel.out{i:Nat}{r:R}(q:Rel K G H es vs fp)(e:es[i]?=some (some r)):∃v fq,vs[i]?=some (some v)/\Rel K G H (some r::es.set i none) (some v::vs) fq/\Step G H fp G H fq/\Step G H fq G H fp:=by
 obtain⟨v,a,b,e1,r1,r2,pm⟩:=q.rep.take e;exact⟨v,a++b,e1,Rel.perm ⟨some v,vs,rfl,v,a,b,rfl,rfl,r1,r2⟩ q.nd q.gn q.gh pm,Step.cut fun p hp=>pm.mem_iff.mpr hp,Step.cut fun p hp=>pm.mem_iff.mp hp⟩
theorem Rel.view{i:Nat}{r:R}(q:Rel K G H es vs fp)(e:es[i]?=some (some r)):∃v,vs[i]?=some (some v)/\Rep K H r.2 v:=by
 obtain⟨v,fq,e1,r1,_⟩:=q.out e;exact⟨v,e1,r1.top⟩
theorem eF{α:Type}{l:List α}{i:Nat}{x:α}(h:l[i]?=some x):l.set i x=l:=by
 apply Oq;intro j;by_cases e:i=j
 ·subst e;rw[MW (MF.mp h).1,h]
 ·rw[M0 e]
theorem Rel.store{i:Nat}{r:R}{v:V}(q:Rel K G H (some r::es) (some v::vs) fp)(hi:i<es.length):∃fq,Rel K G H (es.set i (some r)) (vs.set i (some v)) fq/\Step G H fp G H fq:=by
 obtain⟨y,ys,e,v',a,b,e1,e2,r1,r2⟩:=q.rep;cases e;cases e1;subst e2;obtain⟨c,hc⟩:∃c,es[i]?=some c:=⟨_,Mz hi⟩
 have nd:=ND.mp q.nd;have key:∃b',RepE K G H (es.set i none) vs b'/\(∀p∈b',p∈b)/\b'.Nodup:=by
  cases c with
  |none=>exact⟨b,by rw[eF hc];exact r2,fun _ h=>h,nd.2.1⟩
  |some r'=>
   obtain⟨v2,a2,b2,_,_,g,pm⟩:=r2.take hc;refine⟨b2,g,fun p hp=>pm.mem_iff.mpr (MI _ hp),?_⟩;exact(ND.mp (pm.nodup_iff.mp nd.2.1)).2.1
 obtain⟨b',g,sub,ndb⟩:=key;obtain⟨fq,g2,pm⟩:=g.put (i:=i) (r:=r) (v:=v) (by rw[MW hi]) r1;rw[Oo]at g2;have hnd:(a++b').Nodup:=by
  rw[ND];exact⟨nd.1,ndb,fun p hp z hz=>nd.2.2 p hp z (sub z hz)⟩
 refine⟨fq,Rel.perm g2 hnd (fun p hp=>?_) q.gh pm.symm,Step.cut fun p hp=>?_⟩
 ·refine q.gn p ?_;rcases M1.mp hp with hp|hp
  ·exact MU _ hp
  ·exact MI _ (sub p hp)
 ·rcases M1.mp (pm.mem_iff.mp hp) with hp|hp
  ·exact MU _ hp
  ·exact MI _ (sub p hp)
theorem Rel.back{i:Nat}{r:R}{v:V}(q:Rel K G H (some r::es) (some v::vs) fp)(hi:i<es.length)(hv:vs[i]?=some (some v)):∃fq,Rel K G H (es.set i (some r)) vs fq/\Step G H fp G H fq:=by
 obtain⟨fq,g,st⟩:=q.store hi;rw[eF hv]at g;exact⟨fq,g,st⟩
theorem Rel.any{i:Nat}{y:Option V}(q:Rel K G H es vs fp)(h:es[i]?=some none\/es.length<=i):Rel K G H es (vs.set i y) fp:=⟨q.rep.any h,q.nd,q.gn,q.gh⟩
theorem Rel.freezeAt{i:Nat}{r:R}(q:Rel K G H es vs fp)(e:es[i]?=some (some r)):∃v G' fq,vs[i]?=some (some v)/\Rep K G' r.2 v/\Rel K G' H (es.set i (some (.f,r.2))) vs fq/\Step G H fp G' H fq:=by
 obtain⟨v,fq,ev,g,st,_⟩:=q.out e;obtain⟨G',b,rv,g2,B0⟩:=g.freeze;have g3:Rel K G' H (some (.f,r.2)::es.set i none) (some v::vs) b:=by
  refine⟨⟨some v,vs,rfl,v,[],b,rfl,rfl,?_,g2.rep⟩,g2.nd,g2.gn,g2.gh⟩;exact dh.mpr ⟨rv,rfl⟩
 obtain⟨fz,g4,DU⟩:=g3.back (i:=i) (by rw[Ny];exact(MF.mp e).1) ev;rw[Oo]at g4;exact⟨v,G',fz,ev,rv,g4,st.trans (B0.trans DU)⟩
theorem Rel.push{d:D}{v:V}(q:Rel K G H es vs fp)(r:Rep K G d v):Rel K G H (some (.f,d)::es) (some v::vs) fp:=by
 refine⟨⟨some v,vs,rfl,v,[],fp,rfl,rfl,?_,q.rep⟩,q.nd,q.gn,q.gh⟩;exact dh.mpr ⟨r,rfl⟩
theorem Rel.newF{p:Addr}{u:HO}(q:Rel K G H es vs fp)(hp:H p=none):Rel K (upd G p u) (upd H p u) es vs fp/\Step G H fp (upd G p u) (upd H p u) fp:=by
 have gp:G p=none:=by
  cases e:G p with
  |none=>rfl
  |some o=>rw[q.gh p o e]at hp;cases hp
 have np:p∉fp:=fun z=>by
  obtain⟨u,e⟩:=q.rep.live p z;rw[hp]at e;cases e
 have sg:Same G (upd G p u):=fun b o e=>by rw[aJ (bM e gp)];exact e
 have sh:Same H (upd H p u):=fun b o e=>by rw[aJ (bM e hp)];exact e
 refine⟨⟨q.rep.step sg fun z hz=>aJ fun e=>np (e▸hz),q.nd,fun z hz=>?_,fun b o e=>?_⟩,⟨sg,fun b o e _=>sh b o e,fun _ h=>.inl h,fun b o e=>?_,fun b o e=>⟨o,sh b o e⟩⟩⟩
 ·have:z≠p:=fun e=>np (e▸hz)
  rw[aJ this];exact q.gn z hz
 ·by_cases hb:b=p
  ·subst hb;rw[br]at e ⊢;exact e
  ·rw[aJ hb]at e ⊢;exact q.gh b o e
 ·by_cases hb:b=p
  ·subst hb;exact .inr (.inr (.inl hp))
  ·rw[aJ hb]at e;exact .inl e
theorem Rel.newL{p:Addr}{ds:List D}{xs:List V}(q:Rel K G H es vs fp)(hp:H p=none)(r:Reps K G ds xs):
  Rel K G (upd H p (.lst xs)) (some (.l .f,.lst ds)::es) (some (.ref p)::vs) (p::fp)/\Step G H fp G (upd H p (.lst xs)) (p::fp):=by
 have gp:G p=none:=by
  cases e:G p with
  |none=>rfl
  |some o=>rw[q.gh p o e]at hp;cases hp
 have np:p∉fp:=fun z=>by
  obtain⟨u,e⟩:=q.rep.live p z;rw[hp]at e;cases e
 have sh:Same H (upd H p (.lst xs)):=fun b o e=>by rw[aJ (bM e hp)];exact e
 refine⟨⟨⟨some (.ref p),vs,rfl,.ref p,[p],fp,rfl,rfl,cZ.mpr ⟨p,xs,rfl,br,rfl,r⟩,q.rep.step (.refl _) fun z hz=>aJ fun e=>np (e▸hz)⟩,Nf.mpr ⟨np,q.nd⟩,fun z hz=>?_,fun b o e=>?_⟩,
  ⟨.refl _,fun b o e _=>sh b o e,fun b hb=>?_,fun b o e=>.inl e,fun b o e=>⟨o,sh b o e⟩⟩⟩
 ·rcases MN.mp hz with rfl|hz
  ·exact gp
  ·exact q.gn z hz
 ·exact sh b o (q.gh b o e)
 ·rcases MN.mp hb with rfl|hb
  ·exact .inr hp
  ·exact .inl hb
theorem Rel.chg{i:Nat}{ds ds':List D}(q:Rel K G H es vs fp)(e:es[i]?=some (some (.l .f,.lst ds))):∃p xs,vs[i]?=some (some (.ref p))/\H p=some (.lst xs)/\Reps K G ds xs/\
  ∀CV,Reps K G ds' CV->∃fq,Rel K G (upd H p (.lst CV)) (es.set i (some (.l .f,.lst ds'))) vs fq/\Step G H fp G (upd H p (.lst CV)) fq:=by
 obtain⟨v,fq,ev,g,st,D0⟩:=q.out e;obtain⟨y,ys,e0,v',a,b,e1,e2,r1,r2⟩:=g.rep;cases e0;cases e1;obtain⟨p,xs,e3,hp,e4,rs⟩:=cZ.mp r1;subst e3;subst e4;subst e2;have nd:=Nf.mp (show(p::b).Nodup from g.nd);refine⟨p,xs,ev,hp,rs,fun CV DG=>?_⟩;have g2:Rel K G (upd H p (.lst CV)) (some (.l .f,.lst ds')::es.set i none) (some (.ref p)::vs) (p::b):=by
  refine⟨⟨some (.ref p),vs,rfl,.ref p,[p],b,rfl,rfl,cZ.mpr ⟨p,CV,rfl,br,rfl,DG⟩,r2.step (.refl _) fun z hz=>aJ fun e=>nd.1 (e▸hz)⟩,g.nd,g.gn,fun z o ez=>?_⟩;have:z≠p:=fun w=>by
   subst w;rw[g.gn z My]at ez;cases ez
  rw[aJ this];exact g.gh z o ez
 have JS:Step G H (p::b) G (upd H p (.lst CV)) (p::b):=by
  refine⟨.refl _,fun z o ez nz=>?_,fun z hz=>.inl hz,fun z o ez=>.inl ez,fun z o ez=>?_⟩
  ·have:z≠p:=fun w=>nz (by rw[w];exact My)
   rw[aJ this];exact ez
  ·by_cases w:z=p
   ·subst w;exact⟨_,br⟩
   ·exact⟨o,by rw[aJ w];exact ez⟩
 obtain⟨fz,g3,CI⟩:=g2.back (i:=i) (by rw[Ny];exact(MF.mp e).1) ev;rw[Oo]at g3;exact⟨fz,g3,st.trans (JS.trans CI)⟩
end
mutual
noncomputable def dO:D->Bool
 | .tup ds=>flatDs ds
 | .lst _=>false
 | .dct _ _ _=>false
 |_=>true
noncomputable def flatDs:List D->Bool
 |[]=>true
 |d::ds=>dO d&&flatDs ds
end
mutual
noncomputable def bP:O->D->Bool
 | .f,d=>dO d
 | .l c,.lst ds=>ds.all (bP c)
 | .t cs,.tup ds=>mU cs ds
 | .d,.dct _ _ vs=>flatDs vs
 | .pin _ c,d=>bP c d
 |_,_=>false
noncomputable def mU:List O->List D->Bool
 |[],[]=>true
 |c::cs,d::ds=>bP c d&&mU cs ds
 |_,_=>false
end
def frz:Option R->Option R:=Option.map fun r=>(.f,r.2)
theorem bN:∀ds,flatDs ds=ds.all dO
 |[]=>rfl
 |d::ds=>by rw[flatDs,PN,bN ds]
section
variable{K:W.Frag}{G G' G2 G3 H H' H2:Hp}{es:Env}{vs:List (Option V)}{fp:List Addr}
mutual
theorem Rep.flat(h:∀p u,isT u=true->G2 p=some u->G3 p=some u):∀{d:D}{v:V},dO d=true->Rep K G2 d v->Rep K G3 d v
 | .non,_,_,r=>by simpa only[Rep] using r
 | .bl _,_,_,r=>by simpa only[Rep] using r
 | .int _,_,_,r=>by simpa only[Rep] using r
 | .str _,_,_,r=>by simpa only[Rep] using r
 | .tup ds,_,e,r=>by
  simp only[Rep]at r ⊢;simp only[dO]at e;obtain⟨p,xs,ev,q,rs⟩:=r;exact⟨p,xs,ev,h _ _ rfl q,Reps.flat h e rs⟩
 | .lst ds,_,e,r=>by simp only[dO]at e;cases e
 | .dct _ _ _,_,e,r=>by simp only[dO]at e;cases e
theorem Reps.flat(h:∀p u,isT u=true->G2 p=some u->G3 p=some u):∀{ds:List D}{xs:List V},flatDs ds=true->Reps K G2 ds xs->Reps K G3 ds xs
 |[],_,_,r=>by simpa only[Reps] using r
 |d::ds,_,e,r=>by
  simp only[Reps]at r ⊢;simp only[flatDs,MG]at e;obtain⟨y,ys,ev,r1,r2⟩:=r;exact⟨y,ys,ev,Rep.flat h e.1 r1,Reps.flat h e.2 r2⟩
end
theorem AllO.clean{P P':D->V->List Addr->Prop}{c:D->Bool}:∀{ds:List D}{xs:List V}{fp:List Addr},(∀d v a,c d=true->P d v a->P' d v a)->ds.all c=true->AllO P ds xs fp->AllO P' ds xs fp
 |[],_,_,_,_,r=>r
 |d::ds,xs,fp,h,e,r=>by
  obtain⟨y,ys,a,b,e1,e2,p,q⟩:=r;rw[PN,MG]at e;exact⟨y,ys,a,b,e1,e2,h _ _ _ e.1 p,AllO.clean h e.2 q⟩
mutual
theorem RepO.clean(h:∀p u,isT u=true->G2 p=some u->G3 p=some u):∀{o:O}{d:D}{v:V}{fp:List Addr},bP o d=true->RepO K G2 H o d v fp->RepO K G3 H o d v fp
 | .f,d,v,fp,e,r=>by
  simp only[RepO]at r ⊢;simp only[bP]at e;exact⟨r.1.flat h e,r.2⟩
 | .pin p c,d,v,fp,e,r=>by
  simp only[RepO]at r ⊢;simp only[bP]at e;exact⟨r.1,RepO.clean h e r.2⟩
 | .l c,.lst ds,v,fp,e,r=>by
  rw[RepO]at r ⊢;rw[bP]at e;obtain⟨p,xs,BY,ev,q,e2,a⟩:=r;exact⟨p,xs,BY,ev,q,e2,AllO.clean (fun d v a=>RepO.clean h) e a⟩
 | .t cs,.tup ds,v,fp,e,r=>by
  rw[RepO]at r ⊢;rw[bP]at e;obtain⟨p,xs,ev,q,a⟩:=r;exact⟨p,xs,ev,h _ _ rfl q,RepT.clean h e a⟩
 | .d,.dct tk ks vs,v,fp,e,r=>by
  rw[RepO]at r ⊢;rw[bP]at e;obtain⟨p,xs,o,ev,q,dd,e2,rs⟩:=r;exact⟨p,xs,o,ev,q,dd,e2,rs.flat h e⟩
 | .l _,.non,_,_,_,r | .l _,.bl _,_,_,_,r | .l _,.int _,_,_,_,r | .l _,.str _,_,_,_,r | .l _,.tup _,_,_,_,r | .l _,.dct _ _ _,_,_,_,r=>by simp only[RepO]at r
 | .t _,.non,_,_,_,r | .t _,.bl _,_,_,_,r | .t _,.int _,_,_,_,r | .t _,.str _,_,_,_,r | .t _,.lst _,_,_,_,r | .t _,.dct _ _ _,_,_,_,r=>by simp only[RepO]at r
 | .d,.non,_,_,_,r | .d,.bl _,_,_,_,r | .d,.int _,_,_,_,r | .d,.str _,_,_,_,r | .d,.tup _,_,_,_,r | .d,.lst _,_,_,_,r=>by simp only[RepO]at r
theorem RepT.clean(h:∀p u,isT u=true->G2 p=some u->G3 p=some u):∀{cs:List O}{ds:List D}{xs:List V}{fp:List Addr},mU cs ds=true->RepT K G2 H cs ds xs fp->RepT K G3 H cs ds xs fp
 |[],[],_,_,_,r=>by simpa only[RepT] using r
 |c::cs,d::ds,xs,fp,e,r=>by
  rw[RepT]at r ⊢;rw[mU,MG]at e;obtain⟨y,ys,a,b,e1,e2,r1,r2⟩:=r;exact⟨y,ys,a,b,e1,e2,RepO.clean h e.1 r1,RepT.clean h e.2 r2⟩
 |[],_::_,_,_,_,r=>by simp only[RepT]at r
 |_::_,[],_,_,_,r=>by simp only[RepT]at r
end
theorem RepE.frz(h:Same G G'):∀{es:Env}{vs:List (Option V)}{fp:List Addr},(∀p∈fp,∀u,H p=some u->G' p=some u)->RepE K G H es vs fp->RepE K G' H' (es.map PV.frz) vs []
 |[],_,_,_,r=>⟨r.1,rfl⟩
 |none::es,vs,fp,hk,r=>by
  obtain⟨y,ys,e,r⟩:=r;exact⟨y,ys,e,RepE.frz h hk r⟩
 |some r::es,vs,fp,hk,q=>by
  obtain⟨y,ys,e,v,a,b,e1,e2,r1,r2⟩:=q;subst e2;exact⟨y,ys,e,v,[],[],e1,rfl,dh.mpr ⟨r1.frozen h (fun p hp=>hk p (MU _ hp)),rfl⟩,RepE.frz h (fun p hp=>hk p (MI _ hp)) r2⟩
theorem RepE.rep(h:Same G G'):∀{es:Env}{vs:List (Option V)}{fp:List Addr}{i:Nat}{r:R}{v:V},(∀p∈fp,∀u,H p=some u->G' p=some u)->RepE K G H es vs fp->es[i]?=some (some r)->vs[i]?=some (some v)->Rep K G' r.2 v:=fun{es vs fp i r v} hk q e ev=>by
 obtain⟨v',a,b,e1,r1,_,pm⟩:=q.take e;rw[ev]at e1;cases e1;exact r1.frozen h fun p hp=>hk p (pm.mem_iff.mpr (MU _ hp))
theorem Rel.lend(q:Rel K G H es vs fp):∃G1,Same G G1/\Same G1 H/\(∀(i:Nat) (r:R) (v:V),es[i]?=some (some r)->vs[i]?=some (some v)->Rep K G1 r.2 v)/\
  RepE K G1 H (es.map PV.frz) vs []/\
  ∀(H2 G2:Hp) (C0:List Addr) (r:R) (v:V),Step G1 H [] G2 H2 C0->Rel K G2 H2 [some r] [some v] C0->
   (bP r.1 r.2=true->∃G3 EI,Step G H fp G3 H2 EI/\Rel K G3 H2 (some r::es) (some v::vs) EI)/\
   ∃G3 EI,Step G H fp G3 H2 EI/\Rel K G3 H2 (some r::es.map PV.frz) (some v::vs) EI:=by
 have hg:Same G (fun p=>if p∈fp then H p else G p):=fun p u e=>by
  show(if p∈fp then H p else G p)=some u;by_cases hp:p∈fp
  ·rw[MM hp];exact q.gh p u e
  ·rw[MO hp];exact e
 have hh:Same (fun p=>if p∈fp then H p else G p) H:=fun p u e=>by
  have e:(if p∈fp then H p else G p)=some u:=e;by_cases hp:p∈fp
  ·rw[MM hp]at e;exact e
  ·rw[MO hp]at e;exact q.gh p u e
 have hk:∀p∈fp,∀u,H p=some u->(fun p=>if p∈fp then H p else G p) p=some u:=fun p hp u e=>by
  show(if p∈fp then H p else G p)=some u;rw[MM hp];exact e
 refine⟨fun p=>if p∈fp then H p else G p,hg,hh,fun i r v e ev=>q.rep.rep hg hk e ev,q.rep.frz hg hk,fun H2 G2 C0 r v st k=>?_⟩;obtain⟨y,ys,e0,v',a,b,e1,e2,r1,r2⟩:=k.rep;cases e0;cases e1;obtain⟨_,e3⟩:=r2;subst e3;rw[M5]at e2;subst e2;have fresh:∀p∈C0,H p=none:=fun p hp=>by
  rcases st.fpn p hp with z|z
  ·cases z
  ·exact z
 have kept:∀p∈fp,H2 p=H p:=fun p hp=>by
  obtain⟨u,hu⟩:=q.rep.live p hp;rw[hu];exact st.keep p u hu (by simp)
 refine⟨fun cl=>?_,⟨G2,C0,⟨hg.trans st.gg,fun p u e n=>st.keep p u e (by simp),fun p hp=>.inr (fresh p hp),fun p u e=>?_,st.there⟩,?_⟩⟩
 ·have apart:∀p∈C0,p∉fp:=fun p hp hf=>by
   obtain⟨u,hu⟩:=q.rep.live p hf;rw[fresh p hp]at hu;cases hu
  have g3:Same G (fun p=>if p∈fp then none else G2 p):=fun p u e=>by
   show(if p∈fp then none else G2 p)=some u;rw[MO (fun z=>by rw[q.gn p z]at e;cases e)];exact st.gg p u (hg p u e)
  refine⟨fun p=>if p∈fp then none else G2 p,C0++fp,⟨g3,fun p u e n=>st.keep p u e (by simp),fun p hp=>?_,fun p u e=>?_,st.there⟩,⟨⟨some v,vs,rfl,v,C0,fp,rfl,rfl,r1.clean (fun p u t e=>?_) cl,q.rep.step g3 kept⟩,?_,fun p hp=>?_,fun p u e=>?_⟩⟩
  ·rcases M1.mp hp with hp|hp
   ·exact .inr (fresh p hp)
   ·exact .inl hp
  ·have e:(if p∈fp then none else G2 p)=some u:=e;by_cases hp:p∈fp
   ·rw[MM hp]at e;cases e
   ·rw[MO hp]at e;rcases st.gnew p u e with z|z|z
    ·have z:(if p∈fp then H p else G p)=some u:=z;rw[MO hp]at z;exact .inl z
    ·cases z
    ·exact .inr (.inr z)
  ·show(if p∈fp then none else G2 p)=some u;by_cases hp:p∈fp
   ·exfalso;obtain⟨u',hu,hm⟩:=q.rep.mut p hp;have:=st.gg p u' (hk p hp u' hu);rw[e]at this;cases this;cases u with
    |lst _=>cases t
    |dK _=>cases t
    |dT _=>cases t
    |_=>cases hm
   ·rw[MO hp];exact e
  ·rw[ND];exact⟨k.nd,q.nd,fun p hp z hz e=>apart p hp (e▸hz)⟩
  ·show(if p∈fp then none else G2 p)=none;by_cases hf:p∈fp
   ·rw[MM hf]
   ·rw[MO hf];rcases M1.mp hp with hp|hp
    ·exact k.gn p hp
    ·exact absurd hp hf
  ·have e:(if p∈fp then none else G2 p)=some u:=e;by_cases hp:p∈fp
   ·rw[MM hp]at e;cases e
   ·rw[MO hp]at e;exact k.gh p u e
 ·rcases st.gnew p u e with z|z|z
  ·have z:(if p∈fp then H p else G p)=some u:=z;by_cases hp:p∈fp
   ·exact .inr (.inl hp)
   ·rw[MO hp]at z;exact .inl z
  ·cases z
  ·exact .inr (.inr z)
 ·refine⟨⟨some v,vs,rfl,v,C0,[],rfl,(M5 _).symm,r1,q.rep.frz (hg.trans st.gg) fun p hp u e=>st.gg p u (hk p hp u e)⟩,k.nd,k.gn,k.gh⟩
end
end PV
namespace PV
open PySem PySem.Spec PyProof.Rows L2 NX
def Res.bind{α β:Type}:Res α->(α->Res β)->Res β
 | .ok a,f=>f a
 | .exc c,_=>.exc c
 | .bad,_=>.bad
inductive BindOk{α β:Type}(x:Res α)(f:α->Res β)(b:β):Prop
 |mk (a:α) (h:x=.ok a) (k:f a=.ok b):BindOk x f b
theorem ar{α β:Type}{x:Res α}{f:α->Res β}{b:β}(h:x.bind f=.ok b):BindOk x f b:=by
 cases x with
 |ok a=>exact⟨a,rfl,h⟩
 |exc c=>cases h
 |bad=>cases h
inductive Opd where
 |val (d:D)|var (i:Nat)
def OpdOk(K:W.Frag)(G:Hp)(σ:L2.St):Opd->V->Prop
 | .val d,v=>Rep K G d v
 | .var i,v=>σ[i]?=some (some v)
theorem OpdOk.mono{K:W.Frag}{G G':Hp}{σ:L2.St}{o:Opd}{v:V}(h:Same G G')(r:OpdOk K G σ o v):OpdOk K G' σ o v:=by
 cases o with
 |val d=>exact Rep.mono h r
 |var i=>exact r
def OpdsOk(K:W.Frag)(G:Hp)(σ:L2.St):List Opd->List V->Prop
 |[],vs=>vs=[]
 |o::os,vs=>∃y ys,vs=y::ys/\OpdOk K G σ o y/\OpdsOk K G σ os ys
theorem OpdsOk.mono{K:W.Frag}{G G':Hp}{σ:L2.St}(h:Same G G'):∀{os:List Opd}{vs:List V},OpdsOk K G σ os vs->OpdsOk K G' σ os vs
 |[],_,r=>r
 |_::_,_,⟨y,ys,e,r,q⟩=>⟨y,ys,e,r.mono h,OpdsOk.mono h q⟩
def tV:O->Bool
 | .f=>true
 | .l .f=>true
 | .d=>true
 | .pin _ .f=>true
 | .pin _ (.l .f)=>true
 | .pin _ .d=>true
 |_=>false
def Dm(env:PV.Env):Opd->Res D
 | .val d=>.ok d
 | .var i=>match env[i]? with
  |some (some r)=>if tV r.1 then .ok r.2 else .bad
  |_=>.bad
def oh(env:PV.Env):Opd->Res D
 | .val d=>.ok d
 | .var i=>match env[i]? with
  |some (some r)=>.ok r.2
  |_=>.bad
def oi(env:PV.Env):List Opd->Res (List D)
 |[]=>.ok []
 |o::os=>(Dm env o).bind fun d=>(oi env os).bind fun ds=>.ok (d::ds)
def hX(env:PV.Env):List Opd->Res (List D)
 |[]=>.ok []
 |o::os=>(oh env o).bind fun d=>(hX env os).bind fun ds=>.ok (d::ds)
def Vw(K:W.Frag)(G H:Hp):D->V->Prop
 | .lst ds,v=>∃p xs,v=.ref p/\SqL K H p xs/\Reps K G ds xs
 | .dct tk ks vs,v=>∃p xs o,v=.ref p/\Rd H p o/\DictO o tk ks xs/\Reps K G vs xs
 |d,v=>Rep K G d v
def JT(K:W.Frag)(G H:Hp):List D->List V->Prop
 |[],vs=>vs=[]
 |d::ds,vs=>∃y ys,vs=y::ys/\Vw K G H d y/\JT K G H ds ys
section
variable{K:W.Frag}{G G' H H':Hp}{es:PV.Env}{σ:L2.St}{fp:List Addr}
theorem Vw.of{d:D}{v:V}(gh:Same G H)(r:Rep K G d v):Vw K G H d v:=by
 cases d with
 |lst ds=>
  rw[Rep]at r;obtain⟨p,xs,e,q,rs⟩:=r;exact⟨p,xs,e,fF gh q,rs⟩
 |dct tk ks vs=>
  rw[Rep]at r;obtain⟨p,xs,o,e,q,dd,rs⟩:=r;exact⟨p,xs,o,e,PV.Rd.mono gh q,dd,rs⟩
 |_=>exact r
theorem Vw.rep{d:D}{v:V}(gh:Same G H)(r:Vw K G H d v):Rep K H d v:=by
 cases d with
 |lst ds=>
  obtain⟨p,xs,e,q,rs⟩:=r;rw[Rep];exact⟨p,xs,e,q,rs.mono gh⟩
 |dct tk ks vs=>
  obtain⟨p,xs,o,e,q,dd,rs⟩:=r;rw[Rep];exact⟨p,xs,o,e,q,dd,rs.mono gh⟩
 |non=>exact Rep.mono gh r
 |bl b=>exact Rep.mono gh r
 |int i=>exact Rep.mono gh r
 |str l=>exact Rep.mono gh r
 |tup ds=>exact Rep.mono gh r
theorem RepO.vw0{o:O}{d:D}{v:V}{a:List Addr}(gh:Same G H)(hs:o=.f\/o=.l .f\/o=.d)(r:RepO K G H o d v a):Vw K G H d v:=by
 rcases hs with rfl|rfl|rfl
 ·exact Vw.of gh (dh.mp r).1
 ·cases d with
  |lst ds=>
   obtain⟨p,xs,e,q,_,rs⟩:=cZ.mp r;exact⟨p,xs,e,SqL.of q,rs⟩
  |_=>simp only[RepO]at r
 ·cases d with
  |dct tk ks vs=>
   rw[RepO]at r;obtain⟨p,xs,o,e,q,dd,_,rs⟩:=r;exact⟨p,xs,o,e,.inl q,dd,rs⟩
  |_=>simp only[RepO]at r
theorem RepO.vw{o:O}{d:D}{v:V}{a:List Addr}(gh:Same G H)(hs:tV o=true)(r:RepO K G H o d v a):Vw K G H d v:=by
 unfold tV at hs;split at hs
 ·exact r.vw0 gh (.inl rfl)
 ·exact r.vw0 gh (.inr (.inl rfl))
 ·exact r.vw0 gh (.inr (.inr rfl))
 ·rw[RepO]at r;exact r.2.vw0 gh (.inl rfl)
 ·rw[RepO]at r;exact r.2.vw0 gh (.inr (.inl rfl))
 ·rw[RepO]at r;exact r.2.vw0 gh (.inr (.inr rfl))
 ·cases hs
theorem Rel.vw{o:Opd}{v:V}{d:D}(q:Rel K G H es σ fp)(k:OpdOk K G σ o v)(e:Dm es o=.ok d):Vw K G H d v:=by
 cases o with
 |val d'=>
  cases e;exact Vw.of q.gh k
 |var i=>
  unfold Dm at e;dsimp only at e;split at e
  ·rename_i r hr;split at e
   ·rename_i hs;cases e;obtain⟨v',a,b,ev,r1,_⟩:=q.rep.take hr;have k:σ[i]?=some (some v):=k;rw[k]at ev;cases ev;exact r1.vw q.gh hs
   ·cases e
  ·cases e
theorem Rel.vwA{o:Opd}{v:V}{d:D}(q:Rel K G H es σ fp)(k:OpdOk K G σ o v)(e:oh es o=.ok d):Rep K H d v:=by
 cases o with
 |val d'=>
  cases e;exact Rep.mono q.gh k
 |var i=>
  unfold oh at e;dsimp only at e;split at e
  ·rename_i r hr;cases e;obtain⟨v',ev,r1⟩:=q.view hr;have k:σ[i]?=some (some v):=k;rw[k]at ev;cases ev;exact r1
  ·cases e
theorem Rel.vws(q:Rel K G H es σ fp):∀{os:List Opd}{vs:List V}{ds:List D},OpdsOk K G σ os vs->oi es os=.ok ds->JT K G H ds vs
 |[],_,_,k,e=>by
  cases e;exact k
 |o::os,_,_,⟨y,ys,e0,k1,k2⟩,e=>by
  unfold oi at e;obtain⟨d,e1,e⟩:=ar e;obtain⟨ds,e2,e⟩:=ar e;cases e;exact⟨y,ys,e0,q.vw k1 e1,Rel.vws q k2 e2⟩
theorem hZ{G1:Hp}(gg:Same G G1)(ht:∀(i:Nat) (r:R) (v:V),es[i]?=some (some r)->σ[i]?=some (some v)->Rep K G1 r.2 v):∀{os:List Opd}{vs:List V}{ds:List D},OpdsOk K G σ os vs->hX es os=.ok ds->Reps K G1 ds vs
 |[],_,_,k,e=>by
  cases e;have k:_=_:=k;rw[k];exact Reps.nil
 |o::os,_,_,⟨y,ys,e0,k1,k2⟩,e=>by
  unfold hX at e;obtain⟨d,e1,e⟩:=ar e;obtain⟨ds,e2,e⟩:=ar e;cases e;rw[e0];refine .cons ?_ (hZ gg ht k2 e2);cases o with
  |val d'=>
   cases e1;exact Rep.mono gg k1
  |var i=>
   unfold oh at e1;dsimp only at e1;split at e1
   ·rename_i r hr;cases e1;exact ht i r y hr k1
   ·cases e1
end
abbrev FX:=PV.Env->Res (R×PV.Env)
abbrev FO:=PV.Env->Res (Opd×PV.Env)
abbrev C6:=PV.Env->Res (List Opd×PV.Env)
abbrev FT:=PV.Env->Res (Bool×PV.Env)
inductive Out where
 |nx (env:PV.Env)|rt (r:R)|bk (env:PV.Env)|ct (env:PV.Env)
abbrev FS:=PV.Env->Res Out
inductive tQ(K:W.Frag)(f:FX)(σ:L2.St)(H:Hp)(Q:VK):Prop
 |mk:∀G env fp r env',Rel K G H env σ fp->f env=.ok (r,env')->(∀v H' G' BY,Step G H fp G' H' BY->Rel K G' H' (some r::env') (some v::σ) BY->Q v H')->tQ K f σ H Q
inductive tO(K:W.Frag)(f:FO)(σ:L2.St)(H:Hp)(Q:VK):Prop
 |mk:∀G env fp o env',Rel K G H env σ fp->f env=.ok (o,env')->(∀v H' G' BY,Step G H fp G' H' BY->Rel K G' H' env' σ BY->OpdOk K G' σ o v->Q v H')->tO K f σ H Q
inductive tOs(K:W.Frag)(f:C6)(σ:L2.St)(H:Hp)(Q:List V->Hp->Prop):Prop
 |mk:∀G env fp o env',Rel K G H env σ fp->f env=.ok (o,env')->(∀v H' G' BY,Step G H fp G' H' BY->Rel K G' H' env' σ BY->OpdsOk K G' σ o v->Q v H')->tOs K f σ H Q
inductive tQT(K:W.Frag)(f:FT)(σ:L2.St)(H:Hp)(Q:Bool->Hp->Prop):Prop
 |mk:∀G env fp b env',Rel K G H env σ fp->f env=.ok (b,env')->(∀H' G' BY,Step G H fp G' H' BY->Rel K G' H' env' σ BY->Q b H')->tQT K f σ H Q
inductive Mode where
 |plain|mut
def Bn(md:Mode)(K:W.Frag)(G H:Hp)(r:R)(v:V)(fp:List Addr):Prop:=match md with
 | .plain=>Rel K G H [some r] [some v] fp
 | .mut=>∃o d p c d0,r=(.t [o,.pin p c],.tup [d,d0])/\Rel K G H [some (o,d),some (.pin p c,d0)] [some v,some (.ref p)] fp
noncomputable def OutOk{md:Mode}(K:W.Frag)(G H:Hp)(fp:List Addr)(Dd:Ends):Res Out->Prop
 | .ok (.nx env')=>∀σ' H' G' BY,Step G H fp G' H' BY->Rel K G' H' env' σ' BY->Dd.nx σ' H'
 | .ok (.bk env')=>∀σ' H' G' BY,Step G H fp G' H' BY->Rel K G' H' env' σ' BY->Dd.bk σ' H'
 | .ok (.ct env')=>∀σ' H' G' BY,Step G H fp G' H' BY->Rel K G' H' env' σ' BY->Dd.ct σ' H'
 | .ok (.rt r)=>∀v H' G' BY,Step G H fp G' H' BY->Bn md K G' H' r v BY->Dd.rt v H'
 |_=>False
inductive tQS{md:Mode}(K:W.Frag)(g:FS)(Dd:Ends)(σ:L2.St)(H:Hp):Prop
 |mk:∀G env fp,Rel K G H env σ fp->OutOk (md:=md) K G H fp Dd (g env)->tQS (md:=md) K g Dd σ H
def QE(X:Cx)(e:Expr)(f:FX):Prop:=PE X e (tQ X.K f)
def QO(X:Cx)(e:Expr)(f:FO):Prop:=PE X e (tO X.K f)
def GX(X:Cx)(es:List Expr)(f:C6):Prop:=PA X es (tOs X.K f)
def QT(X:Cx)(e:Expr)(f:FT):Prop:=PT X e (tQT X.K f)
def QW(X:Cx)(e:Expr)(f:FT):Prop:=PW X e (tQT X.K f)
def QS{md:Mode}(X:Cx)(st:Stmt)(g:FS):Prop:=PS X st (tQS (md:=md) X.K g)
def F8{md:Mode}(X:Cx)(st:List Stmt)(g:FS):Prop:=PSs X st (tQS (md:=md) X.K g)
theorem bA{X:Cx}{e:Expr}{t t':TE}(h:PE X e t)(k:∀σ H Q,t' σ H Q->t σ H Q):PE X e t':=fun pr s σ H Q I w=>h pr s σ H Q I (k σ H Q w)
theorem mV{X:Cx}{e:Expr}{t t':TT}(h:PT X e t)(k:∀σ H Q,t' σ H Q->t σ H Q):PT X e t':=fun pr s σ H Q I w=>h pr s σ H Q I (k σ H Q w)
theorem tW{X:Cx}{e:Expr}{t t':TT}(h:PW X e t)(k:∀σ H Q,t' σ H Q->t σ H Q):PW X e t':=fun wh pr s σ H Q I w=>h wh pr s σ H Q I (k σ H Q w)
theorem i4{X:Cx}{e:List Expr}{t t':TA}(h:PA X e t)(k:∀σ H Q,t' σ H Q->t σ H Q):PA X e t':=fun pos pr s σ H Q I w=>h pos pr s σ H Q I (k σ H Q w)
theorem eN{X:Cx}{e:Stmt}{t t':TS}(h:PS X e t)(k:∀D σ H,t' D σ H->t D σ H):PS X e t':=fun pr s σ H D I w=>h pr s σ H D I (k D σ H w)
theorem jD{X:Cx}{e:List Stmt}{t t':TS}(h:PSs X e t)(k:∀D σ H,t' D σ H->t D σ H):PSs X e t':=fun pr s σ H D I w=>h pr s σ H D I (k D σ H w)
theorem OutOk.imp{md:Mode}{K:W.Frag}{G H G1 H1:Hp}{fp Cd:List Addr}{Dd JU:Ends}{r:Res Out}(st:Step G H fp G1 H1 Cd)(h:OutOk (md:=md) K G H fp Dd r)(n:∀σ H,Dd.nx σ H->JU.nx σ H)(b:∀σ H,Dd.bk σ H->JU.bk σ H)(c:∀σ H,Dd.ct σ H->JU.ct σ H)(t:∀v H,Dd.rt v H->JU.rt v H):OutOk (md:=md) K G1 H1 Cd JU r:=by
 match r,h with
 | .ok (.nx env'),h=>exact fun σ' H' G' BY s q=>n _ _ (h σ' H' G' BY (st.trans s) q)
 | .ok (.bk env'),h=>exact fun σ' H' G' BY s q=>b _ _ (h σ' H' G' BY (st.trans s) q)
 | .ok (.ct env'),h=>exact fun σ' H' G' BY s q=>c _ _ (h σ' H' G' BY (st.trans s) q)
 | .ok (.rt r),h=>exact fun v H' G' BY s q=>t _ _ (h v H' G' BY (st.trans s) q)
theorem OutOk.after{md:Mode}{K:W.Frag}{G H G1 H1:Hp}{fp Cd:List Addr}{Dd:Ends}{r:Res Out}(st:Step G H fp G1 H1 Cd)(h:OutOk (md:=md) K G H fp Dd r):OutOk (md:=md) K G1 H1 Cd Dd r:=h.imp st (fun _ _ z=>z) (fun _ _ z=>z) (fun _ _ z=>z) fun _ _ z=>z
def aA(d:D):FX:=fun env=>.ok ((.f,d),env)
def fz:O->O
 | .pin p .f=>.pin p .f
 |_=>.f
def bJ(i:Nat):FX:=fun env=>match env[i]? with
 |some (some r)=>.ok ((.f,r.2),env.set i (some (fz r.1,r.2)))
 |_=>.bad
def lW(i:Nat):FX:=fun env=>match env[i]? with
 |some (some r)=>.ok (r,env.set i none)
 |_=>.bad
def av(f:FX):FO:=fun env=>(f env).bind fun p=>.ok (.val p.1.2,p.2)
def au(i:Nat):FO:=fun env=>match env[i]? with
 |some (some _)=>.ok (.var i,env)
 |_=>.bad
def aI:C6:=fun env=>.ok ([],env)
def ai(f:FO)(g:C6):C6:=fun env=>(f env).bind fun p=>(g p.2).bind fun q=>.ok (p.1::q.1,q.2)
section
variable{X:Cx}
theorem mW{e:Expr}{v:V}{d:D}(h:PE X e (tC v))(r:∀G,Rep X.K G d v):QE X e (aA d):=bA h fun σ H Q B1=>by
 obtain⟨G,env,fp,rr,env',rel,e,k⟩:=B1;cases e;exact k v H G fp .refl (rel.push (r G))
theorem ao{i j pos}:QE X (.Constant (.int i) j pos) (aA (.int i)):=mW xa fun G=>by rw[Rep]
theorem iN{i j pos}:QE X (.Constant (.bool i) j pos) (aA (.bl i)):=mW zl fun G=>by rw[Rep]
theorem x6{j pos}:QE X (.Constant .none j pos) (aA .non):=mW xb fun G=>by rw[Rep]
theorem a5{x j pos}{l:List Nat}(h:x=S l)(hl:l.length<=1000):QE X (.Constant (.str x) j pos) (aA (.str l)):=mW xc fun G=>by
 rw[Rep,h];exact⟨rfl,by rw[line_eq];lia⟩
theorem a7{i:Nat}{e:Expr}(h:PE X e (oV i)):QE X e (bJ i):=bA h fun σ H Q B1=>by
 obtain⟨G,env,fp,rr,env',rel,e,k⟩:=B1;unfold bJ at e;split at e
 ·rename_i r hr;cases e;by_cases hf:fz r.1=.f
  ·obtain⟨v,G',fq,ev,rv,Cq,st⟩:=rel.freezeAt hr;rw[hf]at k;exact⟨v,ev,k v H G' fq st (Cq.push rv)⟩
  ·have hp:∃p,r.1=.pin p .f:=by
    unfold fz at hf;split at hf
    ·rename_i p hp;exact⟨p,hp⟩
    ·exact absurd rfl hf
   obtain⟨p,hp⟩:=hp;obtain⟨v,a,b,ev,r1,_,_⟩:=rel.rep.take hr;rw[hp,RepO]at r1;have es:env.set i (some (fz r.1,r.2))=env:=by
    refine eF ?_;rw[hr,hp];show some (some r)=some (some (.pin p .f,r.2));rw[<-hp]
   rw[es]at k;exact⟨v,ev,k v H G fp .refl (rel.push (dh.mp r1.2).1)⟩
 ·cases e
theorem jE{i:Nat}{e:Expr}(h:PE X e (oV i)):QE X e (lW i):=bA h fun σ H Q B1=>by
 obtain⟨G,env,fp,rr,env',rel,e,k⟩:=B1;unfold lW at e;split at e
 ·rename_i r hr;cases e;obtain⟨v,fq,ev,Cq,st,_⟩:=rel.out hr;exact⟨v,ev,k v H G fq st Cq⟩
 ·cases e
theorem aa{e:Expr}{f:FX}(h:QE X e f):QO X e (av f):=bA h fun σ H Q B1=>by
 obtain⟨G,env,fp,o,env',rel,e,k⟩:=B1;obtain⟨⟨r,BW⟩,e1,e⟩:=ar e;cases e;refine⟨G,env,fp,r,BW,rel,e1,fun v H' G' BY st Cq=>?_⟩;obtain⟨G2,b,rv,BU,B0⟩:=Cq.freeze;exact k v H' G2 b (st.trans B0) BU rv
theorem ae{i:Nat}{e:Expr}(h:PE X e (oV i)):QO X e (au i):=bA h fun σ H Q B1=>by
 obtain⟨G,env,fp,o,env',rel,e,k⟩:=B1;unfold au at e;split at e
 ·rename_i r hr;cases e;obtain⟨v,ev,_⟩:=rel.view hr;exact⟨v,ev,k v H G fp .refl rel ev⟩
 ·cases e
theorem aw:GX X [] aI:=i4 g6 fun σ H Q B1=>by
 obtain⟨G,env,fp,o,env',rel,e,k⟩:=B1;cases e;exact k [] H G fp .refl rel rfl
theorem ag{e:Expr}{es:List Expr}{f:FO}{g:C6}(h:QO X e f)(hs:GX X es g)(CO:starEach (e::es) X.env=(false,eval e X.env)::starEach es X.env:=by rfl):GX X (e::es) (ai f g):=
 i4 (cY h hs CO) fun σ H Q B1=>by
  obtain⟨G,env,fp,o,env',rel,e,k⟩:=B1;obtain⟨⟨o1,BW⟩,e1,e⟩:=ar e;obtain⟨⟨os,Co⟩,e2,e⟩:=ar e;cases e;exact⟨G,env,fp,o1,BW,rel,e1,fun v H1 G1 Cd B9 BX DQ=>⟨G1,BW,Cd,os,Co,BX,e2,fun vs H2 G2 C0 B0 BU GO=>k _ H2 G2 C0 (B9.trans B0) BU ⟨v,vs,rfl,DQ.mono B0.gg,GO⟩⟩⟩
def aF(g:D->D->Res R)(fa fb:FO):FX:=fun env=>(fa env).bind fun p=>(fb p.2).bind fun q=>(Dm q.2 p.1).bind fun a=>(Dm q.2 q.1).bind fun b=>(g a b).bind fun r=>.ok (r,q.2)
def bY(g:D->D->Res R)(fa fb:FO):FX:=fun env=>(fa env).bind fun p=>(fb p.2).bind fun q=>(oh q.2 p.1).bind fun a=>(oh q.2 q.1).bind fun b=>(g a b).bind fun r=>.ok (r,q.2)
structure Goes(K:W.Frag)(H:Hp)(G:Hp)(fp:List Addr)(es:PV.Env)(vs:L2.St)(r:R)(Q:VK):Prop where
 rel:Rel K G H es vs fp
 uq:∀v H' G' BY,Step G H fp G' H' BY->Rel K G' H' (some r::es) (some v::vs) BY->Q v H'
inductive rG(K:W.Frag)(g:D->D->Res R)(x:V)(y:V)(H:Hp)(Q:VK):Prop
 |mk:∀G fp es vs a b r,Goes K H G fp es vs r Q->Vw K G H a x->Vw K G H b y->g a b=.ok r->rG K g x y H Q
inductive rGA(K:W.Frag)(g:D->D->Res R)(x:V)(y:V)(H:Hp)(Q:VK):Prop
 |mk:∀G fp es vs a b r,Goes K H G fp es vs r Q->Rep K H a x->Rep K H b y->g a b=.ok r->rGA K g x y H Q
variable{a b c:Expr}{fa fb fc:FO}{pos:Pos}{g g':D->D->Res R}
theorem mX{σ:L2.St}{H:Hp}{Q:VK}(h:tQ X.K (aF g fa fb) σ H Q):Jf (rG X.K g) (tO X.K fa) (tO X.K fb) σ H Q:=by
 obtain⟨G,env,fp,r,env',rel,e,k⟩:=h;obtain⟨⟨oa,e1⟩,ha,e⟩:=ar e;obtain⟨⟨ob,e2⟩,hb,e⟩:=ar e;obtain⟨da,Iw,e⟩:=ar e;obtain⟨db,C4,e⟩:=ar e;obtain⟨r',hr,e⟩:=ar e;cases e;exact⟨G,env,fp,oa,e1,rel,ha,fun x H1 G1 Cd B9 BX DQ=>⟨G1,e1,Cd,ob,e2,BX,hb,fun y H2 G2 C0 B0 BU GO=>
  ⟨G2,C0,e2,σ,da,db,r,⟨BU,fun v H' G' BY st Cq=>k v H' G' BY (B9.trans (B0.trans st)) Cq⟩,BU.vw (DQ.mono B0.gg) Iw,BU.vw GO C4,hr⟩⟩⟩
theorem p3{σ:L2.St}{H:Hp}{Q:VK}(h:tQ X.K (bY g fa fb) σ H Q):Jf (rGA X.K g) (tO X.K fa) (tO X.K fb) σ H Q:=by
 obtain⟨G,env,fp,r,env',rel,e,k⟩:=h;obtain⟨⟨oa,e1⟩,ha,e⟩:=ar e;obtain⟨⟨ob,e2⟩,hb,e⟩:=ar e;obtain⟨da,Iw,e⟩:=ar e;obtain⟨db,C4,e⟩:=ar e;obtain⟨r',hr,e⟩:=ar e;cases e;exact⟨G,env,fp,oa,e1,rel,ha,fun x H1 G1 Cd B9 BX DQ=>⟨G1,e1,Cd,ob,e2,BX,hb,fun y H2 G2 C0 B0 BU GO=>
  ⟨G2,C0,e2,σ,da,db,r,⟨BU,fun v H' G' BY st Cq=>k v H' G' BY (B9.trans (B0.trans st)) Cq⟩,BU.vwA (DQ.mono B0.gg) Iw,BU.vwA GO C4,hr⟩⟩⟩
theorem aG{op:Operator}(ho:CF X (binaryOp op) (rG X.K g))(ha:QO X a fa)(hb:QO X b fb):QE X (.BinOp a op b pos) (aF g fa fb):=bA (xt ho ha hb) fun _ _ _=>mX
theorem tY{op:CmpOp}(ho:CF X (compareOp op) (rG X.K g))(ha:QO X a fa)(hb:QO X b fb)(hm:behindInMarks op b=false):QE X (.Compare a [op] [b] pos) (aF g fa fb):=bA (pb ho ha hb hm) fun _ _ _=>mX
theorem h8{op:CmpOp}(ho:CF X (compareOp op) (rGA X.K g))(ha:QO X a fa)(hb:QO X b fb)(hm:behindInMarks op b=false):QE X (.Compare a [op] [b] pos) (bY g fa fb):=bA (pb ho ha hb hm) fun _ _ _=>p3
def CP(f:FX):FT:=fun env=>(f env).bind fun p=>match p.1.2 with
 | .bl k=>.ok (k,p.2)
 |_=>.bad
theorem vx{f:FX}{σ:L2.St}{H:Hp}{Q:Bool->Hp->Prop}(h:tQT X.K (CP f) σ H Q):tQ X.K f σ H fun x H'=>∃k,x=.bl k/\Q k H':=by
 obtain⟨G,env,fp,k,env',rel,e,q⟩:=h;obtain⟨⟨⟨o,d⟩,BW⟩,e1,e⟩:=ar e;dsimp only at e;split at e
 ·cases e;refine⟨G,env,fp,_,_,rel,e1,fun v H' G' BY st Cq=>?_⟩;have hv:=Cq.top;rw[show((o,D.bl k):R).2=D.bl k from rfl,Rep]at hv;obtain⟨b,BU,B0⟩:=Cq.drop;exact⟨k,hv,q H' G' b (st.trans B0) BU⟩
 ·cases e
theorem eO{e:Expr}{f:FX}(h:QE X e f)(he:∀whole,isTrue e X.env whole=(do let v <-whole;standAt e.pos;holding [v] (truthy v)):=by intro _;rfl):QT X e (CP f):=mV (xf h he) fun _ _ _=>vx
theorem p4{op:CmpOp}(ho:CF X (compareOp op) (rG X.K g))(ha:QO X a fa)(hb:QO X b fb)(hm:behindInMarks op b=false):QT X (.Compare a [op] [b] pos) (CP (aF g fa fb)):=
 mV (pd ho ha hb hm) fun _ _ _ h=>mX (vx h)
theorem b5{op:CmpOp}(ho:CF X (compareOp op) (rGA X.K g))(ha:QO X a fa)(hb:QO X b fb)(hm:behindInMarks op b=false):QT X (.Compare a [op] [b] pos) (CP (bY g fa fb)):=
 mV (pd ho ha hb hm) fun _ _ _ h=>p3 (vx h)
def zW(f g:FT):FT:=fun env=>(f env).bind fun p=>if p.1 then g p.2 else .ok (false,p.2)
def HS(f g:FT):FT:=fun env=>(f env).bind fun p=>if p.1 then .ok (true,p.2) else g p.2
def p5(f:FT):FT:=fun env=>(f env).bind fun p=>.ok (!p.1,p.2)
variable{ga gb:FT}{ck:List Expr}
theorem vy(h:QT X a ga):QW X (.BoolOp .And [a] pos) ga:=uA h
theorem p6(h:QT X a ga):QW X (.BoolOp .Or [a] pos) ga:=xg h
theorem x9(h:QT X a ga)(h2:QW X (.BoolOp .And (b::ck) pos) gb):QW X (.BoolOp .And (a::b::ck) pos) (zW ga gb):=tW (xh h h2) fun σ H Q B1=>by
 obtain⟨G,env,fp,k,env',rel,e,q⟩:=B1;obtain⟨⟨k1,BW⟩,e1,e⟩:=ar e;refine⟨G,env,fp,k1,BW,rel,e1,fun H1 G1 Cd B9 BX=>?_⟩;dsimp only at e;cases k1 with
 |true=>exact⟨G1,BW,Cd,k,env',BX,e,fun H2 G2 C0 B0 BU=>q H2 G2 C0 (B9.trans B0) BU⟩
 |false=>
  cases e;exact q H1 G1 Cd B9 BX
theorem oj(h:QT X a ga)(h2:QW X (.BoolOp .Or (b::ck) pos) gb):QW X (.BoolOp .Or (a::b::ck) pos) (HS ga gb):=tW (zm h h2) fun σ H Q B1=>by
 obtain⟨G,env,fp,k,env',rel,e,q⟩:=B1;obtain⟨⟨k1,BW⟩,e1,e⟩:=ar e;refine⟨G,env,fp,k1,BW,rel,e1,fun H1 G1 Cd B9 BX=>?_⟩;dsimp only at e;cases k1 with
 |false=>exact⟨G1,BW,Cd,k,env',BX,e,fun H2 G2 C0 B0 BU=>q H2 G2 C0 (B9.trans B0) BU⟩
 |true=>
  cases e;exact q H1 G1 Cd B9 BX
theorem QW.qt{e:Expr}{f:FT}(h:QW X e f):QT X e f:=h.pt
theorem gw(h:QT X a ga):QT X (.UnaryOp .Not a pos) (p5 ga):=mV (xi h) fun σ H Q B1=>by
 obtain⟨G,env,fp,k,env',rel,e,q⟩:=B1;obtain⟨⟨k1,BW⟩,e1,e⟩:=ar e;cases e;exact⟨G,env,fp,k1,BW,rel,e1,fun H1 G1 Cd B9 BX=>q H1 G1 Cd B9 BX⟩
def tZ(f g:FX):FX:=fun env=>(f env).bind fun p=>match p.1.2 with
 | .bl true=>g p.2
 | .bl false=>.ok ((.f,.bl false),p.2)
 |_=>.bad
def eOr(f g:FX):FX:=fun env=>(f env).bind fun p=>match p.1.2 with
 | .bl true=>.ok ((.f,.bl true),p.2)
 | .bl false=>g p.2
 |_=>.bad
def zg(f:FX):FX:=fun env=>(f env).bind fun p=>match p.1.2 with
 | .bl k=>.ok ((.f,.bl (!k)),p.2)
 |_=>.bad
def eIf(c:FT)(f g:FX):FX:=fun env=>(c env).bind fun p=>if p.1 then f p.2 else g p.2
variable{ea eb:FX}
theorem mY{op}(h:QE X a ea):QE X (.BoolOp op [a] pos) ea:=xj h
theorem bQ{K:W.Frag}{G:Hp}(k:Bool):Rep K G (.bl k) (.bl k):=by rw[Rep]
theorem bK{K:W.Frag}{G:Hp}(k:Int):Rep K G (.int k) (.int k):=by rw[Rep]
theorem jF{K:W.Frag}{G:Hp}:Rep K G .non .non:=by rw[Rep]
theorem e7{K:W.Frag}{G:Hp}{l:List Nat}(h:l.length<=sizeLine):Rep K G (.str l) (.str (S l)):=by
 rw[Rep];exact⟨rfl,h⟩
theorem b9{K:W.Frag}{G:Hp}{k:Bool}{v:V}(h:Rep K G (.bl k) v):v=.bl k:=by rw[Rep]at h;exact h
theorem bB{K:W.Frag}{G:Hp}{k:Int}{v:V}(h:Rep K G (.int k) v):v=.int k:=by rw[Rep]at h;exact h
theorem bS{K:W.Frag}{G:Hp}{v:V}(h:Rep K G .non v):v=.non:=by rw[Rep]at h;exact h
theorem aY{K:W.Frag}{G:Hp}{l:List Nat}{v:V}(h:Rep K G (.str l) v):v=.str (S l)/\l.length<=sizeLine:=by rw[Rep]at h;exact h
inductive OfT(K:W.Frag)(G:Hp)(l:List D)(v:V):Prop
 |mk (p:Addr) (xs:List V) (e:v=.ref p) (q:SqT K G p xs) (r:Reps K G l xs):OfT K G l v
inductive OfL(K:W.Frag)(G:Hp)(l:List D)(v:V):Prop
 |mk (p:Addr) (xs:List V) (e:v=.ref p) (q:SqL K G p xs) (r:Reps K G l xs):OfL K G l v
theorem bh{K:W.Frag}{G:Hp}{l:List D}{v:V}(h:Rep K G (.tup l) v):OfT K G l v:=by
 rw[Rep]at h;obtain⟨p,xs,e,q,r⟩:=h;exact⟨p,xs,e,SqT.of q,r⟩
theorem p7{K:W.Frag}{G:Hp}{l:List D}{v:V}(h:Rep K G (.tup l) v):∃p xs,v=.ref p/\G p=some (.tup xs)/\Reps K G l xs:=by rw[Rep]at h;exact h
theorem bC{K:W.Frag}{G:Hp}{l:List D}{v:V}(h:Rep K G (.lst l) v):OfL K G l v:=by
 rw[Rep]at h;obtain⟨p,xs,e,q,r⟩:=h;exact⟨p,xs,e,q,r⟩
theorem a6{K:W.Frag}{G H:Hp}{k:Int}{v:V}(h:Vw K G H (.int k) v):v=.int k:=bB (K:=K) (G:=G) h
theorem eP{K:W.Frag}{G H:Hp}{l:List Nat}{v:V}(h:Vw K G H (.str l) v):v=.str (S l)/\l.length<=sizeLine:=aY (K:=K) (G:=G) h
theorem dP{K:W.Frag}{G H:Hp}{l:List D}{v:V}(h:Vw K G H (.tup l) v):OfT K G l v:=bh (K:=K) (G:=G) h
theorem i5(h:QE X a ea)(h2:QE X (.BoolOp .And (b::ck) pos) eb):QE X (.BoolOp .And (a::b::ck) pos) (tZ ea eb):=bA (xk h h2) fun σ H Q B1=>by
 obtain⟨G,env,fp,r,env',rel,e,q⟩:=B1;obtain⟨⟨⟨o,d⟩,BW⟩,e1,e⟩:=ar e;refine⟨G,env,fp,_,BW,rel,e1,fun v H1 G1 Cd B9 BX=>?_⟩;have hv:=BX.top;obtain⟨b',BU,B0⟩:=BX.drop;dsimp only at e hv;split at e
 ·exact⟨true,b9 hv,xJ ⟨G1,BW,b',r,env',BU,e,fun v H2 G2 C0 CI Cv=>q v H2 G2 C0 (B9.trans (B0.trans CI)) Cv⟩⟩
 ·cases e;exact⟨false,b9 hv,iteF (q _ H1 G1 b' (B9.trans B0) (BU.push (bQ _)))⟩
 ·cases e
theorem ua(h:QE X a ea):QE X (.UnaryOp .Not a pos) (zg ea):=bA (xl h) fun σ H Q B1=>by
 obtain⟨G,env,fp,r,env',rel,e,q⟩:=B1;obtain⟨⟨⟨o,d⟩,BW⟩,e1,e⟩:=ar e;refine⟨G,env,fp,_,BW,rel,e1,fun v H1 G1 Cd B9 BX=>?_⟩;have hv:=BX.top;obtain⟨b',BU,B0⟩:=BX.drop;dsimp only at e hv;split at e
 ·cases e;exact⟨_,b9 hv,q _ H1 G1 b' (B9.trans B0) (BU.push (bQ _))⟩
 ·cases e
noncomputable def m3(g g':D->D->Res R)(fa fb fc:FO):FX:=fun env=>(fa env).bind fun p=>(fb p.2).bind fun q=>(Dm q.2 p.1).bind fun a=>(Dm q.2 q.1).bind fun b=>(g a b).bind fun r=>match r with
 |(.f,.bl true)=>(fc q.2).bind fun t=>(Dm t.2 q.1).bind fun b=>(Dm t.2 t.1).bind fun c=>(g' b c).bind fun r=>.ok (r,t.2)
 |(.f,.bl false)=>.ok ((.f,.bl false),q.2)
 |_=>.bad
theorem so{σ:L2.St}{H:Hp}{Q:VK}(h:tQ X.K (m3 g g' fa fb fc) σ H Q):tF (rG X.K g) (rG X.K g') (tO X.K fa) (tO X.K fb) (tO X.K fc) σ H Q:=by
 obtain⟨G,env,fp,r,env',rel,e,k⟩:=h;obtain⟨⟨oa,e1⟩,ha,e⟩:=ar e;obtain⟨⟨ob,e2⟩,hb,e⟩:=ar e;obtain⟨da,Iw,e⟩:=ar e;obtain⟨db,C4,e⟩:=ar e;obtain⟨r',hr,e⟩:=ar e;refine⟨G,env,fp,oa,e1,rel,ha,fun x H1 G1 Cd B9 BX DQ=>⟨G1,e1,Cd,ob,e2,BX,hb,fun y H2 G2 C0 B0 BU GO=>
  ⟨G2,C0,e2,σ,da,db,r',⟨BU,fun v H3 G3 EI CI Cv=>?_⟩,BU.vw (DQ.mono B0.gg) Iw,BU.vw GO C4,hr⟩⟩⟩
 have hv:=Cv.top;obtain⟨b3,C5,DU⟩:=Cv.drop;split at e
 ·refine⟨true,b9 hv,xJ ?_⟩;obtain⟨⟨oc,e3⟩,hc,e⟩:=ar e;obtain⟨db',hdb',e⟩:=ar e;obtain⟨dc,hdc,e⟩:=ar e;obtain⟨r2,Ln,e⟩:=ar e;cases e;exact⟨G3,e2,b3,oc,e3,C5,hc,fun z H5 G5 Iy D1 Dt ok5=>⟨G5,Iy,e3,σ,db',dc,r,⟨Dt,fun v H' G' BY st Cq=>k v H' G' BY (B9.trans (B0.trans (CI.trans (DU.trans (D1.trans st))))) Cq⟩,
   Dt.vw ((GO.mono CI.gg).mono D1.gg) hdb',Dt.vw ok5 hdc,Ln⟩⟩
 ·cases e;exact⟨false,b9 hv,iteF (k _ H3 G3 b3 (B9.trans (B0.trans (CI.trans DU))) (C5.push (bQ _)))⟩
 ·cases e
theorem sr{op GJ:CmpOp}(ho:CF X (compareOp op) (rG X.K g))(Fs:CF X (compareOp GJ) (rG X.K g'))(ha:QO X a fa)(hb:QO X b fb)(hc:QO X c fc)(hm:lastMarks [op,GJ] [b,c]=false:=by with_unfolding_all rfl):
  QE X (.Compare a [op,GJ] [b,c] pos) (m3 g g' fa fb fc):=bA (rE ho Fs ha hb hc hm) fun _ _ _=>so
inductive rC(K:W.Frag)(g:List D->Res R)(xs:List V)(H:Hp)(Q:VK):Prop
 |mk:∀G fp es vs ds r,Goes K H G fp es vs r Q->JT K G H ds xs->g ds=.ok r->rC K g xs H Q
def cz(g:List D->Res R)(fs:C6):FX:=fun env=>(fs env).bind fun p=>(oi p.2 p.1).bind fun ds=>(g ds).bind fun r=>.ok (r,p.2)
theorem p8{gg:List D->Res R}{fs:C6}{σ:L2.St}{H:Hp}{Q:VK}(h:tQ X.K (cz gg fs) σ H Q):K5 (rC X.K gg) (tOs X.K fs) σ H Q:=by
 obtain⟨G,env,fp,r,env',rel,e,k⟩:=h;obtain⟨⟨os,e1⟩,ha,e⟩:=ar e;obtain⟨ds,hd,e⟩:=ar e;obtain⟨r',hr,e⟩:=ar e;cases e;exact⟨G,env,fp,os,e1,rel,ha,fun vs H1 G1 Cd B9 BX DQ=>⟨G1,Cd,e1,σ,ds,r,⟨BX,fun v H' G' BY st Cq=>k v H' G' BY (B9.trans st) Cq⟩,BX.vws DQ hd,hr⟩⟩
variable{x:Str}{p:Pos}{e:Expr}{es:List Expr}{gg:List D->Res R}{fs:C6}{id T:String}
theorem bE(hc:cX X (.builtin id) (rC X.K gg))(hg:Gl X x)(hm:X.mg x=none)(hv:bootBuiltins x=some (.builtin id))(ha:GX X (e::es) fs)(hn:x≠"__name__":=by decide)(C4:(x==("__debug__" : Str))=false:=by decide)
  (he:starEach (e::es) X.env=(false,eval e X.env)::starEach es X.env:=by rfl) (Dl:(backTo pos (starEach es X.env)).any (·.1)=false:=by rfl):QE X (.Call (.Name x p) (e::es) [] pos) (cz gg fs):=
 bA (gT hc hg hm hv ha hn C4 he Dl) fun _ _ _=>p8
theorem kG(hc:cX X (.type T) (rC X.K gg))(hg:Gl X x)(hm:X.mg x=none)(hv:bootBuiltins x=some (.type T))(ha:GX X (e::es) fs)(hn:x≠"__name__":=by decide)(C4:(x==("__debug__" : Str))=false:=by decide)
  (he:starEach (e::es) X.env=(false,eval e X.env)::starEach es X.env:=by rfl) (Dl:(backTo pos (starEach es X.env)).any (·.1)=false:=by rfl):QE X (.Call (.Name x p) (e::es) [] pos) (cz gg fs):=
 bA (pk hc hg hm hv ha hn C4 he Dl) fun _ _ _=>p8
inductive spF(K:W.Frag)(F:List D->Res R)(vs:List V)(H:Hp)(Q:VK)(zz:XK):Prop
 |mk:∀G ds r,Same G H->Reps K G ds vs->F ds=.ok r->(∀v H' G' BY,Step G H [] G' H' BY->Rel K G' H' [some r] [some v] BY->Q v H')->spF K F vs H Q zz
def e8(F:List D->Res R)(fs:C6):FX:=fun env=>(fs env).bind fun p=>(hX p.2 p.1).bind fun ds=>(F ds).bind fun r=>.ok (r,if bP r.1 r.2 then p.2 else p.2.map frz)
theorem bo{F:List D->Res R}{k:Nat}(C:Ct X.prog X.w X.K X.mg X.base x k (spF X.K F))(hr:Room k X.A)(hg:Gl X x)(ha:GX X (e::es) fs)(C4:(x==("__debug__" : Str))=false:=by decide)
  (he:starEach (e::es) X.env=(false,eval e X.env)::starEach es X.env:=by rfl) (Dl:(backTo pos (starEach es X.env)).any (·.1)=false:=by rfl):QE X (.Call (.Name x p) (e::es) [] pos) (e8 F fs):=
 bA (zN C hr hg ha C4 he Dl) fun σ H Q B1=>by
  obtain⟨G,env,fp,r,env',rel,e,k⟩:=B1;obtain⟨⟨os,e1⟩,ha,e⟩:=ar e;obtain⟨ds,hd,e⟩:=ar e;obtain⟨r',hr,e⟩:=ar e;refine⟨G,env,fp,os,e1,rel,ha,fun vs H1 G1 Cd B9 BX DQ=>?_⟩;show spF X.K F (vs++[]) H1 Q _;rw[M5];obtain⟨G2,JV,JW,EM,_,EN⟩:=BX.lend;refine⟨G2,ds,r',JW,hZ JV EM DQ hd,hr,fun v H' G' BY st Cq=>?_⟩;obtain⟨k1,k2⟩:=EN H' G' BY r' v st Cq;by_cases hc:bP r'.1 r'.2=true
  ·rw[MM hc]at e;cases e;obtain⟨G3,EI,CI,Cv⟩:=k1 hc;exact k v H' G3 EI (B9.trans CI) Cv
  ·rw[MO hc]at e;cases e;obtain⟨G3,EI,CI,Cv⟩:=k2;exact k v H' G3 EI (B9.trans CI) Cv
end
def sSeq(g1 g2:FS):FS:=fun env=>(g1 env).bind fun o=>match o with
 | .nx e=>g2 e
 |o=>.ok o
def e9:FS:=fun env=>.ok (.nx env)
def h9:FS:=fun _=>.bad
def cC(i:Nat)(f:FX):FS:=fun env=>(f env).bind fun p=>if i<p.2.length then .ok (.nx (p.2.set i (some p.1))) else .bad
def jG(f:FX):FS:=fun env=>(f env).bind fun p=>.ok (.nx p.2)
def gy(f:FX):FS:=fun env=>(f env).bind fun p=>.ok (.rt p.1)
def EY(c:FT)(g h:FS):FS:=fun env=>(c env).bind fun p=>if p.1 then g p.2 else h p.2
section
variable{md:Mode}{X:Cx}{st:Stmt}{F9:List Stmt}{g h:FS}{f:FX}{c:FT}{pos:Pos}{e:Expr}
theorem cb:F8 (md:=md) X [] e9:=jD oX fun D σ H ⟨G,env,fp,rel,k⟩=>k σ H G fp .refl rel
theorem aD(a:QS (md:=md) X st g):F8 (md:=md) X [st] g:=uB a
theorem aq(a:QS (md:=md) X st g)(b:F8 (md:=md) X F9 h):F8 (md:=md) X (st::F9) (sSeq g h):=jD (jq a b) fun D σ H B1=>by
 obtain⟨G,env,fp,rel,k⟩:=B1;refine⟨G,env,fp,rel,?_⟩;have k:OutOk X.K G H fp D ((g env).bind fun o=>match o with | .nx e=>h e|o=>.ok o):=k;match q:g env,k with
 | .ok (.nx BW),k=>exact fun σ1 H1 G1 Cd B9 BX=>⟨G1,BW,Cd,BX,OutOk.after B9 k⟩
 | .ok (.bk BW),k=>exact k
 | .ok (.ct BW),k=>exact k
 | .ok (.rt r),k=>exact k
theorem su:QS (md:=md) X st h9:=eN rA fun D σ H ⟨G,env,fp,rel,k⟩=>k
theorem p9{K:W.Frag}{G H:Hp}{fp:List Addr}{D:Ends}{i:Nat}{env:PV.Env}{σ:L2.St}(rel:Rel K G H env σ fp)(k:OutOk (md:=md) K G H fp D (cC i f env)):tQ K f σ H fun v H'=>D.nx (σ.set i (some v)) H':=by
 unfold cC at k;match q:f env,k with
 | .ok (r,BW),k=>
  have k:OutOk K G H fp D (if i<BW.length then .ok (.nx (BW.set i (some r))) else .bad):=k;by_cases hi:i<BW.length
  ·rw[MM hi]at k;refine⟨G,env,fp,r,BW,rel,q,fun v H1 G1 Cd B9 BX=>?_⟩;obtain⟨fq,BU,B0⟩:=BX.store hi;exact k _ H1 G1 fq (B9.trans B0) BU
  ·rw[MO hi]at k;exact k.elim
theorem aO{i:Nat}{x:Str}{pos':Pos}(hN:X.N.Nodup)(hi:X.N[i]?=some x)(hx:Loc X.env.scope x)(he:QE X e f)(hs:swapsWith e (some (.Name x pos')) pos.line X.env=pure false:=by rfl)(hf:X.fn x=true\/X.env.scope.names.lookup x=some .local:=by first|exact .inl rfl|exact .inr rfl|assumption):
  QS (md:=md) X (.Assign [.Name x pos'] e pos) (cC i f):=eN (oY (i:=i) hN hi hx he hs hf) fun D σ H ⟨G,env,fp,rel,k⟩=>p9 rel k
theorem fY(he:QE X e f)(hs:swapsWith e none pos.line X.env=pure false:=by rfl):QS (md:=md) X (.Expr e pos) (jG f):=eN (uC he hs) fun D σ H B1=>by
 obtain⟨G,env,fp,rel,k⟩:=B1;unfold jG at k;match q:f env,k with
 | .ok (r,BW),k=>
  refine⟨G,env,fp,r,BW,rel,q,fun v H1 G1 Cd B9 BX=>?_⟩;obtain⟨b,BU,B0⟩:=BX.drop;exact k _ H1 G1 b (B9.trans B0) BU
theorem Rel.only{K:W.Frag}{G H:Hp}{r:R}{v:V}{es:PV.Env}{vs:L2.St}{fp:List Addr}(q:Rel K G H (some r::es) (some v::vs) fp):∃a,Rel K G H [some r] [some v] a/\Step G H fp G H a:=by
 obtain⟨y,ys,e,v',a,b,e1,e2,r1,r2⟩:=q.rep;cases e;cases e1;subst e2;have nd:=ND.mp q.nd;exact⟨a,⟨⟨some v,[],rfl,v,a,[],rfl,(M5 _).symm,r1,rfl,rfl⟩,nd.1,fun p hp=>q.gn p (MU _ hp),q.gh⟩,Step.cut fun p hp=>MU _ hp⟩
theorem bL(he:QE X e f):QS (md:=.plain) X (.Return (some e) pos) (gy f):=eN (xm he) fun D σ H B1=>by
 obtain⟨G,env,fp,rel,k⟩:=B1;unfold gy at k;match q:f env,k with
 | .ok (r,BW),k=>
  refine⟨G,env,fp,r,BW,rel,q,fun v H1 G1 Cd B9 BX=>?_⟩;obtain⟨b,BU,B0⟩:=BX.only;exact k _ H1 G1 b (B9.trans B0) BU
theorem Rel.nilF{K:W.Frag}{G H:Hp}{es:PV.Env}{vs:L2.St}{fp:List Addr}(q:Rel K G H es vs fp):Rel K G H [] [] []:=⟨⟨rfl,rfl⟩,Ov,(fun _ h=>nomatch h),q.gh⟩
theorem fZ{a b:List Stmt}{ct:Expr}(hc:QT X ct c)(ha:F8 (md:=md) X a g)(hb:F8 (md:=md) X b h):QS (md:=md) X (.If ct a b pos) (EY c g h):=eN (zt hc ha hb) fun D σ H B1=>by
 obtain⟨G,env,fp,rel,k⟩:=B1;unfold EY at k;match q:c env,k with
 | .ok (true,BW),k=>exact⟨G,env,fp,true,BW,rel,q,fun H1 G1 Cd B9 BX=>xJ ⟨G1,BW,Cd,BX,OutOk.after B9 k⟩⟩
 | .ok (false,BW),k=>exact⟨G,env,fp,false,BW,rel,q,fun H1 G1 Cd B9 BX=>iteF ⟨G1,BW,Cd,BX,OutOk.after B9 k⟩⟩
def ub(c:FT)(g:FS):Nat->FS
 | 0,_=>.bad
 |n+1,env=>(c env).bind fun p=>if p.1 then(g p.2).bind fun o=>match o with
  | .nx e=>ub c g n e
  | .ct e=>ub c g n e
  | .bk e=>.ok (.nx e)
  | .rt r=>.ok (.rt r)
  else .ok (.nx p.2)
def Walk(K:W.Frag)(G:Hp)(J:It)(ds:List D):Prop:=∀G' H' es vs fp,Same G G'->Rel K G' H' es vs fp->∀i:Nat,
 (∀d,ds[i]?=some d->J.go i H'/\∀x H2,J.yld i H' x H2->∃G2,Rep K G2 d x/\Rel K G2 H2 es vs fp/\Step G' H' fp G2 H2 fp)/\(i=ds.length->J.stop i H')
abbrev FI:=PV.Env->Res (List D×PV.Env)
inductive tQI(K:W.Frag)(f:FI)(σ:L2.St)(H:Hp)(R:It->Hp->Prop):Prop
 |mk:∀G env fp ds env',Rel K G H env σ fp->f env=.ok (ds,env')->(∀J H' G' BY,Step G H fp G' H' BY->Rel K G' H' env' σ BY->Walk K G' J ds->R J H')->tQI K f σ H R
def QI(X:Cx)(tg e:Expr)(f:FI):Prop:=PI X tg e (tQI X.K f)
theorem i6{X:Cx}{tg e:Expr}{t t':TI}(h:PI X tg e t)(k:∀σ H R,t' σ H R->t σ H R):PI X tg e t':=fun pr s σ H R I w=>h pr s σ H R I (k σ H R w)
abbrev FG:=D->PV.Env->Res PV.Env
inductive tQG(K:W.Frag)(a:FG)(v:V)(σ:L2.St)(H:Hp)(Q:L2.St->Hp->Prop):Prop
 |mk:∀G env fp d env',Rel K G H env σ fp->Rep K G d v->a d env=.ok env'->(∀σ' G' BY,Step G H fp G' H BY->Rel K G' H env' σ' BY->Q σ' H)->tQG K a v σ H Q
def QG(X:Cx)(tg:Expr)(a:FG):Prop:=PG X tg (tQG X.K a)
def aK(i:Nat):FG:=fun d env=>if i<env.length then .ok (env.set i (some (.f,d))) else .bad
theorem uc{X:Cx}{tg:Expr}{t t':TG}(h:PG X tg t)(k:∀v σ H Q,t' v σ H Q->t v σ H Q):PG X tg t':=fun pr s σ H v u Q I r w=>h pr s σ H v u Q I r (k v σ H Q w)
theorem qa{X:Cx}{tg:List Expr}{t t':HM}(h:HZ X tg t)(k:∀v σ H Q,t' v σ H Q->t v σ H Q):HZ X tg t':=fun pr s σ H v u Q I r w=>h pr s σ H v u Q I r (k v σ H Q w)
theorem aP{i:Nat}{x:Str}(hN:X.N.Nodup)(hi:X.N[i]?=some x)(hx:Loc X.env.scope x)(hf:X.fn x=true\/X.env.scope.names.lookup x=some .local:=by first|exact .inl rfl|exact .inr rfl|assumption):QG X (.Name x pos) (aK i):=
 uc (uD (i:=i) hN hi hx hf) fun v σ H Q B1=>by
  obtain⟨G,env,fp,d,env',rel,r,e,k⟩:=B1;unfold aK at e;split at e
  ·rename_i hl;cases e;obtain⟨fq,BU,B0⟩:=(rel.push r).store hl;exact k _ G fq B0 BU
  ·cases e
abbrev GY:=List D->PV.Env->Res PV.Env
inductive tQGs(K:W.Frag)(a:GY)(vs:List V)(σ:L2.St)(H:Hp)(Q:L2.St->Hp->Prop):Prop
 |mk:∀G env fp ds env',Rel K G H env σ fp->Reps K G ds vs->a ds env=.ok env'->(∀σ' G' BY,Step G H fp G' H BY->Rel K G' H env' σ' BY->Q σ' H)->tQGs K a vs σ H Q
def KG(X:Cx)(tg:List Expr)(a:GY):Prop:=HZ X tg (tQGs X.K a)
def gQ:GY:=fun ds env=>match ds with
 |[]=>.ok env
 |_=>.bad
def aW(a:FG)(b:GY):GY:=fun ds env=>match ds with
 |d::ds=>(a d env).bind fun e=>b ds e
 |_=>.bad
theorem ia:KG X [] gQ:=qa uE fun vs σ H Q B1=>by
 obtain⟨G,env,fp,ds,env',rel,r,e,k⟩:=B1;cases ds with
 |nil=>
  cases e;rw[Reps]at r;exact⟨r,k σ G fp .refl rel⟩
 |cons d ds=>cases e
theorem bF{tg:Expr}{GZ:List Expr}{a:FG}{b:GY}(h1:QG X tg a)(h2:KG X GZ b)(hs:(assignEach (tg::GZ) X.env).map (·.2)=assign tg X.env::(assignEach GZ X.env).map (·.2):=by rfl):KG X (tg::GZ) (aW a b):=
 qa (rB h1 h2 hs) fun vs σ H Q B1=>by
  obtain⟨G,env,fp,ds,env',rel,r,e,k⟩:=B1;cases ds with
  |nil=>cases e
  |cons d ds=>
   rw[Reps]at r;obtain⟨y,ys,ev,r1,r2⟩:=r;obtain⟨BW,e1,e2⟩:=ar e;exact⟨y,ys,ev,G,env,fp,d,BW,rel,r1,e1,fun σ1 G1 Cd B9 BX=>⟨G1,BW,Cd,ds,env',BX,r2.mono B9.gg,e2,fun σ2 G2 C0 B0 BU=>k σ2 G2 C0 (B9.trans B0) BU⟩⟩
def om(n:Nat)(a:GY):FG:=fun d env=>match d with
 | .tup ds=>if ds.length=n then a ds env else .bad
 |_=>.bad
theorem kH{GZ:List Expr}{k n:Nat}{a:GY}(hc:X.calm=true)(h:KG X GZ a)(hn:(assignEach GZ X.env).length=n:=by rfl)(CO:(assignEach GZ X.env).findIdx? (·.1)=none:=by rfl):QG X (.Tuple GZ k pos) (om n a):=
 uc (xp hc h hn CO) fun v σ H Q B1=>by
  obtain⟨G,env,fp,d,env',rel,r,e,k⟩:=B1;unfold om at e;split at e
  ·rename_i ds;split at e
   ·rename_i hl;obtain⟨p,xs,ev,sq,rs⟩:=bh r;exact⟨p,xs,ev,bu rel.gh sq,rs.length.trans hl,G,env,fp,ds,env',rel,rs,e,k⟩
   ·cases e
  ·cases e
def kI(a:FG)(g:FS):List D->FS
 |[],env=>.ok (.nx env)
 |d::ds,env=>(a d env).bind fun e=>(g e).bind fun o=>match o with
  | .nx e=>kI a g ds e
  | .ct e=>kI a g ds e
  | .bk e=>.ok (.nx e)
  | .rt r=>.ok (.rt r)
def lK(f:FI)(a:FG)(g:FS):FS:=fun env=>(f env).bind fun p=>kI a g p.1 p.2
theorem di{tg iter:Expr}{body:List Stmt}{fi:FI}{a:FG}(hp:PassesOwn (model X.prog X.w) X.A X.env X.xe)(hc:X.calm=true)(hi:QI X tg iter fi)(hg:QG X tg a)(hb:F8 (md:=md) X body g)(hs:∀x,foldedSetIterable iter X.env x=pure x:=by intro _;rfl):QS (md:=md) X (.For tg iter body [] pos) (lK fi a g):=
 eN (xr hp hc hi hg hb hs) fun D σ H B1=>by
  obtain⟨G,env,fp,rel,k⟩:=B1;unfold lK at k;match q:fi env,k with
  | .ok (ds,BW),k=>
   refine⟨G,env,fp,ds,BW,rel,q,fun J H1 G1 Cd B9 BX wk=>?_⟩;have k:OutOk X.K G H fp D (kI a g ds BW):=k;refine⟨fun i m σ' H'=>m=ds.length-i/\i<=ds.length/\∃G' env' BY,Same G1 G'/\Rel X.K G' H' env' σ' BY/\OutOk X.K G' H' BY D (kI a g (ds.drop i) env'),⟨_,rfl,Nq _,G1,BW,Cd,.refl _,BX,OutOk.after B9 k⟩,?_⟩;rintro i m σ2 H2 ⟨rfl,hi,G2,Co,C0,gg,BU,k2⟩;obtain⟨w1,w2⟩:=wk G2 H2 _ _ _ gg BU i;by_cases DO:i<ds.length
   ·have hd:ds[i]?=some ds[i]:=Mz DO;obtain⟨go,yl⟩:=w1 _ hd;rw[Pq DO]at k2;refine .inr ⟨go,fun σ' H'=>∃G' env' BY,Same G1 G'/\Rel X.K G' H' env' σ' BY/\OutOk X.K G' H' BY D (kI a g (ds.drop (i+1)) env'),fun σ' H' z=>⟨ds.length-(i+1),by lia,rfl,DO,z⟩,fun x H3 y=>?_⟩;obtain⟨G3,rx,Cv,CI⟩:=yl x H3 y;unfold kI at k2;match q3:a ds[i] Co,k2 with
    | .ok C7,k2=>
     refine⟨G3,Co,C0,ds[i],C7,Cv,rx,q3,fun σ4 G4 fp4 DU C5=>⟨G4,C7,fp4,C5,?_⟩⟩;have k3:OutOk X.K G2 H2 C0 D ((g C7).bind fun o=>match o with | .nx e=>kI a g (ds.drop (i+1)) e | .ct e=>kI a g (ds.drop (i+1)) e | .bk e=>.ok (.nx e) | .rt r=>.ok (.rt r)):=k2;match q4:g C7,k3 with
     | .ok (.nx e),k3=>exact fun σ' H' G' BY st rel=>⟨G',e,BY,gg.trans (CI.gg.trans (DU.gg.trans st.gg)),rel,OutOk.after (CI.trans (DU.trans st)) k3⟩
     | .ok (.ct e),k3=>exact fun σ' H' G' BY st rel=>⟨G',e,BY,gg.trans (CI.gg.trans (DU.gg.trans st.gg)),rel,OutOk.after (CI.trans (DU.trans st)) k3⟩
     | .ok (.bk e),k3=>exact fun σ' H' G' BY st rel=>k3 σ' H' G' BY (CI.trans (DU.trans st)) rel
     | .ok (.rt r),k3=>exact fun v H' G' BY st rel=>k3 v H' G' BY (CI.trans (DU.trans st)) rel
   ·have e:i=ds.length:=by lia
    subst e;rw[List.drop_length]at k2;exact .inl ⟨w2 rfl,k2 σ2 H2 G2 C0 .refl BU⟩
def ya(f:FX):FI:=fun env=>(f env).bind fun p=>match p.1.2 with
 | .lst ds=>.ok (ds,p.2)
 |_=>.bad
def qb(f:FX):FI:=fun env=>(f env).bind fun p=>match p.1.2 with
 | .tup ds=>.ok (ds,p.2)
 |_=>.bad
variable{tg l:Expr}
theorem qc{K:W.Frag}{G:Hp}{a:Addr}{xs:List V}{ds:List D}(sq:SqL K G a xs)(rs:Reps K G ds xs):Walk K G (Je K a) ds:=by
 intro G' H' es vs fp gg rel i;have Du:SqL K H' a xs:=fF rel.gh (fF gg sq);refine⟨fun d hd=>?_,fun e=>⟨xs,Du,by rw[rs.length];lia⟩⟩;obtain⟨x,hx,rx⟩:=rs.get hd;refine⟨⟨xs,x,Du,hx⟩,fun y H2 ⟨e,hy⟩=>?_⟩;subst e;have:=hy xs Du;rw[hx]at this;cases this;exact⟨G',Rep.mono gg rx,rel,.refl⟩
theorem sv{K:W.Frag}{G:Hp}{a:Addr}{xs:List V}{ds:List D}(sq:SqT K G a xs)(rs:Reps K G ds xs):Walk K G (K0 K a) ds:=by
 intro G' H' es vs fp gg rel i;have Du:SqT K H' a xs:=bu rel.gh (bu gg sq);refine⟨fun d hd=>?_,fun e=>⟨xs,Du,by rw[rs.length];lia⟩⟩;obtain⟨x,hx,rx⟩:=rs.get hd;refine⟨⟨xs,x,Du,hx⟩,fun y H2 ⟨e,hy⟩=>?_⟩;subst e;have:=hy xs Du;rw[hx]at this;cases this;exact⟨G',Rep.mono gg rx,rel,.refl⟩
theorem vz(h:QE X l f):QI X tg l (ya f):=i6 (uF h) fun σ H R B1=>by
 obtain⟨G,env,fp,ds,env',rel,e,k⟩:=B1;obtain⟨⟨⟨o,d⟩,BW⟩,e1,e⟩:=ar e;dsimp only at e;split at e
 ·cases e;refine⟨G,env,fp,_,_,rel,e1,fun v H1 G1 Cd B9 BX=>?_⟩;obtain⟨G2,b,rv,BU,B0⟩:=BX.freeze;obtain⟨p,xs,ev,sq,rs⟩:=bC rv;exact⟨p,ev,⟨xs,fF BU.gh sq⟩,k _ H1 G2 b (B9.trans B0) BU (qc sq rs)⟩
 ·cases e
theorem yb(h:QE X l f):QI X tg l (qb f):=i6 (xq h) fun σ H R B1=>by
 obtain⟨G,env,fp,ds,env',rel,e,k⟩:=B1;obtain⟨⟨⟨o,d⟩,BW⟩,e1,e⟩:=ar e;dsimp only at e;split at e
 ·cases e;refine⟨G,env,fp,_,_,rel,e1,fun v H1 G1 Cd B9 BX=>?_⟩;obtain⟨G2,b,rv,BU,B0⟩:=BX.freeze;obtain⟨p,xs,ev,sq,rs⟩:=bh rv;exact⟨p,ev,⟨xs,bu BU.gh sq⟩,k _ H1 G2 b (B9.trans B0) BU (sv sq rs)⟩
 ·cases e
def qd(f:FX):FI:=fun env=>(f env).bind fun p=>match p.1.2 with
 | .str l=>.ok (l.map fun c=>.str [c],p.2)
 |_=>.bad
theorem yc(h:QE X l f):QI X tg l (qd f):=i6 (xP h) fun σ H R B1=>by
 obtain⟨G,env,fp,ds,env',rel,e,k⟩:=B1;obtain⟨⟨⟨o,d⟩,BW⟩,e1,e⟩:=ar e;dsimp only at e;split at e
 ·rename_i cs;cases e;refine⟨G,env,fp,_,_,rel,e1,fun v H1 G1 Cd B9 BX=>?_⟩;obtain⟨G2,b,rv,BU,B0⟩:=BX.freeze;obtain⟨ev,hl⟩:=aY rv;refine⟨cs,ev,k _ H1 G2 b (B9.trans B0) BU fun G' H' es vs BY gg Cq i=>⟨fun d hd=>?_,fun e=>?_⟩⟩
  ·rw[Nh]at hd;cases hc:cs[i]? with
   |none=>rw[hc]at hd;cases hd
   |some c=>
    rw[hc]at hd;cases hd;refine⟨(MF.mp hc).1,fun x H2 ⟨e1,e2⟩=>?_⟩;subst e1;refine⟨G',?_,Cq,.refl⟩;rw[e2];show Rep X.K G' (.str [c]) (.str (S [cs.getD i 0]));rw[MQ,hc];exact e7 (by rw[line_eq];simp)
  ·rw[MA]at e;exact e
 ·cases e
def b6(f:FO):FI:=fun env=>(f env).bind fun p=>(Dm p.2 p.1).bind fun d=>match d with
 | .int j=>if -4611686018427387904<=j/\j<4611686018427387904 then .ok ((List.range j.toNat).map fun(k:Nat)=>D.int (k:Int),p.2) else .bad
 |_=>.bad
theorem i7{K:W.Frag}{G:Hp}(lo:Int)(n:Nat):Walk K G (Jz lo n) ((List.range n).map fun(k:Nat)=>D.int (lo+(k:Int))):=by
 intro G' H' es vs fp gg rel i;refine⟨fun d hd=>?_,fun e=>?_⟩
 ·rw[Nh]at hd;cases hc:(List.range n)[i]? with
  |none=>rw[hc]at hd;cases hd
  |some c=>
   rw[hc]at hd;cases hd;obtain⟨h1,h2⟩:=MF.mp hc;rw[M8]at h1;rw[Q4]at h2;subst h2;refine⟨h1,fun x H2 ⟨e1,e2⟩=>?_⟩;subst e1;exact⟨G',by rw[e2];exact bK _,rel,.refl⟩
 ·rw[MA,M8]at e;exact Nat.le_of_eq e.symm
theorem cn{a:Expr}{fa:FO}{p pos:Pos}(hg:Gl X "range")(hm:X.mg "range" = none)(ha:QO X a fa)(hs:starEach [a] X.env=[(false,eval a X.env)]:=by rfl):QI X tg (.Call (.Name "range" p) [a] [] pos) (b6 fa):=
 i6 (o5 hg hm (ag ha aw hs) hs) fun σ H R B1=>by
  obtain⟨G,env,fp,ds,env',rel,e,k⟩:=B1;obtain⟨⟨o,BW⟩,e1,e⟩:=ar e;obtain⟨d,e2,e⟩:=ar e;dsimp only at e;split at e
  ·rename_i j;split at e
   ·rename_i hj;cases e;refine⟨G,env,fp,[o],_,rel,by show(fa env).bind _=_;rw[e1];rfl,fun vs H1 G1 Cd B9 BX DQ=>?_⟩;obtain⟨y,ys,ev,k1,k2⟩:=DQ;have k2:ys=[]:=k2;subst k2;have hv:=a6 (BX.vw k1 e2);subst hv;refine⟨j,ev,by lia,by lia,k _ H1 G1 Cd B9 BX ?_⟩;have w:=i7 (K:=X.K) (G:=G1) 0 j.toNat
    simpa using w
   ·cases e
  ·cases e
noncomputable def jH(fs:C6):FI:=fun env=>(fs env).bind fun p=>(oi p.2 p.1).bind fun d=>match d with
 |[.int i,.int j]=>if(-4611686018427387904<=i/\i<4611686018427387904)/\-4611686018427387904<=j/\j<4611686018427387904 then .ok ((List.range (j-i).toNat).map fun(k:Nat)=>D.int (i+(k:Int)),p.2) else .bad
 |_=>.bad
theorem kJ{a b:Expr}{fs:C6}{p pos:Pos}(hg:Gl X "range")(hm:X.mg "range" = none)(ha:GX X [a,b] fs)(hs:starEach [a,b] X.env=[(false,eval a X.env),(false,eval b X.env)]:=by rfl)(GI:starEach [b] X.env=[(false,eval b X.env)]:=by rfl):
  QI X tg (.Call (.Name "range" p) [a,b] [] pos) (jH fs):=
 i6 (o6 hg hm ha hs GI) fun σ H R B1=>by
  obtain⟨G,env,fp,ds,env',rel,e,k⟩:=B1;obtain⟨⟨o,BW⟩,e1,e⟩:=ar e;obtain⟨d,e2,e⟩:=ar e;dsimp only at e;split at e
  ·rename_i i j;split at e
   ·rename_i hj;cases e;refine⟨G,env,fp,o,_,rel,e1,fun vs H1 G1 Cd B9 BX DQ=>?_⟩;obtain⟨y,ys,ev,v1,z,zs,ev2,v2,e3⟩:=BX.vws DQ e2;have e3:zs=[]:=e3;subst e3;have h1:=a6 v1;have h2:=a6 v2;subst h1;subst h2;subst ev2;exact⟨i,j,ev,⟨by lia,by lia,by lia,by lia⟩,k _ H1 G1 Cd B9 BX (i7 i _)⟩
   ·cases e
  ·cases e
def gR(k:Bool):D->Res (List D)
 | .lst ds=>if k then .ok ds else .bad
 | .tup ds=>if k then .bad else .ok ds
 |_=>.bad
def qe(k1 k2:Bool)(fs:C6):FI:=fun env=>(fs env).bind fun p=>match p.1 with
 |[.val d1,.val d2]=>(gR k1 d1).bind fun a=>(gR k2 d2).bind fun b=>.ok ((a.zip b).map fun z=>D.tup [z.1,z.2],p.2)
 |_=>.bad
end
def fBody(np nn:Nat)(g:FS):List D->Res R:=fun ds=>if ds.length=np then(g (ds.map (fun d=>some (O.f,d))++List.replicate nn none)).bind fun o=>match o with
 | .rt r=>.ok r
 | .nx _=>.ok (.f,.non)
 |_=>.bad
 else .bad
theorem fG{K:W.Frag}{G H:Hp}(n:Nat):∀{ds:List D}{vs:List V},Reps K G ds vs->RepE K G H (ds.map (fun d=>some (O.f,d))++List.replicate n none) (vs.map some++List.replicate n none) []
 |[],vs,r=>by
  rw[Reps]at r;subst r;show RepE K G H (List.replicate n none) (List.replicate n none) [];induction n with
  |zero=>exact⟨rfl,rfl⟩
  |succ n ih=>exact⟨none,_,rfl,ih⟩
 |d::ds,vs,r=>by
  rw[Reps]at r;obtain⟨y,ys,e,r1,r2⟩:=r;subst e;exact⟨some y,_,rfl,y,[],[],rfl,rfl,dh.mpr ⟨r1,rfl⟩,fG n r2⟩
theorem dA{P:Program}{w:World}{K:W.Frag}{mg:Str->Option Value}{base:Heap}{x:Str}{st:Stmt}{N ps:List Str}{k:Nat}{g:FS}(Df:Def K mg x st)(sc:FnScope N ps (defScope st))
  (hb:∀(kV doc pm:Value) (an:Option Addr) (Cg ct:Value) (us:List Value),us.length=ps.length->bindArgs (PySem.W.fnOf x x (dv st) (bZ st) (defScope st) .none kV doc pm an Cg ct) ⟨us,[]⟩=pure (ps.zip us))
  (body:∀(f:Addr) (Cg:Value) (A:Around) (outer:List PySem.Env) (s:Shared) (H:Hp) (E:XK),Room k (A.deeper (envOfC x (defScope st) s.heap.objs.size f Cg))->F8 (md:=.plain) (nX F2 P w K mg base N x (defScope st) f Cg A outer s H E).nox (bZ st) g):
  Ct P w K mg base x (k+1) (spF K (fBody ps.length (N.length-ps.length) g)):=by
 obtain⟨f,fd,F,m⟩:=Df;refine⟨f,fd,ps,F.ok sc (fun vs H Q E h=>?_) (fun Cg A outer s H vs Q E hr h=>?_),m,F.kp,F.binds hb⟩
 ·obtain⟨G,ds,r,_,rs,e,_⟩:=h;unfold fBody at e;split at e
  ·rename_i hl;rw[rs.length,hl]
  ·cases e
 ·obtain⟨G,ds,r,gh,rs,e,q⟩:=h;unfold fBody at e;split at e
  ·rename_i hl;refine⟨_,body f Cg A outer s H E hr,G,ds.map (fun d=>some (O.f,d))++List.replicate (N.length-ps.length) none,[],⟨?_,Ov,(fun _ h=>nomatch h),gh⟩,?_⟩
   ·have:=fG (K:=K) (G:=G) (H:=H) (N.length-ps.length) rs;unfold L2.gM;rw[rs.length,hl];exact this
   ·obtain⟨o,eo,e⟩:=ar e;rw[eo];cases o with
    |rt r'=>
     cases e;exact fun v H' G' BY st rel=>q v H' G' BY st rel
    |nx env'=>
     cases e;exact fun σ' H' G' BY st rel=>q .non H' G' [] (st.trans (Step.cut fun _ h=>nomatch h)) (rel.nilF.push jF)
    |bk env'=>cases e
    |ct env'=>cases e
  ·cases e
def cF(ix:List (Option Nat))(env:PV.Env):PV.Env:=ix.map fun j=>j.bind fun j=>match env[j]? with
 |some (some r)=>some (O.f,r.2)
 |_=>none
def sx:FT:=fun env=>.ok (true,env)
def fH(a:FG)(c:FT)(f:FX):List D->PV.Env->Res (List D)
 |[],_=>.ok []
 |d::ds,env=>(a d env).bind fun e=>(c e).bind fun p=>if p.1 then(f p.2).bind fun q=>(fH a c f ds q.2).bind fun rs=>.ok (q.1.2::rs) else fH a c f ds p.2
def fI(fi:FI)(ix:List (Option Nat))(a:FG)(c:FT)(f:FX):FX:=fun env=>(fi env).bind fun p=>(fH a c f p.1 (cF ix p.2)).bind fun ds=>if ds.length<=sizeLine then .ok ((.l .f,.lst ds),if flatDs ds then p.2 else p.2.map frz) else .bad
theorem jI:∀ds,ds.all (bP .f)=flatDs ds
 |[]=>rfl
 |d::ds=>by rw[PN,flatDs,jI ds,bP]
theorem dQ{K:W.Frag}{G1 H:Hp}{es:PV.Env}{σ:L2.St}(ht:∀(i:Nat) (r:R) (v:V),es[i]?=some (some r)->σ[i]?=some (some v)->Rep K G1 r.2 v)(hv:∀(i:Nat) (r:R),es[i]?=some (some r)->∃v,σ[i]?=some (some v)):
  ∀ix:List (Option Nat),RepE K G1 H (cF ix es) (iX ix σ) []
 |[]=>⟨rfl,rfl⟩
 |none::ix=>⟨none,_,rfl,dQ ht hv ix⟩
 |some j::ix=>by
  show RepE K G1 H ((match es[j]? with|some (some r)=>some (O.f,r.2)|_=>none)::cF ix es) ((σ[j]?).bind id::iX ix σ) [];cases e:es[j]? with
  |none=>exact⟨_,_,rfl,dQ ht hv ix⟩
  |some r=>
   cases r with
   |none=>exact⟨_,_,rfl,dQ ht hv ix⟩
   |some r=>
    obtain⟨v,ev⟩:=hv j r e;refine⟨_,_,rfl,v,[],[],?_,rfl,dh.mpr ⟨ht j r v e ev,rfl⟩,dQ ht hv ix⟩;rw[ev];rfl
section
variable{md:Mode}{X:Cx}{scope:Scope}{N:List Str}{tg iter elt:Expr}{ifs:List Expr}{pos:Pos}{fi:FI}{a:FG}{c:FT}{f:FX}
def KH(X:Cx)(ifs:List Expr)(c:FT):Prop:=Jj X ifs (tQT X.K c)
theorem lX:KH X [] sx:=fun pr s σ H Q I B1=>by
 obtain⟨G,env,fp,b,env',rel,e,k⟩:=B1;cases e;exact uS pr s σ H Q I (k H G fp .refl rel)
theorem lY{t:Expr}(h:QT X t c):KH X [t] c:=uT h
end
section
variable{X:Cx}
inductive rCatS(K:W.Frag)(x:V)(y:V)(H:Hp)(Q:VK):Prop
 |mk:∀l b xs zs,x=.ref l->y=.ref b->SqL K H l xs->SqL K H b zs->xs.length+zs.length<=sizeLine->(∀p,H p=none->Q (.ref p) (upd H p (.lst (xs++zs))))->rCatS K x y H Q
theorem qf:CF X (binaryOp .Add) (rCatS X.K):=by
 intro pr s σ H x y v u Q I rx ry h;obtain⟨l,b,xs,zs,rfl,rfl,hH,hB,hz,q⟩:=h;cases rx;cases ry;obtain⟨BR,r1,p1,_⟩:=I.list hH;obtain⟨Fv,r2,p2,_⟩:=I.list hB;have l1:=r1.length;have l2:=r2.length;obtain⟨⟨cls,dd,data,sl⟩,ho,hc,n,hd⟩:=id p1.isList;obtain⟨⟨Ic,GL,data2,GN⟩,DE,F1,n2,hd2⟩:=id p2.isList;simp only at hc hd F1 hd2;subst hc hd F1 hd2;have e:BR.toArray++Fv.toArray=(BR++Fv).toArray:=by simp
 refine Qi ⟨_,ho,rfl⟩ ⟨_,DE,rfl⟩ noFill_list_add seq_list_add PySem.F.slot_list_add PySem.F.entry_list_add (PySem.F.args_list_add_2 _ _) (list_addW l b BR.toArray Fv.toArray n n2 dd GL sl GN (by rw[MC,MC];lia)) ⟨ho,DE,?_⟩;rw[e];exact⟨.ref _,_,I.lnew (t':=s.toks) (r1.append r2) (by rw[Nt];lia),rfl,q _ I.fresh⟩
end
noncomputable def addD:D->D->Res R
 | .int i,.int j=>.ok (.f,.int (i+j))
 | .str a,.str b=>if a.length+b.length<=sizeLine then .ok (.f,.str (a++b)) else .bad
 | .lst a,.lst b=>if a.length+b.length<=sizeLine then .ok (.l .f,.lst (a++b)) else .bad
 | .tup a,.tup b=>if a≠[]/\a.length+b.length<=sizeLine then .ok (.f,.tup (a++b)) else .bad
 |_,_=>.bad
section
variable{X:Cx}
theorem jJ{K:W.Frag}{G H:Hp}{fp:List Addr}{es:PV.Env}{vs:L2.St}{ds:List D}{xs:List V}{p:Addr}(rel:Rel K G H es vs fp)(hp:H p=none)(r:Reps K G ds xs):
  ∃G',Rel K G' (upd H p (.tup xs)) (some (.f,.tup ds)::es) (some (.ref p)::vs) fp/\Step G H fp G' (upd H p (.tup xs)) fp:=by
 obtain⟨BU,B0⟩:=rel.newF (u:=.tup xs) hp;refine⟨_,BU.push ?_,B0⟩;rw[Rep];exact⟨p,xs,rfl,br,r.mono B0.gg⟩
theorem yd:CF X (binaryOp .Add) (rG X.K addD):=by
 rintro pr s σ H x y v u Q I rx ry ⟨G,fp,es,vs,a,b,r,⟨rel,k⟩,va,vb,e⟩;unfold addD at e;split at e
 ·rename_i i j;cases e;cases a6 va;cases a6 vb;exact xu pr s σ H _ _ v u Q I rx ry ⟨i,j,rfl,rfl,k _ H G fp .refl (rel.push (bK _))⟩
 ·rename_i i j;split at e
  ·rename_i hl;cases e;obtain⟨e1,h1⟩:=eP va;obtain⟨e2,h2⟩:=eP vb;subst e1;subst e2;refine nW pr s σ H _ _ v u Q I rx ry ⟨_,_,rfl,rfl,by rw[kz,kz];exact hl,?_⟩;rw[zM];exact k _ H G fp .refl (rel.push (e7 (by rw[Nt];exact hl)))
  ·cases e
 ·rename_i i j;split at e
  ·rename_i hl;cases e;obtain⟨p,xs,e1,h1,r1⟩:=va;obtain⟨p2,KI,e2,h2,r2⟩:=vb;subst e1;subst e2;refine qf pr s σ H _ _ v u Q I rx ry ⟨p,p2,xs,KI,rfl,rfl,h1,h2,by rw[r1.length,r2.length];exact hl,fun q hq=>?_⟩;obtain⟨BU,B0⟩:=rel.newL hq (r1.app r2);exact k _ _ G _ B0 BU
  ·cases e
 ·rename_i i j;split at e
  ·rename_i hl;cases e;obtain⟨p,xs,e1,h1,r1⟩:=dP va;obtain⟨p2,KI,e2,h2,r2⟩:=dP vb;subst e1;subst e2;have hx:xs≠[]:=fun z=>hl.1 (M7 (by rw[<-r1.length,z];rfl))
   refine uL pr s σ H _ _ v u Q I rx ry ⟨p,p2,xs,KI,rfl,rfl,bu rel.gh h1,bu rel.gh h2,hx,by rw[r1.length,r2.length];exact hl.2,fun z=>?_,fun z q hq=>?_⟩
   ·have:j=[]:=M7 (by rw[<-r2.length,z];rfl);subst this;rw[M5]at k;exact k _ H G fp .refl (rel.push va)
   ·obtain⟨G',BU,B0⟩:=jJ rel hq (r1.app r2);exact k _ _ G' _ B0 BU
  ·cases e
 ·cases e
def rh:D->D->Res R
 | .int i,.int j=>.ok (.f,.int (i-j))
 |_,_=>.bad
theorem ib:CF X (binaryOp .Sub) (rG X.K rh):=by
 rintro pr s σ H x y v u Q I rx ry ⟨G,fp,es,vs,a,b,r,⟨rel,k⟩,va,vb,e⟩;unfold rh at e;split at e
 ·rename_i i j;cases e;cases a6 va;cases a6 vb;exact xv pr s σ H _ _ v u Q I rx ry ⟨i,j,rfl,rfl,k _ H G fp .refl (rel.push (bK _))⟩
 ·cases e
def dj(i:Int):Bool:=decide (-(2 ^ 64)<i/\i<2 ^ 64)
def zX:D->D->Res R
 | .int i,.int j=>if dj i||dj j then .ok (.f,.int (i*j)) else .bad
 |_,_=>.bad
theorem ye:CF X (binaryOp .Mult) (rG X.K zX):=by
 rintro pr s σ H x y v u Q I rx ry ⟨G,fp,es,vs,a,b,r,⟨rel,k⟩,va,vb,e⟩;unfold zX at e;split at e
 ·rename_i i j;split at e
  ·rename_i hc;cases e;cases a6 va;cases a6 vb;have hc:CMul i j:=by
    rw[Pc]at hc;exact hc.imp NZ NZ
   exact xw pr s σ H _ _ v u Q I rx ry ⟨i,j,rfl,rfl,hc,k _ H G fp .refl (rel.push (bK _))⟩
  ·cases e
 ·cases e
def cQ:D->D->Res R
 | .int i,.int j=>if 0<j/\j<1073741824 then .ok (.f,.int (i / j)) else .bad
 |_,_=>.bad
theorem c5:CF X (binaryOp .FloorDiv) (rG X.K cQ):=by
 rintro pr s σ H x y v u Q I rx ry ⟨G,fp,es,vs,a,b,r,⟨rel,k⟩,va,vb,e⟩;unfold cQ at e;split at e
 ·rename_i i j;split at e
  ·rename_i hc;cases e;cases a6 va;cases a6 vb;exact uG pr s σ H _ _ v u Q I rx ry ⟨i,j,rfl,rfl,hc,k _ H G fp .refl (rel.push (bK _))⟩
  ·cases e
 ·cases e
def dR:D->D->Res R
 | .int i,.int j=>if 0<j then .ok (.f,.int (i%j)) else .bad
 |_,_=>.bad
theorem bR:CF X (binaryOp .Mod) (rG X.K dR):=by
 rintro pr s σ H x y v u Q I rx ry ⟨G,fp,es,vs,a,b,r,⟨rel,k⟩,va,vb,e⟩;unfold dR at e;split at e
 ·rename_i i j;split at e
  ·rename_i hc;cases e;cases a6 va;cases a6 vb;exact xx pr s σ H _ _ v u Q I rx ry ⟨i,j,rfl,rfl,hc,k _ H G fp .refl (rel.push (bK _))⟩
  ·cases e
 ·cases e
def Jk:D->D->Res R
 | .int i,.int j=>.ok (.f,.bl (decide (i<j)))
 | .str a,.str b=>.ok (.f,.bl (decide (a<b)))
 |_,_=>.bad
theorem zY:CF X (compareOp .Lt) (rG X.K Jk):=by
 rintro pr s σ H x y v u Q I rx ry ⟨G,fp,es,vs,a,b,r,⟨rel,k⟩,va,vb,e⟩;unfold Jk at e;split at e
 ·rename_i i j;cases e;cases a6 va;cases a6 vb;exact zC pr s σ H _ _ v u Q I rx ry ⟨i,j,rfl,rfl,k _ H G fp .refl (rel.push (bQ _))⟩
 ·rename_i i j;cases e;obtain⟨e1,h1⟩:=eP va;obtain⟨e2,h2⟩:=eP vb;subst e1;subst e2;refine o8 pr s σ H _ _ v u Q I rx ry ⟨_,_,rfl,rfl,?_⟩;rw[cu,cu];exact k _ H G fp .refl (rel.push (bQ _))
 ·cases e
def KJ:D->D->Res R
 | .int i,.int j=>.ok (.f,.bl (decide (i<=j)))
 | .str a,.str b=>.ok (.f,.bl (!decide (b<a)))
 |_,_=>.bad
theorem zZ:CF X (compareOp .LtE) (rG X.K KJ):=by
 rintro pr s σ H x y v u Q I rx ry ⟨G,fp,es,vs,a,b,r,⟨rel,k⟩,va,vb,e⟩;unfold KJ at e;split at e
 ·rename_i i j;cases e;cases a6 va;cases a6 vb;exact L2.zD pr s σ H _ _ v u Q I rx ry ⟨i,j,rfl,rfl,k _ H G fp .refl (rel.push (bQ _))⟩
 ·rename_i i j;cases e;obtain⟨e1,h1⟩:=eP va;obtain⟨e2,h2⟩:=eP vb;subst e1;subst e2;refine pD pr s σ H _ _ v u Q I rx ry ⟨_,_,rfl,rfl,?_⟩;rw[cu,cu];exact k _ H G fp .refl (rel.push (bQ _))
 ·cases e
def JX:D->D->Res R
 | .int i,.int j=>.ok (.f,.bl (decide (j<i)))
 |_,_=>.bad
theorem yf:CF X (compareOp .Gt) (rG X.K JX):=by
 rintro pr s σ H x y v u Q I rx ry ⟨G,fp,es,vs,a,b,r,⟨rel,k⟩,va,vb,e⟩;unfold JX at e;split at e
 ·rename_i i j;cases e;cases a6 va;cases a6 vb;exact zE pr s σ H _ _ v u Q I rx ry ⟨i,j,rfl,rfl,k _ H G fp .refl (rel.push (bQ _))⟩
 ·cases e
def geD:D->D->Res R
 | .int i,.int j=>.ok (.f,.bl (decide (j<=i)))
 |_,_=>.bad
end
abbrev FDs:=PV.Env->Res (List D×PV.Env)
inductive tDs(K:W.Frag)(f:FDs)(σ:L2.St)(H:Hp)(Q:List V->Hp->Prop):Prop
 |mk:∀G env fp ds env',Rel K G H env σ fp->f env=.ok (ds,env')->(∀vs H' G' BY,Step G H fp G' H' BY->Rel K G' H' env' σ BY->Reps K G' ds vs->Q vs H')->tDs K f σ H Q
def JY(X:Cx)(es:List Expr)(f:FDs):Prop:=PA X es (tDs X.K f)
def aR:FDs:=fun env=>.ok ([],env)
def ah(f:FX)(g:FDs):FDs:=fun env=>(f env).bind fun p=>(g p.2).bind fun q=>.ok (p.1.2::q.1,q.2)
section
variable{X:Cx}
theorem az:JY X [] aR:=i4 g6 fun σ H Q B1=>by
 obtain⟨G,env,fp,o,env',rel,e,k⟩:=B1;cases e;exact k [] H G fp .refl rel .nil
theorem af{e:Expr}{es:List Expr}{f:FX}{g:FDs}(h:QE X e f)(hs:JY X es g)(CO:starEach (e::es) X.env=(false,eval e X.env)::starEach es X.env:=by rfl):JY X (e::es) (ah f g):=
 i4 (cY h hs CO) fun σ H Q B1=>by
  obtain⟨G,env,fp,o,env',rel,e,k⟩:=B1;obtain⟨⟨r,BW⟩,e1,e⟩:=ar e;obtain⟨⟨ds,Co⟩,e2,e⟩:=ar e;cases e;refine⟨G,env,fp,r,BW,rel,e1,fun v H1 G1 Cd B9 BX=>?_⟩;obtain⟨G2,b,rv,BU,B0⟩:=BX.freeze;exact⟨G2,BW,b,ds,Co,BU,e2,fun vs H3 G3 EI CI Cv rs=>k _ H3 G3 EI (B9.trans (B0.trans CI)) Cv (.cons (Rep.mono CI.gg rv) rs)⟩
def dk(fs:FDs):FX:=fun env=>(fs env).bind fun p=>if p.1.length<=1000 then .ok ((.f,.tup p.1),p.2) else .bad
def j9(fs:FDs):FX:=fun env=>(fs env).bind fun p=>if p.1.length<=1000 then .ok ((.l .f,.lst p.1),p.2) else .bad
variable{es:List Expr}{fs:FDs}{pos:Pos}
theorem a9{x1}(h:JY X es fs):QE X (.Tuple es x1 pos) (dk fs):=bA (xA h) fun σ H Q B1=>by
 obtain⟨G,env,fp,r,env',rel,e,k⟩:=B1;obtain⟨⟨ds,BW⟩,e1,e⟩:=ar e;dsimp only at e;split at e
 ·rename_i hl;cases e;refine⟨G,env,fp,ds,env',rel,e1,fun vs H1 G1 Cd B9 BX rs=>⟨by rw[rs.length,line_eq];lia,fun p hp=>?_⟩⟩;obtain⟨G2,BU,B0⟩:=jJ BX hp rs;exact k _ _ G2 _ (B9.trans B0) BU
 ·cases e
theorem cG(h:JY X es fs):QE X (.List es pos) (j9 fs):=bA (pf h) fun σ H Q B1=>by
 obtain⟨G,env,fp,r,env',rel,e,k⟩:=B1;obtain⟨⟨ds,BW⟩,e1,e⟩:=ar e;dsimp only at e;split at e
 ·rename_i hl;cases e;refine⟨G,env,fp,ds,env',rel,e1,fun vs H1 G1 Cd B9 BX rs=>⟨by rw[rs.length,line_eq];lia,fun p hp=>?_⟩⟩;obtain⟨BU,B0⟩:=BX.newL hp rs;exact k _ _ G1 _ (B9.trans B0) BU
 ·cases e
noncomputable def Cj:D->D->Res R
 | .lst ds,.int i=>match DN ds i with
  |some d=>.ok (.f,d)
  |none=>.bad
 | .tup ds,.int i=>match DN ds i with
  |some d=>.ok (.f,d)
  |none=>.bad
 | .str l,.int i=>match DN l i with
  |some c=>.ok (.f,.str [c])
  |none=>.bad
 |_,_=>.bad
theorem m4{K:W.Frag}{G:Hp}{ds:List D}{xs:List V}{i:Int}{d:D}(r:Reps K G ds xs)(e:DN ds i=some d):∃v,DN xs i=some v/\Rep K G d v:=by
 unfold DN at e ⊢;rw[r.length];cases hn:ixN ds.length i with
 |none=>rw[hn]at e;cases e
 |some j=>
  rw[hn]at e;exact r.get e
theorem z6:JE X (rG X.K Cj):=by
 rintro value slice pr s σ H x y v u Q I rx ry ⟨G,fp,es,vs,a,b,r,⟨rel,k⟩,va,vb,e⟩ hs;unfold Cj at e;split at e
 ·rename_i ds i;split at e
  ·rename_i d hd;cases e;obtain⟨p,xs,ev,sq,rs⟩:=va;subst ev;cases a6 vb;obtain⟨w',hw,Ig⟩:=m4 rs hd;exact uN value slice pr s σ H _ _ v u Q I rx ry ⟨p,xs,i,w',rfl,rfl,sq,hw,k _ H G fp .refl (rel.push Ig)⟩ hs
  ·cases e
 ·rename_i ds i;split at e
  ·rename_i d hd;cases e;obtain⟨p,xs,ev,sq,rs⟩:=dP va;subst ev;cases a6 vb;obtain⟨w',hw,Ig⟩:=m4 rs hd;exact xF value slice pr s σ H _ _ v u Q I rx ry ⟨p,xs,i,w',rfl,rfl,bu rel.gh sq,hw,k _ H G fp .refl (rel.push Ig)⟩ hs
  ·cases e
 ·rename_i l i;split at e
  ·rename_i c hc;cases e;obtain⟨ev,hl⟩:=eP va;subst ev;cases a6 vb;refine xG value slice pr s σ H _ _ v u Q I rx ry ⟨_,i,c,rfl,rfl,by rw[kz];exact hl,by rw[cu];exact hc,?_⟩ hs;exact k _ H G fp .refl (rel.push (e7 (l:=[c]) (by rw[line_eq];simp)))
  ·cases e
 ·cases e
variable{a b:Expr}{fa fb:FO}
theorem bq(ha:QO X a fa)(hb:QO X b fb)(hs:pA b:=by exact fun _ _=>rfl):QE X (.Subscript a b pos) (aF Cj fa fb):=bA (zI z6 ha hb hs) fun _ _ _=>mX
abbrev FP:=PV.Env->Res (Option Int×PV.Env)
inductive tQP(K:W.Frag)(f:FP)(σ:L2.St)(H:Hp)(Q:Option Int->Hp->Prop):Prop
 |mk:∀G env fp i env',Rel K G H env σ fp->f env=.ok (i,env')->(∀H' G' BY,Step G H fp G' H' BY->Rel K G' H' env' σ BY->Q i H')->tQP K f σ H Q
def QP(X:Cx)(e:Option Expr)(f:FP):Prop:=PO X e (tQP X.K f)
def Bo:FP:=fun env=>.ok (none,env)
def sy(f:FX):FP:=fun env=>(f env).bind fun p=>match p.1.2 with
 | .int i=>.ok (some i,p.2)
 |_=>.bad
theorem yg{X:Cx}{e:Option Expr}{t t':TO}(h:PO X e t)(k:∀σ H Q,t' σ H Q->t σ H Q):PO X e t':=fun pr s σ H Q I w=>h pr s σ H Q I (k σ H Q w)
theorem qg{e:Expr}{f:FX}(h:QE X e f):QP X (some e) (sy f):=yg (uK h) fun σ H Q B1=>by
 obtain⟨G,env,fp,i,env',rel,e,k⟩:=B1;obtain⟨⟨⟨o,d⟩,BW⟩,e1,e⟩:=ar e;dsimp only at e;split at e
 ·rename_i j;cases e;refine⟨G,env,fp,_,_,rel,e1,fun v H1 G1 Cd B9 BX=>?_⟩;have hv:=BX.top;obtain⟨b,BU,B0⟩:=BX.drop;exact⟨j,bB hv,k H1 G1 b (B9.trans B0) BU⟩
 ·cases e
def lM{α:Type}(xs:List α)(lo hi:Option Int):List α:=(xs.drop (HT.sIx xs.length 0 lo)).take (HT.sIx xs.length xs.length hi-HT.sIx xs.length 0 lo)
noncomputable def JZ(k:D)(lo hi:Option Int):Res R:=match k with
 | .lst ds=>.ok (.l .f,.lst (lM ds lo hi))
 | .tup ds=>if ¬ (HT.sIx ds.length 0 lo=0/\HT.sIx ds.length ds.length hi=ds.length) then .ok (.f,.tup (lM ds lo hi)) else .bad
 | .str l=>.ok (.f,.str (lM l lo hi))
 |_=>.bad
def eSl(fa:FO)(lo hi:FP):FX:=fun env=>(fa env).bind fun p=>(lo p.2).bind fun q=>(hi q.2).bind fun t=>(Dm t.2 p.1).bind fun d=>(JZ d q.1 t.1).bind fun r=>.ok (r,t.2)
theorem m5{K:W.Frag}{G:Hp}{ds:List D}{xs:List V}{lo hi:Option Int}(r:Reps K G ds xs):Reps K G (lM ds lo hi) (tG xs lo hi):=by
 unfold lM tG;rw[r.length];exact(r.drop _).take _
theorem vA{α:Type}(xs:List α)(lo hi:Option Int):(lM xs lo hi).length<=xs.length:=by
 unfold lM;rw[Oc,P0];lia
inductive rSl(K:W.Frag)(x:V)(lo:Option Int)(hi:Option Int)(H:Hp)(Q:VK):Prop
 |mk:∀G fp es vs d r,Goes K H G fp es vs r Q->Vw K G H d x->JZ d lo hi=.ok r->rSl K x lo hi H Q
theorem yh:Ie X (rSl X.K):=by
 rintro pr s σ H x v vl vu lo hi sl Q I rx hs pl pu ⟨G,fp,es,vs,d,r,⟨rel,k⟩,vd,e⟩;unfold JZ at e;split at e
 ·rename_i ds;cases e;obtain⟨p,xs,ev,sq,rs⟩:=vd;subst ev;refine uO pr s σ H _ v vl vu lo hi sl Q I rx hs pl pu ⟨p,xs,rfl,sq,fun q hq=>?_⟩;obtain⟨BU,B0⟩:=rel.newL hq (m5 (lo:=lo) (hi:=hi) rs);exact k _ _ G _ B0 BU
 ·rename_i ds;split at e
  ·rename_i hw;cases e;obtain⟨p,xs,ev,sq,rs⟩:=dP vd;subst ev;refine xE pr s σ H _ v vl vu lo hi sl Q I rx hs pl pu ⟨p,xs,rfl,bu rel.gh sq,by rw[rs.length];exact hw,fun q hq=>?_⟩;obtain⟨G2,BU,B0⟩:=jJ rel hq (m5 (lo:=lo) (hi:=hi) rs);exact k _ _ G2 _ B0 BU
  ·cases e
 ·rename_i l;cases e;obtain⟨ev,hl⟩:=eP vd;subst ev;exact xN pr s σ H _ v vl vu lo hi sl Q I rx hs pl pu ⟨l,rfl,hl,k _ H G fp .refl (rel.push (e7 (l:=xM l lo hi) (M4 (vA l lo hi) hl)))⟩
 ·cases e
def qh(env:PV.Env)(i:Nat):Bool:=match env[i]? with
 |some (some (_,.lst _))=>true
 |_=>false
theorem sA{K:W.Frag}{G H:Hp}{es:PV.Env}{σ:L2.St}{fp:List Addr}{i:Nat}(rel:Rel K G H es σ fp)(h:qh es i=true):∃v,σ[i]?=some (some v)/\Kw K "list" v H:=by
 unfold qh at h;split at h
 ·rename_i o ds hr;obtain⟨v,ev,rv⟩:=rel.view hr;obtain⟨p,xs,e,sq,_⟩:=bC rv;subst e;exact⟨_,ev,.inl ⟨rfl,xs,sq⟩⟩
 ·cases h
def ud(i:Nat)(f:FX):FX:=fun env=>if qh env i then(f env).bind fun p=>match p.2[i]? with
 |some (some (.l .f,.lst ds))=>if ds.length<sizeLine then .ok ((.f,.non),p.2.set i (some (.l .f,.lst (ds++[p.1.2])))) else .bad
 |_=>.bad
 else .bad
theorem dS{i:Nat}{o e:Expr}{f:FX}{apos Cy:Pos}(ho:PE X o (oV i))(he:QE X e f)
  (DF:attributeBase o "append" X.env (eval o X.env)=eval o X.env:=by rfl)
  (Ih:((backTo Cy (starEach [e] X.env)).all (fun x=>!x.1)&&(backToKw Cy (keywordEach [] X.env)).all (fun x=>x.1.isSome)&&decide ([e].length+([]:List Keyword).length+(if([]:List Keyword).isEmpty then 0 else 1)<30))=true:=by rfl)
  (D3:(apos.endLine==Cy.line)=true:=by rfl) (hs:starEach [e] X.env=(false,eval e X.env)::starEach [] X.env:=by rfl) (E1:(backTo Cy (starEach [] X.env)).any (·.1)=false:=by rfl):
  QE X (.Call (.Attribute o "append" apos) [e] [] Cy) (ud i f):=by
 refine bA (zJ PQ PySem.F.slot_list_append PySem.F.type_list_append ku ho (af he az hs) DF Ih D3 hs E1) fun σ H Q Cp=>?_
 obtain⟨G,env,fp,r,env',rel,e,k⟩:=Cp;unfold ud at e;split at e
 ·rename_i Jr;obtain⟨v,ev,ty⟩:=sA rel Jr;obtain⟨⟨r1,BW⟩,e1,e⟩:=ar e;dsimp only at e;split at e
  ·rename_i ds GQ;split at e
   ·rename_i hl;cases e;refine⟨v,ev,ty,G,env,fp,[r1.2],BW,rel,by show(f env).bind _=_;rw[e1];rfl,fun vs H1 G1 Cd B9 BX rs=>?_⟩;rw[Reps]at rs;obtain⟨y,ys,eys,ry,rn⟩:=rs;rw[Reps]at rn;subst rn;obtain⟨p,xs,ep,hp,J0,cg⟩:=BX.chg (ds':=ds++[r1.2]) GQ;rw[ev]at ep;cases ep;obtain⟨fq,BU,B0⟩:=cg (xs++[y]) (J0.app (.one ry));exact⟨p,xs,y,rfl,eys,hp,by rw[J0.length];exact hl,k _ _ G1 fq (B9.trans B0) (BU.push jF)⟩
   ·cases e
  ·cases e
 ·cases e
def z7:List D->Res R
 |[.lst ds]=>.ok (.f,.int ds.length)
 |[.tup ds]=>.ok (.f,.int ds.length)
 |[.str l]=>.ok (.f,.int l.length)
 |_=>.bad
theorem oO{K:W.Frag}{G H:Hp}{d:D}{xs:List V}(h:JT K G H [d] xs):∃v,xs=[v]/\Vw K G H d v:=by
 obtain⟨y,ys,e,v1,e2⟩:=h;have e2:ys=[]:=e2;subst e2;exact⟨y,e,v1⟩
theorem Bp{K:W.Frag}{G H:Hp}{d d':D}{xs:List V}(h:JT K G H [d,d'] xs):∃v w,xs=[v,w]/\Vw K G H d v/\Vw K G H d' w:=by
 obtain⟨y,ys,e,v1,h2⟩:=h;obtain⟨z,e2,v2⟩:=oO h2;subst e2;exact⟨y,z,e,v1,v2⟩
theorem yi:cX X (.builtin "len") (rC X.K z7):=by
 rintro pr s σ H xs us Q I rx ⟨G,fp,es,vs,ds,r,⟨rel,k⟩,vd,e⟩;unfold z7 at e;split at e
 ·rename_i ds;cases e;obtain⟨v,ev,p,ys,ep,sq,rs⟩:=oO vd;subst ev;subst ep;refine gu pr s σ H _ us Q I rx ⟨p,ys,rfl,.inl sq,?_⟩;rw[rs.length];exact k _ H G fp .refl (rel.push (bK _))
 ·rename_i ds;cases e;obtain⟨v,ev,vt⟩:=oO vd;obtain⟨p,ys,ep,sq,rs⟩:=dP vt;subst ev;subst ep;refine gu pr s σ H _ us Q I rx ⟨p,ys,rfl,.inr (bu rel.gh sq),?_⟩;rw[rs.length];exact k _ H G fp .refl (rel.push (bK _))
 ·rename_i l;cases e;obtain⟨v,ev,vt⟩:=oO vd;obtain⟨ep,hl⟩:=eP vt;subst ev;subst ep;refine kr pr s σ H _ us Q I rx ⟨S l,rfl,by rw[kz];exact hl,?_⟩;rw[kz];exact k _ H G fp .refl (rel.push (bK _))
 ·cases e
def sC:List D->Res R
 |[.lst ds]=>.ok (.l .f,.lst ds)
 |[.tup ds]=>.ok (.l .f,.lst ds)
 |_=>.bad
theorem vB:cX X (.type "list") (rC X.K sC):=by
 rintro pr s σ H xs us Q I rx ⟨G,fp,es,vs,ds,r,⟨rel,k⟩,vd,e⟩;unfold sC at e;split at e
 ·rename_i ds;cases e;obtain⟨v,ev,p,ys,ep,sq,rs⟩:=oO vd;subst ev;subst ep;refine gv pr s σ H _ us Q I rx ⟨p,ys,rfl,.inl sq,fun q hq=>?_⟩;obtain⟨BU,B0⟩:=rel.newL hq rs;exact k _ _ G _ B0 BU
 ·rename_i ds;cases e;obtain⟨v,ev,vt⟩:=oO vd;obtain⟨p,ys,ep,sq,rs⟩:=dP vt;subst ev;subst ep;refine gv pr s σ H _ us Q I rx ⟨p,ys,rfl,.inr (bu rel.gh sq),fun q hq=>?_⟩;obtain⟨BU,B0⟩:=rel.newL hq rs;exact k _ _ G _ B0 BU
 ·cases e
def m7:List D->Res R
 |[.lst ds]=>.ok (.f,.tup ds)
 |[.tup ds]=>.ok (.f,.tup ds)
 |_=>.bad
theorem sD:cX X (.type "tuple") (rC X.K m7):=by
 rintro pr s σ H xs us Q I rx ⟨G,fp,es,vs,ds,r,⟨rel,k⟩,vd,e⟩;unfold m7 at e;split at e
 ·rename_i ds;cases e;obtain⟨v,ev,p,ys,ep,sq,rs⟩:=oO vd;subst ev;subst ep;refine fB pr s σ H _ us Q I rx ⟨p,ys,rfl,.inl ⟨sq,fun q hq=>?_⟩⟩;obtain⟨G2,BU,B0⟩:=jJ rel hq rs;exact k _ _ G2 _ B0 BU
 ·rename_i ds;cases e;obtain⟨v,ev,vt⟩:=oO vd;obtain⟨p,ys,ep,sq,rs⟩:=dP vt;subst ev;subst ep;exact fB pr s σ H _ us Q I rx ⟨p,ys,rfl,.inr ⟨bu rel.gh sq,k _ H G fp .refl (rel.push vt)⟩⟩
 ·cases e
def sE:List D->Option (List Bool)
 |[]=>some []
 | .bl b::ds=>(sE ds).map (b:: ·)
 |_=>none
def cv:List D->Option (List Int)
 |[]=>some []
 | .int b::ds=>(cv ds).map (b:: ·)
 |_=>none
theorem fe{K:W.Frag}{G:Hp}:∀{ds:List D}{bs:List Int}{xs:List V},cv ds=some bs->Reps K G ds xs->xs=bs.map V.int
 |[],_,_,e,r=>by
  cases e;rw[Reps]at r;exact r
 | .int b::ds,_,_,e,r=>by
  rw[cv,Nw]at e;obtain⟨bs,e1,e2⟩:=e;subst e2;rw[Reps]at r;obtain⟨y,ys,e3,r1,r2⟩:=r;rw[e3,bB r1,fe e1 r2];rfl
 | .non::_,_,_,e,_ | .bl _::_,_,_,e,_ | .str _::_,_,_,e,_ | .tup _::_,_,_,e,_ | .lst _::_,_,_,e,_ | .dct _ _ _::_,_,_,e,_=>by simp[cv]at e
theorem oq(ns:List Int):cv (ns.map D.int)=some ns:=by
 induction ns with
 |nil=>rfl
 |cons n ns ih=>rw[MS,cv,ih];rfl
theorem yj(ns:List Bool):sE (ns.map D.bl)=some ns:=by
 induction ns with
 |nil=>rfl
 |cons n ns ih=>rw[MS,sE,ih];rfl
def m9:D->Option (List D)
 | .lst ds=>some ds
 | .tup ds=>some ds
 |_=>none
theorem vC{K:W.Frag}{G H:Hp}{d:D}{ds:List D}{v:V}(gh:Same G H)(e:m9 d=some ds)(h:Vw K G H d v):∃p xs,v=.ref p/\(SqL K H p xs\/SqT K H p xs)/\Reps K G ds xs:=by
 cases d with
 |lst es=>
  cases e;obtain⟨p,xs,ev,sq,rs⟩:=h;exact⟨p,xs,ev,.inl sq,rs⟩
 |tup es=>
  cases e;obtain⟨p,xs,ev,sq,rs⟩:=bh h;exact⟨p,xs,ev,.inr (bu gh sq),rs⟩
 |_=>cases e
def BH:List D->Res R
 |[d]=>match(m9 d).bind sE with
  |some bs=>.ok (.f,.bl (bs.all id))
  |none=>.bad
 |_=>.bad
def maxD:List D->Res R
 |[d]=>match(m9 d).bind cv with
  |some (n::ns)=>.ok (.f,.int (n5 (n::ns)))
  |_=>.bad
 |[.int i,.int j]=>.ok (.f,.int (if i<j then j else i))
 |_=>.bad
theorem kK{K:W.Frag}{G H:Hp}{d:D}{ns:List Int}{v:V}(gh:Same G H)(hb:(m9 d).bind cv=some ns)(vt:Vw K G H d v):∃p,v=.ref p/\(SqL K H p (ns.map V.int)\/SqT K H p (ns.map V.int)):=by
 obtain⟨l,hl,hb⟩:=NG.mp hb;obtain⟨p,ys,ep,sq,rs⟩:=vC gh hl vt;have:=fe hb rs;subst this;exact⟨p,ep,sq⟩
end
mutual
noncomputable def BZ:D->D->Bool
 | .non,.non=>true
 | .bl a,.bl b=>a==b
 | .bl a,.int j=>(if a then 1 else 0)==j
 | .int i,.bl b=>i==(if b then 1 else 0)
 | .int i,.int j=>i==j
 | .str a,.str b=>a==b
 | .tup a,.tup b=>iO a b
 | .lst a,.lst b=>iO a b
 |_,_=>false
noncomputable def iO:List D->List D->Bool
 |[],[]=>true
 |a::as,b::bs=>BZ a b&&iO as bs
 |_,_=>false
end
mutual
noncomputable def plainD:Nat->D->Bool
 |n+1,.tup ds=>plainDs n ds
 |n+1,.lst ds=>plainDs n ds
 | 0,.tup _=>false
 | 0,.lst _=>false
 |_,.dct _ _ _=>false
 |_,_=>true
noncomputable def plainDs:Nat->List D->Bool
 |_,[]=>true
 |n,d::ds=>plainD n d&&plainDs n ds
end
theorem plainDs_mem:∀{n:Nat}{ds:List D},plainDs n ds=true->∀{i:Nat}{d:D},ds[i]?=some d->plainD n d=true
 |_,[],_,_,_,e=>by simp at e
 |n,a::ds,h,0,d,e=>by
  rw[plainDs,MG]at h;simp at e;rw[<-e];exact h.1
 |n,a::ds,h,i+1,d,e=>by
  rw[plainDs,MG]at h;exact plainDs_mem h.2 (i:=i) (by simpa using e)
theorem fJ:∀{a b:List D},a.length≠b.length->iO a b=false
 |[],[],h=>absurd rfl h
 |[],_::_,_=>by simp only[iO]
 |_::_,[],_=>by simp only[iO]
 |x::xs,y::ys,h=>by
  rw[iO,fJ (fun e=>h (by simp[e])),Qz]
theorem dn:∀{a b:List D},a.length=b.length->(List.range a.length).all (fun j=>BZ (a.getD j .non) (b.getD j .non))=iO a b
 |[],[],_=>rfl
 |[],_::_,h=>by simp at h
 |_::_,[],h=>by simp at h
 |x::xs,y::ys,h=>by
  rw[iO,<-dn (a:=xs) (b:=ys) (by simpa using h),MY,List.range_succ_eq_map,PN,OC];rfl
section
variable{X:Cx}{pr:List (Addr×Obj)}{σ:L2.St}{H:Hp}{s:Shared}
theorem ic(I:Inv X pr σ H s){p:Addr}{xs ys:List V}(h:SqL X.K H p xs)(h':SqT X.K H p ys):False:=by
 obtain⟨us,_,p1,_⟩:=I.list h;obtain⟨ws,_,p2,_⟩:=I.tuple h';exact SeqAt.ne_of_list_tuple p1.isList (show s.heap.IsTuple p ws.toArray from p2) rfl
mutual
theorem jK(I:Inv X pr σ H s):∀(d e:D) (x:V) (n:Nat),plainD n d=true->Rep X.K H d x->Rep X.K H e x->d=e
 | .non,e,x,n,_,r,q=>by
  cases bS r;cases e with
  |non=>rfl
  |bl b=>cases b9 q
  |int i=>cases bB q
  |str l=>cases(aY q).1
  |tup l=>obtain⟨p,xs,ev,_⟩:=bh q;cases ev
  |lst l=>obtain⟨p,xs,ev,_⟩:=bC q;cases ev
  |dct tk ks vs=>rw[Rep]at q;obtain⟨p,xs,o,ev,_⟩:=q;cases ev
 | .bl b,e,x,n,_,r,q=>by
  cases b9 r;cases e with
  |non=>cases bS q
  |bl b=>cases b9 q;rfl
  |int i=>cases bB q
  |str l=>cases(aY q).1
  |tup l=>obtain⟨p,xs,ev,_⟩:=bh q;cases ev
  |lst l=>obtain⟨p,xs,ev,_⟩:=bC q;cases ev
  |dct tk ks vs=>rw[Rep]at q;obtain⟨p,xs,o,ev,_⟩:=q;cases ev
 | .int i,e,x,n,_,r,q=>by
  cases bB r;cases e with
  |non=>cases bS q
  |bl b=>cases b9 q
  |int i=>cases bB q;rfl
  |str l=>cases(aY q).1
  |tup l=>obtain⟨p,xs,ev,_⟩:=bh q;cases ev
  |lst l=>obtain⟨p,xs,ev,_⟩:=bC q;cases ev
  |dct tk ks vs=>rw[Rep]at q;obtain⟨p,xs,o,ev,_⟩:=q;cases ev
 | .str l,e,x,n,_,r,q=>by
  have hr:=(aY r).1;subst hr;cases e with
  |non=>cases bS q
  |bl b=>cases b9 q
  |int i=>cases bB q
  |str l'=>
   have hq:=(aY q).1;injection hq with hq;rw[S_inj hq]
  |tup l=>obtain⟨p,xs,ev,_⟩:=bh q;cases ev
  |lst l=>obtain⟨p,xs,ev,_⟩:=bC q;cases ev
  |dct tk ks vs=>rw[Rep]at q;obtain⟨p,xs,o,ev,_⟩:=q;cases ev
 | .tup l,e,x,n,h,r,q=>by
  obtain⟨p,xs,ev,sq,rs⟩:=bh r;subst ev;cases e with
  |non=>cases bS q
  |bl b=>cases b9 q
  |int i=>cases bB q
  |str l=>cases(aY q).1
  |tup l'=>
   obtain⟨p',CV,DB,Du,DG⟩:=bh q;cases DB;have:=I.tuple_inj sq Du;subst this;cases n with
   |zero=>simp only[plainD]at h;cases h
   |succ n=>
    simp only[plainD]at h;rw[jL I l l' xs n h rs DG]
  |lst l'=>
   obtain⟨p',CV,DB,Du,DG⟩:=bC q;cases DB;exact(ic I Du sq).elim
  |dct tk ks vs=>
   exfalso;rw[Rep]at q;obtain⟨p',CV,o,DB,rd,dd,_⟩:=q;cases DB;obtain⟨BR,_,ip,_⟩:=I.tuple sq;obtain⟨ob,ho,hc,_⟩:=ip;have Iu:=rd.ok I.hok;cases tk with
   |true=>
    obtain⟨BV,eo,_⟩:=dd;subst eo;obtain⟨_,_,_,_,o2,_,_,DE,ex,_⟩:=Iu;rw[ho]at DE;cases DE;rw[ex.1]at hc;exact absurd hc (by decide)
   |false=>
    obtain⟨BV,eo,_⟩:=dd;subst eo;obtain⟨_,_,_,_,o2,_,_,DE,ex,_⟩:=Iu;rw[ho]at DE;cases DE;rw[ex.1]at hc;exact absurd hc (by decide)
 | .lst l,e,x,n,h,r,q=>by
  obtain⟨p,xs,ev,sq,rs⟩:=bC r;subst ev;cases e with
  |non=>cases bS q
  |bl b=>cases b9 q
  |int i=>cases bB q
  |str l=>cases(aY q).1
  |tup l'=>
   obtain⟨p',CV,DB,Du,DG⟩:=bh q;cases DB;exact(ic I sq Du).elim
  |lst l'=>
   obtain⟨p',CV,DB,Du,DG⟩:=bC q;cases DB;have:=I.list_inj sq Du;subst this;cases n with
   |zero=>simp only[plainD]at h;cases h
   |succ n=>
    simp only[plainD]at h;rw[jL I l l' xs n h rs DG]
  |dct tk ks vs=>
   exfalso;rw[Rep]at q;obtain⟨p',CV,o,DB,rd,dd,_⟩:=q;cases DB;obtain⟨BR,_,ip,_⟩:=I.list sq;obtain⟨ob,_,ho,hc,_⟩:=ip;have Iu:=rd.ok I.hok;cases tk with
   |true=>
    obtain⟨BV,eo,_⟩:=dd;subst eo;obtain⟨_,_,_,_,o2,_,_,DE,ex,_⟩:=Iu;rw[ho]at DE;cases DE;rw[ex.1]at hc;exact absurd hc (by decide)
   |false=>
    obtain⟨BV,eo,_⟩:=dd;subst eo;obtain⟨_,_,_,_,o2,_,_,DE,ex,_⟩:=Iu;rw[ho]at DE;cases DE;rw[ex.1]at hc;exact absurd hc (by decide)
 | .dct _ _ _,_,_,n,h,_,_=>by cases n <;> (simp only[plainD]at h;cases h)
theorem jL(I:Inv X pr σ H s):∀(ds es:List D) (xs:List V) (n:Nat),plainDs n ds=true->Reps X.K H ds xs->Reps X.K H es xs->ds=es
 |[],es,xs,n,_,r,q=>by
  rw[Reps]at r;subst r;cases es with
  |nil=>rfl
  |cons e es=>
   rw[Reps]at q;obtain⟨y,ys,ev,_⟩:=q;cases ev
 |d::ds,es,xs,n,h,r,q=>by
  rw[Reps]at r;obtain⟨y,ys,ev,r1,r2⟩:=r;subst ev;rw[plainDs,MG]at h;cases es with
  |nil=>
   rw[Reps]at q;cases q
  |cons e es=>
   rw[Reps]at q;obtain⟨y',ys',ev,q1,q2⟩:=q;cases ev;rw[jK I d e y n h.1 r1 q1,jL I ds es ys n h.2 r2 q2]
end
mutual
theorem fK:∀(d:D) (n:Nat),plainD n d=true->BZ d d=true
 | .non,_,_=>by simp only[BZ]
 | .bl _,_,_=>by simp only[BZ,Nl]
 | .int _,_,_=>by simp only[BZ,Nl]
 | .str _,_,_=>by simp only[BZ,Nl]
 | .tup ds,0,h=>by simp only[plainD]at h;cases h
 | .tup ds,n+1,h=>by simp only[plainD]at h;simp only[BZ];exact ie ds n h
 | .lst ds,0,h=>by simp only[plainD]at h;cases h
 | .lst ds,n+1,h=>by simp only[plainD]at h;simp only[BZ];exact ie ds n h
 | .dct _ _ _,n,h=>by cases n <;> (simp only[plainD]at h;cases h)
theorem ie:∀(ds:List D) (n:Nat),plainDs n ds=true->iO ds ds=true
 |[],_,_=>by simp only[iO]
 |d::ds,n,h=>by
  rw[plainDs,MG]at h;rw[iO,fK d n h.1,ie ds n h.2];rfl
end
open PySem.SeqAt
theorem ba{n:Nat}{tk:Bool}{ks vs:List D}(h:plainD n (.dct tk ks vs)=true):False:=by cases n <;> (simp only[plainD]at h;cases h)
mutual
theorem yk(I:Inv X pr σ H s):∀(d e:D) (x y:V) (v u:Value) (A:Around) (n:Nat),plainD n d=true->plainD n e=true->A.units+n<cLine->Rep X.K H d x->Rep X.K H e y->RelV x v->RelV y u->EqAt A s v u (BZ d e)
 | .non,e,x,y,v,u,A,n,h,h',hu,r,q,rx,ry=>by
  cases bS r;cases rx;cases e with
  |non=>cases bS q;cases ry;simp only[BZ];exact .same _
  |bl b=>cases b9 q;cases ry;simp only[BZ];exact .none_bool _
  |int i=>cases bB q;obtain⟨t,rfl⟩:=ry;simp only[BZ];exact .none_int _ _
  |str l=>cases(aY q).1;obtain⟨t,rfl⟩:=ry;simp only[BZ];exact .none_str _ _
  |tup l=>obtain⟨p,xs,rfl,sq,_⟩:=bh q;cases ry;obtain⟨BR,_,ip,_⟩:=I.tuple sq;simp only[BZ];exact .none_tuple (show s.heap.IsTuple p BR.toArray from ip) (by lia)
  |lst l=>obtain⟨p,xs,rfl,sq,_⟩:=bC q;cases ry;obtain⟨BR,_,ip,_⟩:=I.list sq;simp only[BZ];exact .none_list ip.isList (by lia)
  |dct tk ks vs=>exact(ba h').elim
 | .bl b,e,x,y,v,u,A,n,h,h',hu,r,q,rx,ry=>by
  cases b9 r;cases rx;cases e with
  |non=>cases bS q;cases ry;simp only[BZ];exact .bool_none _
  |bl b=>cases b9 q;cases ry;simp only[BZ];exact .bool_bool _ _
  |int i=>cases bB q;obtain⟨t,rfl⟩:=ry;simp only[BZ];exact .bool_int _ _ _
  |str l=>cases(aY q).1;obtain⟨t,rfl⟩:=ry;simp only[BZ];exact .bool_str _ _ _
  |tup l=>obtain⟨p,xs,rfl,sq,_⟩:=bh q;cases ry;obtain⟨BR,_,ip,_⟩:=I.tuple sq;simp only[BZ];exact .bool_tuple _ (show s.heap.IsTuple p BR.toArray from ip) (by lia)
  |lst l=>obtain⟨p,xs,rfl,sq,_⟩:=bC q;cases ry;obtain⟨BR,_,ip,_⟩:=I.list sq;simp only[BZ];exact .bool_list _ ip.isList (by lia)
  |dct tk ks vs=>exact(ba h').elim
 | .int b,e,x,y,v,u,A,n,h,h',hu,r,q,rx,ry=>by
  cases bB r;obtain⟨t0,rfl⟩:=rx;cases e with
  |non=>cases bS q;cases ry;simp only[BZ];exact .int_none _ _
  |bl b=>cases b9 q;cases ry;simp only[BZ];exact .int_bool _ _ _
  |int i=>cases bB q;obtain⟨t,rfl⟩:=ry;simp only[BZ];exact .int_int _ _ _ _
  |str l=>cases(aY q).1;obtain⟨t,rfl⟩:=ry;simp only[BZ];exact .int_str _ _ _ _
  |tup l=>obtain⟨p,xs,rfl,sq,_⟩:=bh q;cases ry;obtain⟨BR,_,ip,_⟩:=I.tuple sq;simp only[BZ];exact .int_tuple _ _ (show s.heap.IsTuple p BR.toArray from ip) (by lia)
  |lst l=>obtain⟨p,xs,rfl,sq,_⟩:=bC q;cases ry;obtain⟨BR,_,ip,_⟩:=I.list sq;simp only[BZ];exact .int_list _ _ ip.isList (by lia)
  |dct tk ks vs=>exact(ba h').elim
 | .str b,e,x,y,v,u,A,n,h,h',hu,r,q,rx,ry=>by
  have hr:=(aY r).1;subst hr;obtain⟨t0,rfl⟩:=rx;cases e with
  |non=>cases bS q;cases ry;simp only[BZ];exact .str_none _ _
  |bl b=>cases b9 q;cases ry;simp only[BZ];exact .str_bool _ _ _
  |int i=>cases bB q;obtain⟨t,rfl⟩:=ry;simp only[BZ];exact .str_int _ _ _ _
  |str l=>
   have hq:=(aY q).1;subst hq;obtain⟨t,rfl⟩:=ry;have e1:(b==l)=(S b==S l):=by
    rw[MV,Nb,Nb];exact⟨fun z=>by rw[z],S_inj⟩
   simp only[BZ,e1];exact .str_str _ _ _ _
  |tup l=>obtain⟨p,xs,rfl,sq,_⟩:=bh q;cases ry;obtain⟨BR,_,ip,_⟩:=I.tuple sq;simp only[BZ];exact .str_tuple _ _ (show s.heap.IsTuple p BR.toArray from ip) (by lia)
  |lst l=>obtain⟨p,xs,rfl,sq,_⟩:=bC q;cases ry;obtain⟨BR,_,ip,_⟩:=I.list sq;simp only[BZ];exact .str_list _ _ ip.isList (by lia)
  |dct tk ks vs=>exact(ba h').elim
 | .tup l,e,x,y,v,u,A,n,h,h',hu,r,q,rx,ry=>by
  have rr:=r;obtain⟨p,xs,ev,sq,rs⟩:=bh r;subst ev;cases rx;obtain⟨BR,vl,ip,_⟩:=I.tuple sq;have ip:s.heap.IsTuple p BR.toArray:=ip;cases e with
  |non=>cases bS q;cases ry;simp only[BZ];exact .tuple_none ip (by lia)
  |bl b=>cases b9 q;cases ry;simp only[BZ];exact .tuple_bool _ ip (by lia)
  |int i=>cases bB q;obtain⟨t,rfl⟩:=ry;simp only[BZ];exact .tuple_int _ _ ip (by lia)
  |str l=>cases(aY q).1;obtain⟨t,rfl⟩:=ry;simp only[BZ];exact .tuple_str _ _ ip (by lia)
  |tup l'=>
   obtain⟨p',CV,DB,Du,DG⟩:=bh q;subst DB;cases ry;by_cases hp:p=p'
   ·subst hp;have hz:=jK I _ _ _ n h rr q;rw[<-hz,fK _ n h];exact .same _
   ·obtain⟨its',Ga,DD,_⟩:=I.tuple Du;have DD:s.heap.IsTuple p' its'.toArray:=DD;cases n with
    |zero=>simp only[plainD]at h;cases h
    |succ n=>
     simp only[plainD]at h h';have l1:=vl.length;have l2:=Ga.length;have l3:=rs.length;have l4:=DG.length;have key:=RcAt.tuples (A:=A) (e:=fun j=>BZ (l.getD j .non) (l'.getD j .non)) ip DD (by lia) fun j h1 h2=>by
      simp only[MC]at h1 h2;have g1:l[j]?=some (l[j]'(by lia)):=Mz _;have g2:l'[j]?=some (l'[j]'(by lia)):=Mz _;obtain⟨w1,Gb,Gd⟩:=rs.get g1;obtain⟨w2,G0,G9⟩:=DG.get g2;obtain⟨u1,EO,Ge⟩:=vl.get Gb;obtain⟨u2,Fn,Ha⟩:=Ga.get G0;have q1:BR.toArray[j]=u1:=by rw[Mz h1]at EO;simpa using EO
      have q2:its'.toArray[j]=u2:=by rw[Mz h2]at Fn;simpa using Fn
      rw[q1,q2,MQ,MQ,g1,g2];exact kM I l j _ g1 _ w1 w2 u1 u2 A.in1 n (plainDs_mem h g1) (plainDs_mem h' g2) (by show A.units+1+n<cLine;lia) Gd G9 Ge Ha
     simp only[BZ];have fin:((List.range (min BR.toArray.size its'.toArray.size)).all (fun j=>BZ (l.getD j .non) (l'.getD j .non))&&BR.toArray.size==its'.toArray.size)=iO l l':=by
      simp only[MC];by_cases hl:l.length=l'.length
      ·rw[<-dn hl,show min BR.length its'.length=l.length by lia,show(BR.length==its'.length)=true by rw[Nb];lia,Bool.and_true]
      ·rw[fJ hl,show(BR.length==its'.length)=false by rw[Oa];lia,Qz]
     rw[<-fin];exact .of_refs hp key
  |lst l'=>obtain⟨p',CV,DB,Du,_⟩:=bC q;subst DB;cases ry;obtain⟨its',_,DD,_⟩:=I.list Du;simp only[BZ];exact .tuple_list ip DD.isList (by lia)
  |dct tk ks vs=>exact(ba h').elim
 | .lst l,e,x,y,v,u,A,n,h,h',hu,r,q,rx,ry=>by
  have rr:=r;obtain⟨p,xs,ev,sq,rs⟩:=bC r;subst ev;cases rx;obtain⟨BR,vl,ip,_⟩:=I.list sq;have ip:=ip.isList;cases e with
  |non=>cases bS q;cases ry;simp only[BZ];exact .list_none ip (by lia)
  |bl b=>cases b9 q;cases ry;simp only[BZ];exact .list_bool _ ip (by lia)
  |int i=>cases bB q;obtain⟨t,rfl⟩:=ry;simp only[BZ];exact .list_int _ _ ip (by lia)
  |str l=>cases(aY q).1;obtain⟨t,rfl⟩:=ry;simp only[BZ];exact .list_str _ _ ip (by lia)
  |lst l'=>
   obtain⟨p',CV,DB,Du,DG⟩:=bC q;subst DB;cases ry;by_cases hp:p=p'
   ·subst hp;have hz:=jK I _ _ _ n h rr q;rw[<-hz,fK _ n h];exact .same _
   ·obtain⟨its',Ga,DD,_⟩:=I.list Du;have DD:=DD.isList;cases n with
    |zero=>simp only[plainD]at h;cases h
    |succ n=>
     simp only[plainD]at h h';have l1:=vl.length;have l2:=Ga.length;have l3:=rs.length;have l4:=DG.length;simp only[BZ];by_cases hl:l.length=l'.length
     ·have key:=RcAt.lists (A:=A) (e:=fun j=>BZ (l.getD j .non) (l'.getD j .non)) ip DD (by simp only[MC];lia) (by lia) fun j h1 h2=>by
       simp only[MC]at h1 h2;have g1:l[j]?=some (l[j]'(by lia)):=Mz _;have g2:l'[j]?=some (l'[j]'(by lia)):=Mz _;obtain⟨w1,Gb,Gd⟩:=rs.get g1;obtain⟨w2,G0,G9⟩:=DG.get g2;obtain⟨u1,EO,Ge⟩:=vl.get Gb;obtain⟨u2,Fn,Ha⟩:=Ga.get G0;have q1:BR.toArray[j]=u1:=by rw[Mz h1]at EO;simpa using EO
       have q2:its'.toArray[j]=u2:=by rw[Mz h2]at Fn;simpa using Fn
       rw[q1,q2,MQ,MQ,g1,g2];exact kM I l j _ g1 _ w1 w2 u1 u2 A.in1 n (plainDs_mem h g1) (plainDs_mem h' g2) (by show A.units+1+n<cLine;lia) Gd G9 Ge Ha
      rw[<-dn hl,show l.length=BR.toArray.size by simp only[MC];lia];exact .of_refs hp key
     ·rw[fJ hl];exact .of_refs hp (RcAt.lists_lengths ip DD (by simp only[MC,Sg];lia) (by lia))
  |tup l'=>obtain⟨p',CV,DB,Du,_⟩:=bh q;subst DB;cases ry;obtain⟨its',_,DD,_⟩:=I.tuple Du;simp only[BZ];exact .list_tuple ip (show s.heap.IsTuple p' its'.toArray from DD) (by lia)
  |dct tk ks vs=>exact(ba h').elim
 | .dct _ _ _,_,_,_,_,_,_,n,h,_,_,_,_,_,_=>(ba h).elim
theorem kM(I:Inv X pr σ H s):∀(ds:List D) (j:Nat) (d:D),ds[j]?=some d->∀(e:D) (x y:V) (v u:Value) (A:Around) (n:Nat),plainD n d=true->plainD n e=true->A.units+n<cLine->Rep X.K H d x->Rep X.K H e y->RelV x v->RelV y u->EqAt A s v u (BZ d e)
 |[],_,_,hj=>by simp at hj
 |d'::ds,0,d,hj=>by
  simp at hj;subst hj;exact yk I d'
 |d'::ds,j+1,d,hj=>kM I ds j d (by simpa using hj)
end
end
section
variable{X:Cx}
def DH(a b:D):Res R:=if plainD 40 a&&plainD 40 b then .ok (.f,.bl (BZ a b)) else .bad
def Fz(a b:D):Res R:=if plainD 40 a&&plainD 40 b then .ok (.f,.bl (!BZ a b)) else .bad
open PySem.SeqAt in
theorem ym{pr:List (Addr×Obj)}{σ:L2.St}{H:Hp}{s:Shared}(I:Inv X pr σ H s){d e:D}{x y:V}{v u:Value}{A:Around}(h:plainD 40 d=true)(h':plainD 40 e=true)(hu:A.units+64<cLine)(r:Rep X.K H d x)(q:Rep X.K H e y)(rx:RelV x v)(ry:RelV y u):
  RcAt A s v u (BZ d e)/\RcNeAt A s v u (!BZ d e):=by
 cases d with
 |non=>
  cases bS r;cases rx;cases e with
  |non=>cases bS q;cases ry;simp only[BZ];exact⟨.none_none,.none_none⟩
  |bl b=>cases b9 q;cases ry;simp only[BZ];exact⟨.none_bool _,.none_bool _⟩
  |int i=>cases bB q;obtain⟨t,rfl⟩:=ry;simp only[BZ];exact⟨.none_int _ _,.none_int _ _⟩
  |str l=>cases(aY q).1;obtain⟨t,rfl⟩:=ry;simp only[BZ];exact⟨.none_str _ _,.none_str _ _⟩
  |tup l=>obtain⟨p,xs,rfl,sq,_⟩:=bh q;cases ry;obtain⟨BR,_,ip,_⟩:=I.tuple sq;simp only[BZ];exact⟨.none_tuple (show s.heap.IsTuple p BR.toArray from ip) (by lia),.none_tuple (show s.heap.IsTuple p BR.toArray from ip) (by lia)⟩
  |lst l=>obtain⟨p,xs,rfl,sq,_⟩:=bC q;cases ry;obtain⟨BR,_,ip,_⟩:=I.list sq;simp only[BZ];exact⟨.none_list ip.isList (by lia),.none_list ip.isList (by lia)⟩
  |dct tk ks vs=>exact(ba h').elim
 |bl b=>
  cases b9 r;cases rx;cases e with
  |non=>cases bS q;cases ry;simp only[BZ];exact⟨.bool_none _,.bool_none _⟩
  |bl b=>cases b9 q;cases ry;simp only[BZ];exact⟨.bool_bool _ _,.bool_bool _ _⟩
  |int i=>cases bB q;obtain⟨t,rfl⟩:=ry;simp only[BZ];exact⟨.bool_int _ _ _,.bool_int _ _ _⟩
  |str l=>cases(aY q).1;obtain⟨t,rfl⟩:=ry;simp only[BZ];exact⟨.bool_str _ _ _,.bool_str _ _ _⟩
  |tup l=>obtain⟨p,xs,rfl,sq,_⟩:=bh q;cases ry;obtain⟨BR,_,ip,_⟩:=I.tuple sq;simp only[BZ];exact⟨.bool_tuple _ (show s.heap.IsTuple p BR.toArray from ip) (by lia),.bool_tuple _ (show s.heap.IsTuple p BR.toArray from ip) (by lia)⟩
  |lst l=>obtain⟨p,xs,rfl,sq,_⟩:=bC q;cases ry;obtain⟨BR,_,ip,_⟩:=I.list sq;simp only[BZ];exact⟨.bool_list _ ip.isList (by lia),.bool_list _ ip.isList (by lia)⟩
  |dct tk ks vs=>exact(ba h').elim
 |int b=>
  cases bB r;obtain⟨t0,rfl⟩:=rx;cases e with
  |non=>cases bS q;cases ry;simp only[BZ];exact⟨.int_none _ _,.int_none _ _⟩
  |bl b=>cases b9 q;cases ry;simp only[BZ];exact⟨.int_bool _ _ _,.int_bool _ _ _⟩
  |int i=>cases bB q;obtain⟨t,rfl⟩:=ry;simp only[BZ];exact⟨.int_int _ _ _ _,.int_int _ _ _ _⟩
  |str l=>cases(aY q).1;obtain⟨t,rfl⟩:=ry;simp only[BZ];exact⟨.int_str _ _ _ _,.int_str _ _ _ _⟩
  |tup l=>obtain⟨p,xs,rfl,sq,_⟩:=bh q;cases ry;obtain⟨BR,_,ip,_⟩:=I.tuple sq;simp only[BZ];exact⟨.int_tuple _ _ (show s.heap.IsTuple p BR.toArray from ip) (by lia),.int_tuple _ _ (show s.heap.IsTuple p BR.toArray from ip) (by lia)⟩
  |lst l=>obtain⟨p,xs,rfl,sq,_⟩:=bC q;cases ry;obtain⟨BR,_,ip,_⟩:=I.list sq;simp only[BZ];exact⟨.int_list _ _ ip.isList (by lia),.int_list _ _ ip.isList (by lia)⟩
  |dct tk ks vs=>exact(ba h').elim
 |str b=>
  have hr:=(aY r).1;subst hr;obtain⟨t0,rfl⟩:=rx;cases e with
  |non=>cases bS q;cases ry;simp only[BZ];exact⟨.str_none _ _,.str_none _ _⟩
  |bl b=>cases b9 q;cases ry;simp only[BZ];exact⟨.str_bool _ _ _,.str_bool _ _ _⟩
  |int i=>cases bB q;obtain⟨t,rfl⟩:=ry;simp only[BZ];exact⟨.str_int _ _ _ _,.str_int _ _ _ _⟩
  |str l=>
   have hq:=(aY q).1;subst hq;obtain⟨t,rfl⟩:=ry;have e1:(b==l)=(S b==S l):=by
    rw[MV,Nb,Nb];exact⟨fun z=>by rw[z],S_inj⟩
   simp only[BZ,e1];exact⟨.str_str _ _ _ _,.str_str _ _ _ _⟩
  |tup l=>obtain⟨p,xs,rfl,sq,_⟩:=bh q;cases ry;obtain⟨BR,_,ip,_⟩:=I.tuple sq;simp only[BZ];exact⟨.str_tuple _ _ (show s.heap.IsTuple p BR.toArray from ip) (by lia),.str_tuple _ _ (show s.heap.IsTuple p BR.toArray from ip) (by lia)⟩
  |lst l=>obtain⟨p,xs,rfl,sq,_⟩:=bC q;cases ry;obtain⟨BR,_,ip,_⟩:=I.list sq;simp only[BZ];exact⟨.str_list _ _ ip.isList (by lia),.str_list _ _ ip.isList (by lia)⟩
  |dct tk ks vs=>exact(ba h').elim
 |tup l=>
  obtain⟨p,xs,ev,sq,rs⟩:=bh r;subst ev;cases rx;obtain⟨BR,vl,ip,_⟩:=I.tuple sq;have ip:s.heap.IsTuple p BR.toArray:=ip;cases e with
  |non=>cases bS q;cases ry;simp only[BZ];exact⟨.tuple_none ip (by lia),.tuple_none ip (by lia)⟩
  |bl b=>cases b9 q;cases ry;simp only[BZ];exact⟨.tuple_bool _ ip (by lia),.tuple_bool _ ip (by lia)⟩
  |int i=>cases bB q;obtain⟨t,rfl⟩:=ry;simp only[BZ];exact⟨.tuple_int _ _ ip (by lia),.tuple_int _ _ ip (by lia)⟩
  |str l=>cases(aY q).1;obtain⟨t,rfl⟩:=ry;simp only[BZ];exact⟨.tuple_str _ _ ip (by lia),.tuple_str _ _ ip (by lia)⟩
  |tup l'=>
   obtain⟨p',CV,DB,Du,DG⟩:=bh q;subst DB;cases ry;obtain⟨its',Ga,DD,_⟩:=I.tuple Du;have DD:s.heap.IsTuple p' its'.toArray:=DD;simp only[plainD]at h h';have l1:=vl.length;have l2:=Ga.length;have l3:=rs.length;have l4:=DG.length;have el:∀j (h1:j<BR.toArray.size) (h2:j<its'.toArray.size),EqAt A.in1 s BR.toArray[j] its'.toArray[j] ((fun j=>BZ (l.getD j .non) (l'.getD j .non)) j):=fun j h1 h2=>by
    simp only[MC]at h1 h2;have g1:l[j]?=some (l[j]'(by lia)):=Mz _;have g2:l'[j]?=some (l'[j]'(by lia)):=Mz _;obtain⟨w1,Gb,Gd⟩:=rs.get g1;obtain⟨w2,G0,G9⟩:=DG.get g2;obtain⟨u1,EO,Ge⟩:=vl.get Gb;obtain⟨u2,Fn,Ha⟩:=Ga.get G0;have q1:BR.toArray[j]=u1:=by rw[Mz h1]at EO;simpa using EO
    have q2:its'.toArray[j]=u2:=by rw[Mz h2]at Fn;simpa using Fn
    dsimp only;rw[q1,q2,MQ,MQ,g1,g2];exact kM I l j _ g1 _ w1 w2 u1 u2 A.in1 39 (plainDs_mem h g1) (plainDs_mem h' g2) (by show A.units+1+39<cLine;lia) Gd G9 Ge Ha
   simp only[BZ];have fin:((List.range (min BR.toArray.size its'.toArray.size)).all (fun j=>BZ (l.getD j .non) (l'.getD j .non))&&BR.toArray.size==its'.toArray.size)=iO l l':=by
    simp only[MC];by_cases hl:l.length=l'.length
    ·rw[<-dn hl,show min BR.length its'.length=l.length by lia,show(BR.length==its'.length)=true by rw[Nb];lia,Bool.and_true]
    ·rw[fJ hl,show(BR.length==its'.length)=false by rw[Oa];lia,Qz]
   rw[<-fin];exact⟨.tuples ip DD (by lia) el,.tuples ip DD (by lia) el⟩
  |lst l'=>obtain⟨p',CV,DB,Du,_⟩:=bC q;subst DB;cases ry;obtain⟨its',_,DD,_⟩:=I.list Du;simp only[BZ];exact⟨.tuple_list ip DD.isList (by lia),.tuple_list ip DD.isList (by lia)⟩
  |dct tk ks vs=>exact(ba h').elim
 |lst l=>
  obtain⟨p,xs,ev,sq,rs⟩:=bC r;subst ev;cases rx;obtain⟨BR,vl,ip,_⟩:=I.list sq;have ip:=ip.isList;cases e with
  |non=>cases bS q;cases ry;simp only[BZ];exact⟨.list_none ip (by lia),.list_none ip (by lia)⟩
  |bl b=>cases b9 q;cases ry;simp only[BZ];exact⟨.list_bool _ ip (by lia),.list_bool _ ip (by lia)⟩
  |int i=>cases bB q;obtain⟨t,rfl⟩:=ry;simp only[BZ];exact⟨.list_int _ _ ip (by lia),.list_int _ _ ip (by lia)⟩
  |str l=>cases(aY q).1;obtain⟨t,rfl⟩:=ry;simp only[BZ];exact⟨.list_str _ _ ip (by lia),.list_str _ _ ip (by lia)⟩
  |lst l'=>
   obtain⟨p',CV,DB,Du,DG⟩:=bC q;subst DB;cases ry;obtain⟨its',Ga,DD,_⟩:=I.list Du;have DD:=DD.isList;simp only[plainD]at h h';have l1:=vl.length;have l2:=Ga.length;have l3:=rs.length;have l4:=DG.length;simp only[BZ];by_cases hl:l.length=l'.length
   ·have el:∀j (h1:j<BR.toArray.size) (h2:j<its'.toArray.size),EqAt A.in1 s BR.toArray[j] its'.toArray[j] ((fun j=>BZ (l.getD j .non) (l'.getD j .non)) j):=fun j h1 h2=>by
     simp only[MC]at h1 h2;have g1:l[j]?=some (l[j]'(by lia)):=Mz _;have g2:l'[j]?=some (l'[j]'(by lia)):=Mz _;obtain⟨w1,Gb,Gd⟩:=rs.get g1;obtain⟨w2,G0,G9⟩:=DG.get g2;obtain⟨u1,EO,Ge⟩:=vl.get Gb;obtain⟨u2,Fn,Ha⟩:=Ga.get G0;have q1:BR.toArray[j]=u1:=by rw[Mz h1]at EO;simpa using EO
     have q2:its'.toArray[j]=u2:=by rw[Mz h2]at Fn;simpa using Fn
     dsimp only;rw[q1,q2,MQ,MQ,g1,g2];exact kM I l j _ g1 _ w1 w2 u1 u2 A.in1 39 (plainDs_mem h g1) (plainDs_mem h' g2) (by show A.units+1+39<cLine;lia) Gd G9 Ge Ha
    rw[<-dn hl,show l.length=BR.toArray.size by simp only[MC];lia];exact⟨.lists ip DD (by simp only[MC];lia) (by lia) el,.lists ip DD (by simp only[MC];lia) (by lia) el⟩
   ·rw[fJ hl];exact⟨.lists_lengths ip DD (by simp only[MC,Sg];lia) (by lia),.lists_lengths ip DD (by simp only[MC,Sg];lia) (by lia)⟩
  |tup l'=>obtain⟨p',CV,DB,Du,_⟩:=bh q;subst DB;cases ry;obtain⟨its',_,DD,_⟩:=I.tuple Du;simp only[BZ];exact⟨.list_tuple ip (show s.heap.IsTuple p' its'.toArray from DD) (by lia),.list_tuple ip (show s.heap.IsTuple p' its'.toArray from DD) (by lia)⟩
  |dct tk ks vs=>exact(ba h').elim
 |dct tk ks vs=>exact(ba h).elim
theorem f7(hu:X.A.units+64<cLine):CF X (compareOp .Eq) (rGA X.K DH):=by
 rintro pr s σ H x y v u Q I rx ry ⟨G,fp,es,vs,a,b,r,⟨rel,k⟩,va,vb,e⟩;unfold DH at e;split at e
 ·rename_i hp;cases e;rw[MG]at hp;exact(ym I hp.1 hp.2 hu va vb rx ry).1 _ _ _ _ ⟨.bl _,H,I,rfl,k _ H G fp .refl (rel.push (bQ _))⟩
 ·cases e
theorem sF(hu:X.A.units+64<cLine):CF X (compareOp .NotEq) (rGA X.K Fz):=by
 rintro pr s σ H x y v u Q I rx ry ⟨G,fp,es,vs,a,b,r,⟨rel,k⟩,va,vb,e⟩;unfold Fz at e;split at e
 ·rename_i hp;cases e;rw[MG]at hp;exact(ym I hp.1 hp.2 hu va vb rx ry).2 _ _ _ _ ⟨.bl _,H,I,rfl,k _ H G fp .refl (rel.push (bQ _))⟩
 ·cases e
def sG(a:D)(ds:List D):Bool:=ds.any fun d=>BZ d a
noncomputable def Gf(a b:D):Res R:=match b with
 | .lst ds=>if plainD 40 a&&plainDs 40 ds then .ok (.f,.bl (sG a ds)) else .bad
 | .tup ds=>if plainD 40 a&&plainDs 40 ds then .ok (.f,.bl (sG a ds)) else .bad
 | .str l=>match a with
  | .str [c]=>.ok (.f,.bl (decide (c∈l)))
  |_=>.bad
 |_=>.bad
def wR(a b:D):Res R:=(Gf a b).bind fun r=>match r.2 with
 | .bl k=>.ok (.f,.bl (!k))
 |_=>.bad
open PySem.SeqAt in
theorem ng{pr:List (Addr×Obj)}{σ:L2.St}{H:Hp}{s:Shared}(I:Inv X pr σ H s){a:D}{x:V}{v:Value}{A:Around}(h:plainD 40 a=true)(hu:A.units+64<cLine)(r:Rep X.K H a x)(rx:RelV x v):
  ∀(ds:List D) (xs:List V) (us:List Value),plainDs 40 ds=true->Reps X.K H ds xs->Vals xs us->∃e:Value->Bool,us.any e=sG a ds/\∀u∈us,EqAt A s u v (e u):=by
 classical
 intro ds xs us hp rs vl;refine⟨fun u=>decide (∃(j:Nat) (d:D),ds[j]?=some d/\us[j]?=some u/\BZ d a=true),?_,fun u hu'=>?_⟩
 ·rw[MV,N6];unfold sG;rw[N6];constructor
  ·rintro⟨u,_,hd⟩;obtain⟨j,d,h1,_,h2⟩:=NZ hd;exact⟨d,NI h1,h2⟩
  ·rintro⟨d,hd,h2⟩;obtain⟨j,hj⟩:=Ol.mp hd;obtain⟨w1,Gb,Gd⟩:=rs.get hj;obtain⟨u1,EO,Ge⟩:=vl.get Gb;exact⟨u1,NI EO,M6 ⟨j,d,hj,EO,h2⟩⟩
 ·obtain⟨j,hj⟩:=Ol.mp hu';have l1:=vl.length;have l2:=rs.length;have hjl:=(MF.mp hj).1;have g1:ds[j]?=some (ds[j]'(by lia)):=Mz _;obtain⟨w1,Gb,Gd⟩:=rs.get g1;obtain⟨u1,EO,Ge⟩:=vl.get Gb;rw[hj]at EO;cases EO;have z:=yk I _ _ w1 x u v A 40 (plainDs_mem hp g1) h (by lia) Gd r Ge rx;have e:decide (∃(j:Nat) (d:D),ds[j]?=some d/\us[j]?=some u/\BZ d a=true)=BZ (ds[j]'(by lia)) a:=by
   rw[MV,ME];constructor
   ·rintro⟨j2,d2,k1,k2,k3⟩;obtain⟨w2,G0,G9⟩:=rs.get k1;obtain⟨u2,Fn,Ha⟩:=vl.get G0;rw[k2]at Fn;cases Fn;have:=Ge.inj Ha;subst this;rw[jK I _ _ _ 40 (plainDs_mem hp g1) Gd G9];exact k3
   ·intro k3;exact⟨j,_,g1,hj,k3⟩
  show EqAt A s u v (decide (∃(j:Nat) (d:D),ds[j]?=some d/\us[j]?=some u/\BZ d a=true));rw[e];exact z
theorem kN(l:List Nat)(c:Nat):(!(Builtin.Str.occurrences (S l) (S [c]) 0 (S l).length 1).isEmpty)=decide (c∈l):=by
 have h:=PySem.StrLaws.found_one (S l) c;rw[cu]at h;exact h
theorem jM{e:Value->Bool}(us:List Value):us.toArray.any e=us.any e:=by simp
theorem z8(hu:X.A.units+65<cLine):CF X (compareOp .In) (rGA X.K Gf):=by
 rintro pr s σ H x y v u Q I rx ry ⟨G,fp,es,vs,a,b,r,⟨rel,k⟩,va,vb,e⟩;unfold Gf at e;split at e
 ·rename_i ds;split at e
  ·rename_i hp;cases e;rw[MG]at hp;obtain⟨p,xs,ev,sq,rs⟩:=bC vb;subst ev;cases ry;obtain⟨BR,vl,ip,_⟩:=I.list sq;obtain⟨ef,e1,e2⟩:=ng (A:=X.A.in1) I hp.1 (by show X.A.units+1+64<cLine;lia) va rx ds xs BR hp.2 rs vl;refine SeqAt.in_listAt ef ip.isList (fun z hz=>e2 z (by simpa using hz)) ?_;rw[jM,e1];exact⟨.bl _,H,I,rfl,k _ H G fp .refl (rel.push (bQ _))⟩
  ·cases e
 ·rename_i ds;split at e
  ·rename_i hp;cases e;rw[MG]at hp;obtain⟨p,xs,ev,sq,rs⟩:=bh vb;subst ev;cases ry;obtain⟨BR,vl,ip,_⟩:=I.tuple sq;obtain⟨ef,e1,e2⟩:=ng (A:=X.A.in1) I hp.1 (by show X.A.units+1+64<cLine;lia) va rx ds xs BR hp.2 rs vl;refine SeqAt.in_tupleAt ef (show s.heap.IsTuple p BR.toArray from ip) (fun z hz=>e2 z (by simpa using hz)) ?_;rw[jM,e1];exact⟨.bl _,H,I,rfl,k _ H G fp .refl (rel.push (bQ _))⟩
  ·cases e
 ·rename_i l;split at e
  ·rename_i c;cases e;obtain⟨e1,h1⟩:=aY va;obtain⟨e2,h2⟩:=aY vb;subst e1;subst e2;refine o9 pr s σ H _ _ v u Q I rx ry ⟨_,_,rfl,rfl,?_⟩;rw[kN];exact k _ H G fp .refl (rel.push (bQ _))
  ·cases e
 ·cases e
theorem yn(hu:X.A.units+65<cLine):CF X (compareOp .NotIn) (rGA X.K wR):=by
 rintro pr s σ H x y v u Q I rx ry ⟨G,fp,es,vs,a,b,r,⟨rel,k⟩,va,vb,e⟩;unfold wR at e;obtain⟨r0,e0,e⟩:=ar e;unfold Gf at e0;split at e0
 ·rename_i ds;split at e0
  ·rename_i hp;cases e0;cases e;rw[MG]at hp;obtain⟨p,xs,ev,sq,rs⟩:=bC vb;subst ev;cases ry;obtain⟨BR,vl,ip,_⟩:=I.list sq;obtain⟨ef,e1,e2⟩:=ng (A:=X.A.in1) I hp.1 (by show X.A.units+1+64<cLine;lia) va rx ds xs BR hp.2 rs vl;refine SeqAt.notIn_listAt ef ip.isList (fun z hz=>e2 z (by simpa using hz)) ?_;rw[jM,e1];exact⟨.bl _,H,I,rfl,k _ H G fp .refl (rel.push (bQ _))⟩
  ·cases e0
 ·rename_i ds;split at e0
  ·rename_i hp;cases e0;cases e;rw[MG]at hp;obtain⟨p,xs,ev,sq,rs⟩:=bh vb;subst ev;cases ry;obtain⟨BR,vl,ip,_⟩:=I.tuple sq;obtain⟨ef,e1,e2⟩:=ng (A:=X.A.in1) I hp.1 (by show X.A.units+1+64<cLine;lia) va rx ds xs BR hp.2 rs vl;refine SeqAt.notIn_tupleAt ef (show s.heap.IsTuple p BR.toArray from ip) (fun z hz=>e2 z (by simpa using hz)) ?_;rw[jM,e1];exact⟨.bl _,H,I,rfl,k _ H G fp .refl (rel.push (bQ _))⟩
  ·cases e0
 ·rename_i l;split at e0
  ·rename_i c;cases e0;cases e;obtain⟨e1,h1⟩:=aY va;obtain⟨e2,h2⟩:=aY vb;subst e1;subst e2;refine kh pr s σ H _ _ v u Q I rx ry ⟨_,_,rfl,rfl,?_⟩;rw[kN];exact k _ H G fp .refl (rel.push (bQ _))
  ·cases e0
 ·cases e0
def isO(a b:D):Res R:=match b with
 | .bl k=>.ok (.f,.bl (match a with | .bl j=>j==k|_=>false))
 | .non=>.ok (.f,.bl (match a with | .non=>true|_=>false))
 |_=>.bad
def BI(a b:D):Res R:=(isO a b).bind fun r=>match r.2 with
 | .bl k=>.ok (.f,.bl (!k))
 |_=>.bad
end
section
variable{X:Cx}
theorem qi(hc:X.calm=true):cX X (.builtin "max") (rC X.K maxD):=by
 rintro pr s σ H xs us Q I rx ⟨G,fp,es,vs,ds,r,⟨rel,k⟩,vd,e⟩;unfold maxD at e;split at e
 ·rename_i d;split at e
  ·rename_i n ns hb;cases e;obtain⟨v,ev,vt⟩:=oO vd;obtain⟨p,ep,sq⟩:=kK rel.gh hb vt;subst ev;subst ep;exact pI hc pr s σ H _ us Q I rx ⟨p,n::ns,rfl,sq,by simp,k _ H G fp .refl (rel.push (bK _))⟩
  ·cases e
 ·rename_i i j;cases e;obtain⟨v,w',ev,v1,v2⟩:=Bp vd;subst ev;cases a6 v1;cases a6 v2;obtain⟨u,u',rfl,⟨t,rfl⟩,t',rfl⟩:=pe rx;refine max_two_ints (I.ok.hd hc) fun h' tk kk=>?_
  have I2:Inv X pr σ H {s with heap:=h',toks:=tk}:=I.kept kk;refine⟨.int (if i<j then j else i),H,I2,?_,k _ H G fp .refl (rel.push (bK _))⟩;by_cases EG:i<j
  ·rw[MM EG,MM (show j>i from EG)];exact⟨_,rfl⟩
  ·rw[MO EG,MO (show ¬ j>i from EG)];exact⟨_,rfl⟩
 ·cases e
def kO(f g:FX):FX:=fun env=>(f env).bind fun p=>(g p.2).bind fun q=>match(m9 p.1.2).bind cv,q.1.2 with
 |some ns,.int d=>.ok ((.f,.int (NX.maxD ns d)),q.2)
 |_,_=>.bad
theorem lZ{e k:Expr}{f g:FX}{p pos Fu:Pos}(hc:X.calm=true)(hg:Gl X "max")(hm:X.mg "max" = none)(he:QE X e f)(hk:QE X k g)(hs:starEach [e] X.env=[(false,eval e X.env)]:=by rfl):
  QE X (.Call (.Name "max" p) [e] [⟨some "default",k,Fu⟩] pos) (kO f g):=bA (uW hc hg hm he hk hs) fun σ H Q B1=>by
 obtain⟨G,env,fp,r,env',rel,e,k⟩:=B1;obtain⟨⟨r1,BW⟩,e1,e⟩:=ar e;obtain⟨⟨r2,Co⟩,e2,e⟩:=ar e;dsimp only at e;split at e
 ·rename_i ns d Jh hd;cases e;refine⟨G,env,fp,r1,BW,rel,e1,fun v H1 G1 Cd B9 BX=>?_⟩;obtain⟨G2,b,rv,BU,B0⟩:=BX.freeze;refine⟨G2,BW,b,r2,_,BU,e2,fun w' H3 G3 EI CI Cv=>?_⟩;have hw:=Cv.top;obtain⟨b3,C5,DU⟩:=Cv.drop;rw[hd]at hw;obtain⟨p',ep,sq⟩:=kK C5.gh Jh (Vw.of C5.gh (Rep.mono CI.gg rv));subst ep;exact⟨p',ns,d,rfl,by rw[bB hw],sq,k _ H3 G3 b3 (B9.trans (B0.trans (CI.trans DU))) (C5.push (bK _))⟩
 ·cases e
def BJ:List D->Res R
 |[.bl b]=>.ok (.f,.int (if b then 1 else 0))
 |[.int i]=>.ok (.f,.int i)
 |_=>.bad
def l0:D->String
 | .non=>"NoneType"
 | .bl _=>"bool"
 | .int _=>"int"
 | .str _=>"str"
 | .tup _=>"tuple"
 | .lst _=>"list"
 | .dct _ _ _=>"dict"
def i8(T:String)(d:D):Bool:=l0 d==T||(l0 d == "bool" && T == "int")
def Hb(T:String)(f:FO):FX:=fun env=>(f env).bind fun p=>(oh p.2 p.1).bind fun d=>.ok ((.f,.bl (i8 T d)),p.2)
theorem yo(K:W.Frag)(d:D){T:String}(hT:T = "int"\/T = "bool"\/T = "str"\/T = "list"\/T = "tuple"\/T = "dict"):PySem.W.kitOne K (.type (l0 d)) (.type T)=some (i8 T d):=by
 rcases hT with rfl|rfl|rfl|rfl|rfl|rfl <;> cases d <;> (unfold PySem.W.kitOne PySem.W.kitCls PySem.W.subIn;kernel_rfl)
theorem sH:cX X (.builtin "isinstance") (fun xs H Q=>∃d x T,xs=[x,.ty T]/\Rep X.K H d x/\(T = "int"\/T = "bool"\/T = "str"\/T = "list"\/T = "tuple"\/T = "dict")/\Q (.bl (i8 T d)) H):=by
 intro pr s σ H xs us Q I r h;obtain⟨d,x,T,rfl,rd,hT,q⟩:=h;obtain⟨u,w',rfl,r1,r2⟩:=pe r;cases(show w'=Value.type T from r2);have e:=yo X.K d hT;have fin:∀tk,EP X pr σ Q (.bool (i8 T d)) {s with toks:=tk}:=fun tk=>⟨.bl (i8 T d),H,I.tok tk,rfl,q⟩
 cases d with
 |non=>cases bS rd;cases(show u=Value.none from r1);exact NH PySem.W.kitx_none I.kIn True.intro e (fun z=>nomatch z) fin
 |bl y=>cases b9 rd;cases(show u=Value.bool y from r1);exact NH PySem.W.kitx_bool I.kIn True.intro e (fun z=>nomatch z) fin
 |int i=>cases bB rd;obtain⟨t,z⟩:=(show ∃t,u=Value.int i t from r1);cases z;exact NH PySem.W.kitx_int I.kIn True.intro e (fun z=>nomatch z) fin
 |str l=>
  have hr:=(aY rd).1;subst hr;obtain⟨t,z⟩:=(show ∃t,u=Value.str (S l) t from r1)
  cases z;exact NH PySem.W.kitx_str I.kIn True.intro e (fun z=>nomatch z) fin
 |lst l=>
  obtain⟨p,xs,ev,sq,_⟩:=bC rd;subst ev;cases(show u=Value.ref p from r1);obtain⟨BR,_,ip,_⟩:=I.list sq;obtain⟨o,ho,hc,_⟩:=ip.isList;exact NH PySem.W.kitx_list I.kIn ⟨o,ho,hc⟩ e (fun z=>nomatch z) fin
 |tup l=>
  obtain⟨p,xs,ev,sq,_⟩:=bh rd;subst ev;cases(show u=Value.ref p from r1);obtain⟨BR,_,ip,_⟩:=I.tuple sq;obtain⟨o,ho,hc,_⟩:=ip;exact NH PySem.W.kitx_tuple I.kIn ⟨o,ho,hc⟩ e (fun z=>nomatch z) fin
 |dct tk ks vs=>
  rw[Rep]at rd;obtain⟨p,xs,o,ev,hr,dd,_⟩:=rd;subst ev;cases(show u=Value.ref p from r1);have ok:=hr.ok I.hok;cases tk with
  |true=>
   obtain⟨BV,eo,_⟩:=dd;subst eo;obtain⟨_,_,_,_,o2,_,_,DE,ex,_⟩:=ok;exact NH PySem.W.kitx_dict I.kIn ⟨o2,DE,ex.1⟩ e (fun z=>nomatch z) fin
  |false=>
   obtain⟨BV,eo,_⟩:=dd;subst eo;obtain⟨_,_,_,_,o2,_,_,DE,ex,_⟩:=ok;exact NH PySem.W.kitx_dict I.kIn ⟨o2,DE,ex.1⟩ e (fun z=>nomatch z) fin
theorem l5{T:String}{x:Str}{e:Expr}{f:FO}{p q pos:Pos}(hT:T = "int"\/T = "bool"\/T = "str"\/T = "list"\/T = "tuple"\/T = "dict")(he:QO X e f)(hg:Gl X "isinstance")(hm:X.mg "isinstance" = none)(J2:Gl X x)(J3:X.mg x=none)(Lo:bootBuiltins x=some (.type T))(hn:x≠"__name__":=by decide)(C4:(x==("__debug__" : Str))=false:=by decide)
  (hs:starEach [e,.Name x q] X.env=(false,eval e X.env)::starEach [.Name x q] X.env:=by rfl) (GI:starEach [.Name x q] X.env=(false,eval (.Name x q) X.env)::starEach [] X.env:=by rfl) (Dl:(backTo pos (starEach [.Name x q] X.env)).any (·.1)=false:=by rfl):
  QE X (.Call (.Name "isinstance" p) [e,.Name x q] [] pos) (Hb T f):=
 bA (gT sH hg hm dw (cY he (cY (oW (v:=.ty T) J2 J3 Lo rfl hn C4) g6 GI) hs) (by decide) (by decide) hs Dl) fun σ H Q B1=>by
  obtain⟨G,env,fp,r,env',rel,e,k⟩:=B1;obtain⟨⟨o,BW⟩,e1,e⟩:=ar e;obtain⟨d,e2,e⟩:=ar e;cases e;exact⟨G,env,fp,o,_,rel,e1,fun v H1 G1 Cd B9 BX DQ=>⟨d,v,T,rfl,BX.vwA DQ e2,hT,k _ H1 G1 Cd B9 (BX.push (bQ _))⟩⟩
def Fo{α:Type}(f g:PV.Env->Res α):PV.Env->Res α:=fun env=>match f env with
 | .ok a=>.ok a
 |_=>g env
theorem yp{α:Type}{f g:PV.Env->Res α}{env:PV.Env}{a:α}(h:Fo f g env=.ok a):f env=.ok a\/g env=.ok a:=by
 unfold Fo at h;split at h
 ·rename_i b hb;cases h;exact .inl hb
 ·exact .inr h
theorem yq{tg e:Expr}{f g:FI}(h:QI X tg e f)(h2:QI X tg e g):QI X tg e (Fo f g):=fun pr s σ H R I B1=>by
 obtain⟨G,env,fp,ds,env',rel,ee,k⟩:=B1;rcases yp ee with z|z
 ·exact h pr s σ H R I ⟨G,env,fp,ds,env',rel,z,k⟩
 ·exact h2 pr s σ H R I ⟨G,env,fp,ds,env',rel,z,k⟩
end
section
variable{α:Type}
def ins(lt:α->α->Bool)(x:α):List α->List α
 |[]=>[x]
 |y::ys=>if lt y x then y::ins lt x ys else x::y::ys
def cp(lt:α->α->Bool)(l:List α):List α:=l.foldr (ins lt) []
structure Ord(lt:α->α->Bool):Prop where
 irr:∀a,lt a a=false
 trans:∀a b c,lt a b=true->lt b c=true->lt a c=true
 tot:∀a b,lt a b=false->lt b a=false->a=b
theorem jN(lt:α->α->Bool)(x:α):∀l,(ins lt x l).Perm (x::l)
 |[]=>.refl _
 |y::ys=>by
  unfold ins;split
  ·exact(List.Perm.cons y (jN lt x ys)).trans (List.Perm.swap x y ys)
  ·exact .refl _
theorem eG(lt:α->α->Bool):∀l,(cp lt l).Perm l
 |[]=>.refl _
 |x::l=>(jN lt x _).trans (List.Perm.cons x (eG lt l))
theorem i9{lt:α->α->Bool}(o:Ord lt)(x:α):∀l:List α,l.Pairwise (fun a b=>lt b a=false)->(ins lt x l).Pairwise (fun a b=>lt b a=false)
 |[],_=>by simp[ins]
 |y::ys,h=>by
  rw[Oh]at h;unfold ins;split
  ·rename_i hy;rw[Oh];refine⟨fun z hz=>?_,i9 o x ys h.2⟩;rcases MN.mp ((jN lt x ys).mem_iff.mp hz) with rfl|hz
   ·cases e:lt z y with
    |false=>rfl
    |true=>
     have:=o.trans y z y hy e;rw[o.irr]at this;cases this
   ·exact h.1 z hz
  ·rename_i hy;have hy:lt y x=false:=by simpa using hy
   rw[Oh,Oh];refine⟨fun z hz=>?_,h⟩;rcases MN.mp hz with rfl|Iz
   ·exact hy
   ·cases e:lt z x with
    |false=>rfl
    |true=>
     exfalso;cases e2:lt x y with
     |true=>
      have:=o.trans z x y e e2;rw[h.1 z Iz]at this;cases this
     |false=>
      have hxy:=o.tot x y e2 hy;rw[hxy,h.1 z Iz]at e;cases e
theorem cS{lt:α->α->Bool}(o:Ord lt):∀l:List α,(cp lt l).Pairwise (fun a b=>lt b a=false)
 |[]=>.nil
 |x::l=>i9 o x _ (cS o l)
theorem kP{lt:α->α->Bool}(o:Ord lt):∀{a b:List α},a.Perm b->a.Pairwise (fun a b=>lt b a=false)->b.Pairwise (fun a b=>lt b a=false)->a=b
 |[],_,p,_,_=>p.nil_eq
 |x::xs,[],p,_,_=>absurd p.length_eq (by simp)
 |x::xs,y::ys,p,ha,hb=>by
  rw[Oh]at ha hb;have hx:x∈y::ys:=p.mem_iff.mp My;have hy:y∈x::xs:=p.mem_iff.mpr My;have e:x=y:=by
   rcases MN.mp hx with e|hx
   ·exact e
   ·rcases MN.mp hy with e|hy
    ·exact e.symm
    ·exact o.tot x y (hb.1 x hx) (ha.1 y hy)
  subst e;rw[kP o p.cons_inv ha.2 hb.2]
theorem fL{lt:α->α->Bool}(o:Ord lt){l ms:List α}(p:ms.Perm l)(h:ms.Pairwise (fun a b=>lt b a=false)):ms=cp lt l:=kP o (p.trans (eG lt l).symm) h (cS o l)
end
def ltI(a b:Int):Bool:=decide (a<b)
def FV(a b:List Nat):Bool:=decide (a<b)
theorem vD:Ord ltI:=⟨fun a=>by simp[ltI],fun a b c=>by simp only[ltI,ME];lia,fun a b=>by simp only[ltI,Np];lia⟩
theorem qj:Ord FV:=by
 refine⟨fun a=>?_,fun a b c h1 h2=>?_,fun a b h1 h2=>?_⟩
 ·unfold FV;rw[Np];exact List.lt_irrefl a
 ·unfold FV at *;rw[ME] at *;exact List.lt_trans h1 h2
 ·unfold FV at *;rw[Np] at *;exact List.le_antisymm (PM.mp h2) (PM.mp h1)
theorem ig:Ord cP:=⟨eZ,eC,eD⟩
def gA:List D->Option (List (List Nat))
 |[]=>some []
 | .str b::ds=>(gA ds).map (b:: ·)
 |_=>none
def kQ:D->Option Key
 | .int i=>some (.inl i)
 | .str l=>some (.inr (S l))
 |_=>none
def dB:List D->Option (List Key)
 |[]=>some []
 |d::ds=>(kQ d).bind fun k=>(dB ds).map (k:: ·)
def fg:D->Option (List Key)
 | .tup ds=>dB ds
 |_=>none
def gB:List D->Option (List (List Key))
 |[]=>some []
 |d::ds=>(fg d).bind fun k=>(gB ds).map (k:: ·)
def kT(k:List Key):D:=.tup (k.map kD)
section
variable{K:W.Frag}{G:Hp}
theorem ij:∀{ds:List D}{bs:List (List Nat)}{xs:List V},gA ds=some bs->Reps K G ds xs->xs=bs.map (fun l=>V.str (S l))/\∀l∈bs,l.length<=sizeLine
 |[],_,_,e,r=>by
  cases e;rw[Reps]at r;exact⟨r,fun _ h=>nomatch h⟩
 |d::ds,_,_,e,r=>by
  cases d with
  |str b=>
   rw[gA,Nw]at e;obtain⟨bs,e1,e2⟩:=e;subst e2;rw[Reps]at r;obtain⟨y,ys,e3,r1,r2⟩:=r;obtain⟨h1,h2⟩:=ij e1 r2;obtain⟨h3,h4⟩:=aY r1;subst h3;refine⟨by rw[e3,h1];rfl,fun l hl=>?_⟩;rcases MN.mp hl with rfl|hl
   ·exact h4
   ·exact h2 l hl
  |_=>simp[gA]at e
theorem f9{d:D}{k:Key}{v:V}(e:kQ d=some k)(r:Rep K G d v):v=kV k/\d=kD k:=by
 cases d with
 |int i=>
  cases e;exact⟨bB r,rfl⟩
 |str l=>
  cases e;refine⟨(aY r).1,?_⟩;show D.str l=D.str (S l).cps.toList;rw[cu]
 |_=>cases e
theorem gC:∀{ds:List D}{ks:List Key}{xs:List V},dB ds=some ks->Reps K G ds xs->xs=ks.map kV/\ds=ks.map kD
 |[],_,_,e,r=>by
  cases e;rw[Reps]at r;exact⟨r,rfl⟩
 |d::ds,_,_,e,r=>by
  rw[dB,NG]at e;obtain⟨k,e1,e⟩:=e;rw[Nw]at e;obtain⟨ks,e2,e3⟩:=e;subst e3;rw[Reps]at r;obtain⟨y,ys,e4,r1,r2⟩:=r;obtain⟨h1,h2⟩:=f9 e1 r1;obtain⟨h3,h4⟩:=gC e2 r2;rw[e4,h1,h2,h3,h4];exact⟨rfl,rfl⟩
theorem cH{d:D}{ks:List Key}{v:V}(e:fg d=some ks)(r:Rep K G d v):∃p,v=.ref p/\G p=some (.tup (ks.map kV))/\d=kT ks:=by
 cases d with
 |tup ds=>
  obtain⟨p,xs,ev,g,rs⟩:=p7 r;obtain⟨h1,h2⟩:=gC e rs;subst h1;exact⟨p,ev,g,by rw[h2];rfl⟩
 |_=>cases e
theorem ik:∀{ds:List D}{D5:List (List Key)}{xs:List V},gB ds=some D5->Reps K G ds xs->∃al:List (Addr×List Key),xs=al.map (fun a=>V.ref a.1)/\D5=al.map (·.2)/\ds=al.map (fun a=>kT a.2)/\∀a∈al,G a.1=some (.tup (a.2.map kV))/\Rep K G (kT a.2) (.ref a.1)
 |[],_,_,e,r=>by
  cases e;rw[Reps]at r;exact⟨[],r,rfl,rfl,fun _ h=>nomatch h⟩
 |d::ds,_,_,e,r=>by
  rw[gB,NG]at e;obtain⟨k,e1,e⟩:=e;rw[Nw]at e;obtain⟨ks,e2,e3⟩:=e;subst e3;rw[Reps]at r;obtain⟨y,ys,e4,r1,r2⟩:=r;obtain⟨p,h1,h2,h5⟩:=cH e1 r1;obtain⟨al,h3,h4,h6,h7⟩:=ik e2 r2;subst h1;refine⟨(p,k)::al,by rw[e4,h3];rfl,by rw[h4];rfl,by rw[h5,h6];rfl,fun a ha=>?_⟩;rcases MN.mp ha with rfl|ha
  ·exact⟨h2,by rw[<-h5];exact r1⟩
  ·exact h7 a ha
theorem dC{α:Type}{f:α->D}{g:α->V}:∀{l:List α},(∀a∈l,Rep K G (f a) (g a))->Reps K G (l.map f) (l.map g)
 |[],_=>Reps.nil
 |a::l,h=>.cons (h a My) (dC fun b hb=>h b (MJ _ hb))
end
def sameKinds(k:List Key)(D5:List (List Key)):Bool:=!k.isEmpty&&D5.all fun j=>kinds j==kinds k
noncomputable def l6(ds:List D):Option (List D):=match cv ds with
 |some ns=>some ((cp ltI ns).map D.int)
 |none=>match gA ds with
  |some ls=>some ((cp FV ls).map D.str)
  |none=>match gB ds with
   |some (k::D5)=>if sameKinds k D5 then some ((cp cP (k::D5)).map kT) else none
   |_=>none
noncomputable def dU:List D->Res R
 |[.lst ds]=>if ds.length<64 then match l6 ds with
  |some l=>.ok (.l .f,.lst l)
  |none=>.bad
  else .bad
 |[.dct true ks _]=>if ks.length<64 then match ks,gB ks with
  |[],_=>.ok (.l .f,.lst [])
  |_,some (k::D5)=>if sameKinds k D5 then .ok (.l .f,.lst ((cp cP (k::D5)).map kT)) else .bad
  |_,_=>.bad
  else .bad
 |_=>.bad
theorem fM{k:List Key}{D5:List (List Key)}(h:sameKinds k D5=true):∃top t,∀j∈k::D5,kinds j=top::t:=by
 unfold sameKinds at h;rw[MG,M3]at h;cases k with
 |nil=>simp at h
 |cons a k=>
  refine⟨a.isLeft,kinds k,fun j hj=>?_⟩;rcases MN.mp hj with rfl|hj
  ·rfl
  ·exact Nb.mp (h.2 j hj)
def gD(H G:Hp):Hp:=fun p=>match H p with
 |some (HO.tup xs)=>some (HO.tup xs)
 |_=>G p
theorem ou{H G:Hp}{p:Addr}{xs:List V}(e:H p=some (.tup xs)):gD H G p=some (.tup xs):=by
 unfold gD;rw[e]
theorem il{H G:Hp}{p:Addr}{u:HO}(e:gD H G p=some u):G p=some u\/(isT u=true/\H p=some u):=by
 unfold gD at e;split at e
 ·rename_i xs hx;cases e;exact .inr ⟨rfl,hx⟩
 ·exact .inl e
theorem qk{H G:Hp}(gh:Same G H):Same G (gD H G):=fun p u e=>by
 unfold gD;rw[gh p u e];cases u with
 |tup xs=>rfl
 |_=>exact e
theorem Rel.addT{K:W.Frag}{G H:Hp}{es:PV.Env}{vs:L2.St}{fp:List Addr}(q:Rel K G H es vs fp):∃G',Rel K G' H es vs fp/\Step G H fp G' H fp/\∀p xs,H p=some (.tup xs)->G' p=some (.tup xs):=by
 have gg:=qk q.gh;refine⟨gD H G,⟨q.rep.step gg fun _ _=>rfl,q.nd,fun p hp=>?_,fun p u e=>?_⟩,⟨gg,fun _ _ e _=>e,fun _ h=>.inl h,fun p u e=>(il e).imp_right fun z=>.inr (.inr z),fun _ u e=>⟨u,e⟩⟩,fun p xs e=>ou e⟩
 ·cases e:gD H G p with
  |none=>rfl
  |some u=>
   exfalso;rcases il e with z|⟨t,z⟩
   ·rw[q.gn p hp]at z;cases z
   ·obtain⟨u2,h2,hm⟩:=q.rep.mut p hp;rw[z]at h2;cases h2;cases u with
    |tup _=>cases hm
    |frz _ _=>cases hm
    |_=>cases t
 ·rcases il e with z|z
  ·exact q.gh p u z
  ·exact z.2
theorem yr{K:W.Frag}{G:Hp}{k:Key}(h:tU k):Rep K G (kD k) (kV k):=by
 cases k with
 |inl i=>exact bK i
 |inr x=>
  have:=e7 (K:=K) (G:=G) (l:=x.cps.toList) h;rw[ky]at this;exact this
theorem yt(k:Key):kQ (kD k)=some k:=by
 cases k with
 |inl i=>rfl
 |inr x=>
  show some (Sum.inr (S x.cps.toList))=_;rw[ky]
theorem iq:∀ks:List Key,dB (ks.map kD)=some ks
 |[]=>rfl
 |k::ks=>by
  rw[MS,dB,yt,iq ks];rfl
theorem gc:∀D5:List (List Key),gB (D5.map kT)=some D5
 |[]=>rfl
 |k::D5=>by
  rw[MS,gB];show(dB (k.map kD)).bind _=_;rw[iq,gc D5];rfl
section
variable{X:Cx}
theorem L6{α:Type}{lt:α->α->Bool}{p:α->α->Prop}(h:∀a b,p a b->lt b a=false){l:List α}(q:l.Pairwise p):l.Pairwise (fun a b=>lt b a=false):=q.imp (h _ _)
theorem kR(hc:X.calm=true):cX X (.builtin "sorted") (rC X.K dU):=by
 rintro pr s σ H xs us Q I rx ⟨G,fp,es,vs,ds,r,⟨rel,k⟩,vd,e⟩;unfold dU at e;split at e
 ·rename_i ds;split at e
  ·rename_i Fw;split at e
   ·rename_i l hl;cases e;obtain⟨v,ev,p,ys,ep,sq,rs⟩:=oO vd;subst ev;subst ep;unfold l6 at hl;split at hl
    ·rename_i ns Jh;cases hl;have hy:=fe Jh rs;subst hy;have hlen:ns.length<64:=by have:=rs.length;rw[MA]at this;lia
     refine gN hc pr s σ H _ us Q I rx ⟨p,ns,rfl,sq,hlen,fun q ms hq pm sm=>?_⟩;have em:=fL vD pm (L6 (fun a b h=>by unfold ltI;rw[Np];lia) sm);subst em;obtain⟨BU,B0⟩:=rel.newL hq (dC (K:=X.K) (G:=G) (f:=D.int) (g:=V.int) fun a _=>bK a);exact k _ _ G _ B0 BU
    ·split at hl
     ·rename_i ls hls;cases hl;obtain⟨hy,hz⟩:=ij hls rs;subst hy;have hlen:ls.length<64:=by have:=rs.length;rw[MA]at this;lia
      refine gO hc pr s σ H _ us Q I rx ⟨p,ls,rfl,sq,hlen,fun q ms hq pm sm=>?_⟩;have em:=fL qj pm (L6 (fun a b h=>by unfold FV;rw[Np];exact h) sm);obtain⟨BU,B0⟩:=rel.newL hq (dC (K:=X.K) (G:=G) (f:=D.str) (g:=fun l=>V.str (S l)) (l:=ms) fun a ha=>e7 (hz a (pm.mem_iff.mp ha)));rw[<-em]at k;exact k _ _ G _ B0 BU
     ·split at hl
      ·rename_i kk D5 hk;split at hl
       ·rename_i hsk;cases hl;obtain⟨al,h1,h2,h3,h4⟩:=ik hk rs;obtain⟨top,t,D6⟩:=fM hsk;subst h1;have hlen:al.length<64:=by have:=rs.length;rw[MA]at this;lia
        refine gP hc pr s σ H _ us Q I rx ⟨p,al,top,t,rfl,sq,fun a ha=>⟨SqT.of (rel.gh _ _ (h4 a ha).1),D6 a.2 (by rw[h2];exact NK.mpr ⟨a,ha,rfl⟩)⟩,hlen,fun q ms hq pm sm=>?_⟩;have em:ms.map (·.2)=cp cP (kk::D5):=by
         rw[h2];refine fL ig (pm.map _) ?_;rw[List.pairwise_map];exact sm
        obtain⟨BU,B0⟩:=rel.newL hq (dC (K:=X.K) (G:=G) (f:=fun a:Addr×List Key=>kT a.2) (g:=fun a=>V.ref a.1) (l:=ms) fun a ha=>(h4 a (pm.mem_iff.mp ha)).2);have ek:ms.map (fun a=>kT a.2)=(cp cP (kk::D5)).map kT:=by rw[<-em,Ni];rfl
        rw[ek]at BU;exact k _ _ G _ B0 BU
       ·cases hl
      ·cases hl
   ·cases e
  ·cases e
 ·rename_i ks vv;split at e
  ·rename_i Fw;obtain⟨v,ev,vt⟩:=oO vd;obtain⟨p,ys,o,ep,rd,dd,rs⟩:=vt;subst ev;subst ep;obtain⟨BV,eo,ek,ex,E5⟩:=dd;subst eo;have ek:ks=(BV.map (·.1)).map kT:=by rw[ek,Ni];rfl
   have hlen:BV.length<64:=by rw[ek,MA,MA]at Fw;exact Fw
   have go:∀(top:Bool) (t:List Bool),(∀kv∈BV,kinds kv.1=top::t)->r=(.l .f,.lst ((cp cP (BV.map (·.1))).map kT))->wpAny (model X.prog X.w) X.A (call (.builtin "sorted") us) (EP X pr σ Q) X.xe s:=fun top t D6 er=>by
    subst er;refine iM hc pr s σ H _ us Q I rx ⟨p,BV,top,t,rfl,rd,D6,hlen,fun q ms hq hm pm sm=>?_⟩;have em:ms.map (·.2)=cp cP (BV.map (·.1)):=by
     refine fL ig pm ?_;rw[List.pairwise_map];exact sm
    obtain⟨G2,BU,B0,ht⟩:=rel.addT;have EM:∀a∈ms,Rep X.K G2 (kT a.2) (.ref a.1):=fun a ha=>by
     unfold kT;rw[Rep];refine⟨a.1,_,rfl,ht _ _ (hm a ha),?_⟩;refine dC (f:=kD) (g:=kV) fun key Gg=>yr ?_
     have:a.2∈BV.map (·.1):=pm.mem_iff.mp (NK.mpr ⟨a,ha,rfl⟩);obtain⟨kv,E4,e2⟩:=NK.mp this;exact E5 kv E4 key (by rw[e2];exact Gg)
    obtain⟨Cv,CI⟩:=BU.newL hq (dC (K:=X.K) (G:=G2) (f:=fun a:Addr×List Key=>kT a.2) (g:=fun a=>V.ref a.1) (l:=ms) EM);have ek:ms.map (fun a=>kT a.2)=(cp cP (BV.map (·.1))).map kT:=by rw[<-em,Ni];rfl
    rw[ek]at Cv;exact k _ _ G2 _ (B0.trans CI) Cv
   rw[ek,gc]at e;split at e
   ·rename_i hnil;cases e;have:BV=[]:=by
     cases BV with
     |nil=>rfl
     |cons a b=>cases hnil
    subst this;exact go true [] (fun _ h=>nomatch h) rfl
   ·rename_i kk D5 heq EK;split at e
    ·rename_i hsk;cases e;obtain⟨top,t,D6⟩:=fM hsk;have heq:BV.map (·.1)=kk::D5:=by
      injection heq
     refine go top t (fun kv E4=>D6 kv.1 ?_) (by rw[heq]);rw[<-heq];exact NK.mpr ⟨kv,E4,rfl⟩
    ·cases e
   ·cases e
  ·cases e
 ·cases e
def Gh(a b:D):Res R:=match fg a,fg b with
 |some ks,some js=>if kinds ks==kinds js then .ok (.f,.bl (cP ks js)) else .bad
 |_,_=>Jk a b
def geO(a b:D):Res R:=match fg a,fg b with
 |some ks,some js=>if kinds ks==kinds js then .ok (.f,.bl (!cP ks js)) else .bad
 |_,_=>match a,b with
  | .str a,.str b=>.ok (.f,.bl (!decide (a<b)))
  |a,b=>geD a b
theorem nh(hu:X.A.units<cLine):CF X (compareOp .Lt) (rG X.K Gh):=by
 rintro pr s σ H x y v u Q I rx ry ⟨G,fp,es,vs,a,b,r,⟨rel,k⟩,va,vb,e⟩;unfold Gh at e;split at e
 ·rename_i ks js h1 h2;split at e
  ·rename_i hk;cases e;have ra:Rep X.K G a x:=by cases a <;> first|exact va|cases h1
   have rb:Rep X.K G b y:=by cases b <;> first|exact vb|cases h2
   obtain⟨p,e1,g1,_⟩:=cH h1 ra;obtain⟨p2,e2,g2,_⟩:=cH h2 rb;subst e1;subst e2;exact xU hu pr s σ H _ _ v u Q I rx ry ⟨p,p2,ks,js,rfl,rfl,SqT.of (rel.gh _ _ g1),SqT.of (rel.gh _ _ g2),Nb.mp hk,k _ H G fp .refl (rel.push (bQ _))⟩
  ·cases e
 ·exact zY pr s σ H x y v u Q I rx ry ⟨G,fp,es,vs,a,b,r,⟨rel,k⟩,va,vb,e⟩
end
def eNewD(tk:Bool):FX:=fun env=>.ok ((.d,.dct tk [] []),env)
section
variable{md:Mode}{X:Cx}
theorem Rel.newD{K:W.Frag}{G H:Hp}{es:PV.Env}{vs:L2.St}{fp:List Addr}{p:Addr}{u:HO}{tk:Bool}(q:Rel K G H es vs fp)(hp:H p=none)(h:DictO u tk [] []):
  Rel K G (upd H p u) (some (.d,.dct tk [] [])::es) (some (.ref p)::vs) (p::fp)/\Step G H fp G (upd H p u) (p::fp):=by
 have gp:G p=none:=by
  cases e:G p with
  |none=>rfl
  |some o=>rw[q.gh p o e]at hp;cases hp
 have np:p∉fp:=fun z=>by
  obtain⟨u,e⟩:=q.rep.live p z;rw[hp]at e;cases e
 have sh:Same H (upd H p u):=fun b o e=>by rw[aJ (bM e hp)];exact e
 refine⟨⟨⟨some (.ref p),vs,rfl,.ref p,[p],fp,rfl,rfl,?_,q.rep.step (.refl _) fun z hz=>aJ fun e=>np (e▸hz)⟩,Nf.mpr ⟨np,q.nd⟩,fun z hz=>?_,fun b o e=>?_⟩,
  ⟨.refl _,fun b o e _=>sh b o e,fun b hb=>?_,fun b o e=>.inl e,fun b o e=>⟨o,sh b o e⟩⟩⟩
 ·rw[RepO];exact⟨p,[],u,rfl,br,h,rfl,Reps.nil⟩
 ·rcases MN.mp hz with rfl|hz
  ·exact gp
  ·exact q.gn z hz
 ·exact sh b o (q.gh b o e)
 ·rcases MN.mp hb with rfl|hb
  ·exact .inr hp
  ·exact .inl hb
theorem ql{pos:Pos}:QE X (.Dict [] [] pos) (eNewD true):=bA rS fun σ H Q B1 p hp=>by
 obtain⟨G,env,fp,r,env',rel,e,k⟩:=B1;cases e;obtain⟨BU,B0⟩:=rel.newD (tk:=true) (u:=.dT []) hp ⟨[],rfl,rfl,rfl,fun _ h=>nomatch h⟩;exact k _ _ G _ B0 BU
def l7(ks vs:List D)(k v:D):List D×List D:=if ks.any (BZ k) then(ks,(ks.zip vs).map fun p=>if BZ k p.1 then v else p.2) else(ks++[k],vs++[v])
def dW(tk:Bool)(k:D):Bool:=if tk then(fg k).isSome else(kQ k).isSome
noncomputable def wU(i:Nat)(fk fv:FX):FS:=fun env=>(fv env).bind fun p=>(fk p.2).bind fun q=>match p.2[i]?,q.2[i]? with
 |some (some _),some (some (.d,.dct tk ks vs))=>if dW tk q.1.2&&decide (ks.length<sizeLine) then .ok (.nx (q.2.set i (some (.d,.dct tk (l7 ks vs q.1.2 p.1.2).1 (l7 ks vs q.1.2 p.1.2).2)))) else .bad
 |_,_=>.bad
theorem qm(a b:Key):BZ (kD a) (kD b)=decide (a=b):=by
 cases a with
 |inl i=>
  cases b with
  |inl j=>simp only[kD,BZ];rw[MV];simp
  |inr y=>simp only[kD,BZ];simp
 |inr x=>
  cases b with
  |inl j=>simp only[kD,BZ];simp
  |inr y=>
   simp only[kD,BZ];rw[MV];simp only[Nb,ME,Sum.inr.injEq];exact⟨fun h=>by rw[<-ky x,<-ky y,h],fun h=>by rw[h]⟩
theorem qo:∀a b:List Key,iO (a.map kD) (b.map kD)=decide (a=b)
 |[],[]=>by simp[iO]
 |[],_::_=>by simp[iO]
 |_::_,[]=>by simp[iO]
 |a::r,b::t=>by
  rw[MS,MS,iO,qm,qo r t,MV];simp
theorem ue(a b:List Key):BZ (kT a) (kT b)=decide (a=b):=by
 unfold kT;rw[BZ];exact qo a b
theorem kS{κ:Type}[DecidableEq κ]{K:W.Frag}{G:Hp}(f:κ->D)(hf:∀a b,BZ (f a) (f b)=decide (a=b)){BV:List (κ×V)}{vs:List D}{k:κ}{v:D}{y:V}(r:Reps K G vs (BV.map (·.2)))(ry:Rep K G v y):
  (iL BV k y).map (fun kv=>f kv.1)=(l7 (BV.map fun kv=>f kv.1) vs (f k) v).1/\Reps K G (l7 (BV.map fun kv=>f kv.1) vs (f k) v).2 ((iL BV k y).map (·.2)):=by
 have e:(BV.map fun kv=>f kv.1).any (BZ (f k))=BV.any fun kv=>decide (kv.1=k):=by
  rw[Pl];congr 1
  funext kv
  show BZ (f k) (f kv.1)=_;rw[hf,MV];simp only[ME];exact⟨fun z=>z.symm,fun z=>z.symm⟩
 unfold l7 iL;rw[e];split
 ·refine⟨?_,?_⟩
  ·rw[Ni];refine NN fun kv _=>?_
   show f (if kv.1=k then(kv.1,y) else kv).1=f kv.1;split <;> rfl
  ·rename_i hany;clear e hany;induction BV generalizing vs with
   |nil=>
    have:vs=[]:=M7 (by rw[<-r.length];rfl);subst this;exact Reps.nil
   |cons kv BV ih=>
    cases vs with
    |nil=>have:=r.length;simp at this
    |cons d vs=>
     rw[MS,Reps.cons_iff]at r;rw[MS,Of,MS,MS,MS];refine .cons ?_ (ih r.2);show Rep K G (if BZ (f k) (f kv.1)=true then v else d) (if kv.1=k then(kv.1,y) else kv).2;rw[hf];by_cases hk:kv.1=k
     ·rw[MM (by simp[hk]),MM hk];exact ry
     ·rw[MO (by simp;exact fun z=>hk z.symm),MO hk];exact r.1
 ·refine⟨?_,?_⟩
  ·rw[Nk];rfl
  ·rw[Nk];exact r.app (.one ry)
theorem Rel.chgD{K:W.Frag}{G H:Hp}{es:PV.Env}{vs:L2.St}{fp:List Addr}{i:Nat}{tk:Bool}{ks ws:List D}(q:Rel K G H es vs fp)(e:es[i]?=some (some (.d,.dct tk ks ws))):∃p xs u,vs[i]?=some (some (.ref p))/\H p=some u/\DictO u tk ks xs/\Reps K G ws xs/\
  ∀u' EX CV JN,DictO u' tk EX CV->Reps K G JN CV->∃fq,Rel K G (upd H p u') (es.set i (some (.d,.dct tk EX JN))) vs fq/\Step G H fp G (upd H p u') fq:=by
 obtain⟨v,fq,ev,g,st,D0⟩:=q.out e;obtain⟨y,ys,e0,v',a,b,e1,e2,r1,r2⟩:=g.rep;cases e0;cases e1;rw[RepO]at r1;obtain⟨p,xs,u,e3,hp,dd,e4,rs⟩:=r1;subst e3;subst e4;subst e2;have nd:=Nf.mp (show(p::b).Nodup from g.nd);refine⟨p,xs,u,ev,hp,dd,rs,fun u' EX CV JN Jl DG=>?_⟩;have g2:Rel K G (upd H p u') (some (.d,.dct tk EX JN)::es.set i none) (some (.ref p)::vs) (p::b):=by
  refine⟨⟨some (.ref p),vs,rfl,.ref p,[p],b,rfl,rfl,?_,r2.step (.refl _) fun z hz=>aJ fun e=>nd.1 (e▸hz)⟩,g.nd,g.gn,fun z o ez=>?_⟩
  ·rw[RepO];exact⟨p,CV,u',rfl,br,Jl,rfl,DG⟩
  ·have:z≠p:=fun w=>by
    subst w;rw[g.gn z My]at ez;cases ez
   rw[aJ this];exact g.gh z o ez
 have JS:Step G H (p::b) G (upd H p u') (p::b):=by
  refine⟨.refl _,fun z o ez nz=>?_,fun z hz=>.inl hz,fun z o ez=>.inl ez,fun z o ez=>?_⟩
  ·have:z≠p:=fun w=>nz (by rw[w];exact My)
   rw[aJ this];exact ez
  ·by_cases w:z=p
   ·subst w;exact⟨_,br⟩
   ·exact⟨o,by rw[aJ w];exact ez⟩
 obtain⟨fz,g3,CI⟩:=g2.back (i:=i) (by rw[Ny];exact(MF.mp e).1) ev;rw[Oo]at g3;exact⟨fz,g3,st.trans (JS.trans CI)⟩
theorem uf{K:W.Frag}{G:Hp}{d:D}{k:Key}{v:V}(e:kQ d=some k)(r:Rep K G d v):tU k:=by
 cases d with
 |int i=>cases e;trivial
 |str l=>
  cases e;show(S l).cps.toList.length<=sizeLine;rw[cu];exact(aY r).2
 |_=>cases e
theorem qp{K:W.Frag}{G:Hp}:∀{ds:List D}{ks:List Key}{xs:List V},dB ds=some ks->Reps K G ds xs->∀k∈ks,tU k
 |[],_,_,e,_=>by
  cases e;exact fun _ h=>nomatch h
 |d::ds,_,_,e,r=>by
  rw[dB,NG]at e;obtain⟨k,e1,e⟩:=e;rw[Nw]at e;obtain⟨ks,e2,e3⟩:=e;subst e3;rw[Reps]at r;obtain⟨y,ys,e4,r1,r2⟩:=r;intro z hz;rcases MN.mp hz with rfl|hz
  ·exact uf e1 r1
  ·exact qp e2 r2 z hz
theorem ni{κ:Type}[DecidableEq κ]{P:κ->Prop}{BV:List (κ×V)}{k:κ}{y:V}(h:∀kv∈BV,P kv.1)(hk:P k):∀kv∈iL BV k y,P kv.1:=by
 intro kv E4;unfold iL at E4;split at E4
 ·obtain⟨z,hz,e⟩:=NK.mp E4;rw[<-e];split
  ·exact h z hz
  ·exact h z hz
 ·rcases M1.mp E4 with E4|E4
  ·exact h kv E4
  ·rw[Nu]at E4;rw[E4];exact hk
theorem qq{i:Nat}{o ix value:Expr}{fk fv:FX}{pos pos':Pos}(hu:X.A.units+1<cLine)(ho:PE X o (oV i))(hi:QE X ix fk)(hv:QE X value fv)(hs:swapsWith value (some (.Subscript o ix pos')) pos.line X.env=pure false:=by rfl):
  QS (md:=md) X (.Assign [.Subscript o ix pos'] value pos) (wU i fk fv):=eN (ve hu ho hi hv hs) fun Dd σ H B1=>by
 obtain⟨G,env,fp,rel,k⟩:=B1;unfold wU at k;match q1:fv env,k with
 | .ok (r1,BW),k=>
  have k:OutOk X.K G H fp Dd ((fk BW).bind fun q=>match BW[i]?,q.2[i]? with
   |some (some _),some (some (.d,.dct tk ks vs))=>if dW tk q.1.2&&decide (ks.length<sizeLine) then .ok (.nx (q.2.set i (some (.d,.dct tk (l7 ks vs q.1.2 r1.2).1 (l7 ks vs q.1.2 r1.2).2)))) else .bad
   |_,_=>.bad):=k
  match q2:fk BW,k with
  | .ok (r2,Co),k=>
   have k:OutOk X.K G H fp Dd (match BW[i]?,Co[i]? with
    |some (some _),some (some (.d,.dct tk ks vs))=>if dW tk r2.2&&decide (ks.length<sizeLine) then .ok (.nx (Co.set i (some (.d,.dct tk (l7 ks vs r2.2 r1.2).1 (l7 ks vs r2.2 r1.2).2)))) else .bad
    |_,_=>.bad):=k
   split at k
   ·rename_i rr tk ks ws h1 h2;split at k
    ·rename_i hc;rw[MG,ME]at hc;refine⟨G,env,fp,r1,BW,rel,q1,fun y H1 G1 Cd B9 BX=>?_⟩;obtain⟨G2,b,ry,BU,B0⟩:=BX.freeze;obtain⟨v0,L7,_⟩:=BU.view h1;refine⟨v0,L7,G2,BW,b,r2,Co,BU,q2,fun z H3 G3 EI CI Cv=>?_⟩;obtain⟨G4,b4,rz,C5,DU⟩:=Cv.freeze;obtain⟨p,xs,u,ep,hp,dd,rs,cg⟩:=C5.chgD h2;rw[L7]at ep;cases ep;have L8:Rep X.K G4 r1.2 y:=Rep.mono (CI.gg.trans DU.gg) ry;cases tk with
     |true=>
      obtain⟨BV,eu,ek,ex,E5⟩:=dd;subst eu;subst ex;have hk:=hc.1;unfold dW at hk;rw[MM rfl,NB]at hk;obtain⟨kk,hk⟩:=hk;obtain⟨pz,ez,gz,dz⟩:=cH hk rz;subst ez;obtain⟨t1,t2⟩:=kS (K:=X.K) (G:=G4) kT ue (k:=kk) rs L8;have ek:ks=BV.map fun kv=>kT kv.1:=ek
      rw[<-ek,<-dz]at t1 t2;have hfk:∀key∈kk,tU key:=by
       cases hd:r2.2 with
       |tup ds=>
        rw[hd]at hk rz;obtain⟨_,CV,_,_,DG⟩:=p7 rz;exact qp hk DG
       |_=>rw[hd]at hk;cases hk
      obtain⟨fq,Dt,D1⟩:=cg (.dT (iL BV kk y)) _ _ _ ⟨iL BV kk y,rfl,t1.symm,rfl,ni (P:=fun ks=>∀k∈ks,tU k) E5 hfk⟩ t2;have hlen:BV.length<sizeLine:=by have:=hc.2;rw[ek,MA]at this;exact this
      exact⟨p,_,rfl,DPut.t hp (C5.gh _ _ gz) hlen,k _ _ G4 fq (B9.trans (B0.trans (CI.trans (DU.trans D1)))) Dt⟩
     |false=>
      obtain⟨BV,eu,ek,ex,E5⟩:=dd;subst eu;subst ex;have hk:=hc.1;unfold dW at hk;rw[MO MP,NB]at hk;obtain⟨kk,hk⟩:=hk;obtain⟨ez,dz⟩:=f9 hk rz;subst ez;obtain⟨t1,t2⟩:=kS (K:=X.K) (G:=G4) kD qm (k:=kk) rs L8;rw[<-ek,<-dz]at t1 t2;obtain⟨fq,Dt,D1⟩:=cg (.dK (iL BV kk y)) _ _ _ ⟨iL BV kk y,rfl,t1.symm,rfl,ni (P:=tU) E5 (uf hk rz)⟩ t2;have hlen:BV.length<sizeLine:=by have:=hc.2;rw[ek,MA]at this;exact this
      exact⟨p,_,rfl,DPut.k hp hlen,k _ _ G4 fq (B9.trans (B0.trans (CI.trans (DU.trans D1)))) Dt⟩
    ·exact k.elim
   ·exact k.elim
end
end PV
namespace NX
open PySem PySem.Spec PyProof.Rows L2
section
variable{prog:Program}{w:World}{A:Around}{E:Value->Shared->Prop}{s:Shared}{d:Addr}{es:Array DictEntry}{ep:Nat}
theorem jO(nm:(d==sysModules)=false):MeetsIn prog w (Builtin.«dict.__len__» ⟨[.ref d],[]⟩) (fun _ R s=>RawD s.heap d es ep/\R (.ok (.ret (.int es.size s.toks))) {s with toks:=s.toks+1}):=
 .of_wp fun A R s B1=>by
  obtain⟨⟨o,g,_,dat⟩,h⟩:=B1;show wpAny _ _ (dictSize d >>= fun _=>_) _ _ s;unfold dictSize;refine Mx (Mx (OO g dat (MD ?_)));show wpAny _ _ (Builtin.Dict.pendingCount d >>= fun _=>_) _ _ s;refine Mx (wpAny_pendingCount_other nm (wpAny_ret_mkInt ?_));rw[Nat.add_zero];exact h
theorem vE{Q:Value->Shared->Prop}(nm:(d==sysModules)=false)(x:RawD s.heap d es ep)(hf:(es.size:Int)<2 ^ 63)(h:Q (.int es.size (s.toks+1)) {s with toks:=s.toks+1+1}):wpAny (model prog w) A (call (.builtin "len") [.ref d]) Q E s:=by
 have ty:=gY x;refine Ou kind_len plain_len entry_len (args_len1 _) ?_;unfold Builtin.«len»;refine Mx (m:=oneArg "len" _) (MD (Mx (m:=callSpecial? (.ref d) (Str.ofString "__len__")) (NU (name:=Str.ofString "__len__") ty F.slot_dict_len
  (call_meetsIn F.slot_dict_len ty F.entry_dict_len (F.args_dict_len_1 _) (jO (es:=es) (ep:=ep) nm) ⟨x,?_⟩))))
 show wpAny _ _ _ _ _ {s with toks:=s.toks+1};refine Mx (N8 (MD (Mx (PH ?_))));show wpAny _ _ (if((es.size:Nat):Int)<0 then _ else _) _ _ _;rw[MO (Int.not_lt.mpr (Int.natCast_nonneg _))];show wpAny _ _ (if((es.size:Nat):Int)>=2 ^ 63 then _ else _) _ _ _;rw[MO (Int.not_le.mpr hf)];exact Mx (wpAny_mkInt (MD ⟨_,rfl,h⟩))
end
end NX
namespace PV
open PySem PySem.Spec PyProof.Rows L2 NX
section
variable{X:Cx}
def jP:List D->Res R
 |[.dct _ ks _]=>.ok (.f,.int ks.length)
 |ds=>z7 ds
theorem yu{pr:List (Addr×Obj)}{σ:L2.St}{H:Hp}{s:Shared}(I:Inv X pr σ H s){p:Addr}{o:HO}{tk:Bool}{ks:List D}{xs:List V}(rd:Rd H p o)(dd:DictO o tk ks xs):(p==sysModules)=false/\∃es ep,RawD s.heap p es ep/\es.size=ks.length/\ks.length<=sizeLine:=by
 have ok:=rd.ok I.hok;cases tk with
 |true=>
  obtain⟨BV,eo,ek,_⟩:=dd;subst eo;obtain⟨z,nm,ws,r,o2,es,ep,h1,h2,h3,h4,_⟩:=ok;refine⟨nm,es,ep,⟨o2,h1,h2,h3⟩,?_,by rw[ek,MA];exact z⟩;have:=NQ List.length h4;rw[MA,NA,<-O5 r]at this;rw[ek,MA];exact this
 |false=>
  obtain⟨BV,eo,ek,_⟩:=dd;subst eo;obtain⟨z,nm,ws,r,o2,es,ep,h1,h2,h3,h4,h5,_⟩:=ok;refine⟨nm,es,ep,⟨o2,h1,h2,h3⟩,?_,by rw[ek,MA];exact z⟩;have l1:=h5.length;have l2:BV.length=ws.length:=O5 r;rw[ek,MA];rw[NA]at l1;lia
theorem c6:cX X (.builtin "len") (rC X.K jP):=by
 rintro pr s σ H xs us Q I rx ⟨G,fp,es,vs,ds,r,⟨rel,k⟩,vd,e⟩;unfold jP at e;split at e
 ·rename_i tk ks ws;cases e;obtain⟨v,ev,p,ys,o,ep,rd,dd,_⟩:=oO vd;subst ev;subst ep;obtain⟨u,rfl,ru⟩:=gL rx;cases ru;obtain⟨nm,en,ep,raw,h1,h2⟩:=yu I rd dd;refine vE nm raw (by rw[h1];rw[Nr]at h2;lia) ?_;refine⟨.int ks.length,H,I.tok _,⟨_,by rw[h1]⟩,k _ H G fp .refl (rel.push (bK _))⟩
 ·exact yi pr s σ H xs us Q I rx ⟨G,fp,es,vs,_,r,⟨rel,k⟩,vd,e⟩
def BK(g:List Nat->List D->Res R)(fa:FO)(fs:C6):FX:=fun env=>(fa env).bind fun p=>match Dm p.2 p.1 with
 | .ok (.str l)=>(fs p.2).bind fun q=>(oi q.2 q.1).bind fun ds=>(g l ds).bind fun r=>.ok (r,q.2)
 |_=>.bad
end
theorem fnok_of{P:Program}{w:World}{K:W.Frag}{mg:Str->Option Value}{base:Heap}{x:Str}{st:Stmt}{N ps:List Str}{k:Nat}{g:FS}{f:Addr}{fd:FuncData}(F:Fun K x x st f fd)(sc:FnScope N ps (defScope st))
  (body:∀(Cg:Value) (A:Around) (outer:List PySem.Env) (s:Shared) (H:Hp) (E:XK),Room k (A.deeper (envOfC x (defScope st) s.heap.objs.size f Cg))->F8 (md:=.plain) (nX F2 P w K mg base N x (defScope st) f Cg A outer s H E).nox (bZ st) g):
  FnOk P w K mg base F2 (k+1) f fd ps (spF K (fBody ps.length (N.length-ps.length) g)):=by
 refine F.ok sc (fun vs H Q E h=>?_) (fun Cg A outer s H vs Q E hr h=>?_)
 ·obtain⟨G,ds,r,_,rs,e,_⟩:=h;unfold fBody at e;split at e
  ·rename_i hl;rw[rs.length,hl]
  ·cases e
 ·obtain⟨G,ds,r,gh,rs,e,q⟩:=h;unfold fBody at e;split at e
  ·rename_i hl;refine⟨_,body Cg A outer s H E hr,G,ds.map (fun d=>some (O.f,d))++List.replicate (N.length-ps.length) none,[],⟨?_,Ov,(fun _ h=>nomatch h),gh⟩,?_⟩
   ·have:=fG (K:=K) (G:=G) (H:=H) (N.length-ps.length) rs;unfold L2.gM;rw[rs.length,hl];exact this
   ·obtain⟨o,eo,e⟩:=ar e;rw[eo];cases o with
    |rt r'=>
     cases e;exact fun v H' G' BY st rel=>q v H' G' BY st rel
    |nx env'=>
     cases e;exact fun σ' H' G' BY st rel=>q .non H' G' [] (st.trans (Step.cut fun _ h=>nomatch h)) (rel.nilF.push jF)
    |bk env'=>cases e
    |ct env'=>cases e
  ·cases e
def sI(K:W.Frag):Sp:=fun vs H Q _=>∃(a:Addr) (ns:List Int),vs=[.ref a]/\SqL K H a (ns.map V.int)/\ns.length<=63/\∀H',Q (.bl true) H'
theorem yv{K:W.Frag}{F:List D->Res R}(h:∀ns:List Int,ns.length<=63->∃o,F [.lst (ns.map D.int)]=.ok (o,.bl true)):∀vs H Q E,sI K vs H Q E->spF K F vs H Q E:=by
 rintro vs H Q E ⟨a,ns,rfl,sq,hl,q⟩;obtain⟨o,e⟩:=h ns hl;refine⟨H,_,_,.refl _,?_,e,fun v H' G' BY st rel=>?_⟩
 ·refine .one ?_;rw[Rep];exact⟨a,_,rfl,sq,dC fun n _=>bK n⟩
 ·rw[b9 rel.top];exact q H'
theorem _root_.L2.Room.u65{k:Nat}{A:Around}(r:Room k A):A.units+65<cLine:=by have:=r.un;lia
def BL(f:FX)(a:FG):FS:=fun env=>(f env).bind fun p=>(a p.1.2 p.2).bind fun e=>.ok (.nx e)
theorem Bq{l:PySem.W.OpenLaw}{q:Program}{loose:List Str}{XP:(Str->Option Value)->Heap->Prop}{YP:World->Heap->Prop}{d:DefRec}{K:Params->W.Frag}{k:Nat}{x:Str}(hn:l.most=some 63)(JG:d.params.defaults=[])(hr:Room k PySem.callerA)
  (hY:∀(w:World) (h:Heap),YP w h->(K w.params).In h)
  (F:∀(w:World) (mg:Str->Option Value) (fa:Addr) (h:Heap),(K w.params).In h->h.Ns mainGlobals mg->mg d.name=some (.ref fa)->
   ∃fd:FuncData,(∀(s:Shared) (u:Value),BindsTo s fd ⟨[u],[]⟩ [(x,u)])/\∀base:Heap,(K w.params).In base->base.Ns mainGlobals mg->FnOk l.prog w (K w.params) mg base F2 k fa fd [x] (sI (K w.params))):
  PySem.W.WalkO q loose XP YP l.row.toRowW d [] (fun f vs=>PySem.call f vs):=
 L2.uQ (n:=63) (k:=k) (x:=x) (CX:=fun _=>F2) (sp:=fun w=>sI (K w.params)) hn (by decide) JG hr hY F (fun _ _ a ns hl _ hS=>⟨a,ns,rfl,hS,hl,fun _=>rfl⟩) fun _ _ _ _ _ z=>z
theorem qr:bootBuiltins "max" = some (.builtin "max"):=by decide +kernel
theorem kU:bootBuiltins "sorted" = some (.builtin "sorted"):=by decide +kernel
theorem yw{K:W.Frag}{h:Heap}{mg:Str->Option Value}{x:Str}{st:Stmt}{f:Addr}{oc:Value}{od an:Option Addr}{F0:Array (Option Value)}{kV doc pm Cg ct:Value}(X:K.In h)(G:h.Ns mainGlobals mg)
  (a:PySem.W.nsIn K mainGlobals x=some (some (.ref f))) (l:K.lookup f=some ⟨oc,od,.func (PySem.W.fnOf x x (dv st) (bZ st) (defScope st) .none kV doc pm an Cg ct),F0⟩)
  (c:PySem.W.codeIn K Cg x=true) (k:PySem.W.keepIn K (.ref f)=true):Def K mg x st:=⟨f,_,tJ l c k,NF X G a⟩
inductive tQL(K:W.Frag)(f:FI)(σ:L2.St)(H:Hp)(R:It->Hp->Prop):Prop
 |mk:∀G env fp ds env',Rel K G H env σ fp->f env=.ok (ds,env')->(∀J H' G' BY,Step G H fp G' H' BY->Rel K G' H' env' σ BY->(∀G2,Same G' G2->(∀(i:Nat) (r:PV.R) (v:V),env'[i]?=some (some r)->σ[i]?=some (some v)->Rep K G2 r.2 v)->Walk K G2 J ds)->R J H')->tQL K f σ H R
def Lp(X:Cx)(tg e:Expr)(f:FI):Prop:=PI X tg e (tQL X.K f)
theorem Walk.mono{K:W.Frag}{G G2:Hp}{J:It}{ds:List D}(w:Walk K G J ds)(gg:Same G G2):Walk K G2 J ds:=fun G' H' es vs fp g rel=>w G' H' es vs fp (gg.trans g) rel
theorem ug{K:W.Frag}{fi:FI}{ix:List (Option Nat)}{a:FG}{c:FT}{f:FX}{σ:L2.St}{H:Hp}{Q:VK}(h:tQ K (fI fi ix a c f) σ H Q):uR (tQL K fi) ix (tQG K a) (tQT K c) (tQ K f) σ H Q:=by
 obtain⟨G,env,fp,r,env',rel,e,k⟩:=h;obtain⟨⟨ds,BW⟩,e1,e⟩:=ar e;obtain⟨rs,e2,e⟩:=ar e;refine⟨G,env,fp,ds,BW,rel,e1,fun J H1 G1 Cd B9 BX wk D hD=>?_⟩;dsimp only at e e2;split at e
 ·rename_i hz;have er:r=(.l .f,.lst rs):=by cases e;rfl
  have ee:env'=if flatDs rs then BW else BW.map frz:=by cases e;rfl
  subst er;obtain⟨G2,JV,JW,EM,hrE,EN⟩:=BX.lend;have wk2:=wk G2 JV EM;have BU:Rel K G2 H1 (cF ix BW) (iX ix σ) []:=⟨dQ EM (fun i r er=>let⟨v,ev,_⟩:=BX.view er;⟨v,ev⟩) ix,Ov,(fun _ h=>nomatch h),JW⟩
  obtain⟨Cv,CI⟩:=BU.newL (ds:=[]) (xs:=[]) hD .nil;refine⟨fun i m σ1 H2=>m=ds.length-i/\i<=ds.length/\∃G' es BY acc ck,Step G2 H1 [] G' H2 BY/\Rel K G' H2 (some (.l .f,.lst acc)::es) (some (.ref D)::σ1) BY/\fH a c f (ds.drop i) es=.ok ck/\acc++ck=rs,
   ⟨_,rfl,Nq _,G2,cF ix BW,_,[],rs,CI,Cv,e2,rfl⟩,?_⟩
  rintro i m σ1 H2 ⟨rfl,hi,G3,es,EI,acc,ck,DU,C5,e4,Gi⟩;obtain⟨w1,w2⟩:=wk2 G3 H2 _ _ _ DU.gg C5 i;by_cases DO:i<ds.length
  ·have hd:ds[i]?=some ds[i]:=Mz DO;obtain⟨go,yl⟩:=w1 _ hd;rw[Pq DO]at e4;unfold fH at e4;obtain⟨Ll,h1,e4⟩:=ar e4;obtain⟨⟨b,Jo⟩,h2,e4⟩:=ar e4;dsimp only at e4;refine .inr ⟨go,fun x H3 y=>?_⟩;obtain⟨G4,rx,Dt,D1⟩:=yl x H3 y;obtain⟨fa,fb,L9,ra,relb,bk⟩:=Dt.frame;refine⟨G4,es,fb,ds[i],Ll,relb,rx,h1,fun σ2 G5 Iy st6 rel6=>?_⟩;refine⟨G5,Ll,Iy,b,Jo,rel6,h2,fun H6 G6 Ma st7 J4=>?_⟩;have J5:=st6.trans st7;cases b with
   |false=>
    refine iteF ⟨ds.length-(i+1),by lia,rfl,DO,?_⟩;obtain⟨IA,J6⟩:=bk G6 H6 Jo σ2 Ma J5 J4;rw[<-L9]at J6;exact⟨G6,Jo,_,acc,ck,DU.trans (D1.trans J6),IA,e4,Gi⟩
   |true=>
    have e4:((f Jo).bind fun q=>(fH a c f (ds.drop (i+1)) q.2).bind fun rs=>.ok (q.1.2::rs))=.ok ck:=e4;obtain⟨⟨r,Lq⟩,h3,e4⟩:=ar e4;obtain⟨J7,h4,e4⟩:=ar e4;cases e4;refine xJ ⟨G6,Jo,Ma,r,Lq,J4,h3,fun v H7 G7 fp7 st8 rel8=>?_⟩;obtain⟨G8,fp8,rv,rel9,st9⟩:=rel8.freeze;obtain⟨IA,J6⟩:=bk G8 H7 Lq σ2 fp8 (J5.trans (st8.trans st9)) rel9;rw[<-L9]at J6;obtain⟨p,xs,ep,hp,J0,cg⟩:=IA.chg (i:=0) (ds:=acc) (ds':=acc++[r.2]) rfl;have ep:some (some (V.ref D))=some (some (V.ref p)):=ep;cases ep;obtain⟨fq,rely,sty⟩:=cg (xs++[v]) (J0.app (.one rv));refine⟨xs,hp,?_,ds.length-(i+1),by lia,rfl,DO,G8,Lq,fq,acc++[r.2],J7,DU.trans (D1.trans (J6.trans sty)),rely,h4,?_⟩
    ·rw[J0.length];have:=NQ List.length Gi;rw[Nt,MY]at this;lia
    ·rw[<-Gi,Nn];rfl
  ·have ei:i=ds.length:=by lia
   subst ei;rw[List.drop_length]at e4;cases e4;rw[M5]at Gi;subst Gi;refine .inl ⟨w2 rfl,?_⟩;obtain⟨fa,relo,sto⟩:=C5.only;obtain⟨k1,k2⟩:=EN H2 G3 fa _ _ (DU.trans sto) relo;rw[ee]at k;by_cases hc:flatDs acc=true
   ·rw[MM hc]at k;obtain⟨G5,Iy,D1,Dt⟩:=k1 (by rw[bP,jI];exact hc);exact k _ H2 G5 Iy (B9.trans D1) Dt
   ·rw[MO hc]at k;obtain⟨G5,Iy,D1,Dt⟩:=k2;exact k _ H2 G5 Iy (B9.trans D1) Dt
 ·cases e
section
variable{md:Mode}{X:Cx}{scope:Scope}{N:List Str}{tg iter elt:Expr}{ifs:List Expr}{pos:Pos}{fi:FI}{a:FG}{c:FT}{f:FX}
variable{l e:Expr}{g fj:FI}
theorem ja(h:QI X tg e fi):Lp X tg e fi:=i6 h fun σ H R ⟨G,env,fp,ds,env',rel,e,k⟩=>⟨G,env,fp,ds,env',rel,e,fun J H' G' BY st Cq wk=>k J H' G' BY st Cq fun _ gg _=>wk.mono gg⟩
def Br(i:Nat):FI:=fun env=>match env[i]? with
 |some (some (_,.lst ds))=>.ok (ds,env)
 |_=>.bad
theorem fN(ix:List (Option Nat))(N:List Str)(hc:X.calm=true)(hi:Lp X tg iter fi)(hg:∀C s H fp pn,QG (bG X scope N C s H fp pn) tg a)(ht:∀C s H fp pn,KH (bG X scope N C s H fp pn) ifs c)(he:∀C s H fp pn,QE (bG X scope N C s H fp pn) elt f)
  (hf:fC scope X.env=true:=by rfl) (hk:scope.kind=.function:=by rfl) (CM:∀y∈scope.names,y.2≠.cell:=by decide +kernel) (Ds:∀y∈scope.names,y.2=.local->scope.names.lookup y.1=some .local:=by decide +kernel) (EW:tL X scope N ix=true:=by rfl)
  (hs:∀x,foldedSetIterable iter X.env x=pure x:=by intro _;rfl):QE X (.ListComp elt [⟨tg,iter,ifs,0⟩] scope pos) (fI fi ix a c f):=
 bA (uU (g:=tQG X.K a) (tc:=tQT X.K c) (te:=tQ X.K f) ix N hc hi hg ht he hf hk CM Ds EW hs) fun _ _ _=>ug
theorem sJ{i:Nat}{y:Str}{py F4:Pos}(ix:List (Option Nat))(N:List Str)(hN:X.N.Nodup)(Lb:X.N[i]?=some y)(hy:Loc X.env.scope y)(hc:X.calm=true)(hi:Lp X tg iter fi)(hg:∀C s H fp pn,QG (bG X scope N C s H fp pn) tg a)(ht:∀C s H fp pn,KH (bG X scope N C s H fp pn) ifs c)
  (he:∀C s H fp pn,QE (bG X scope N C s H fp pn) elt f) (Lc:swapsWith (.ListComp elt [⟨tg,iter,ifs,0⟩] scope pos) (some (.Name y py)) F4.line X.env=pure true:=by rfl)
  (hf:fC scope X.env=true:=by rfl) (hk:scope.kind=.function:=by rfl) (CM:∀y∈scope.names,y.2≠.cell:=by decide +kernel) (Ds:∀y∈scope.names,y.2=.local->scope.names.lookup y.1=some .local:=by decide +kernel) (EW:tL X scope N ix=true:=by rfl)
  (hs:∀x,foldedSetIterable iter X.env x=pure x:=by intro _;rfl) (HY:X.fn y=true\/X.env.scope.names.lookup y=some .local:=by first|exact .inl rfl|exact .inr rfl):
  QS (md:=md) X (.Assign [.Name y py] (.ListComp elt [⟨tg,iter,ifs,0⟩] scope pos) F4) (cC i (fI fi ix a c f)):=
 eN (uV (i:=i) (g:=tQG X.K a) (tc:=tQT X.K c) (te:=tQ X.K f) ix N hN Lb hy hc hi hg ht he Lc hf hk CM Ds EW hs HY) fun D σ H ⟨G,env,fp,rel,k⟩=>ug (p9 rel k)
end
section
variable{X:Cx}{a:Expr}{pos:Pos}{fa:FO}
def zh(fa:FO):FX:=fun env=>(fa env).bind fun p=>(Dm p.2 p.1).bind fun d=>match d with
 | .int i=>.ok ((.f,.int (-i)),p.2)
 |_=>.bad
theorem uh(ha:QO X a fa):QE X (.UnaryOp .USub a pos) (zh fa):=bA (zA xy ha) fun σ H Q B1=>by
 obtain⟨G,env,fp,r,env',rel,e,k⟩:=B1;obtain⟨⟨o,e1⟩,h1,e⟩:=ar e;obtain⟨d,h2,e⟩:=ar e;dsimp only at e;split at e
 ·rename_i i;cases e;refine⟨G,env,fp,o,_,rel,h1,fun v H1 G1 Cd B9 BX DQ=>?_⟩;have:=a6 (BX.vw DQ h2);exact⟨i,this,k _ H1 G1 Cd B9 (BX.push (bK _))⟩
 ·cases e
theorem qu{i:Int}(h:i.natAbs<2 ^ 1000):Builtin.Int.intBits i<=2 ^ 20:=by
 unfold Builtin.Int.intBits;split
 ·exact Nq _
 ·rename_i h0;have h1:i.natAbs≠0:=by
   intro e;rw[Int.natAbs_eq_zero]at e;exact h0 (by rw[e];rfl)
  have:=(Nat.log2_lt h1).mpr h;have e:(2:Nat) ^ 20=1048576:=by decide
  lia
theorem vF:CF X (binaryOp .Mult) (rI (fun i j=>i.natAbs<2 ^ 1000/\j.natAbs<2 ^ 1000) fun i j=>.int (i*j)):=Kv fun _ _ _ _ _ _ _ hc q=>mul_int q (.of_bits (qu hc.1) (qu hc.2))
theorem kW{α:Type}:∀(ls:List (Array α)) (acc:Array α),(ls.foldl (·++·) acc).toList=acc.toList++(ls.map Array.toList).flatten
 |[],acc=>by simp
 |a::ls,acc=>by
  rw[Oj,kW ls,Array.toList_append,MS,NY,Nn]
theorem z9(l:List Nat)(n:Nat):(⟨(List.replicate n (S l).cps).foldl (·++·) #[]⟩:Str)=S (List.replicate n l).flatten:=by
 have h:((List.replicate n (S l).cps).foldl (·++·) #[]).toList=(List.replicate n l).flatten:=by
  rw[kW,List.map_replicate];simp only[cu,OJ]
 show Str.mk _=Str.mk _;rw[<-h]
theorem vG(a b:Int):zX (.int a) (.int b)=if dj a||dj b then .ok (.f,.int (a*b)) else .bad:=rfl
noncomputable def vH:D->D->Res R
 | .int i,.int j=>if dj i||dj j then .ok (.f,.int (i*j)) else if i.natAbs<2 ^ 1000/\j.natAbs<2 ^ 1000 then .ok (.f,.int (i*j)) else .bad
 | .str l,.int k=>if 2<=k/\k<=1000/\1<=l.length/\l.length<=1000 then .ok (.f,.str (List.replicate k.toNat l).flatten) else .bad
 |_,_=>.bad
theorem vI:CF X (binaryOp .Mult) (rG X.K vH):=by
 rintro pr s σ H x y v u Q I rx ry ⟨G,fp,es,vs,a,b,r,⟨rel,k⟩,va,vb,e⟩;unfold vH at e;split at e
 ·rename_i i j;split at e
  ·rename_i hc;exact ye pr s σ H x y v u Q I rx ry ⟨G,fp,es,vs,.int i,.int j,r,⟨rel,k⟩,va,vb,by rw[vG,MM hc];exact e⟩
  ·split at e
   ·rename_i hc;cases e;cases a6 va;cases a6 vb;exact vF pr s σ H _ _ v u Q I rx ry ⟨i,j,rfl,rfl,hc,k _ H G fp .refl (rel.push (bK _))⟩
   ·cases e
 ·rename_i l j;split at e
  ·rename_i hc;cases e;obtain⟨ev,hl⟩:=eP va;subst ev;cases a6 vb;obtain⟨t,rfl⟩:=rx;obtain⟨t',rfl⟩:=ry;have hlen:(S l).length=l.length:=kz l;have hz:(List.replicate j.toNat l).flatten.length<=1000000:=by
    rw[eX];exact Ow (by lia:j.toNat<=1000) hc.2.2.2
   have Iz:(List.replicate j.toNat l).flatten.length<=sizeLine:=M4 hz (by decide);refine PySem.P.mul_str ?_ ?_ ?_ ?_
   ·rw[MZ (by lia),MZ (by lia)];rfl
   ·intro _ _;rw[hlen];have h1:1000<=(2 ^ 63-1) / j:=(Int.le_ediv_iff_mul_le (by lia)).mpr (by lia);lia
   ·intro _ _;unfold Builtin.Str.tooLong;rw[Np,hlen,Qn,<-eX];lia
   ·rw[MO (by lia),MO (by rw[hlen,Pc,Nb,Nb];lia),z9];refine⟨?_,?_⟩
    ·rw[kz];exact Iz
    ·exact⟨.str (S (List.replicate j.toNat l).flatten),H,I.tok _,⟨_,rfl⟩,k _ H G fp .refl (rel.push (e7 Iz))⟩
  ·cases e
 ·cases e
end
end PV
namespace HT
open PySem PySem.Spec PyProof.Rows L2
variable{prog:Program}{w:World}{A:Around}{E:Value->Shared->Prop}{s:Shared}
theorem fO{t sl:Addr}{items:Array Value}{vl vu:Value}{lo hi:Option Int}{Q:Value->Shared->Prop}(ht:IsTup s.heap t items)(hs:s.heap.IsSliceOf sl vl vu .none)(pl:IsPart vl lo)(pu:IsPart vu hi)
  (hw:sIx items.size 0 lo=0/\sIx items.size items.size hi=items.size) (h:Q (.ref t) s):wpAny (model prog w) A (getItem (.ref t) (.ref sl)) Q E s:=by
 obtain⟨os,GP,Jg,GQ⟩:=id hs;have K6:s.TypeIs (.ref sl) "slice":=⟨os,GP,Jg⟩
 unfold getItem;try with_reducible refine N8 ?_
 first|refine Mx (MD ?_)|skip
 refine Mx (wpAny_sequenceKey ht.typeIs (by decide) ?_);refine Mx (NU (name:=Str.ofString "__getitem__") ht.typeIs NL
  (N4 NL ht.typeIs entry_tuple_getitem ?_ (args_tuple_getitem _ _)))
 show wpAny _ _ (Builtin.Tuple.tupleItemsOf (.ref t) >>= _) _ _ s;refine Mx (tupleItemsOf_ ht ?_);refine Mx (OA K6 ?_);rw[MM (by decide)];refine Mx (dM hs pl pu ?_);have hyes:(((sIx items.size 0 lo:Nat):Int)==0&&(1:Int)==1&&(sIx items.size items.size hi-sIx items.size 0 lo)==items.size)=true:=by
  rw[hw.1,hw.2];simp
 show wpAny _ _ (if(((sIx items.size 0 lo:Nat):Int)==0&&(1:Int)==1&&(sIx items.size items.size hi-sIx items.size 0 lo)==items.size)=true then _ else _) _ _ s;rw[MM hyes];refine Mx (m:=Builtin.Tuple.tupleIsExact _) ?_;unfold Builtin.Tuple.tupleIsExact;refine Mx (OA ht.typeIs (MD ?_));rw[MM (by decide)];exact Mx (wpAny_rule (MD ⟨_,rfl,MD h⟩))
end HT
namespace PV
open PySem PySem.Spec PyProof.Rows L2 NX
section
variable{X:Cx}{pos:Pos}{fa:FO}
theorem vJ:Ie X (fun x lo hi H Q=>∃a xs,x=.ref a/\SqT X.K H a xs/\(HT.sIx xs.length 0 lo=0/\HT.sIx xs.length xs.length hi=xs.length)/\Q x H):=by
 intro pr s σ H x v vl vu lo hi sl Q I rx hs pl pu h;obtain⟨a,xs,rfl,hx,hw,q⟩:=h;cases rx;obtain⟨BR,r,ht,hz⟩:=I.tuple hx;have hlen:BR.toArray.size=xs.length:=by rw[MC];exact r.length.symm
 refine⟨"tuple",_,PyProof.Rows.slot_tuple_getitem.lookup,ht.typeIs,?_⟩;exact HT.fO ht hs pl pu (by rw[hlen];exact hw) ⟨.ref a,H,I,rfl,q⟩
def J8(k:D)(lo hi:Option Int):Res R:=match k with
 | .tup ds=>if HT.sIx ds.length 0 lo=0/\HT.sIx ds.length ds.length hi=ds.length then .ok (.f,.tup ds) else JZ k lo hi
 |_=>JZ k lo hi
def Aa(fa:FO)(lo hi:FP):FX:=fun env=>(fa env).bind fun p=>(lo p.2).bind fun q=>(hi q.2).bind fun t=>(Dm t.2 p.1).bind fun d=>(J8 d q.1 t.1).bind fun r=>.ok (r,t.2)
inductive rSlW(K:W.Frag)(x:V)(lo:Option Int)(hi:Option Int)(H:Hp)(Q:VK):Prop
 |mk:∀G fp es vs d r,Goes K H G fp es vs r Q->Vw K G H d x->J8 d lo hi=.ok r->rSlW K x lo hi H Q
theorem yx:Ie X (rSlW X.K):=by
 rintro pr s σ H x v vl vu lo hi sl Q I rx hs pl pu ⟨G,fp,es,vs,d,r,⟨rel,k⟩,vd,e⟩;unfold J8 at e;split at e
 ·rename_i ds;split at e
  ·rename_i hw;cases e;obtain⟨p,xs,ev,sq,rs⟩:=dP vd;subst ev;refine vJ pr s σ H _ v vl vu lo hi sl Q I rx hs pl pu ⟨p,xs,rfl,bu rel.gh sq,by rw[rs.length];exact hw,?_⟩;exact k _ H G fp .refl (rel.push vd)
  ·exact yh pr s σ H x v vl vu lo hi sl Q I rx hs pl pu ⟨G,fp,es,vs,_,r,⟨rel,k⟩,vd,e⟩
 ·exact yh pr s σ H x v vl vu lo hi sl Q I rx hs pl pu ⟨G,fp,es,vs,_,r,⟨rel,k⟩,vd,e⟩
theorem yy{e:Expr}{lo hi:Option Expr}{p2:Pos}{fl fh:FP}(he:QO X e fa)(hl:QP X lo fl)(hh:QP X hi fh):QE X (.Subscript e (.Slice lo hi none p2) pos) (Aa fa fl fh):=
 bA (rJ yx he hl hh) fun σ H Q B1=>by
  obtain⟨G,env,fp,r,env',rel,e,k⟩:=B1;obtain⟨⟨o,BW⟩,e1,e⟩:=ar e;obtain⟨⟨i,Co⟩,e2,e⟩:=ar e;obtain⟨⟨j,C7⟩,e3,e⟩:=ar e;obtain⟨d,e4,e⟩:=ar e;obtain⟨r',e5,e⟩:=ar e;cases e;exact⟨G,env,fp,o,BW,rel,e1,fun v H1 G1 Cd B9 BX DQ=>⟨G1,BW,Cd,i,Co,BX,e2,fun H2 G2 C0 B0 BU=>⟨G2,Co,C0,j,C7,BU,e3,fun H3 G3 EI CI Cv=>
   ⟨G3,EI,C7,σ,d,r,⟨Cv,fun v H' G' BY st Cq=>k v H' G' BY (B9.trans (B0.trans (CI.trans st))) Cq⟩,Cv.vw ((DQ.mono B0.gg).mono CI.gg) e4,e5⟩⟩⟩⟩
end
end PV
namespace L2
open PySem PySem.Spec PyProof.Rows
section
variable{X:Cx}{tg:Expr}
def qv(i j c:Int):Prop:=(-1048576<=i/\i<=1048576)/\(-1048576<=j/\j<=1048576)/\(c = -1\/1<=c)/\c<=1048576
instance (i j c:Int):Decidable (qv i j c):=by unfold qv;infer_instance
end
end L2
namespace PV
open PySem PySem.Spec PyProof.Rows L2 NX
section
variable{X:Cx}{tg:Expr}
def BM:List D->Res R
 |[d]=>match(m9 d).bind cv with
  |some (n::ns)=>.ok (.f,.int (zO (n::ns)))
  |_=>.bad
 |[.int i,.int j]=>.ok (.f,.int (if j<i then j else i))
 |_=>.bad
def BN:List D->Res R
 |[.int i]=>.ok (.f,.int (if i<0 then -i else i))
 |_=>.bad
noncomputable def Ab(fs:C6):FI:=fun env=>(fs env).bind fun p=>(oi p.2 p.1).bind fun d=>match d with
 |[.int i,.int j,.int c]=>if qv i j c then .ok ((List.range (Builtin.Range.rangeSize i j c).toNat).map fun(k:Nat)=>D.int (i+(k:Int)*c),p.2) else .bad
 |_=>.bad
end
end PV
namespace NX
open PySem PySem.Spec PyProof.Rows L2
section
open PySem.SeqAt
open PySem.AutoSeq1 (wpAny_loadPart')
end
end NX
namespace L2
open PySem PySem.Spec PyProof.Rows
section
variable{X:Cx}{o e:Expr}{es:List Expr}{to:TE}{t:TA}{name:Str}{apos Cy:Pos}{id:String}{r:V->List V->Hp->VK->Prop}
end
end L2
namespace PV
open PySem PySem.Spec PyProof.Rows L2 NX
section
variable{X:Cx}
noncomputable def BO(g:List D->List D->Res R)(fa:FO)(fs:C6):FX:=fun env=>(fa env).bind fun p=>(Dm p.2 p.1).bind fun a=>match a with
 | .tup _=>(fs p.2).bind fun q=>(Dm q.2 p.1).bind fun a2=>match a2 with
  | .tup l=>(oi q.2 q.1).bind fun ds=>(g l ds).bind fun r=>.ok (r,q.2)
  |_=>.bad
 |_=>.bad
def Bs(l:List D):List D->Res R
 |[.str c]=>match gA l with
  |some bs=>if c∈bs then .ok (.f,.int (bs.idxOf c:Nat)) else .bad
  |none=>.bad
 |_=>.bad
def cR(a b:D):Res R:=match a,b with
 | .tup [],.tup l=>.ok (.f,.tup l)
 |a,b=>addD a b
theorem aS:CF X (binaryOp .Add) (rG X.K cR):=by
 rintro pr s σ H x y v u Q I rx ry ⟨G,fp,es,vs,a,b,r,⟨rel,k⟩,va,vb,e⟩;unfold cR at e;split at e
 ·rename_i l;cases e;obtain⟨p,xs,e1,h1,r1⟩:=dP va;obtain⟨p2,KI,e2,h2,r2⟩:=dP vb;subst e1;subst e2;cases rx;cases ry;have hx:xs=[]:=M7 (by rw[r1.length];rfl);subst hx;obtain⟨BR,v1,⟨⟨cls,dd,data,sl⟩,ho,hc,n,hd⟩,_⟩:=I.tuple (bu rel.gh h1);obtain⟨Fv,v2,⟨⟨Ic,GL,data2,GN⟩,DE,F1,n2,hd2⟩,_⟩:=I.tuple (bu rel.gh h2);dsimp only at hc hd F1 hd2;subst hc hd F1 hd2;cases v1;exact Qi ⟨_,ho,rfl⟩ ⟨_,DE,rfl⟩ PZ QU OK OG (Oz _ _) (tuple_addW0 p p2 _ _ n n2 dd GL sl GN rfl) ⟨ho,DE,⟨.ref p2,H,I,rfl,k _ H G fp .refl (rel.push vb)⟩⟩
 ·exact yd pr s σ H _ _ v u Q I rx ry ⟨G,fp,es,vs,a,b,r,⟨rel,k⟩,va,vb,e⟩
def Bt(fs:C6):FI:=Fo (qe true true fs) (Fo (qe true false fs) (Fo (qe false true fs) (qe false false fs)))
end
end PV
namespace NX
open PySem PySem.Spec PyProof.Rows L2
section
open PySem.AutoSeq1 (wpAny_loadPart')
theorem kX(l:Addr)(items:Array Value)(n:Nat)(dd:Option Addr)(sl:Array (Option Value))(x:Int)(u:Tok)(h1:¬ (!Builtin.List.listFitsIndex x)=true)(h2:¬ items.size*x.toNat>(2 ^ 63-1) / 8)(h3:¬ Builtin.List.listTooLong (items.size*x.toNat)=true)(h4:(List.foldl (fun x1 x2=>x1++x2) #[] (List.replicate (if items.isEmpty=true then 0 else x.toNat) items)).size<=sizeLine):
  Meets (Builtin.«list.__mul__» ⟨[.ref l,.int x u],[]⟩)
   (fun _ R s=>s.heap.get? l=some {cls:=.type "list",dict:=dd,data:=.seq items n,slots:=sl}/\R (.ok (.ret (.ref s.heap.objs.size))) {s with heap:=s.heap.push {cls:=.type "list",data:=.seq (List.foldl (fun x1 x2=>x1++x2) #[] (List.replicate (if items.isEmpty=true then 0 else x.toNat) items))}}):=
 .of_wp fun prog w A R s h=>by
  obtain⟨hp,g,d,tk,os⟩:=s;obtain⟨hl,h⟩:=h
  wp_walk using wpAny_loadPart' hl
  rw[MO (by lia)]
  wp_walk
  exact⟨_,rfl,h⟩
theorem kY(a:Int)(t:Tok)(l:Addr)(T:String)(items:Array Value)(n:Nat)(dd:Option Addr)(sl:Array (Option Value)):
  Meets (Builtin.«int.__rmul__» ⟨[.int a t,.ref l],[]⟩)
   (fun _ R s=>s.heap.get? l=some {cls:=.type "list",dict:=dd,data:=.seq items n,slots:=sl}/\R (.ok (.ret .notImplemented)) s):=
 .of_wp fun prog w A R s h=>by
  obtain⟨hp,g,d,tk,os⟩:=s;obtain⟨hl,h⟩:=h
  wp_walk using wpAny_loadPart' hl
  exact⟨_,rfl,h⟩
end
end NX
namespace PV
open PySem PySem.Spec PyProof.Rows L2 NX
section
variable{md:Mode}{X:Cx}
inductive rRepS(K:W.Frag)(x:V)(y:V)(H:Hp)(Q:VK):Prop
 |mk:∀l k xs,x=.ref l->y=.int k->SqL K H l xs->-(2 ^ 62)<=k->k<2 ^ 62->xs.length*k.toNat<=sizeLine->(∀p,H p=none->Q (.ref p) (upd H p (.lst (List.replicate k.toNat xs).flatten)))->rRepS K x y H Q
theorem vK:CF X (binaryOp .Mult) (rRepS X.K):=by
 intro pr s σ H x y v u Q I rx ry h;obtain⟨l,k,xs,rfl,rfl,hH,h1,h2,hz,q⟩:=h;cases rx;obtain⟨t,rfl⟩:=ry;obtain⟨BR,r,p1,_⟩:=I.list hH;have hl:=r.length;obtain⟨⟨cls,dd,data,sl⟩,ho,hc,n,hd⟩:=id p1.isList;simp only at hc hd;subst hc hd;have hlen:BR.toArray.size*k.toNat<=sizeLine:=by rw[MC,<-hl];exact hz
 have hcap:¬ BR.toArray.size*k.toNat>(2 ^ 63-1) / 8:=by
  have:(sizeLine:Nat)<=(2 ^ 63-1) / 8:=by decide
  lia
 have E5:¬ (!Builtin.List.listFitsIndex k)=true:=by
  rw[fitsIndex_both (by lia) (by lia)];exact MP
 have J9:¬ Builtin.List.listTooLong (BR.toArray.size*k.toNat)=true:=by
  rw[rL hlen];exact MP
 have Gj:List.foldl (fun x1 x2=>x1++x2) #[] (List.replicate (if BR.toArray.isEmpty=true then 0 else k.toNat) BR.toArray)=(List.replicate k.toNat BR).flatten.toArray:=by
  have f0:∀m:Nat,List.foldl (fun x1 x2=>x1++x2) #[] (List.replicate m BR.toArray)=(List.replicate m BR).flatten.toArray:=fun m=>by
   have:=g8 BR m [];rw[OJ]at this;exact this
  rw[f0];cases BR with
  |nil=>simp
  |cons a r'=>rw[MO (by simp)]
 have hsz:(List.foldl (fun x1 x2=>x1++x2) #[] (List.replicate (if BR.toArray.isEmpty=true then 0 else k.toNat) BR.toArray)).size<=sizeLine:=by
  rw[Gj,MC,eX,Qn];rw[MC]at hlen;exact hlen
 refine Pr (T:="list") (U:="int") (by decide) ⟨_,ho,rfl⟩ (fun s'=>O8 s' k t) noFill_list_mul F.fills_int_mul Pg repeat_list F.slot_int_index.lookup
  (OB Pg (O8 s k t) F.entry_int_rmul (F.args_int_rmul_2 _ _) (kY k t l "" BR.toArray n dd sl)
   ⟨ho,rfl,⟨_,ho,rfl⟩,OB F.slot_list_mul ⟨_,ho,rfl⟩ F.entry_list_mul (F.args_list_mul_2 _ _) (kX l BR.toArray n dd sl k t E5 hcap J9 hsz) ⟨ho,?_⟩⟩)
 rw[Gj];exact⟨.ref _,_,I.lnew (t':=s.toks) (r.rep k.toNat) (by rw[eX,Qn];exact hz),rfl,q _ I.fresh⟩
theorem jQ{K:W.Frag}{G:Hp}{ds:List D}{xs:List V}(r:Reps K G ds xs):∀n:Nat,Reps K G (List.replicate n ds).flatten (List.replicate n xs).flatten
 | 0=>.nil
 |n+1=>by
  rw[NM,NM,NY,NY];exact r.app (jQ r n)
def ox(a b:D):Res R:=match a,b with
 | .lst ds,.int k=>if 0<=k/\k<1000000/\ds.length*k.toNat<=sizeLine then .ok (.l .f,.lst (List.replicate k.toNat ds).flatten) else .bad
 |a,b=>vH a b
theorem fm:CF X (binaryOp .Mult) (rG X.K ox):=by
 rintro pr s σ H x y v u Q I rx ry ⟨G,fp,es,vs,a,b,r,⟨rel,k⟩,va,vb,e⟩;unfold ox at e;split at e
 ·rename_i ds j;split at e
  ·rename_i hj;cases e;obtain⟨p,xs,e1,h1,r1⟩:=va;subst e1;cases a6 vb;refine vK pr s σ H _ _ v u Q I rx ry ⟨p,j,xs,rfl,rfl,h1,by lia,by lia,by rw[r1.length];exact hj.2.2,fun q hq=>?_⟩;obtain⟨BU,B0⟩:=rel.newL hq (jQ r1 j.toNat);exact k _ _ G _ B0 BU
  ·cases e
 ·exact vI pr s σ H _ _ v u Q I rx ry ⟨G,fp,es,vs,a,b,r,⟨rel,k⟩,va,vb,e⟩
noncomputable def Bu(i:Nat)(fk fv:FX):FS:=fun env=>(fv env).bind fun p=>(fk p.2).bind fun q=>match p.2[i]?,q.2[i]? with
 |some (some _),some (some (.l .f,.lst ds))=>(match q.1.2 with
  | .int k=>(match ixN ds.length k with
   |some j=>.ok (.nx (q.2.set i (some (.l .f,.lst (ds.set j p.1.2)))))
   |none=>.bad)
  |_=>.bad)
 |_,_=>.bad
end
section
variable{X:Cx}
theorem Rel.own{K:W.Frag}{G H:Hp}{es:PV.Env}{vs:L2.St}{fp:List Addr}{p:Addr}{u:HO}{tk:Bool}{ks ws:List D}{xs:List V}(q:Rel K G H es vs fp)(np:p∉fp)(gp:G p=none)(h:DictO u tk ks xs)(rs:Reps K G ws xs):
  Rel K G (upd H p u) (some (.d,.dct tk ks ws)::es) (some (.ref p)::vs) (p::fp):=by
 refine⟨⟨some (.ref p),vs,rfl,.ref p,[p],fp,rfl,rfl,?_,q.rep.step (.refl _) fun z hz=>aJ fun e=>np (e▸hz)⟩,Nf.mpr ⟨np,q.nd⟩,fun z hz=>?_,fun b o e=>?_⟩
 ·rw[RepO];exact⟨p,xs,u,rfl,br,h,rfl,rs⟩
 ·rcases MN.mp hz with rfl|hz
  ·exact gp
  ·exact q.gn z hz
 ·rw[aJ fun z=>by subst z;rw[gp]at e;cases e];exact q.gh b o e
def yz(fk fv:FX):FX:=fun env=>(fk env).bind fun p=>(fv p.2).bind fun q=>if dW false p.1.2 then .ok ((.d,.dct false [p.1.2] [q.1.2]),q.2) else .bad
def getD(ks vs:List D)(k:D):Option D:=((ks.zip vs).find? fun p=>BZ k p.1).map (·.2)
theorem ir{κ:Type}[DecidableEq κ]{K:W.Frag}{G:Hp}(f:κ->D)(hf:∀a b,BZ (f a) (f b)=decide (a=b)){k:κ}:∀{BV:List (κ×V)}{vs:List D},Reps K G vs (BV.map (·.2))->((getD (BV.map fun kv=>f kv.1) vs (f k)).isSome=(kE BV k).isSome)/\∀d,getD (BV.map fun kv=>f kv.1) vs (f k)=some d->∃v,kE BV k=some v/\Rep K G d v
 |[],vs,r=>⟨rfl,fun d h=>nomatch h⟩
 |kv::BV,vs,r=>by
  cases vs with
  |nil=>have:=r.length;simp at this
  |cons d0 vs=>
   rw[MS,Reps.cons_iff]at r;obtain⟨h1,h2⟩:=ir f hf (k:=k) r.2;unfold getD kE at h1 h2 ⊢;rw[MS,Of];have e:BZ (f k) (f kv.1)=decide (kv.1=k):=by
    rw[hf,MV,ME,ME];exact⟨fun z=>z.symm,fun z=>z.symm⟩
   by_cases hk:kv.1=k
   ·rw[OL (by show BZ (f k) (f kv.1)=true;rw[e];exact M6 hk),OL (by exact M6 hk)];refine⟨rfl,fun d h=>?_⟩;cases h;exact⟨_,rfl,r.1⟩
   ·rw[OM (by show ¬ BZ (f k) (f kv.1)=true;rw[e];simpa using hk),OM (by simpa using hk)];exact⟨h1,h2⟩
theorem qw{K:W.Frag}{G H:Hp}(gh:Same G H){tk:Bool}{ks vs:List D}{xs:List V}{o:HO}{p:Addr}{b:D}{y:V}(rd:Rd H p o)(dd:DictO o tk ks xs)(rs:Reps K G vs xs)(hk:dW tk b=true)(ry:Rep K G b y):
  ∃ov,DGet H p y ov/\(getD ks vs b).isSome=ov.isSome/\∀d,getD ks vs b=some d->∃v,ov=some v/\Rep K G d v:=by
 unfold dW at hk;cases tk with
 |true=>
  rw[MM rfl,NB]at hk;obtain⟨kk,hk⟩:=hk;obtain⟨pz,ez,gz,dz⟩:=cH hk ry;obtain⟨BV,eo,ek,ex,_⟩:=dd;subst eo ex ez dz;have ek:ks=BV.map fun kv=>kT kv.1:=ek
  obtain⟨h1,h2⟩:=ir (K:=K) (G:=G) kT ue (k:=kk) rs;rw[<-ek]at h1 h2;exact⟨kE BV kk,.inr ⟨BV,kk,pz,rd,rfl,gh _ _ gz,rfl⟩,h1,h2⟩
 |false=>
  rw[MO MP,NB]at hk;obtain⟨kk,hk⟩:=hk;obtain⟨ez,dz⟩:=f9 hk ry;obtain⟨BV,eo,ek,ex,_⟩:=dd;subst eo ex ez dz;obtain⟨h1,h2⟩:=ir (K:=K) (G:=G) kD qm (k:=kk) rs;rw[<-ek]at h1 h2;exact⟨kE BV kk,.inl ⟨BV,kk,rd,rfl,rfl⟩,h1,h2⟩
def dgD(a b:D):Res R:=match a with
 | .dct tk ks vs=>if dW tk b then(match getD ks vs b with
  |some d=>.ok (.f,d)
  |none=>.bad) else .bad
 |_=>.bad
def Ka(a b:D):Res R:=match b with
 | .dct tk ks vs=>if dW tk a then .ok (.f,.bl (getD ks vs a).isSome) else .bad
 |_=>Gf a b
def ri(a b:D):Res R:=match b with
 | .dct tk ks vs=>if dW tk a then .ok (.f,.bl (!(getD ks vs a).isSome)) else .bad
 |_=>wR a b
theorem yA(hu:X.A.units+65<cLine):CF X (compareOp .In) (rGA X.K Ka):=by
 rintro pr s σ H x y v u Q I rx ry ⟨G,fp,es,vs,a,b,r,⟨rel,k⟩,va,vb,e⟩;unfold Ka at e;split at e
 ·rename_i tk ks ws;split at e
  ·rename_i Gg;cases e;obtain⟨p,xs,o,ev,rd,dd,rs⟩:=vb;subst ev;cases ry;obtain⟨ov,g,h1,_⟩:=qw (K:=X.K) (G:=H) (fun _ _ z=>z) rd dd rs Gg va;exact Bl (by lia) I g rx fun s' I'=>⟨.bl ov.isSome,H,I',rfl,by rw[<-h1];exact k _ H G fp .refl (rel.push (bQ _))⟩
  ·cases e
 ·exact z8 hu pr s σ H x y v u Q I rx ry ⟨G,fp,es,vs,a,b,r,⟨rel,k⟩,va,vb,e⟩
theorem vL(hu:X.A.units+65<cLine):CF X (compareOp .NotIn) (rGA X.K ri):=by
 rintro pr s σ H x y v u Q I rx ry ⟨G,fp,es,vs,a,b,r,⟨rel,k⟩,va,vb,e⟩;unfold ri at e;split at e
 ·rename_i tk ks ws;split at e
  ·rename_i Gg;cases e;obtain⟨p,xs,o,ev,rd,dd,rs⟩:=vb;subst ev;cases ry;obtain⟨ov,g,h1,_⟩:=qw (K:=X.K) (G:=H) (fun _ _ z=>z) rd dd rs Gg va;exact u6 (by lia) I g rx fun s' I'=>⟨.bl (!ov.isSome),H,I',rfl,by rw[<-h1];exact k _ H G fp .refl (rel.push (bQ _))⟩
  ·cases e
 ·exact yn hu pr s σ H x y v u Q I rx ry ⟨G,fp,es,vs,a,b,r,⟨rel,k⟩,va,vb,e⟩
end
def isLf:O->Bool
 | .l .f=>true
 | .pin _ (.l .f)=>true
 |_=>false
section
variable{K:W.Frag}{G G' H H':Hp}{es:PV.Env}{vs:L2.St}{fp:List Addr}
theorem yB{ow:O}{ds:List D}{v:V}{a:List Addr}(ho:isLf ow=true)(r:RepO K G H ow (.lst ds) v a):∃p xs,v=.ref p/\H p=some (.lst xs)/\a=[p]/\Reps K G ds xs/\∀(H':Hp) (ds':List D) (CV:List V),H' p=some (.lst CV)->Reps K G ds' CV->RepO K G H' ow (.lst ds') (.ref p) [p]:=by
 unfold isLf at ho;split at ho
 ·obtain⟨p,xs,e,hp,ea,rs⟩:=cZ.mp r;exact⟨p,xs,e,hp,ea,rs,fun H' ds' CV h DG=>cZ.mpr ⟨p,CV,rfl,h,rfl,DG⟩⟩
 ·rename_i q;rw[RepO]at r;obtain⟨e0,r⟩:=r;obtain⟨p,xs,e,hp,ea,rs⟩:=cZ.mp r;rw[e]at e0;cases e0;exact⟨_,xs,e,hp,ea,rs,fun H' ds' CV h DG=>by rw[RepO];exact⟨rfl,cZ.mpr ⟨_,CV,rfl,h,rfl,DG⟩⟩⟩
 ·cases ho
theorem Rel.chgO{i:Nat}{ow:O}{ds ds':List D}(ho:isLf ow=true)(q:Rel K G H es vs fp)(e:es[i]?=some (some (ow,.lst ds))):∃p xs,vs[i]?=some (some (.ref p))/\H p=some (.lst xs)/\Reps K G ds xs/\
  ∀CV,Reps K G ds' CV->∃fq,Rel K G (upd H p (.lst CV)) (es.set i (some (ow,.lst ds'))) vs fq/\Step G H fp G (upd H p (.lst CV)) fq:=by
 obtain⟨v,fq,ev,g,st,D0⟩:=q.out e;obtain⟨y,ys,e0,v',a,b,e1,e2,r1,r2⟩:=g.rep;cases e0;cases e1;obtain⟨p,xs,e3,hp,e4,rs,mk⟩:=yB ho r1;subst e3;subst e4;subst e2;have nd:=Nf.mp (show(p::b).Nodup from g.nd);refine⟨p,xs,ev,hp,rs,fun CV DG=>?_⟩;have g2:Rel K G (upd H p (.lst CV)) (some (ow,.lst ds')::es.set i none) (some (.ref p)::vs) (p::b):=by
  refine⟨⟨some (.ref p),vs,rfl,.ref p,[p],b,rfl,rfl,mk _ _ _ br DG,r2.step (.refl _) fun z hz=>aJ fun e=>nd.1 (e▸hz)⟩,g.nd,g.gn,fun z o ez=>?_⟩;have:z≠p:=fun w=>by
   subst w;rw[g.gn z My]at ez;cases ez
  rw[aJ this];exact g.gh z o ez
 have JS:Step G H (p::b) G (upd H p (.lst CV)) (p::b):=by
  refine⟨.refl _,fun z o ez nz=>?_,fun z hz=>.inl hz,fun z o ez=>.inl ez,fun z o ez=>?_⟩
  ·have:z≠p:=fun w=>nz (by rw[w];exact My)
   rw[aJ this];exact ez
  ·by_cases w:z=p
   ·subst w;exact⟨_,br⟩
   ·exact⟨o,by rw[aJ w];exact ez⟩
 obtain⟨fz,g3,CI⟩:=g2.back (i:=i) (by rw[Ny];exact(MF.mp e).1) ev;rw[Oo]at g3;exact⟨fz,g3,st.trans (JS.trans CI)⟩
end
section
variable{X:Cx}
theorem Reps.dropLast{K:W.Frag}{G:Hp}:∀{ds:List D}{xs:List V},Reps K G ds xs->Reps K G ds.dropLast xs.dropLast
 |[],xs,r=>by rw[Reps]at r;subst r;exact .nil
 |[d],xs,r=>by
  rw[Reps]at r;obtain⟨y,ys,e,r1,r2⟩:=r;rw[Reps]at r2;subst e r2;exact .nil
 |d::d2::ds,xs,r=>by
  rw[Reps]at r;obtain⟨y,ys,e,r1,r2⟩:=r;subst e;have h:=Reps.dropLast r2;cases ys with
  |nil=>have:=r2.length;simp at this
  |cons z zs=>
   rw[O7 (P6 _ _),O7 (P6 _ _)];exact .cons r1 h
end
section
variable{X:Cx}{x:Str}{p pos:Pos}{e:Expr}{es:List Expr}{fs:C6}
end
def pinFrom(S:List Nat)(ps:Nat->Addr):Nat->PV.Env->PV.Env
 |_,[]=>[]
 |k,r::es=>(if k∈S then r.map fun r=>(.pin (ps k) .f,r.2) else r)::pinFrom S ps (k+1) es
def sL(S:List Nat)(ps:Nat->Addr)(env:PV.Env):PV.Env:=pinFrom S ps 0 env
theorem iu(S:List Nat)(ps:Nat->Addr):∀(env:PV.Env) (m k:Nat),(pinFrom S ps m env)[k]?=(env[k]?).map fun r=>if m+k∈S then r.map fun r=>(.pin (ps (m+k)) .f,r.2) else r
 |[],m,k=>by simp[pinFrom]
 |r::es,m,0=>by simp[pinFrom]
 |r::es,m,k+1=>by
  rw[pinFrom,PR,PR,iu S ps es (m+1) k,show m+1+k=m+(k+1) by lia]
theorem cT(S:List Nat)(ps:Nat->Addr)(env:PV.Env)(k:Nat):(sL S ps env)[k]?=(env[k]?).map fun r=>if k∈S then r.map fun r=>(.pin (ps k) .f,r.2) else r:=by
 unfold sL;rw[iu,OU]
theorem nj(S:List Nat)(ps:Nat->Addr)(env:PV.Env):(sL S ps env).length=env.length:=by
 have:∀(env:PV.Env) (m:Nat),(pinFrom S ps m env).length=env.length:=by
  intro env;induction env with
  |nil=>intro m;rfl
  |cons r es ih=>intro m;rw[pinFrom,MY,ih,MY]
 exact this env 0
def vM:D->Bool
 | .tup _=>true
 | .lst _=>true
 |_=>false
structure LendOk(i:Nat)(J:List Nat)(g:FS)(env e':PV.Env):Prop where
 ds:∃ds,env[i]?=some (some (.l .f,.lst ds))/\e'[i]?=some (some (.l .f,.lst ds))
 js:∀j∈J,j≠i/\∃o d,vM d=true/\(o=.f\/∃q,o=.pin q .f)/\env[j]?=some (some (o,d))/\e'[j]?=some (some (o,d))
 cl:∀k r,e'[k]?=some (some r)->k=i\/k∈J\/bP r.1 r.2=true
 run:∀ps:Nat->Addr,g (sL (i::J) ps env)=.ok (.nx (sL (i::J) ps e'))
theorem LendOk.uniq{i:Nat}{J:List Nat}{g:FS}{env e1 e2:PV.Env}(a:LendOk i J g env e1)(b:LendOk i J g env e2):e1=e2:=by
 have h:sL (i::J) (fun _=>0) e1=sL (i::J) (fun _=>0) e2:=by
  have:=(a.run fun _=>0).symm.trans (b.run fun _=>0);injection this with h;injection h
 apply Oq;intro k;by_cases hk:k∈i::J
 ·rcases MN.mp hk with rfl|hk
  ·obtain⟨d1,q1,q2⟩:=a.ds;obtain⟨d2,q3,q4⟩:=b.ds;rw[q1]at q3;cases q3;rw[q2,q4]
  ·obtain⟨_,o1,d1,_,_,q1,q2⟩:=a.js k hk;obtain⟨_,o2,d2,_,_,q3,q4⟩:=b.js k hk;rw[q1]at q3;cases q3;rw[q2,q4]
 ·have h1:=cT (i::J) (fun _=>0) e1 k;have h2:=cT (i::J) (fun _=>0) e2 k;rw[h,h2]at h1;simp only[hk,OP,Option.map_id']at h1;simpa using h1.symm
open Classical in
def qx(i:Nat)(J:List Nat)(g:FS):FS:=fun env=>if h:∃e',LendOk i J g env e' then .ok (.nx (Classical.choose h)) else .bad
theorem vN{i:Nat}{J:List Nat}{g:FS}{env e':PV.Env}(h:LendOk i J g env e'):qx i J g env=.ok (.nx e'):=by
 have h':∃e',LendOk i J g env e':=⟨e',h⟩
 unfold qx;rw[dif_pos h',(Qq h').uniq h]
section
variable{K:W.Frag}{G G' H H':Hp}
theorem RepE.conv:∀{es Fi:PV.Env}{vs:L2.St}{fp:List Addr},es.length=Fi.length->(∀k:Nat,es[k]?=some none->Fi[k]?=some none)->(∀(k:Nat) (r:R),es[k]?=some (some r)->∃r':R,Fi[k]?=some (some r')/\∀v a,vs[k]?=some (some v)->RepO K G H r.1 r.2 v a->RepO K G' H' r'.1 r'.2 v a)->RepE K G H es vs fp->RepE K G' H' Fi vs fp
 |[],[],_,_,_,_,_,r=>r
 |[],_::_,_,_,h,_,_,_=>by cases h
 |_::_,[],_,_,h,_,_,_=>by cases h
 |none::es,e'::Fi,vs,fp,hl,hn,hs,r=>by
  obtain⟨y,ys,e,r⟩:=r;have h0:=hn 0 rfl;simp at h0;subst h0 e;exact⟨y,ys,rfl,RepE.conv (by simpa using hl) (fun k hk=>by simpa using hn (k+1) (by simpa using hk)) (fun k x hk=>by simpa using hs (k+1) x (by simpa using hk)) r⟩
 |some x::es,e'::Fi,vs,fp,hl,hn,hs,r=>by
  obtain⟨y,ys,e,v,a,b,e1,e2,r1,r2⟩:=r;obtain⟨x',h0,hx⟩:=hs 0 x rfl;simp at h0;subst h0 e e1;exact⟨_,ys,rfl,v,a,b,rfl,e2,hx v a rfl r1,RepE.conv (by simpa using hl) (fun k hk=>by simpa using hn (k+1) (by simpa using hk)) (fun k z hk=>by simpa using hs (k+1) z (by simpa using hk)) r2⟩
theorem yC{d:D}{v:V}(h:vM d=true)(r:Rep K G d v):∃q,v=.ref q:=by
 cases d with
 |tup ds=>rw[Rep]at r;obtain⟨p,_,e,_⟩:=r;exact⟨p,e⟩
 |lst ds=>rw[Rep]at r;obtain⟨p,_,e,_⟩:=r;exact⟨p,e⟩
 |_=>cases h
end
section
variable{X:Cx}{md:Mode}
theorem vO{i:Nat}{J:List Nat}{st:Stmt}{g:FS}(h:QS (md:=md) X st g):QS (md:=md) X st (qx i J g):=eN h fun Dd σ H B1=>by
 obtain⟨G,env,fp,rel,k⟩:=B1;unfold qx at k;split at k
 ·rename_i he;have L:=Qq he;generalize Classical.choose he=e' at k L;obtain⟨ds,hi,E3⟩:=L.ds;obtain⟨v,a,b,ev,r0,r2,pm⟩:=rel.rep.take hi;obtain⟨p,xs,e3,hp,e4,rs⟩:=cZ.mp r0;subst e3 e4;have KL:p∈fp:=pm.mem_iff.mpr My;have KN:∀z∈b,z∈fp:=fun z hz=>pm.mem_iff.mpr (MJ _ hz)
  have gp:=rel.gn p KL;have nd:=Nf.mp (show(p::b).Nodup from pm.nodup_iff.mp rel.nd);have Mc:∀j∈J,∃o d q,vM d=true/\(o=.f\/o=.pin q .f)/\env[j]?=some (some (o,d))/\e'[j]?=some (some (o,d))/\σ[j]?=some (some (.ref q))/\Rep X.K G d (.ref q):=fun j hj=>by
   obtain⟨_,o,d,hd,ho,h1,h2⟩:=L.js j hj;obtain⟨vj,aj,bj,Lr,rj,_,_⟩:=rel.rep.take h1;rcases ho with rfl|⟨q,rfl⟩
   ·have rj:=(dh.mp rj).1;obtain⟨q,rfl⟩:=yC hd rj;exact⟨.f,d,q,hd,.inl rfl,h1,h2,Lr,rj⟩
   ·rw[RepO]at rj;have r2:=(dh.mp rj.2).1;rw[rj.1]at Lr r2;exact⟨_,d,q,hd,.inr rfl,h1,h2,Lr,r2⟩
  let ps:Nat->Addr:=fun j=>match σ[j]? with|some (some (.ref q))=>q|_=>0
  have KO:∀j q,σ[j]?=some (some (.ref q))->ps j=q:=fun j q h=>by show(match σ[j]? with|some (some (.ref q))=>q|_=>0)=q;rw[h]
  have g1:Same G (fun z=>if z=p then some (.lst xs) else G z):=fun z u e=>by
   show(if z=p then some (.lst xs) else G z)=some u;rw[MO fun w=>by subst w;rw[gp]at e;cases e];exact e
  have Md:(fun z=>if z=p then some (HO.lst xs) else G z) p=some (.lst xs):=MM rfl;obtain⟨Cd,q1,Js⟩:=(r2.step g1 (H':=H) fun _ _=>rfl).put (i:=i) (r:=(.pin p .f,.lst ds)) (v:=.ref p) (a:=[]) (by rw[MW (MF.mp hi).1]) (by
   rw[RepO];refine⟨rfl,dh.mpr ⟨?_,rfl⟩⟩;rw[Rep];exact⟨p,xs,rfl,SqL.of Md,rs.mono g1⟩)
  rw[Oo,eF ev]at q1;rw[OJ]at Js;have BX:Rel X.K (fun z=>if z=p then some (.lst xs) else G z) H (sL (i::J) ps env) σ Cd:=by
   refine⟨RepE.conv (by rw[Ny,nj]) (fun k hk=>?_) (fun k r hk=>?_) q1,Js.symm.nodup_iff.mp nd.2,fun z hz=>?_,fun z u e=>?_⟩
   ·rw[cT];by_cases e:k=i
    ·subst e;rw[MW (MF.mp hi).1]at hk;cases hk
    ·rw[M0 (N2 e)]at hk;rw[hk];split <;> rfl
   ·rw[cT];by_cases e:k=i
    ·subst e;rw[MW (MF.mp hi).1]at hk;cases hk;refine⟨(.pin (ps k) .f,.lst ds),by rw[hi];simp,fun v a hv ro=>?_⟩;rw[KO k p ev];exact ro
    ·rw[M0 (N2 e)]at hk;by_cases hj:k∈J
     ·obtain⟨o,d,q,_,ho,h1,_,h3,h4⟩:=Mc k hj;rw[h1]at hk;cases hk;refine⟨(.pin (ps k) .f,d),by rw[h1];simp[hj],fun v a hv ro=>?_⟩;rw[KO k q h3];rw[h3]at hv;cases hv;show RepO X.K _ H (.pin q .f) d _ a;rcases ho with rfl|rfl
      ·rw[RepO];exact⟨rfl,ro⟩
      ·exact ro
     ·exact⟨r,by rw[hk];simp[hj,e],fun v a hv ro=>ro⟩
   ·show(if z=p then some (HO.lst xs) else G z)=none;have hz:=Js.mem_iff.mp hz;rw[MO (fun w:z=p=>nd.1 (w▸hz))];exact rel.gn z (KN z hz)
   ·have e:(if z=p then some (HO.lst xs) else G z)=some u:=e;by_cases w:z=p
    ·subst w;rw[MM rfl]at e;cases e;exact hp
    ·rw[MO w]at e;exact rel.gh z u e
  refine⟨_,_,Cd,BX,?_⟩;rw[L.run ps];intro σ' H2 G2 C0 B0 BU;have k:∀σ' H' G' BY,Step G H fp G' H' BY->Rel X.K G' H' e' σ' BY->Dd.nx σ' H':=k;have Ls:G2 p=some (.lst xs):=B0.gg p _ Md;have h2p:=BU.gh p _ Ls;have np2:p∉C0:=fun w=>by
   have:=BU.gn p w;rw[Ls]at this;cases this
  have gG:Same G (fun z=>if z=p then none else G2 z):=fun z u e=>by
   show(if z=p then none else G2 z)=some u;rw[MO fun w=>by subst w;rw[gp]at e;cases e];exact B0.gg z u (g1 z u e)
  have Jm:σ'[i]?=some (some (.ref p)):=by
   obtain⟨v',a',b',DB,ro,_,_⟩:=BU.rep.take (i:=i) (r:=(.pin (ps i) .f,.lst ds)) (by rw[cT,E3];simp);rw[RepO]at ro;rw[DB,ro.1,KO i p ev]
  obtain⟨v',a',b',DB,ro,rr,Lu⟩:=BU.rep.take (i:=i) (r:=(.pin (ps i) .f,.lst ds)) (by rw[cT,E3];simp);have ha':a'=[]:=by
   rw[RepO]at ro;exact(dh.mp ro.2).2
  subst ha';rw[OJ]at Lu;have hlen:(sL (i::J) ps e').length=e'.length:=by rw[nj]
  have Jr:=(MF.mp E3).1;have q3:RepE X.K (fun z=>if z=p then none else G2 z) H2 (e'.set i none) σ' b':=by
   refine RepE.conv (by rw[Ny,Ny,hlen]) (fun k hk=>?_) (fun k r hk=>?_) rr
   ·by_cases e:k=i
    ·subst e;rw[MW Jr]
    ·rw[M0 (N2 e),cT]at hk;rw[M0 (N2 e)];cases hx:e'[k]? with
     |none=>rw[hx]at hk;cases hk
     |some w=>
      cases w with
      |none=>rfl
      |some w=>
       rw[hx]at hk;simp only[Qr]at hk;split at hk <;> cases hk
   ·by_cases e:k=i
    ·subst e;rw[MW (by rw[hlen];exact Jr)]at hk;cases hk
    ·rw[M0 (N2 e),cT]at hk;rw[M0 (N2 e)];by_cases hj:k∈J
     ·obtain⟨o,d,q,_,ho,_,h2,h3,h4⟩:=Mc k hj;rw[h2]at hk;simp only[MN,hj,or_true,OH,Qr,Option.some.injEq]at hk;subst hk;refine⟨(o,d),h2,fun v a hv ro=>?_⟩;rw[RepO]at ro;rw[ro.1,KO k q h3];have fin:RepO X.K (fun z=>if z=p then none else G2 z) H2 .f d (.ref q) a:=dh.mpr ⟨h4.mono gG,(dh.mp ro.2).2⟩;rcases ho with rfl|rfl
      ·exact fin
      ·rw[RepO];exact⟨rfl,fin⟩
     ·cases hx:e'[k]? with
      |none=>rw[hx]at hk;cases hk
      |some w=>
       rw[hx]at hk;simp only[MN,e,hj,or_self,OP,Qr,Option.some.injEq]at hk;subst hk;refine⟨r,rfl,fun v a hv ro=>ro.clean (fun z u t ez=>?_) ?_⟩
       ·show(if z=p then none else G2 z)=some u;by_cases w:z=p
        ·subst w;rw[Ls]at ez;cases ez;cases t
        ·rw[MO w];exact ez
       ·rcases L.cl k r hx with w|w|w
        ·exact absurd w e
        ·exact absurd w hj
        ·exact w
  obtain⟨fq,q4,Me⟩:=q3.put (i:=i) (r:=(.l .f,.lst ds)) (v:=.ref p) (a:=[p]) (by rw[MW Jr]) (cZ.mpr ⟨p,xs,rfl,h2p,rfl,rs.mono gG⟩);rw[Oo,eF Jm,eF E3]at q4;have Kb:∀z∈b',z∈C0:=fun z hz=>Lu.mem_iff.mpr hz
  have Mf:∀z∈fq,z=p\/z∈C0:=fun z hz=>by
   rcases MN.mp (show z∈p::b' from Me.mem_iff.mp hz) with w|w
   ·exact .inl w
   ·exact .inr (Kb z w)
  refine k σ' H2 _ fq ⟨gG,fun z u e n=>?_,fun z hz=>?_,fun z u e=>?_,B0.there⟩ ⟨q4,?_,fun z hz=>?_,fun z u e=>?_⟩
  ·exact B0.keep z u e fun w=>n (KN z (Js.mem_iff.mp w))
  ·rcases Mf z hz with rfl|hz
   ·exact .inl KL
   ·exact(B0.fpn z hz).imp_left fun w=>KN z (Js.mem_iff.mp w)
  ·have e:(if z=p then none else G2 z)=some u:=e;by_cases w:z=p
   ·rw[MM w]at e;cases e
   ·rw[MO w]at e;rcases B0.gnew z u e with y|y|y
    ·have y:(if z=p then some (HO.lst xs) else G z)=some u:=y;rw[MO w]at y;exact .inl y
    ·exact .inr (.inl (KN z (Js.mem_iff.mp y)))
    ·exact .inr (.inr y)
  ·refine Me.symm.nodup_iff.mp ?_;show(p::b').Nodup;exact Nf.mpr ⟨fun w=>np2 (Kb p w),Lu.nodup_iff.mp BU.nd⟩
  ·show(if z=p then none else G2 z)=none;by_cases w:z=p
   ·rw[MM w]
   ·rw[MO w];rcases Mf z hz with y|y
    ·exact absurd y w
    ·exact BU.gn z y
  ·have e:(if z=p then none else G2 z)=some u:=e;by_cases w:z=p
   ·rw[MM w]at e;cases e
   ·rw[MO w]at e;exact BU.gh z u e
 ·exact k.elim
end
end PV
namespace NX
open PySem PySem.Spec PyProof.Rows L2
end NX
namespace PV
open PySem PySem.Spec PyProof.Rows L2 NX
section
variable{X:Cx}
def nq(i:Nat):FX:=fun env=>match env[i]? with
 |some (some (ow,.lst _))=>if isLf ow then .ok ((.f,.non),env.set i (some (ow,.lst []))) else .bad
 |_=>.bad
theorem sM{i:Nat}{o:Expr}{apos Cy:Pos}(ho:PE X o (oV i))(DF:attributeBase o "clear" X.env (eval o X.env)=eval o X.env:=by rfl)(D3:(apos.endLine==Cy.line)=true:=by rfl):
  QE X (.Call (.Attribute o "clear" apos) [] [] Cy) (nq i):=by
 refine bA (xH PQ PySem.F.slot_list_clear PySem.F.type_list_clear rM ho DF D3) fun σ H Q Cp=>?_
 obtain⟨G,env,fp,r,env',rel,e,k⟩:=Cp;unfold nq at e;split at e
 ·rename_i ow ds GQ;split at e
  ·rename_i hlf;cases e;obtain⟨p,xs,ev,hp,rs,cg⟩:=rel.chgO (ds':=[]) hlf GQ;obtain⟨fq,BU,B0⟩:=cg [] .nil;exact⟨.ref p,ev,.inl ⟨rfl,xs,SqL.of hp⟩,p,xs,rfl,rfl,hp,k _ _ G fq B0 (BU.push (by rw[Rep]))⟩
  ·cases e
 ·cases e
end
end PV
namespace NX
open PySem PySem.Spec PyProof.Rows L2
section
variable{prog:Program}{w:World}{A:Around}{E:Value->Shared->Prop}{s:Shared}
end
section
variable{prog:Program}{w:World}{A:Around}{E:Value->Shared->Prop}{s:Shared}
end
section
variable{X:Cx}{e:Expr}{ta:TA}{p p2 pos Fy:Pos}
end
end NX
namespace PV
open PySem PySem.Spec PyProof.Rows L2 NX
section
variable{X:Cx}{e:Expr}{fs:C6}{p p2 pos Fy:Pos}
end
end PV
namespace NX
open PySem PySem.Spec PyProof.Rows L2
section
open PySem.AutoSeq1 (wpAny_loadPart')
theorem gS:fillsNumberSlot (.type "tuple") "mul" = pure false:=
 PySem.fillsNumberSlot_seq (id:="tuple.__mul__") (r:=some (.builtin "tuple.__rmul__")) F.slot_tuple_mul.lookup (by decide +kernel) F.slot_tuple_rmul.lookup (by decide +kernel)
theorem kZ:seqRepeat? (.type "tuple")=pure (some (.builtin "tuple.__mul__")):=by
 unfold seqRepeat?;rw[PySem.seqSlot_of (T:="tuple") (name:="__mul__") (id:="tuple.__mul__") F.slot_tuple_mul.lookup (by decide +kernel),PySem.seqSlot_of (T:="tuple") (name:="__rmul__") (id:="tuple.__rmul__") F.slot_tuple_rmul.lookup (by decide +kernel)];rfl
theorem k4(a:Int)(t:Tok)(l:Addr)(items:Array Value)(n:Nat)(dd:Option Addr)(sl:Array (Option Value)):
  Meets (Builtin.«int.__rmul__» ⟨[.int a t,.ref l],[]⟩)
   (fun _ R s=>s.heap.get? l=some {cls:=.type "tuple",dict:=dd,data:=.seq items n,slots:=sl}/\R (.ok (.ret .notImplemented)) s):=
 .of_wp fun prog w A R s h=>by
  obtain⟨hp,g,d,tk,os⟩:=s;obtain⟨hl,h⟩:=h
  wp_walk using wpAny_loadPart' hl
  exact⟨_,rfl,h⟩
theorem qy(l:Addr)(items:Array Value)(n:Nat)(dd:Option Addr)(sl:Array (Option Value))(x:Int)(u:Tok)(EK:items.isEmpty=false)(h0:x=0):
  Meets (Builtin.«tuple.__mul__» ⟨[.ref l,.int x u],[]⟩)
   (fun _ R s=>s.heap.get? l=some {cls:=.type "tuple",dict:=dd,data:=.seq items n,slots:=sl}/\R (.ok (.ret (.ref s.heap.objs.size))) {s with heap:=s.heap.push {cls:=.type "tuple",data:=.seq #[]}}):=
 .of_wp fun prog w A R s h=>by
  obtain⟨hp,g,d,tk,os⟩:=s;obtain⟨hl,h⟩:=h;subst h0
  wp_walk using wpAny_loadPart' hl
  exact⟨_,rfl,h⟩
theorem qz(l:Addr)(items:Array Value)(n:Nat)(dd:Option Addr)(sl:Array (Option Value))(u:Tok):
  Meets (Builtin.«tuple.__mul__» ⟨[.ref l,.int 1 u],[]⟩)
   (fun _ R s=>s.heap.get? l=some {cls:=.type "tuple",dict:=dd,data:=.seq items n,slots:=sl}/\R (.ok (.ret (.ref l))) s):=
 .of_wp fun prog w A R s h=>by
  obtain⟨hp,g,d,tk,os⟩:=s;obtain⟨hl,h⟩:=h
  wp_walk using wpAny_loadPart' hl
  exact⟨_,rfl,h⟩
theorem qA(l:Addr)(items:Array Value)(n:Nat)(dd:Option Addr)(sl:Array (Option Value))(x:Int)(u:Tok)(EK:items.isEmpty=false)(h2:(x==1)=false)(h3:¬ x<=0)(h4:x<2 ^ 63)(h5:¬ (items.size:Int)*x>(2 ^ 63-1) / 8)(h6:((List.replicate x.toNat items).foldl (fun a b=>a++b) #[]).size<=sizeLine)(h7:(items.size:Int)*x<=10000):
  Meets (Builtin.«tuple.__mul__» ⟨[.ref l,.int x u],[]⟩)
   (fun _ R s=>s.heap.get? l=some {cls:=.type "tuple",dict:=dd,data:=.seq items n,slots:=sl}/\R (.ok (.ret (.ref s.heap.objs.size))) {s with heap:=s.heap.push {cls:=.type "tuple",data:=.seq ((List.replicate x.toNat items).foldl (fun a b=>a++b) #[])}}):=
 .of_wp fun prog w A R s h=>by
  obtain⟨hp,g,d,tk,os⟩:=s;obtain⟨hl,h⟩:=h
  wp_walk using wpAny_loadPart' hl
  rw[MO (by rw[Pc,ME,ME];lia)]
  wp_walk using wpAny_loadPart' hl
  rw[MO h5]
  wp_walk
  rw[MO (by unfold Builtin.Tuple.tupleTooMany;rw[ME,Nr];lia)]
  wp_walk
  exact⟨_,rfl,h⟩
end
end NX
namespace PV
open PySem PySem.Spec PyProof.Rows L2 NX
section
variable{X:Cx}
inductive rRepU(K:W.Frag)(x:V)(y:V)(H:Hp)(Q:VK):Prop
 |mk:∀l k xs,x=.ref l->y=.int k->SqT K H l xs->xs≠[]->0<=k->k<1000->xs.length<=10->((k=1->Q (.ref l) H))->((k≠1->∀p,H p=none->Q (.ref p) (upd H p (.tup (List.replicate k.toNat xs).flatten))))->rRepU K x y H Q
theorem vP:CF X (binaryOp .Mult) (rRepU X.K):=by
 intro pr s σ H x y v u Q I rx ry h;obtain⟨l,k,xs,rfl,rfl,hH,EK,h1,h2,hz,q1,q2⟩:=h;cases rx;obtain⟨t,rfl⟩:=ry;obtain⟨BR,r,p1,_⟩:=I.tuple hH;have hl:=r.length;obtain⟨⟨cls,dd,data,sl⟩,ho,hc,n,hd⟩:=id p1;simp only at hc hd;subst hc hd;have Kc:BR.toArray.isEmpty=false:=by
  cases BR with
  |nil=>exact absurd (M7 hl) EK
  |cons a r'=>rfl
 refine Pr (T:="tuple") (U:="int") (by decide) ⟨_,ho,rfl⟩ (fun s'=>O8 s' k t) gS F.fills_int_mul Pg kZ F.slot_int_index.lookup
  (OB Pg (O8 s k t) F.entry_int_rmul (F.args_int_rmul_2 _ _) (k4 k t l BR.toArray n dd sl) ⟨ho,rfl,⟨_,ho,rfl⟩,?_⟩)
 by_cases k0:k=0
 ·subst k0;refine OB P7 ⟨_,ho,rfl⟩ Pz (Pm _ _) (qy l BR.toArray n dd sl 0 t Kc rfl) ⟨ho,?_⟩;exact⟨.ref _,_,I.laid (o:=.tup []) (t':=s.toks) (fun b o e=>MB _ e) (MH _) ⟨Nq _,[],.nil,IsTupN.new _ _⟩,rfl,q2 (by decide) _ (I.hok.fresh (MH _))⟩
 ·by_cases k1:k=1
  ·subst k1;refine OB P7 ⟨_,ho,rfl⟩ Pz (Pm _ _) (qz l BR.toArray n dd sl t) ⟨ho,?_⟩;exact⟨.ref l,H,I,rfl,q1 rfl⟩
  ·have Gj:List.foldl (fun x1 x2=>x1++x2) #[] (List.replicate k.toNat BR.toArray)=(List.replicate k.toNat BR).flatten.toArray:=by
    have:=g8 BR k.toNat []
    rw[OJ]at this;exact this
   have hb:(BR.length:Int)*k<=10*1000:=Int.mul_le_mul (by lia) (by lia) h1 (by decide);have hlen:(List.replicate k.toNat BR).flatten.length<=10000:=by
    rw[eX];have:((k.toNat*BR.length:Nat):Int)<=10000:=by
     rw[Int.natCast_mul,Int.toNat_of_nonneg h1,Int.mul_comm];lia
    lia
   refine OB P7 ⟨_,ho,rfl⟩ Pz (Pm _ _) (qA l BR.toArray n dd sl k t Kc (by simpa using k1) (by lia) (by lia) (by rw[MC];lia) (by rw[Gj,MC,Nr];lia) (by rw[MC];lia)) ⟨ho,?_⟩;rw[Gj];exact⟨.ref _,_,I.laid (o:=.tup (List.replicate k.toNat xs).flatten) (t':=s.toks) (fun b o e=>MB _ e) (MH _) ⟨by rw[eX,hl,<-eX,Nr];lia,_,r.rep k.toNat,IsTupN.new _ _⟩,rfl,q2 k1 _ (I.hok.fresh (MH _))⟩
def wV(a b:D):Res R:=match a,b with
 | .tup ds,.int k=>if ds≠[]/\ds.length<=10/\0<=k/\k<1000 then .ok (.f,.tup (List.replicate k.toNat ds).flatten) else .bad
 |_,_=>.bad
theorem qB:CF X (binaryOp .Mult) (rG X.K wV):=by
 rintro pr s σ H x y v u Q I rx ry ⟨G,fp,es,vs,a,b,r,⟨rel,k⟩,va,vb,e⟩;unfold wV at e;split at e
 ·rename_i ds j;split at e
  ·rename_i hj;cases e;obtain⟨p,xs,e1,h1,r1⟩:=dP va;subst e1;cases a6 vb;refine vP pr s σ H _ _ v u Q I rx ry ⟨p,j,xs,rfl,rfl,bu rel.gh h1,?_,hj.2.2.1,hj.2.2.2,by rw[r1.length];exact hj.2.1,fun e=>?_,fun e q hq=>?_⟩
   ·intro z;have:=r1.length;rw[z]at this;exact hj.1 (M7 this.symm)
   ·subst e;refine k _ H G fp .refl (rel.push ?_);have e3:(List.replicate (1:Int).toNat ds).flatten=ds:=by simp
    rw[e3];exact va
   ·obtain⟨BU,B0⟩:=rel.newF (u:=.tup (List.replicate j.toNat xs).flatten) hq;refine k _ _ _ fp B0 (BU.push ?_);rw[Rep];exact⟨q,_,rfl,br,Reps.mono B0.gg (jQ r1 j.toNat)⟩
  ·cases e
 ·cases e
end
section
variable{md:Mode}{X:Cx}{scope:Scope}{N:List Str}{tg iter elt:Expr}{ifs:List Expr}{pos:Pos}{fi:FI}{a:FG}{c:FT}{f:FX}{j k0:Nat}
end
section
variable{X:Cx}{x:Str}{p pos:Pos}{e:Expr}{es:List Expr}{f0:FX}{fs:C6}
end
section
variable{X:Cx}
end
end PV
namespace NX
open PySem PySem.Spec PyProof.Rows L2
section
variable{prog:Program}{w:World}{A:Around}{R:Result->Shared->Prop}{it:Addr}{fp wr:List Addr}{n:Nat}{Pv:Nat->Value->Prop}{Sx:Nat->Heap->Prop}{kw:List (Str×Value)}
end
section
variable{X:Cx}{e k:Expr}{te tk:TE}{p pos Fu:Pos}
end
end NX
namespace PV
open PySem PySem.Spec PyProof.Rows L2 NX
section
variable{X:Cx}
end
section
variable{X:Cx}
end
section
variable{K:W.Frag}{G G' H H':Hp}{es:PV.Env}{vs:L2.St}{fp:List Addr}
end
section
variable{X:Cx}{x:Str}{p pos:Pos}{e:Expr}{es:List Expr}{f0:FX}{fs:C6}
end
theorem vals_pick{xs:List V}{us:List Value}(r:Vals xs us):∀ix:List Nat,Vals (ix.filterMap fun i=>xs[i]?) (ix.filterMap fun i=>us[i]?)
 |[]=>.nil
 |i::ix=>by
  have ih:=vals_pick r ix;cases e:xs[i]? with
  |none=>
   rw[PD e,PD (r.none_of e)];exact ih
  |some d=>
   obtain⟨v,e2,rv⟩:=r.get e;rw[PF e,PF e2];exact .cons rv ih
section
variable{X:Cx}{pos:Pos}{fa:FO}
end
section
variable{X:Cx}
end
section
variable{X:Cx}{scope:Scope}{N:List Str}{tg iter elt:Expr}{ifs:List Expr}{pos:Pos}{fi:FI}{a:FG}{c:FT}{f:FX}
end
end PV
namespace L2
open PySem PySem.Spec PyProof.Rows NX
section
variable{X:Cx}{tg:Expr}
end
end L2
namespace PV
open PySem PySem.Spec PyProof.Rows L2 NX
section
variable{X:Cx}{tg:Expr}
end
abbrev FB:=PV.Env->Bool
def BP(g:FS)(x:FB):FB:=fun env=>match g env with
 | .ok (.nx e)=>x e
 |_=>false
def Kd(c:FT)(x:FB):FB:=fun env=>match c env with
 | .ok (true,e)=>x e
 |_=>false
def qC(fs:C6):FB:=fun env=>match fs env with
 | .ok (os,_)=>decide (os.length<=3)
 |_=>false
inductive tX(K:W.Frag)(x:FB)(Ww:Hp->Prop)(σ:L2.St)(H:Hp):Prop
 |mk:∀G env fp,Rel K G H env σ fp->x env=true->(∀H' G' BY,Step G H fp G' H' BY->Rel K G' H' [] [] []->Ww H')->tX K x Ww σ H
def QX(X:Cx)(st:List Stmt)(x:FB)(Ww:Hp->Prop):Prop:=PX X st (tX X.K x Ww)
section
variable{X:Cx}{st:Stmt}{F9:List Stmt}{g:FS}{x:FB}{Ww:Hp->Prop}{c:FT}{pos np Cy:Pos}{e:Expr}{es:List Expr}{fs:C6}{C:Addr}{y:Str}
theorem Ac{a b:List Stmt}{ct:Expr}(hc:QT X.nox ct c)(ha:QX X a x Ww):QX X (.If ct a b pos::F9) (Kd c x) Ww:=pR (zU (PT.nox hc) ha) fun σ H B1=>by
 obtain⟨G,env,fp,rel,e,k⟩:=B1;unfold Kd at e;match q:c env,e with
 | .ok (true,BW),e=>exact⟨G,env,fp,true,BW,rel,q,fun H1 G1 Cd B9 BX=>⟨rfl,G1,BW,Cd,BX,e,fun H' G' BY st r=>k H' G' BY (B9.trans st) r⟩⟩
theorem nr{K:W.Frag}{G:Hp}{σ:L2.St}:∀{os:List Opd}{vs:List V},OpdsOk K G σ os vs->vs.length=os.length
 |[],_,r=>by have r:_=[]:=r;rw[r];rfl
 |_::_,_,⟨y,ys,e,_,q⟩=>by rw[e,MY,MY,nr q]
theorem sN(O:XCl X.mg X.base y C)(acc:Acc X C Ww)(hc:X.calm=true)(hg:Gl X y)(ha:GX X.nox (e::es) fs)(C4:(y==("__debug__" : Str))=false:=by decide)
  (he:starEach (e::es) X.env=(false,eval e X.env)::starEach es X.env:=by rfl) (Dl:(backTo Cy (starEach es X.env)).any (·.1)=false:=by rfl):
  QX X (.Raise (some (.Call (.Name y np) (e::es) [] Cy)) none pos::F9) (qC fs) Ww:=pR (rY O acc hc hg (xX ha) C4 he Dl) fun σ H B1=>by
 obtain⟨G,env,fp,rel,e,k⟩:=B1;unfold qC at e;match q:fs env,e with
 | .ok (os,BW),e=>
  refine⟨G,env,fp,os,BW,rel,q,fun vs H1 G1 Cd B9 BX DQ=>⟨?_,k H1 G1 Cd B9 BX.nilF⟩⟩;rw[nr DQ];have e:decide (os.length<=3)=true:=e;have:=NZ e;rw[line_eq];lia
end
inductive spX(K:W.Frag)(C:Addr)(F:List D->Bool)(vs:List V)(H:Hp)(Q:VK)(E:XK):Prop
 |mk:∀G ds,Same G H->Reps K G ds vs->F ds=true->(∀H' G' BY,Step G H [] G' H' BY->Rel K G' H' [] [] []->E (.ref C) none H')->spX K C F vs H Q E
def iw(np nn:Nat)(x:FB):List D->Bool:=fun ds=>decide (ds.length=np)&&x (ds.map (fun d=>some (O.f,d))++List.replicate nn none)
theorem ny{P:Program}{w:World}{K:W.Frag}{mg:Str->Option Value}{base:Heap}{x:Str}{st:Stmt}{N ps:List Str}{k:Nat}{gx:FB}{C:Addr}(Df:Def K mg x st)(sc:FnScope N ps (defScope st))
  (hb:∀(kV doc pm:Value) (an:Option Addr) (Cg ct:Value) (us:List Value),us.length=ps.length->bindArgs (PySem.W.fnOf x x (dv st) (bZ st) (defScope st) .none kV doc pm an Cg ct) ⟨us,[]⟩=pure (ps.zip us))
  (body:∀(f:Addr) (Cg:Value) (A:Around) (outer:List PySem.Env) (s:Shared) (H:Hp) (E:XK),Room k (A.deeper (envOfC x (defScope st) s.heap.objs.size f Cg))->QX (nX (HR P w base C) P w K mg base N x (defScope st) f Cg A outer s H E) (bZ st) gx (fun H'=>E (.ref C) none H')):
  CtX P w K mg base x (k+1) C (spX K C (iw ps.length (N.length-ps.length) gx)):=by
 obtain⟨f,fd,F,m⟩:=Df;refine⟨f,fd,ps,vm F sc (fun vs H Q E h=>?_) (fun Cg A outer s H vs Q E hr h=>?_),m,F.kp,F.binds hb⟩
 ·obtain⟨G,ds,_,rs,e,_⟩:=h;unfold iw at e;have:=NZ ((MG _ _).mp e).1;rw[rs.length,this]
 ·obtain⟨G,ds,gh,rs,e,q⟩:=h;unfold iw at e;have hl:=NZ ((MG _ _).mp e).1;have e:=((MG _ _).mp e).2;refine⟨_,body f Cg A outer s H E hr,G,ds.map (fun d=>some (O.f,d))++List.replicate (N.length-ps.length) none,[],⟨?_,Ov,(fun _ h=>nomatch h),gh⟩,e,q⟩;have:=fG (K:=K) (G:=G) (H:=H) (N.length-ps.length) rs;unfold L2.gM;rw[rs.length,hl];exact this
abbrev FXE:=PV.Env->Option PV.Env
inductive tQX(K:W.Frag)(x:FXE)(σ:L2.St)(H:Hp)(Ww:Hp->Prop):Prop
 |mk:∀G env fp env',Rel K G H env σ fp->x env=some env'->(∀H' G' BY,Step G H fp G' H' BY->Rel K G' H' env' σ BY->Ww H')->tQX K x σ H Ww
def lN(F:List D->Bool)(fs:C6):FXE:=fun env=>match fs env with
 | .ok (os,e)=>match hX e os with
  | .ok ds=>if F ds then some e else none
  |_=>none
 |_=>none
def Lv(X:Cx)(e:Expr)(C:Addr)(x:FXE):Prop:=KC X e C (tQX X.K x)
def Jt(X:Cx)(st:List Stmt)(C:Addr)(x:FXE):Prop:=PSX X st C (tQX X.K x)
section
variable{md:Mode}{X:Cx}{x:Str}{p pos:Pos}{e a b:Expr}{es:List Expr}{C:Addr}{F:List D->Bool}{fs:C6}{k:Nat}{xe:FXE}{ck:List Stmt}
theorem gf(c:CtX X.prog X.w X.K X.mg X.base x k C (spX X.K C F))(hr:Room k X.A)(hg:Gl X x)(ha:GX X.nox (e::es) fs)(C4:(x==("__debug__" : Str))=false:=by decide)
  (he:starEach (e::es) X.env=(false,eval e X.env)::starEach es X.env:=by rfl) (Dl:(backTo pos (starEach es X.env)).any (·.1)=false:=by rfl):Lv X (.Call (.Name x p) (e::es) [] pos) C (lN F fs):=
 fun pr s σ H Ww I ⟨G,env,fp,env',rel,e,kk⟩=>rZ c hr hg ha C4 he Dl pr s σ H Ww I (by
  unfold lN at e;match q:fs env,e with
  | .ok (os,e1),e=>
   dsimp only at e;match q2:hX e1 os,e with
   | .ok ds,e=>
    dsimp only at e;split at e
    ·rename_i hF;cases e;refine⟨G,env,fp,os,_,rel,q,fun vs H1 G1 Cd B9 BX DQ=>?_⟩;obtain⟨G2,JV,JW,EM,_,EN⟩:=BX.lend;refine⟨G2,ds,JW,hZ JV EM DQ q2,hF,fun H' G' BY st Cq=>?_⟩;obtain⟨k1,_⟩:=EN H' G' [] (.f,.non) .non (st.trans (Step.cut fun _ h=>nomatch h)) (Cq.push jF);obtain⟨G3,EI,CI,Cv⟩:=k1 rfl;obtain⟨fq,C5,DU⟩:=Cv.drop;exact kk H' G3 fq (B9.trans (CI.trans DU)) C5
    ·cases e)
theorem jR(h:Lv X e C xe)(hs:swapsWith e none pos.line X.env=pure false:=by rfl):Jt X (.Expr e pos::ck) C xe:=r6 h hs
end
section
variable{X:Cx}{x:Str}{p pos:Pos}{e:Expr}{es:List Expr}{fs:C6}
end
section
variable{X:Cx}{x:Str}{p pos:Pos}{e:Expr}{es:List Expr}{f0:FX}{fs:C6}
end
end PV
namespace NX
open PySem PySem.Spec PyProof.Rows L2
end NX
namespace PV
open PySem PySem.Spec PyProof.Rows L2 NX
section
variable{K:W.Frag}{G H:Hp}{es:PV.Env}{vs:L2.St}{fp:List Addr}
end
section
variable{md:Mode}{X:Cx}
end
section
variable{X:Cx}
end
def lendR(i:Nat)(J:List Nat)(g:FS):FS:=fun env=>match g env with
 | .ok (.rt r)=>.ok (.rt r)
 |_=>qx i J g env
theorem sO{X:Cx}{md:Mode}{i:Nat}{J:List Nat}{st:Stmt}{g:FS}(h:QS (md:=md) X st g):QS (md:=md) X st (lendR i J g):=fun pr s σ H Dd I B1=>by
 obtain⟨G,env,fp,rel,k⟩:=B1;unfold lendR at k;split at k
 ·rename_i r e;exact h pr s σ H Dd I ⟨G,env,fp,rel,by rw[e];exact k⟩
 ·exact vO h pr s σ H Dd I ⟨G,env,fp,rel,k⟩
end PV
namespace NX
open PySem PySem.Spec PyProof.Rows L2
section
variable{X:Cx}
end
end NX
namespace PV
open PySem PySem.Spec PyProof.Rows L2 NX
section
variable{X:Cx}
end
inductive Ext:Hp->Hp->Prop
 |refl {H:Hp}:Ext H H
 |new {H H1:Hp}{p:Addr}{xs:List V}:Ext H H1->H1 p=none->Ext H (upd H1 p (.tup xs))
theorem Ext.trans{H H1 H2:Hp}(a:Ext H H1)(b:Ext H1 H2):Ext H H2:=by
 induction b with
 |refl=>exact a
 |new _ hp ih=>exact .new ih hp
inductive BExp where
 |con (b:Bool)|var (j:Nat)|not (x:BExp)|and (x y:BExp)
abbrev Kn:=List (Nat×Bool)
def Ju(kn:Kn):BExp->Option Bool
 | .con b=>some b
 | .var j=>kn.lookup j
 | .not x=>(Ju kn x).map (!·)
 | .and x y=>(Ju kn x).bind fun b=>if b=true then Ju kn y else some false
def l8(kn:Kn)(σ:L2.St):Prop:=∀j b,kn.lookup j=some b->σ[j]?=some (some (.bl b))
inductive tBE(i:Nat)(a:Addr)(x:BExp)(σ:L2.St)(H:Hp)(Q:VK):Prop
 |mk:∀kn b,σ[i]?=some (some (.ref a))->l8 kn σ->Ju kn x=some b->(∀H',Ext H H'->Q (.bl b) H')->tBE i a x σ H Q
def BE(X:Cx)(e:Expr)(i:Nat)(a:Addr)(x:BExp):Prop:=PE X e (tBE i a x)
section
variable{X:Cx}{a:Addr}{o:Obj}{i:Nat}{e b:Expr}{ck:List Expr}{x y:BExp}{pos p q:Pos}{n:Str}
theorem qD:∀{cs:List Addr}{BR:List Value},Vals (cs.map V.ref) BR->BR=cs.map Value.ref
 |[],_,.nil=>rfl
 |c::cs,_,.cons h r=>by rw[MS,qD r,show _=Value.ref c from h]
theorem nA{C:Addr}{vs:Array Value}(hp:(a,o)∈X.pn)(hc:o.cls=.ref C)(hv:o.data=.fields vs)(k:Asks X.K C):cX X (.builtin "isinstance") (fun xs H Q=>
  (∃c b,xs=[.ref a,.ref c]/\PySem.W.kitOne X.K (.ref C) (.ref c)=some b/\Q (.bl b) H)\/(∃T b,xs=[.ref a,.ty T]/\PySem.W.kitOne X.K (.ref C) (.type T)=some b/\Q (.bl b) H)\/
  ∃(tp:Addr) (cs:List Addr) (b:Bool),xs=[.ref a,.ref tp]/\H tp=some (.tup (cs.map V.ref))/\PySem.W.kitAny X.K (.ref C) (cs.map Value.ref)=some b/\Q (.bl b) H):=by
 intro pr s σ H xs us Q I r h;obtain⟨pa,_⟩:=I.pin (a,o) (MU _ hp);have ex:ExAt a C s.heap:=⟨o,vs,pa,hc,hv⟩
 have fin:∀b,Q (.bl b) H->∀tk,EP X pr σ Q (.bool b) {s with toks:=tk}:=fun b q tk=>⟨.bl b,H,I.tok tk,rfl,q⟩
 rcases h with⟨c,b,rfl,e,q⟩|⟨T,b,rfl,e,q⟩|⟨tp,cs,b,rfl,ht,e,q⟩
 ·obtain⟨u,w',rfl,r1,r2⟩:=pe r;cases(show u=Value.ref a from r1);cases(show w'=Value.ref c from r2);exact NH (lV k) I.kIn ex e (fun z=>nomatch z) (fin b q)
 ·obtain⟨u,w',rfl,r1,r2⟩:=pe r;cases(show u=Value.ref a from r1);cases(show w'=Value.type T from r2);exact NH (lV k) I.kIn ex e (fun z=>nomatch z) (fin b q)
 ·obtain⟨u,w',rfl,r1,r2⟩:=pe r;cases(show u=Value.ref a from r1);cases(show w'=Value.ref tp from r2);obtain⟨_,BR,rv,ot,e1,e2,⟨n,e3⟩,_⟩:=I.hok tp _ ht;cases qD rv;obtain⟨c',d',da',LK⟩:=ot;dsimp only at e2 e3;subst e2;subst e3;exact PySem.W.kia_tup (lV k) I.kIn ex e1 e (fun z=>nomatch z) (fin b q)
inductive Cls(mg:Str->Option Value):List Expr->List Addr->Prop
 |nil:Cls mg [] []
 |cons {x:Str}{p:Pos}{es:List Expr}{c:Addr}{cs:List Addr}:mg x=some (.ref c)->Cls mg es cs->Cls mg (.Name x p::es) (c::cs)
variable{C:Addr}{vs:Array Value}
theorem k7{x:Str}{c:Addr}{b:Bool}(hp:(a,o)∈X.pn)(hc:o.cls=.ref C)(hv:o.data=.fields vs)(k:Asks X.K C)(he:PE X e (oV i))(hg:Gl X "isinstance")(hm:X.mg "isinstance" = none)(J2:Gl X x)(J3:X.mg x=some (.ref c))(hb:PySem.W.kitOne X.K (.ref C) (.ref c)=some b)(C4:(x==("__debug__" : Str))=false:=by decide)
  (hs:starEach [e,.Name x q] X.env=(false,eval e X.env)::starEach [.Name x q] X.env:=by rfl) (GI:starEach [.Name x q] X.env=(false,eval (.Name x q) X.env)::starEach [] X.env:=by rfl) (Dl:(backTo pos (starEach [.Name x q] X.env)).any (·.1)=false:=by rfl):
  BE X (.Call (.Name "isinstance" p) [e,.Name x q] [] pos) i a (.con b):=
 bA (gT (nA hp hc hv k) hg hm dw (cY he (cY (uz (v:=.ref c) J2 J3 rfl C4) g6 GI) hs) (by decide) (by decide) hs Dl) fun σ H Q B1=>by
  obtain⟨kn,c',hi,hk,ev,kk⟩:=B1;cases ev;exact⟨.ref a,hi,.inl ⟨c,b,rfl,hb,kk H .refl⟩⟩
theorem yD{x:Str}{T:String}{b:Bool}(hp:(a,o)∈X.pn)(hc:o.cls=.ref C)(hv:o.data=.fields vs)(k:Asks X.K C)(he:PE X e (oV i))(hg:Gl X "isinstance")(hm:X.mg "isinstance" = none)(J2:Gl X x)(J3:X.mg x=none)(Lo:bootBuiltins x=some (.type T))(hb:PySem.W.kitOne X.K (.ref C) (.type T)=some b)(hn:x≠"__name__":=by decide)(C4:(x==("__debug__" : Str))=false:=by decide)
  (hs:starEach [e,.Name x q] X.env=(false,eval e X.env)::starEach [.Name x q] X.env:=by rfl) (GI:starEach [.Name x q] X.env=(false,eval (.Name x q) X.env)::starEach [] X.env:=by rfl) (Dl:(backTo pos (starEach [.Name x q] X.env)).any (·.1)=false:=by rfl):
  BE X (.Call (.Name "isinstance" p) [e,.Name x q] [] pos) i a (.con b):=
 bA (gT (nA hp hc hv k) hg hm dw (cY he (cY (oW (v:=.ty T) J2 J3 Lo rfl hn C4) g6 GI) hs) (by decide) (by decide) hs Dl) fun σ H Q B1=>by
  obtain⟨kn,c',hi,hk,ev,kk⟩:=B1;cases ev;exact⟨.ref a,hi,.inr (.inl ⟨T,b,rfl,hb,kk H .refl⟩)⟩
def AD(r:List (Nat×Bool))(σ:L2.St):L2.St:=r.foldl (fun σ z=>σ.set z.1 (some (.bl z.2))) σ
end
def setB(r:List (Nat×Bool))(env:PV.Env):PV.Env:=r.foldl (fun env z=>env.set z.1 (some (.f,.bl z.2))) env
theorem nB:∀(r:List (Nat×Bool)) (env:PV.Env),(setB r env).length=env.length
 |[],_=>rfl
 |z::r,env=>by
  show(setB r (env.set z.1 _)).length=_;rw[nB r,Ny]
theorem nC{K:W.Frag}{G H:Hp}{i:Nat}:∀(r:List (Nat×Bool)) {env:PV.Env}{σ:L2.St}{fp:List Addr},Rel K G H env σ fp->env[i]?=some none->(∀z∈r,z.1<env.length/\z.1≠i)->∃BY,Rel K G H (setB r env) (AD r σ) BY/\Step G H fp G H BY/\(setB r env)[i]?=some none
 |[],_,_,fp,rel,hi,_=>⟨fp,rel,.refl,hi⟩
 |z::r,env,σ,fp,rel,hi,h=>by
  obtain⟨h1,h2⟩:=h z My;obtain⟨fq,BU,B0⟩:=(rel.push (bQ z.2)).store h1;obtain⟨BY,Cv,CI,h3⟩:=nC r BU (by rw[M0 h2];exact hi) fun y hy=>by
   rw[Ny];exact h y (MJ _ hy)
  exact⟨BY,Cv,B0.trans CI,h3⟩
section
variable{md:Mode}{X:Cx}{x:Str}{pos:Pos}{C:Addr}{xe:FXE}
end
end PV
namespace PV
open PySem PySem.Spec L2 NX
section
variable{X:Cx}
end
end PV
namespace PV
open PySem PySem.Spec PyProof.Rows L2 NX
section
variable{K:W.Frag}{G H:Hp}
theorem AllO.length{P:D->V->List Addr->Prop}:∀{ds:List D}{xs:List V}{fp:List Addr},AllO P ds xs fp->xs.length=ds.length
 |[],xs,fp,r=>by
  rw[r.1];rfl
 |d'::ds,xs,fp,r=>by
  obtain⟨y,ys,a1,b1,e1,e2,p,r⟩:=r;subst e1;rw[MY,MY,r.length]
end
section
variable{md:Mode}{X:Cx}{scope:Scope}{N:List Str}{tg iter elt:Expr}{ifs:List Expr}{pos:Pos}{fi:FI}{a:FG}{c:FT}{f:FX}
end
section
variable{X:Cx}{x:Str}{p pos Ib:Pos}{e1 e2 e3:Expr}{fo:FO}{fb:FX}
end
section
variable{X:Cx}{x:Str}{p pos p1 p2 q1 q2:Pos}{o o':Expr}{j1 j2:_}
end
section
variable{K:W.Frag}{G H:Hp}
end
section
variable{X:Cx}{a b:Expr}{fa fb:FX}{pos:Pos}
end
section
variable{K:W.Frag}{G H:Hp}
end
section
variable{X:Cx}
end
section
variable{X:Cx}
end
section
variable{K:W.Frag}{G H:Hp}
end
section
variable{X:Cx}{a b:Expr}{fa fb:FX}{pos:Pos}
end
section
variable{md:Mode}{X:Cx}{pos Ib:Pos}
end
section
variable{X:Cx}{C:Addr}{pos:Pos}{ck a b:List Stmt}{ct:Expr}
def oP(c:FT)(x y:FXE):FXE:=fun env=>match c env with
 | .ok (true,e)=>x e
 | .ok (false,e)=>y e
 |_=>none
end
theorem acc_on{P:Program}{w:World}{K:W.Frag}{mg:Str->Option Value}{base:Heap}{N:List Str}{qual:Str}{scope:Scope}{f C:Addr}{cd:Value}{A:Around}{outer:List PySem.Env}{s:Shared}{H:Hp}{E:XK}
  (pr:List (Addr×Obj)) (σ:L2.St) (e:Value) (s':Shared) (h:XP (nX (HR P w base C) P w K mg base N qual scope f cd A outer s H E) pr σ C (fun H'=>E (.ref C) none H') e s'):
  (nX (HR P w base C) P w K mg base N qual scope f cd A outer s H E).xe e s':=by
 obtain⟨s1,H1,I,a,t,B,H',rfl,os,bare,U,hok,F7,hB,hW⟩:=h;have Lj:∀b,b∈CU (envOfC qual scope s.heap.objs.size f cd::outer)->b∈s.heap.objs.size::CU outer:=I.stkSub;have up:∀b,b∈CU outer->b∈CU (envOfC qual scope s.heap.objs.size f cd::outer):=fun b hb=>by
  obtain⟨en,he,hf⟩:=Od.mp hb;exact Od.mpr ⟨en,MJ _ he,hf⟩
 have nl:∀b o,s.heap.get? b=some o->b∉CU outer->b∉CU (envOfC qual scope s.heap.objs.size f cd::outer):=fun b o e n z=>by
  rcases MN.mp (Lj b z) with r|r
  ·exact absurd (MK e) (by rw[r];exact N7 _)
  ·exact n r
 have nt:∀b,H' b≠none->b∉CU (envOfC qual scope s.heap.objs.size f cd::outer):=fun b n z=>by
  obtain⟨_,o,ho,_⟩:=I.stack.mem z;exact n (U.free b o ho (I.stkFree b z) (fun z=>nomatch z))
 refine wpAny_leaves_onW (base:=B) (L:=s.heap.objs.size) I.ok.frames rfl F7 fun h2 Ke sm=>?_
 have k:∀b u,s'.heap.get? b=some u->(H' b≠none\/∃o,s1.heap.get? b=some o)->b∉CU (envOfC qual scope s.heap.objs.size f cd::outer)->h2.get? b=some u:=fun b u q hh n=>Ke.1 b u (hB b u q hh n)
 have sl:∀b u,s'.heap.get? b=some u->b∈CU outer->∃z,h2.get? b=some {u with slots:=z}:=fun b u q n=>by
  obtain⟨_,o,ho,hd⟩:=F7.2.2.1.mem (up b n);rw[q]at ho;cases ho;exact sm b u q hd
 have there:∀b o,s.heap.get? b=some o->∃o1 o2,s1.heap.get? b=some o1/\s'.heap.get? b=some o2:=fun b o q=>by
  obtain⟨o1,e1⟩:=I.base.there b o q (fun z=>nomatch z);obtain⟨o2,e2⟩:=U.there b o1 e1 (fun z=>nomatch z);exact⟨o1,o2,e1,e2⟩
 refine⟨a,t,B,H',rfl,os.trans I.os,bare,⟨fun b o q n hb hx=>?_,fun b o q n hb hx=>?_,fun b o q n hx=>?_,fun b o q hx=>?_,fun c xs q=>U.tups c xs (I.base.tups c xs q),fun c ob xs q=>U.frzs c ob xs (I.base.frzs c ob xs q),fun c ps q=>?_⟩,fun b o e=>?_,Ke,fun b u q hb n=>?_,hW⟩
 ·have e1:=I.base.keep b o q n hb hx;have nb:=nl b o q hb;exact k b o (U.keep b o e1 (I.base.free b o q n hx) nb (fun z=>nomatch z)) (.inr ⟨o,e1⟩) nb
 ·obtain⟨z,e1⟩:=I.base.slot b o q n hb hx;obtain⟨z2,e2⟩:=U.slot b _ e1 (I.base.free b o q n hx) (up b hb) (fun z=>nomatch z);obtain⟨z3,e3⟩:=sl b _ e2 hb;exact⟨z3,e3⟩
 ·obtain⟨o1,e1⟩:=I.base.there b o q hx;exact U.free b o1 e1 (I.base.free b o q n hx) (fun z=>nomatch z)
 ·obtain⟨o1,o2,e1,e2⟩:=there b o q;by_cases hb:b∈CU outer
  ·obtain⟨z,e3⟩:=sl b o2 e2 hb;exact⟨_,e3⟩
  ·exact⟨o2,k b o2 e2 (.inr ⟨o1,e1⟩) (nl b o q hb)⟩
 ·obtain⟨m1,e1⟩:=I.base.tbls c ps q;obtain⟨m2,e2⟩:=U.tbls c _ e1;exact⟨m1++m2,by rw[e2,QM]⟩
 ·refine(hok b o e).stay (fun c u hc q=>?_) (fun _ q=>q) fun _ _ q=>q
  have hn:H' c≠none:=by
   rcases hc with rfl|hc
   ·rw[e];exact fun z=>nomatch z
   ·rw[hc];exact fun z=>nomatch z
  exact k c u q (.inl hn) (nt c hn)
 ·have h1:∃u0,s'.heap.get? b=some u0/\(H' b≠none\/∃o,s1.heap.get? b=some o)/\b∉CU (envOfC qual scope s.heap.objs.size f cd::outer):=by
   rcases hb with hb|⟨o,ho⟩
   ·cases hq:H' b with
    |none=>exact absurd hq hb
    |some ho=>
     obtain⟨u0,e0⟩:=ook_get (hok b ho hq);exact⟨u0,e0,.inl (fun z=>nomatch z),nt b hb⟩
   ·obtain⟨o1,o2,e1,e2⟩:=there b o ho;exact⟨o2,e2,.inr ⟨o1,e1⟩,nl b o ho n⟩
  obtain⟨u0,e0,hh,n0⟩:=h1;have:=k b u0 e0 hh n0;rw[show h2.get? b=some u from q]at this;cases this;exact hB b _ e0 hh n0
section
variable{X:Cx}{x y:Str}{p pos pos' Cy:Pos}{e:Expr}{es:List Expr}{C:Addr}{F:List D->Bool}{fs:C6}{k:Nat}{ck:List Stmt}{Ww:Hp->Prop}
end
section
variable{X:Cx}{a:Addr}{i j jc:Nat}{x1 x2:BExp}{e1 e2 vc:Expr}{n nc:Str}{pos pos1 Fy pos' pos'' bp p:Pos}
end
section
variable{md:Mode}{X:Cx}{x:Str}{pos:Pos}{C:Addr}{xe:FXE}
end
section
variable{X:Cx}
end
section
variable{K:W.Frag}{G H:Hp}
end
section
variable{X:Cx}{pos:Pos}
end
end PV
namespace NX
namespace ST
end ST
end NX
namespace PV
open PySem PySem.Spec PyProof.Rows L2 NX
section
variable{X:Cx}{e:Expr}{fs:C6}{p p2 pos Fy:Pos}
end
section
variable{X:Cx}{e:Expr}{fs:C6}{p p2 pos Fy:Pos}
end
def xOf(xe:FXE):FB:=fun env=>(xe env).isSome
section
variable{X:Cx}{ck:List Stmt}{xe:FXE}{e a b:Expr}{C:Addr}{pos p:Pos}{Ww:Hp->Prop}
theorem yE{σ:L2.St}{H:Hp}(h:tX X.K (xOf xe) Ww σ H):tQX X.K xe σ H Ww:=by
 obtain⟨G,env,fp,rel,e,k⟩:=h;obtain⟨env',e'⟩:=NB.mp e;exact⟨G,env,fp,env',rel,e',fun H' G' BY st r=>k H' G' BY st r.nilF⟩
end
inductive Ext2:Hp->Hp->Prop
 |refl {H:Hp}:Ext2 H H
 |tup {H H1:Hp}{p:Addr}{xs:List V}:Ext2 H H1->H1 p=none->Ext2 H (upd H1 p (.tup xs))
 |lst {H H1:Hp}{p:Addr}{bs:List Bool}:Ext2 H H1->H1 p=none->Ext2 H (upd H1 p (.lst (bs.map V.bl)))
theorem Ext2.trans{H H1 H2:Hp}(a:Ext2 H H1)(b:Ext2 H1 H2):Ext2 H H2:=by
 induction b with
 |refl=>exact a
 |tup _ hp ih=>exact .tup ih hp
 |lst _ hp ih=>exact .lst ih hp
theorem Ext.to2{H H1:Hp}(a:Ext H H1):Ext2 H H1:=by
 induction a with
 |refl=>exact .refl
 |new _ hp ih=>exact .tup ih hp
theorem jS{K:W.Frag}{G:Hp}:∀bs:List Bool,Reps K G (bs.map D.bl) (bs.map V.bl)
 |[]=>.nil
 |b::bs=>.cons (bQ b) (jS bs)
theorem Ext2.rel{K:W.Frag}{G H H':Hp}{env:PV.Env}{σ:L2.St}{fp:List Addr}(e:Ext2 H H')(r:Rel K G H env σ fp):∃G' BY,Rel K G' H' env σ BY/\Step G H fp G' H' BY:=by
 induction e with
 |refl=>exact⟨G,fp,r,.refl⟩
 |tup _ hp ih=>
  obtain⟨G1,Cd,r1,s1⟩:=ih;obtain⟨r2,s2⟩:=r1.newF hp;exact⟨_,_,r2,s1.trans s2⟩
 |lst _ hp ih=>
  obtain⟨G1,Cd,r1,s1⟩:=ih;obtain⟨r2,s2⟩:=r1.newL hp (jS _);obtain⟨b,r3,s3⟩:=r2.drop;exact⟨_,_,r3,s1.trans (s2.trans s3)⟩
def vQ(kn:Kn):List BExp->Option (List Bool)
 |[]=>some []
 |x::xs=>(Ju kn x).bind fun b=>(vQ kn xs).map (b:: ·)
inductive tBs(i:Nat)(a:Addr)(xs:List BExp)(σ:L2.St)(H:Hp)(Q:List V->Hp->Prop):Prop
 |mk:∀kn bs,σ[i]?=some (some (.ref a))->l8 kn σ->vQ kn xs=some bs->(∀H',Ext H H'->Q (bs.map V.bl) H')->tBs i a xs σ H Q
section
variable{X:Cx}{a:Addr}{i j:Nat}{e:Expr}{es:List Expr}{x:BExp}{xs:List BExp}{pos p q Hd:Pos}{n:Str}
def PB(X:Cx)(es:List Expr)(i:Nat)(a:Addr)(xs:List BExp):Prop:=PA X es (tBs i a xs)
theorem qE:PB X [] i a []:=i4 g6 fun σ H Q B1=>by
 obtain⟨kn,bs,hi,hk,ev,k⟩:=B1;cases ev;exact k H .refl
theorem dD(h:BE X e i a x)(hr:PB X es i a xs)(hs:starEach (e::es) X.env=(false,eval e X.env)::starEach es X.env:=by rfl):PB X (e::es) i a (x::xs):=i4 (cY h hr hs) fun σ H Q B1=>by
 obtain⟨kn,bs,hi,hk,ev,k⟩:=B1;unfold vQ at ev;obtain⟨b,e1,ev⟩:=NG.mp ev;obtain⟨bs',e2,ev⟩:=Nw.mp ev;subst ev;exact⟨kn,b,hi,hk,e1,fun H1 x1=>⟨kn,bs',hi,hk,e2,fun H2 x2=>k H2 (x1.trans x2)⟩⟩
theorem Ext.keep{H H':Hp}{z:Addr}{u:HO}(e:Ext H H')(h:H z=some u):H' z=some u:=by
 induction e with
 |refl=>exact h
 |new _ hp ih=>
  rw[aJ (fun q=>by rw[q,hp]at ih;cases ih)];exact ih
def oy(kn:Kn):List Bool->List (List BExp)->Option (List Bool)
 |bs,[]=>some bs
 |bs,xs::XS=>(vQ kn xs).bind fun cs=>if bs.length+cs.length<=1000 then oy kn (bs++cs) XS else none
theorem qF{kn:Kn}{σ:L2.St}{y:Option V}(h:l8 kn σ)(hj:kn.lookup j=none):l8 kn (σ.set j y):=fun j' b z=>by
 have:j≠j':=fun q=>by rw[<-q,hj]at z;cases z
 rw[M0 this];exact h j' b z
inductive tAL(i:Nat)(a:Addr)(j:Nat)(XS:List (List BExp))(D:Ends)(σ:L2.St)(H:Hp):Prop
 |mk:∀kn bs tot H0 Hc p σ0,Ext2 H0 Hc->Hc p=none->H=upd Hc p (.lst (bs.map V.bl))->σ=σ0.set j (some (.ref p))->j<σ0.length->i≠j->σ0[i]?=some (some (.ref a))->l8 kn σ0->kn.lookup j=none->oy kn bs XS=some tot->
   (∀Hc p,Ext2 H0 Hc->Hc p=none->D.nx (σ0.set j (some (.ref p))) (upd Hc p (.lst (tot.map V.bl))))->tAL i a j XS D σ H
def KP(X:Cx)(st:List Stmt)(i:Nat)(a:Addr)(j:Nat)(XS:List (List BExp)):Prop:=PSs X st (tAL i a j XS)
theorem vR:KP X [] i a j []:=jD oX fun D σ H B1=>by
 obtain⟨kn,bs,tot,H0,Hc,p,σ0,e0,hp,eH,es,hl,EG,hi,hk,hj,ev,k⟩:=B1;cases ev;subst eH es;exact k Hc p e0 hp
theorem jT{n:Nat}(h:n<=1000):n<=sizeLine:=M4 h (by rw[line_eq];decide)
theorem nE{pos' Kf:Pos}{XS:List (List BExp)}{F9:List Stmt}(hN:X.N.Nodup)(hj:X.N[j]?=some n)(hx:Loc X.env.scope n)(hv:PE X e (oV j))(hb:PB X es i a xs)(h:KP X F9 i a j XS)
  (hs:swapsWith (.BinOp e .Add (.List es Hd) Kf) (some (.Name n pos')) pos.line X.env=pure false:=by rfl) (hf:X.fn n=true\/X.env.scope.names.lookup n=some .local:=by first|exact .inl rfl|exact .inr rfl|assumption):
  KP X (.Assign [.Name n pos'] (.BinOp e .Add (.List es Hd) Kf) pos::F9) i a j (xs::XS):=fun pr s σ H D I B1=>by
 obtain⟨kn,bs,tot,H0,Hc,p,σ0,e0,hp,eH,eσ,hl,EG,hi,hk,HU,ev,k⟩:=B1;unfold oy at ev;obtain⟨cs,e1,ev⟩:=NG.mp ev;split at ev;case isFalse=>cases ev
 rename_i hlen;subst eH eσ;refine jq (oY (i:=j) hN hj hx (xt qf hv (pf hb)) hs hf) h pr s _ _ D I ⟨.ref p,MW hl,kn,cs,by rw[M0 (N2 EG)];exact hi,qF hk HU,e1,fun H1 x1=>⟨by rw[MA];exact jT (by lia),fun q1 Mg=>?_⟩⟩;have Lw:H1 p=some (.lst (bs.map V.bl)):=x1.keep br;have EK:p≠q1:=fun q=>by rw[q,Mg]at Lw;cases Lw
 refine .mk p q1 (bs.map V.bl) (cs.map V.bl) rfl rfl (SqL.of (by rw[aJ EK];exact Lw)) (SqL.of br) (by rw[MA,MA];exact jT hlen) fun q2 hq2=>?_
 refine⟨kn,bs++cs,tot,H0,upd H1 q1 (.lst (cs.map V.bl)),q2,σ0,(((e0.lst hp).trans x1.to2).lst Mg),hq2,by rw[Nk],by rw[Oo],hl,EG,hi,hk,HU,ev,k⟩
inductive tBL(i:Nat)(a:Addr)(j:Nat)(xs:List BExp)(XS:List (List BExp))(D:Ends)(σ:L2.St)(H:Hp):Prop
 |mk:∀kn bs tot,j<σ.length->i≠j->σ[i]?=some (some (.ref a))->l8 kn σ->kn.lookup j=none->vQ kn xs=some bs->bs.length<=1000->oy kn bs XS=some tot->
   (∀Hc p,Ext2 H Hc->Hc p=none->D.nx (σ.set j (some (.ref p))) (upd Hc p (.lst (tot.map V.bl))))->tBL i a j xs XS D σ H
theorem vS{pos':Pos}{XS:List (List BExp)}{F9:List Stmt}(hN:X.N.Nodup)(hj:X.N[j]?=some n)(hx:Loc X.env.scope n)(hb:PB X es i a xs)(h:KP X F9 i a j XS)
  (hs:swapsWith (.List es Hd) (some (.Name n pos')) pos.line X.env=pure false:=by rfl) (hf:X.fn n=true\/X.env.scope.names.lookup n=some .local:=by first|exact .inl rfl|exact .inr rfl|assumption):
  PSs X (.Assign [.Name n pos'] (.List es Hd) pos::F9) (tBL i a j xs XS):=fun pr s σ H D I ⟨kn,bs,tot,hl,EG,hi,hk,HU,e1,hlen,ev,k⟩=>
 jq (oY (i:=j) hN hj hx (pf hb) hs hf) h pr s σ H D I ⟨kn,bs,hi,hk,e1,fun H1 x1=>⟨by rw[MA];exact jT hlen,fun p hp=>⟨kn,bs,tot,H,H1,p,σ,x1.to2,hp,rfl,rfl,hl,EG,hi,hk,HU,ev,k⟩⟩⟩
def vT:List (Nat×BExp)->Kn->Option (List (Nat×Bool)×Kn)
 |[],kn=>some ([],kn)
 |(j,x)::L,kn=>(Ju kn x).bind fun b=>(vT L ((j,b)::kn)).map fun r=>((j,b)::r.1,r.2)
inductive tS2(i:Nat)(a:Addr)(L:List (Nat×BExp))(j:Nat)(xs:List BExp)(XS:List (List BExp))(D:Ends)(σ:L2.St)(H:Hp):Prop
 |mk:∀kn r Gk bs tot,j<σ.length->i≠j->σ[i]?=some (some (.ref a))->l8 kn σ->vT L kn=some (r,Gk)->Gk.lookup j=none->vQ Gk xs=some bs->bs.length<=1000->oy Gk bs XS=some tot->
   (∀Hc p,Ext2 H Hc->Hc p=none->D.nx ((AD r σ).set j (some (.ref p))) (upd Hc p (.lst (tot.map V.bl))))->tS2 i a L j xs XS D σ H
def Mh(X:Cx)(st:List Stmt)(i:Nat)(a:Addr)(L:List (Nat×BExp))(j:Nat)(xs:List BExp)(XS:List (List BExp)):Prop:=PSs X st (tS2 i a L j xs XS)
theorem vU{st:List Stmt}{XS:List (List BExp)}(h:PSs X st (tBL i a j xs XS)):Mh X st i a [] j xs XS:=jD h fun D σ H B1=>by
 obtain⟨kn,r,Gk,bs,tot,hl,EG,hi,hk,e,HU,e1,hlen,ev,k⟩:=B1;cases e;exact⟨kn,bs,tot,hl,EG,hi,hk,HU,e1,hlen,ev,k⟩
end
noncomputable def sTryL(i:Nat)(x:FXE)(g:FS)(r:List (Nat×Bool))(j:Nat)(tot:List Bool):FS:=fun env=>match x env with
 |some e=>match e[i]? with
  |some none=>if((r.all fun z=>decide (z.1<e.length) && !(z.1==i))&&decide (j<e.length) && !(j==i))=true then .ok (.nx ((setB r e).set j (some (.l .f,.lst (tot.map D.bl))))) else .bad
  |_=>.bad
 |none=>g env
section
variable{md:Mode}{X:Cx}{x:Str}{pos:Pos}{C:Addr}{xe:FXE}
end
end PV
namespace NX
open PySem PySem.Spec PyProof.Rows L2
section
variable{X:Cx}{ck a:List Stmt}{tx ta tb:TX}{tc:TT}{e ct:Expr}{C:Addr}{pos p:Pos}{Ww:Hp->Prop}
theorem vV(acc:∀pr σ e s',XP X pr σ C Ww e s'->X.xe e s')(h:KC X e C tx)(hs:swapsWith e none pos.line X.env=pure false:=by rfl):PX X (.Expr e pos::ck) (fun σ H=>tx σ H Ww):=fun pr s σ H I z=>
 N3 (Qv (Nv (h pr s σ H Ww I z) (fun _ _ z=>z.elim) fun v s' z=>acc pr σ v s' z) I.quiet hs)
theorem vW(hc:PT X.nox ct tc)(ha:PSX X a C ta)(hr:PSX X ck C tb):PSX X (.If ct a [] pos::ck) C (fun σ H Ww=>tc σ H fun bb H1=>if bb=true then ta σ H1 Ww else tb σ H1 Ww):=by
 intro pr s σ H Ww I h;refine N3 (wpAny_If (Nv (hc pr s σ H _ (I.wish _) h) (fun d s1 ⟨H1,I1,q⟩=>?_) fun _ _ z=>z.elim));have I1:=I1.unwish;cases d with
 |true=>exact Nv (ha pr s1 σ H1 Ww I1 q) (fun _ _ z=>z.elim) fun _ _ z=>z
 |false=>exact OE (hr pr s1 σ H1 Ww I1 q)
end
end NX
namespace PV
open PySem PySem.Spec PyProof.Rows L2 NX
section
variable{md:Mode}{X:Cx}{x:Str}{pos:Pos}{C:Addr}{xe:FXE}{ck a:List Stmt}{e ct:Expr}{Ww:Hp->Prop}
theorem l9(acc:∀pr σ e s',XP X pr σ C Ww e s'->X.xe e s')(h:Lv X e C xe)(hs:swapsWith e none pos.line X.env=pure false:=by rfl):QX X (.Expr e pos::ck) (xOf xe) Ww:=pR (vV acc h hs) fun _ _ z=>yE z
theorem ma{c:FT}{x y:FXE}(hc:QT X.nox ct c)(ha:Jt X a C x)(hr:Jt X ck C y):Jt X (.If ct a [] pos::ck) C (oP c x y):=fun pr s σ H Ww I ⟨G,env,fp,env',rel,e,kk⟩=>vW hc ha hr pr s σ H Ww I (by
 unfold oP at e;match q:c env,e with
 | .ok (true,e1),e=>exact⟨G,env,fp,true,e1,rel,q,fun H1 G1 Cd B9 BX=>xJ ⟨G1,e1,Cd,env',BX,e,fun H' G' BY st Cq=>kk H' G' BY (B9.trans st) Cq⟩⟩
 | .ok (false,e1),e=>exact⟨G,env,fp,false,e1,rel,q,fun H1 G1 Cd B9 BX=>iteF ⟨G1,e1,Cd,env',BX,e,fun H' G' BY st Cq=>kk H' G' BY (B9.trans st) Cq⟩⟩)
theorem jU{st:List Stmt}:F8 (md:=md) X st h9:=fun pr s σ H D I ⟨G,env,fp,rel,kk⟩=>kk.elim
theorem vX:Jt X [] C (fun _=>none):=fun pr s σ H Ww I ⟨G,env,fp,env',rel,e,kk⟩=>nomatch e
theorem sP{body EL:List Stmt}{b0:Stmt}{np GW:Pos}{g:FS}{n:Str}{i j:Nat}{L:List (Nat×BExp)}{xs:List BExp}{XS:List (List BExp)}{r:List (Nat×Bool)}{Gk:Kn}{bs tot:List Bool}{P:Addr}(O:XCl X.mg X.base x P)(up:PySem.W.mroIn X.K C (.ref P)=some true)(hg:Gl X x)(hn:F8 (md:=md) X.nox body g)(hx:Jt X body C xe)
  (hh:∀a o vs,o.cls=.ref C->o.data=.fields vs->Mh (asX X a o) (b0::EL) i a L j xs XS) (hL:vT L []=some (r,Gk)) (HU:Gk.lookup j=none) (hb:vQ Gk xs=some bs) (hlen:bs.length<=1000) (hT:oy Gk bs XS=some tot) (hN:X.N.Nodup) (hi:X.N[i]?=some n) (hl:X.env.kindOf n=some .local) (Jp:X.env.scope.names.lookup n=some .local)
  (hs:X.stack=X.env::X.outer:=by rfl) (hf:X.env.frame=some X.env.locals:=by rfl) (C4:(x==("__debug__" : Str))=false:=by decide):
  QS (md:=md) X (.Try body [.ExceptHandler (some (.Name x np)) (some n) (b0::EL) GW] [] [] pos) (sTryL i xe g r j tot):=eN (ps_tryUp (t:=tQS (md:=md) X.K g) (th:=fun a=>tS2 i a L j xs XS) (tx:=tQX X.K xe) O up hg hn hx (fun a o vs h1 h2=>hh a o vs h1 h2) hN hi hl Jp hs hf C4) fun D σ H B1=>by
 obtain⟨G,env,fp,rel,kk⟩:=B1;unfold sTryL at kk;cases q:xe env with
 |none=>
  rw[q]at kk;exact .inl ⟨G,env,fp,rel,kk⟩
 |some e=>
  rw[q]at kk;dsimp only at kk;split at kk
  ·rename_i c1;split at kk;case isFalse=>exact kk.elim
   rename_i c2;rw[MG,MG,ME]at c2;obtain⟨⟨c2,c3⟩,c4⟩:=c2;have c4:j≠i:=by simpa using c4
   refine .inr ⟨G,env,fp,e,rel,q,fun H' G' BY st Cq a=>?_⟩;have hlen':=Cq.rep.length;have Jr:i<e.length:=(MF.mp c1).1;refine⟨[],r,Gk,bs,tot,by rw[Ny];lia,N2 c4,MW (by lia),(fun j b z=>by cases z),hL,HU,hb,hlen,hT,fun Hc p x2 hp=>?_⟩;obtain⟨G2,C0,BU,B0⟩:=x2.rel (Cq.any (y:=some (.ref a)) (.inl c1));obtain⟨fq,Cv,CI,h3⟩:=nC (i:=i) r BU c1 fun z hz=>by
    have:=M3.mp c2 z hz;rw[MG,ME]at this;exact⟨this.1,by simpa using this.2⟩
   obtain⟨C5,DU⟩:=Cv.newL hp (jS tot);obtain⟨fz,Dt,D1⟩:=C5.store (i:=j) (by rw[nB];exact c3);exact kk _ _ G2 fz (st.trans (B0.trans (CI.trans (DU.trans D1)))) (Dt.any (y:=none) (.inl (by rw[M0 c4];exact h3)))
  ·exact kk.elim
end
end PV
namespace LW
open PySem L2 NX PV
abbrev oQ(f:FX):FI:=Fo (ya f) (Fo (qb f) (qd f))
def iy:FS:=(gy (aF cR (av (aA (.int 1))) (av (kO (fI (oQ (aF Cj (au 0) (av (aA (.int 1))))) [none,none,none] (om 3 (aW (aK 0) (aW (aK 1) (aW (aK 2) gQ)))) sx (cz maxD (ai (au 0) (ai (au 2) aI)))) (aA (.int 0))))))
def aZ:List D->Res R:=fBody 1 0 iy
def k8:FS:=(gy (fI (oQ (aF Cj (au 0) (av (aA (.int 1))))) [none,none,none,some 1,some 2] (om 3 (aW (aK 0) (aW (aK 1) (aW (aK 2) gQ)))) (zW (CP (bY DH (au 0) (au 3))) (CP (bY DH (au 1) (au 4)))) (bJ 2)))
def dq:List D->Res R:=fBody 3 0 k8
def jb:FS:=(gy (aF JX (av (cz jP (ai (av (e8 dq (ai (au 0) (ai (au 1) (ai (au 2) aI))))) aI))) (av (aA (.int 0)))))
def bV:List D->Res R:=fBody 3 0 jb
def cA:FS:=(jG (ud 1 (dk (ah (aA (.str [112,97,105,114])) (ah (bJ 2) (ah (bJ 3) aR))))))
def gE:FS:=(lK (jH (ai (av (aF cR (au 2) (av (aA (.int 1))))) (ai (av (e8 aZ (ai (au 0) aI))) aI))) (aK 3)
  cA)
def cB:FS:=gE
def dX:FS:=(lK (b6 (av (e8 aZ (ai (au 0) aI)))) (aK 2)
  cB)
def fP:FS:=(gy (lW 1))
def jd:FS:=(sSeq (cC 1 (j9 aR))
  (sSeq dX
  fP))
def cD:List D->Res R:=fBody 1 3 jd
def cU:FS:=(EY (p5 (CP (e8 bV (ai (au 0) (ai (au 2) (ai (au 3) aI))))))
  (jG (ud 1 (dk (ah (aA (.str [103,97,112])) (ah (bJ 2) (ah (bJ 3) aR))))))
  e9)
def iz:FS:=(lK (oQ (aF Cj (au 0) (av (aA (.int 0))))) (aK 3)
  cU)
def cV:FS:=iz
def ft:FS:=(lK (b6 (av (e8 aZ (ai (au 0) aI)))) (aK 2)
  cV)
def gF:FS:=(gy (lW 1))
def k9:FS:=(sSeq (cC 1 (j9 aR))
  (sSeq ft
  gF))
def dt:List D->Res R:=fBody 1 3 k9
def je:FS:=(gy (aF cR (av (e8 cD (ai (au 0) aI))) (av (e8 dt (ai (au 0) aI)))))
def cf:List D->Res R:=fBody 1 0 je
def dE:FS:=(gy (tZ (Hb "int" (au 1)) (tZ (zg (Hb "bool" (au 1))) (m3 KJ Gh (av (aA (.int 0))) (au 1) (av (e8 aZ (ai (au 0) aI)))))))
def aE:List D->Res R:=fBody 2 0 dE
noncomputable def cI:FS:=(sSeq (EY (HS (p5 (CP (Hb "tuple" (au 1)))) (HS (CP (bY Fz (av (cz jP (ai (au 1) aI))) (av (aA (.int 3))))) (p5 (CP (e8 aE (ai (au 0) (ai (av (aF Cj (au 1) (av (aA (.int 1))))) aI)))))))
  (gy (aA (.bl false)))
  e9)
  (sSeq (EY (CP (bY DH (av (aF Cj (au 1) (av (aA (.int 0))))) (av (aA (.str [112,97,105,114])))))
  (gy (tZ (e8 aE (ai (au 0) (ai (av (aF Cj (au 1) (av (aA (.int 2))))) aI))) (aF Gh (av (aF Cj (au 1) (av (aA (.int 1))))) (av (aF Cj (au 1) (av (aA (.int 2))))))))
  e9)
  (gy (tZ (bY DH (av (aF Cj (au 1) (av (aA (.int 0))))) (av (aA (.str [103,97,112])))) (tZ (bY Ka (av (aF Cj (au 1) (av (aA (.int 2))))) (av (aF Cj (au 0) (av (aA (.int 0)))))) (zg (e8 bV (ai (au 0) (ai (av (aF Cj (au 1) (av (aA (.int 1))))) (ai (av (aF Cj (au 1) (av (aA (.int 2))))) aI))))))))))
def bc:List D->Res R:=fBody 2 0 cI
def lb:FS:=(EY (p5 (CP (e8 bc (ai (au 0) (ai (au 1) aI)))))
  h9
  e9)
def gH:List D->Res R:=fBody 2 0 lb
def aQ:List D->Bool:=iw 2 0 (Kd (p5 (CP (e8 bc (ai (au 0) (ai (au 1) aI))))) (qC (ai (av (aA (.str [116,104,105,115,32,105,115,32,110,111,32,99,97,115,101,32,111,102,32,116,104,101,32,99,104,97,114,116]))) aI)))
def sQ:FS:=h9
def nF:List D->Res R:=fBody 3 1 sQ
def eI:List D->Bool:=iw 3 1 (xOf (lN aQ (ai (au 0) (ai (au 2) aI))))
def sR:FS:=h9
def nG:List D->Res R:=fBody 2 0 sR
def eJ:List D->Bool:=iw 2 0 (xOf (lN aQ (ai (au 0) (ai (au 1) aI))))
def oz:FS:=h9
def jg:List D->Res R:=fBody 4 4 oz
def cE:List D->Bool:=iw 4 4 (xOf (lN aQ (ai (au 0) (ai (au 1) aI))))
def eQ:FS:=(sSeq (EY (CP (aF Gh (au 1) (av (cz jP (ai (au 0) aI)))))
  (gy (aF Cj (au 0) (au 1)))
  e9)
  (gy (aA (.int 0))))
def ay:List D->Res R:=fBody 2 0 eQ
noncomputable def cq:FS:=(sSeq (cC 3 (aF dR (av (aF cR (av (aF cR (av (aF cR (av (aF ox (au 3) (au 3))) (av (aF ox (av (aA (.int 69069))) (au 3))))) (av (aF ox (av (aA (.int 5))) (au 4))))) (av (aA (.int 1))))) (av (aA (.int 2147483629)))))
  (jG (ud 2 (aF cQ (au 3) (av (aA (.int 16)))))))
def dY:FS:=(lK (b6 (au 1)) (aK 4)
  cq)
def dN:FS:=(gy (lW 2))
def fQ:FS:=(sSeq (cC 2 (j9 aR))
  (sSeq (cC 3 (aF cR (av (aF dR (au 0) (av (aA (.int 2147483629))))) (av (aA (.int 7)))))
  (sSeq dY
  dN)))
def aM:List D->Res R:=fBody 2 3 fQ
noncomputable def b7:FS:=(sSeq (cC 9 (aF cR (av (aF cQ (au 0) (av (aF cR (au 8) (av (aA (.int 64))))))) (av (aF ox (au 8) (au 8)))))
  (sSeq (EY (CP (bY DH (au 8) (au 4)))
  (cC 9 (aF cR (au 9) (au 6)))
  e9)
  (cC 7 (aF cR (au 7) (av (aF Cj (au 2) (av (aF dR (au 9) (av (aA (.int 26)))))))))))
def eR:FS:=(lK (b6 (au 3)) (aK 8)
  b7)
def dZ:FS:=(sSeq (EY (CP (bY DH (au 7) (av (aA (.str [109,111,118,101,115])))))
  (cC 7 (aA (.str [109,111,118,101,115,97])))
  e9)
  (jG (ud 5 (bJ 7))))
def b8:FS:=(sSeq (cC 7 (aA (.str [])))
  (sSeq eR
  dZ))
def eS:FS:=(lK (b6 (au 1)) (aK 6)
  b8)
def d4:FS:=(gy (cz dU (ai (au 5) aI)))
noncomputable def gI:FS:=(sSeq (cC 2 (aA (.str [97,98,99,100,101,102,103,104,105,106,107,108,109,110,111,112,113,114,115,116,117,118,119,120,121,122])))
  (sSeq (cC 3 (aF cR (av (aA (.int 1))) (av (aF dR (au 0) (av (aA (.int 8)))))))
  (sSeq (cC 4 (aF dR (av (aF cQ (au 0) (av (aA (.int 8))))) (au 3)))
  (sSeq (cC 5 (j9 aR))
  (sSeq eS
  d4)))))
def bW:List D->Res R:=fBody 2 8 gI
noncomputable def bx:FS:=(sSeq (cC 10 (aF Cj (av (e8 aM (ai (au 9) (ai (av (aA (.int 2))) aI)))) (av (aA (.int 1)))))
  (wU 3 (dk (ah (aF dR (au 10) (au 1)) (ah (aF Cj (au 2) (av (aF dR (av (aF cQ (au 10) (av (aA (.int 12))))) (av (cz jP (ai (au 2) aI)))))) (ah (aF dR (av (aF cQ (au 10) (av (aA (.int 64))))) (au 1)) aR)))) (aA (.bl true))))
def cJ:FS:=(lK (oQ (Aa (au 0) (sy (aA (.int 4))) (sy (aA (.int 52))))) (aK 9)
  bx)
def cw:FS:=(gy (dk (ah (cz m7 (ai (au 2) aI)) (ah (cz dU (ai (au 3) aI)) aR))))
noncomputable def bz:FS:=(sSeq (cC 7 (aF cR (av (aA (.int 1))) (av (aF dR (av (aF cR (av (aF rh (au 6) (av (aA (.int 1))))) (au 5))) (av (aF rh (au 1) (av (aA (.int 1)))))))))
  (sSeq (cC 8 (aF dR (av (aF Cj (au 4) (au 6))) (au 6)))
  (sSeq (EY (CP (aF JX (au 8) (av (aA (.int 0)))))
  (cC 8 (aF cR (av (aA (.int 1))) (av (aF dR (av (aF cR (av (aF rh (au 8) (av (aA (.int 1))))) (au 5))) (av (aF rh (au 1) (av (aA (.int 1)))))))))
  e9)
  (wU 3 (dk (ah (bJ 8) (ah (aF Cj (au 2) (av (aF dR (av (aF Cj (au 4) (av (aF cR (av (aA (.int 12))) (au 6))))) (av (cz jP (ai (au 2) aI)))))) (ah (bJ 7) aR)))) (aA (.bl true))))))
def cK:FS:=(lK (jH (ai (av (aA (.int 1))) (ai (au 1) aI))) (aK 6)
  bz)
def cx:FS:=(sSeq cJ
  cw)
noncomputable def du:FS:=(sSeq (cC 1 (aF cR (av (aA (.int 1))) (av (aF dR (av (e8 ay (ai (au 0) (ai (av (aA (.int 1))) aI)))) (av (aA (.int 12)))))))
  (sSeq (cC 2 (e8 bW (ai (av (e8 ay (ai (au 0) (ai (av (aA (.int 0))) aI)))) (ai (av (aF dR (av (e8 ay (ai (au 0) (ai (av (aA (.int 2))) aI)))) (av (aA (.int 6))))) aI))))
  (sSeq (cC 3 (eNewD true))
  (sSeq (EY (CP (bY DH (au 2) (av (j9 aR))))
  (gy (dk (ah (dk aR) (ah (j9 aR) aR))))
  e9)
  (sSeq (cC 4 (e8 aM (ai (av (e8 ay (ai (au 0) (ai (av (aA (.int 3))) aI)))) (ai (av (aA (.int 24))) aI))))
  (sSeq (cC 5 (aF dR (av (aF Cj (au 4) (av (aA (.int 0))))) (av (aA (.int 11)))))
  (sSeq cK
  cx)))))))
def aX:List D->Res R:=fBody 1 10 du
def cM:FS:=(cC 6 (aF cR (au 6) (av (fI (oQ (aF Cj (au 0) (av (aA (.int 0))))) [none,some 7,some 2] (aK 0) (CP (bY ri (av (dk (ah (bJ 1) (ah (bJ 0) aR)))) (au 2))) (dk (ah (aA (.str [103,97,112])) (ah (bJ 1) (ah (bJ 0) aR))))))))
def eT:FS:=(lK (b6 (au 1)) (aK 7)
  cM)
def d5:FS:=(gy (lW 6))
def cN:FS:=(wU 2 (dk (ah (bJ 3) (ah (bJ 4) aR))) (aA (.bl true)))
def c7:FS:=(lK (oQ (aF Cj (au 0) (av (aA (.int 1))))) (om 3 (aW (aK 3) (aW (aK 4) (aW (aK 5) gQ))))
  cN)
noncomputable def d7:FS:=(sSeq (cC 6 (fI (b6 (av (aF ox (au 1) (au 1)))) [none,some 1] (aK 0) (CP (aF Gh (av (aF cQ (au 0) (au 1))) (av (aF dR (au 0) (au 1))))) (dk (ah (aA (.str [112,97,105,114])) (ah (aF cQ (au 0) (au 1)) (ah (aF dR (au 0) (au 1)) aR))))))
  (sSeq eT
  d5))
noncomputable def gJ:FS:=(sSeq (cC 1 (aF cR (av (aA (.int 1))) (av (kO (fI (oQ (aF Cj (au 0) (av (aA (.int 1))))) [none,none,none] (om 3 (aW (aK 0) (aW (aK 1) (aW (aK 2) gQ)))) sx (cz maxD (ai (au 0) (ai (au 2) aI)))) (aA (.int 0))))))
  (sSeq (cC 2 (eNewD true))
  (sSeq c7
  d7)))
def bX:List D->Res R:=fBody 1 7 gJ
noncomputable def eU:FS:=(sSeq (cC 2 (aF cR (av (aA (.int 1))) (av (kO (fI (oQ (aF Cj (au 0) (av (aA (.int 1))))) [none,none,none] (om 3 (aW (aK 0) (aW (aK 1) (aW (aK 2) gQ)))) sx (cz maxD (ai (au 0) (ai (au 2) aI)))) (aA (.int 0))))))
  (sSeq (cC 3 (aF dR (av (aF cQ (au 1) (av (aA (.int 16))))) (au 2)))
  (sSeq (cC 4 (j9 (ah (dk (ah (aA (.str [112,97,105,114])) (ah (bJ 3) (ah (bJ 3) aR)))) (ah (dk (ah (aA (.str [112,97,105,114])) (ah (aF rh (au 2) (av (aA (.int 1)))) (ah (aA (.int 0)) aR)))) (ah (dk (ah (aA (.str [112,97,105,114])) (ah (aA (.int 0)) (ah (bJ 2) aR)))) (ah (dk (ah (aA (.str [112,97,105,114])) (ah (zh (av (aA (.int 1)))) (ah (aA (.int 0)) aR)))) (ah (dk (ah (aA (.str [103,97,112])) (ah (bJ 3) (ah (aA (.str [109,111,118,101,115])) aR)))) aR)))))))
  (sSeq (cC 4 (aF cR (au 4) (av (j9 (ah (dk (ah (aA (.str [103,97,112])) (ah (bJ 2) (ah (aA (.str [97])) aR)))) (ah (j9 (ah (aA (.str [112,97,105,114])) (ah (aA (.int 0)) (ah (aA (.int 1)) aR)))) (ah (dk aR) (ah (aA (.str [112,97,105,114])) (ah (dk (ah (aA (.str [112,97,105,114,115])) (ah (aA (.int 0)) (ah (aA (.int 1)) aR)))) (ah (aA .non) (ah (aA (.int 7)) (ah (dk (ah (aA (.str [112,97,105,114])) (ah (aA (.int 0)) (ah (aF rh (au 2) (av (aA (.int 1)))) (ah (aA (.int 0)) aR))))) aR))))))))))))
  (sSeq (cC 5 (aF Cj (av (aF cR (av (aF Cj (au 0) (av (aA (.int 0))))) (av (dk (ah (aA (.str [97])) aR))))) (av (aF dR (av (aF cQ (au 1) (av (aA (.int 4096))))) (av (aF cR (av (cz jP (ai (av (aF Cj (au 0) (av (aA (.int 0))))) aI))) (av (aA (.int 1)))))))))
  (sSeq (cC 4 (aF cR (au 4) (av (j9 (ah (dk (ah (aA (.str [103,97,112])) (ah (zh (av (aA (.int 1)))) (ah (bJ 5) aR)))) (ah (dk (ah (aA (.str [103,97,112])) (ah (aF rh (av (aA (.int 0))) (au 2)) (ah (bJ 5) aR)))) (ah (dk (ah (aA (.str [112,97,105,114])) (ah (aA (.str [48])) (ah (aA (.str [49])) aR)))) aR)))))))
  (sSeq (EY (CP (bY Fz (av (aF Cj (au 0) (av (aA (.int 1))))) (av (j9 aR))))
  (sSeq (cC 6 (aF Cj (av (aF Cj (au 0) (av (aA (.int 1))))) (av (aF dR (av (aF cQ (au 1) (av (aA (.int 16))))) (av (cz jP (ai (av (aF Cj (au 0) (av (aA (.int 1))))) aI)))))))
  (jG (ud 4 (dk (ah (aA (.str [103,97,112])) (ah (aF Cj (au 6) (av (aA (.int 0)))) (ah (aF Cj (au 6) (av (aA (.int 1)))) aR)))))))
  e9)
  (gy (aF Cj (au 4) (av (aF dR (au 1) (av (cz jP (ai (au 4) aI))))))))))))))
def bH:List D->Res R:=fBody 2 5 eU
noncomputable def eV:FS:=(sSeq (cC 3 (j9 aR))
  (sSeq (cC 4 (dk (ah (aA (.int 0)) (ah (aF wV (av (dk (ah (aA (.int 0)) aR))) (av (cz jP (ai (av (aF Cj (au 0) (av (aA (.int 0))))) aI)))) (ah (aF wV (av (dk (ah (aA (.int 0)) aR))) (av (cz jP (ai (av (aF Cj (au 0) (av (aA (.int 0))))) aI)))) aR)))))
  (sSeq (sTryL 5 (oP (CP (bY DH (au 2) (av (aA (.int 0))))) (lN eJ (ai (au 0) (ai (au 1) aI))) (oP (CP (bY DH (au 2) (av (aA (.int 1))))) (lN eI (ai (au 0) (ai (au 4) (ai (au 1) aI)))) (oP (CP (bY DH (au 2) (av (aA (.int 2))))) (lN cE (ai (au 0) (ai (au 1) (ai (av (aA (.int 1))) (ai (av (j9 aR)) aI))))) (fun _=>none))))
  h9 [] 3 [true,true,false,false,false,false,false,false,false])
  (gy (bY DH (au 3) (av (aF cR (av (j9 (ah (aA (.bl true)) (ah (aA (.bl true)) aR)))) (av (aF ox (av (j9 (ah (aA (.bl false)) aR))) (av (aA (.int 7))))))))))))
def bI:List D->Res R:=fBody 3 3 eV
noncomputable def jV:FS:=(EY (p5 (CP (e8 bI (ai (au 2) (ai (av (e8 bH (ai (au 1) (ai (av (aF cR (au 6) (av (aF ox (av (aA (.int 1009))) (au 7))))) aI)))) (ai (av (aF dR (av (aF cR (au 6) (au 7))) (av (aA (.int 3))))) aI))))))
  (gy (aA (.bl false)))
  e9)
def qG:FS:=(lK (b6 (av (aA (.int 3)))) (aK 7)
  jV)
def nH:FS:=(gy (tZ (bY DH (av (e8 cf (ai (au 2) aI))) (au 3)) (bY DH (au 2) (au 1))))
def jW:FS:=(EY (HS (p5 (CP (Hb "tuple" (au 5)))) (HS (CP (Hb "bool" (av (aF Cj (au 5) (av (aA (.int 1))))))) (CP (Hb "bool" (av (aF Cj (au 5) (av (aA (.int 2)))))))))
  (gy (aA (.bl false)))
  e9)
def lh:FS:=(lK (oQ (bJ 4)) (aK 5)
  jW)
def me:FS:=(lendR 4 [0,1,2] lh)
def nI:FS:=(sSeq (jG (nq 4))
  (sSeq (cC 6 (aF Cj (av (e8 aM (ai (av (e8 ay (ai (au 0) (ai (av (aA (.int 3))) aI)))) (ai (av (aA (.int 30))) aI)))) (av (aA (.int 29)))))
  (sSeq qG
  nH)))
noncomputable def yF:FS:=(sSeq (cC 1 (e8 aX (ai (au 0) aI)))
  (sSeq (cC 2 (dk (ah (aF Cj (au 1) (av (aA (.int 0)))) (ah (cz sC (ai (av (aF Cj (au 1) (av (aA (.int 1))))) aI)) aR))))
  (sSeq (cC 3 (e8 bX (ai (au 1) aI)))
  (sSeq (cC 4 (e8 cf (ai (au 2) aI)))
  (sSeq (EY (HS (p5 (CP (Hb "list" (au 4)))) (HS (CP (bY Fz (au 4) (au 3))) (CP (bY Fz (au 2) (au 1)))))
  (gy (aA (.bl false)))
  e9)
  (sSeq me
  nI))))))
def vY:List D->Res R:=fBody 1 7 yF
end LW
namespace LW
open PySem PySem.Spec PyProof.Rows L2 NX PV
theorem wW{α:Type}{Q:List α->Prop}(h:∀a,Q [a]):∀us,us.length=1->Q us
 |[a],_=>h a
theorem rk{α:Type}{Q:List α->Prop}(h:∀a b,Q [a,b]):∀us,us.length=2->Q us
 |[a,b],_=>h a b
theorem yG{α:Type}{Q:List α->Prop}(h:∀a b c,Q [a,b,c]):∀us,us.length=3->Q us
 |[a,b,c],_=>h a b c
theorem AE{α:Type}{Q:List α->Prop}(h:∀a b c d,Q [a,b,c,d]):∀us,us.length=4->Q us
 |[a,b,c,d],_=>h a b c d
theorem fR{X:Cx}{tg e:Expr}{f:FX}(h:QE X e f):QI X tg e (Fo (ya f) (Fo (qb f) (qd f))):=yq (vz h) (yq (yb h) (yc h))
def top(i:Nat):Stmt:=PySem.Challenge.pw_netfinder_k60_cases_listed.main.body.getD i (.Pass ⟨0,0,0,0⟩)
theorem qH:Str.ofString "pair" = S [112,97,105,114]:=by decide +kernel
theorem uk:Str.ofString "gap" = S [103,97,112]:=by decide +kernel
theorem Bv:Str.ofString "this is no case of the chart" = S [116,104,105,115,32,105,115,32,110,111,32,99,97,115,101,32,111,102,32,116,104,101,32,99,104,97,114,116]:=by decide +kernel
theorem AF:Str.ofString "moves" = S [109,111,118,101,115]:=by decide +kernel
theorem Bw:Str.ofString "movesa" = S [109,111,118,101,115,97]:=by decide +kernel
theorem Bx:Str.ofString "" = S []:=by decide +kernel
theorem By:Str.ofString "abcdefghijklmnopqrstuvwxyz" = S [97,98,99,100,101,102,103,104,105,106,107,108,109,110,111,112,113,114,115,116,117,118,119,120,121,122]:=by decide +kernel
theorem Bz:Str.ofString "1" = S [49]:=by decide +kernel
theorem BA:Str.ofString "0" = S [48]:=by decide +kernel
theorem AG:Str.ofString "a" = S [97]:=by decide +kernel
theorem Ad:Str.ofString "pairs" = S [112,97,105,114,115]:=by decide +kernel
section
variable{P:Program}{w:World}{K:W.Frag}{mg:Str->Option Value}{base:Heap}
abbrev fu:Stmt:=top 11
theorem lj:FnScope ["chart"] ["chart"] (defScope fu):=fs
theorem ll(Df:Def K mg "states_of" fu)(C8:mg "max" = none):Ct P w K mg base "states_of" 1 (spF K aZ):=
 dA Df lj (fun _ _ _ _ _ _=>wW fun _=>rfl) fun f Cg A outer s H E hr=>
  (aD (bL (aG aS (aa ao) (aa (lZ rfl (by rfl) C8 (fN [none,none,none] ["first","move","second"] rfl (ja (fR (bq (ae (pv 0)) (aa ao)))) (fun _ _ _ _ _=>(have h:=(show List.Nodup (["first","move","second"]:List Str) from by decide +kernel);(kH rfl (bF (aP (i:=0) h rfl (lo rfl)) (bF (aP (i:=1) h rfl (lo rfl)) (bF (aP (i:=2) h rfl (lo rfl)) ia)))))) (fun _ _ _ _ _=>lX) (fun _ _ _ _ _=>(bE (qi rfl) (by rfl) C8 qr (ag (ae (pv 0)) (ag (ae (pv 2)) aw))))) ao)))))
abbrev iA:Stmt:=top 12
theorem oA:FnScope ["chart","state","move"] ["chart","state","move"] (defScope iA):=fs
theorem oC(Df:Def K mg "goes_to" iA):Ct P w K mg base "goes_to" 1 (spF K dq):=
 dA Df oA (fun _ _ _ _ _ _=>yG fun _ _ _=>rfl) fun f Cg A outer s H E hr=>
  (aD (bL (fN [none,none,none,some 1,some 2] ["first","by","second","state","move"] rfl (ja (fR (bq (ae (pv 0)) (aa ao)))) (fun _ _ _ _ _=>(have h:=(show List.Nodup (["first","by","second","state","move"]:List Str) from by decide +kernel);(kH rfl (bF (aP (i:=0) h rfl (lo rfl)) (bF (aP (i:=1) h rfl (lo rfl)) (bF (aP (i:=2) h rfl (lo rfl)) ia)))))) (fun _ _ _ _ _=>(lY (QW.qt (x9 (b5 (f7 hr.units) (ae (pv 0)) (ae (pv 3)) (bO _)) (vy (b5 (f7 hr.units) (ae (pv 1)) (ae (pv 4)) (bO _))))))) (fun _ _ _ _ _=>(a7 (pv 2))))))
abbrev gi:Stmt:=top 13
theorem mf:FnScope ["chart","state","move"] ["chart","state","move"] (defScope gi):=fs
theorem mh(Df:Def K mg "has_move" gi)(FA:Ct P w K mg base "goes_to" 1 (spF K dq))(CA:mg "len" = none):Ct P w K mg base "has_move" 2 (spF K bV):=
 dA Df mf (fun _ _ _ _ _ _=>yG fun _ _ _=>rfl) fun f Cg A outer s H E hr=>
  (aD (bL (tY yf (aa (bE c6 (by rfl) CA bt_len (ag (aa (bo FA hr.m (by rfl) (ag (ae (pv 0)) (ag (ae (pv 1)) (ag (ae (pv 2)) aw))))) aw))) (aa ao) (bO _))))
abbrev gj:Stmt:=top 34
theorem dF:FnScope ["chart","pairs","first","second"] ["chart"] (defScope gj):=fs
theorem ml(Df:Def K mg "pairs_of" gj)(Cw:Ct P w K mg base "states_of" 1 (spF K aZ))(B5:mg "range" = none):Ct P w K mg base "pairs_of" 2 (spF K cD):=
 dA Df dF (fun _ _ _ _ _ _=>wW fun _=>rfl) fun f Cg A outer s H E hr=>
  (aq (aO (i:=1) dF.nd rfl (lo rfl) (cG az))
  (aq (di Ng rfl (cn (by rfl) B5 (aa (bo Cw hr.m (by rfl) (ag (ae (pv 0)) aw)))) (aP (i:=2) dF.nd rfl (lo rfl))
  (aD (di Ng rfl (kJ (by rfl) B5 (ag (aa (aG aS (ae (pv 2)) (aa ao))) (ag (aa (bo Cw hr.m (by rfl) (ag (ae (pv 0)) aw))) aw))) (aP (i:=3) dF.nd rfl (lo rfl))
  (aD (fY (dS (pv 1) (a9 (af (a5 qH (by decide)) (af (a7 (pv 2)) (af (a7 (pv 3)) az))))))))))
  (aD (bL (jE (pv 1))))))
abbrev iB:Stmt:=top 35
theorem eK:FnScope ["chart","gaps","state","move"] ["chart"] (defScope iB):=fs
theorem oE(Df:Def K mg "gaps_of" iB)(Dv:Ct P w K mg base "has_move" 2 (spF K bV))(Cw:Ct P w K mg base "states_of" 1 (spF K aZ))(B5:mg "range" = none):Ct P w K mg base "gaps_of" 3 (spF K dt):=
 dA Df eK (fun _ _ _ _ _ _=>wW fun _=>rfl) fun f Cg A outer s H E hr=>
  (aq (aO (i:=1) eK.nd rfl (lo rfl) (cG az))
  (aq (di Ng rfl (cn (by rfl) B5 (aa (bo Cw hr.m (by rfl) (ag (ae (pv 0)) aw)))) (aP (i:=2) eK.nd rfl (lo rfl))
  (aD (di Ng rfl (fR (bq (ae (pv 0)) (aa ao))) (aP (i:=3) eK.nd rfl (lo rfl))
  (aD (fZ (gw (eO (bo Dv hr.m (by rfl) (ag (ae (pv 0)) (ag (ae (pv 2)) (ag (ae (pv 3)) aw))))))
  (aD (fY (dS (pv 1) (a9 (af (a5 uk (by decide)) (af (a7 (pv 2)) (af (a7 (pv 3)) az)))))))
  cb)))))
  (aD (bL (jE (pv 1))))))
abbrev gk:Stmt:=top 36
theorem mm:FnScope ["chart"] ["chart"] (defScope gk):=fs
theorem mn(Df:Def K mg "cases_of" gk)(FC:Ct P w K mg base "gaps_of" 3 (spF K dt))(E6:Ct P w K mg base "pairs_of" 2 (spF K cD)):Ct P w K mg base "cases_of" 4 (spF K cf):=
 dA Df mm (fun _ _ _ _ _ _=>wW fun _=>rfl) fun f Cg A outer s H E hr=>
  (aD (bL (aG aS (aa (bo E6 hr.m (by rfl) (ag (ae (pv 0)) aw))) (aa (bo FC hr.m (by rfl) (ag (ae (pv 0)) aw))))))
abbrev dG:Stmt:=top 37
theorem iP:FnScope ["chart","thing"] ["chart","thing"] (defScope dG):=fs
theorem iQ(Df:Def K mg "is_state_of" dG)(Cw:Ct P w K mg base "states_of" 1 (spF K aZ))(Dw:mg "bool" = none)(Fp:mg "int" = none)(BS:mg "isinstance" = none):Ct P w K mg base "is_state_of" 2 (spF K aE):=
 dA Df iP (fun _ _ _ _ _ _=>rk fun _ _=>rfl) fun f Cg A outer s H E hr=>
  (aD (bL (i5 (l5 (T:="int") (by decide) (ae (pv 1)) (by rfl) BS (by rfl) Fp xO) (i5 (ua (l5 (T:="bool") (by decide) (ae (pv 1)) (by rfl) BS (by rfl) Dw lS)) (mY (sr zZ (nh hr.units0) (aa ao) (ae (pv 1)) (aa (bo Cw hr.m (by rfl) (ag (ae (pv 0)) aw)))))))))
abbrev iC:Stmt:=top 38
theorem oF:FnScope ["chart","thing"] ["chart","thing"] (defScope iC):=fs
theorem oG(Df:Def K mg "is_case" iC)(Dv:Ct P w K mg base "has_move" 2 (spF K bV))(Dn:Ct P w K mg base "is_state_of" 2 (spF K aE))(BS:mg "isinstance" = none)(CA:mg "len" = none)(CQ:mg "tuple" = none):Ct P w K mg base "is_case" 3 (spF K bc):=
 dA Df oF (fun _ _ _ _ _ _=>rk fun _ _=>rfl) fun f Cg A outer s H E hr=>
  (aq (fZ (QW.qt (oj (gw (eO (l5 (T:="tuple") (by decide) (ae (pv 1)) (by rfl) BS (by rfl) CQ jt))) (oj (b5 (sF hr.units) (aa (bE c6 (by rfl) CA bt_len (ag (ae (pv 1)) aw))) (aa ao) (bO _)) (p6 (gw (eO (bo Dn hr.m (by rfl) (ag (ae (pv 0)) (ag (aa (bq (ae (pv 1)) (aa ao))) aw)))))))))
  (aD (bL iN))
  cb)
  (aq (fZ (b5 (f7 hr.units) (aa (bq (ae (pv 1)) (aa ao))) (aa (a5 qH (by decide))) (bO _))
  (aD (bL (i5 (bo Dn hr.m (by rfl) (ag (ae (pv 0)) (ag (aa (bq (ae (pv 1)) (aa ao))) aw))) (mY (tY (nh hr.units0) (aa (bq (ae (pv 1)) (aa ao))) (aa (bq (ae (pv 1)) (aa ao))) (bO _))))))
  cb)
  (aD (bL (i5 (h8 (f7 hr.units) (aa (bq (ae (pv 1)) (aa ao))) (aa (a5 uk (by decide))) (bO _)) (i5 (h8 (yA hr.u65) (aa (bq (ae (pv 1)) (aa ao))) (aa (bq (ae (pv 0)) (aa ao))) (by with_unfolding_all rfl)) (mY (ua (bo Dv hr.m (by rfl) (ag (ae (pv 0)) (ag (aa (bq (ae (pv 1)) (aa ao))) (ag (aa (bq (ae (pv 1)) (aa ao))) aw))))))))))))
abbrev cW:Stmt:=top 39
theorem fS:FnScope ["chart","thing"] ["chart","thing"] (defScope cW):=fs
theorem jX(Df:Def K mg "check_case" cW)(DR:Ct P w K mg base "is_case" 3 (spF K bc)):Ct P w K mg base "check_case" 4 (spF K gH):=
 dA Df fS (fun _ _ _ _ _ _=>rk fun _ _=>rfl) fun f Cg A outer s H E hr=>
  (aD (fZ (gw (eO (bo DR hr.m (by rfl) (ag (ae (pv 0)) (ag (ae (pv 1)) aw)))))
  (aD su)
  cb))
theorem iR(Df:Def K mg "check_case" cW){BQ:Addr}(DR:Ct P w K mg base "is_case" 3 (spF K bc))(CW:XCl mg base "NoCase" BQ):CtX P w K mg base "check_case" 4 BQ (spX K BQ aQ):=
 ny Df fS (fun _ _ _ _ _ _=>rk fun _ _=>rfl) fun f Cg A outer s H E hr=>
  (Ac (gw (eO (bo DR hr.m (by rfl) (ag (ae (pv 0)) (ag (ae (pv 1)) aw))))) (sN CW xV rfl (by rfl) (ag (aa (a5 Bv (by decide))) aw)))
abbrev gZ:Stmt:=top 40
theorem lq:FnScope ["chart","place","case","beads"] ["chart","place","case"] (defScope gZ):=fs
theorem qI(Df:Def K mg "solves" gZ):Ct P w K mg base "solves" 5 (spF K nF):=
 dA Df lq (fun _ _ _ _ _ _=>yG fun _ _ _=>rfl) fun f Cg A outer s H E hr=>
  jU
theorem oH(Df:Def K mg "solves" gZ){BQ:Addr}(Cs:CtX P w K mg base "check_case" 4 BQ (spX K BQ aQ)):CtX P w K mg base "solves" 5 BQ (spX K BQ eI):=
 ny Df lq (fun _ _ _ _ _ _=>yG fun _ _ _=>rfl) fun f Cg A outer s H E hr=>
  (l9 acc_on (gf Cs hr.m (by rfl) (ag (ae (pv 0)) (ag (ae (pv 2)) aw))))
abbrev g0:Stmt:=top 60
theorem lr:FnScope ["chart","case"] ["chart","case"] (defScope g0):=fs
theorem qJ(Df:Def K mg "parted" g0):Ct P w K mg base "parted" 5 (spF K nG):=
 dA Df lr (fun _ _ _ _ _ _=>rk fun _ _=>rfl) fun f Cg A outer s H E hr=>
  jU
theorem oI(Df:Def K mg "parted" g0){BQ:Addr}(Cs:CtX P w K mg base "check_case" 4 BQ (spX K BQ aQ)):CtX P w K mg base "parted" 5 BQ (spX K BQ eJ):=
 ny Df lr (fun _ _ _ _ _ _=>rk fun _ _=>rfl) fun f Cg A outer s H E hr=>
  (l9 acc_on (gf Cs hr.m (by rfl) (ag (ae (pv 0)) (ag (ae (pv 1)) aw))))
abbrev eL:Stmt:=top 62
theorem iD:FnScope ["chart","case","first","numbers","counts","rings","width","shown"] ["chart","case","first","numbers"] (defScope eL):=fs
theorem mq(Df:Def K mg "is_paper" eL):Ct P w K mg base "is_paper" 5 (spF K jg):=
 dA Df iD (fun _ _ _ _ _ _=>AE fun _ _ _ _=>rfl) fun f Cg A outer s H E hr=>
  jU
theorem lu(Df:Def K mg "is_paper" eL){BQ:Addr}(Cs:CtX P w K mg base "check_case" 4 BQ (spX K BQ aQ)):CtX P w K mg base "is_paper" 5 BQ (spX K BQ cE):=
 ny Df iD (fun _ _ _ _ _ _=>AE fun _ _ _ _=>rfl) fun f Cg A outer s H E hr=>
  (l9 acc_on (gf Cs hr.m (by rfl) (ag (ae (pv 0)) (ag (ae (pv 1)) aw))))
abbrev c8:Stmt:=top 64
theorem iE:FnScope ["_law_script","_law_k"] ["_law_script","_law_k"] (defScope c8):=fs
theorem iF(Df:Def K mg "_law_cell_at" c8)(CA:mg "len" = none):Ct P w K mg base "_law_cell_at" 1 (spF K ay):=
 dA Df iE (fun _ _ _ _ _ _=>rk fun _ _=>rfl) fun f Cg A outer s H E hr=>
  (aq (fZ (p4 (nh hr.units0) (ae (pv 1)) (aa (bE c6 (by rfl) CA bt_len (ag (ae (pv 0)) aw))) (bO _))
  (aD (bL (bq (ae (pv 0)) (ae (pv 1)))))
  cb)
  (aD (bL ao)))
abbrev dH:Stmt:=top 65
theorem bU:FnScope ["_law_cell","_law_count","_law_found","_law_x","_law_k"] ["_law_cell","_law_count"] (defScope dH):=fs
theorem iS(Df:Def K mg "_law_stream" dH)(B5:mg "range" = none):Ct P w K mg base "_law_stream" 1 (spF K aM):=
 dA Df bU (fun _ _ _ _ _ _=>rk fun _ _=>rfl) fun f Cg A outer s H E hr=>
  (aq (aO (i:=2) bU.nd rfl (lo rfl) (cG az))
  (aq (aO (i:=3) bU.nd rfl (lo rfl) (aG aS (aa (aG bR (ae (pv 0)) (aa ao))) (aa ao)))
  (aq (di Ng rfl (cn (by rfl) B5 (ae (pv 1))) (aP (i:=4) bU.nd rfl (lo rfl))
  (aq (aO (i:=3) bU.nd rfl (lo rfl) (aG bR (aa (aG aS (aa (aG aS (aa (aG aS (aa (aG fm (ae (pv 3)) (ae (pv 3)))) (aa (aG fm (aa ao) (ae (pv 3)))))) (aa (aG fm (aa ao) (ae (pv 4)))))) (aa ao))) (aa ao)))
  (aD (fY (dS (pv 2) (aG c5 (ae (pv 3)) (aa ao)))))))
  (aD (bL (jE (pv 2)))))))
abbrev d8:Stmt:=top 66
theorem aN:FnScope ["_law_cell","_law_count","_law_letters","_law_long","_law_spot","_law_listed","_law_k","_law_name","_law_j","_law_step"] ["_law_cell","_law_count"] (defScope d8):=fs
theorem jY(Df:Def K mg "_law_names" d8)(B5:mg "range" = none)(CY:mg "sorted" = none):Ct P w K mg base "_law_names" 1 (spF K bW):=
 dA Df aN (fun _ _ _ _ _ _=>rk fun _ _=>rfl) fun f Cg A outer s H E hr=>
  (aq (aO (i:=2) aN.nd rfl (lo rfl) (a5 By (by decide)))
  (aq (aO (i:=3) aN.nd rfl (lo rfl) (aG aS (aa ao) (aa (aG bR (ae (pv 0)) (aa ao)))))
  (aq (aO (i:=4) aN.nd rfl (lo rfl) (aG bR (aa (aG c5 (ae (pv 0)) (aa ao))) (ae (pv 3))))
  (aq (aO (i:=5) aN.nd rfl (lo rfl) (cG az))
  (aq (di Ng rfl (cn (by rfl) B5 (ae (pv 1))) (aP (i:=6) aN.nd rfl (lo rfl))
  (aq (aO (i:=7) aN.nd rfl (lo rfl) (a5 Bx (by decide)))
  (aq (di Ng rfl (cn (by rfl) B5 (ae (pv 3))) (aP (i:=8) aN.nd rfl (lo rfl))
  (aq (aO (i:=9) aN.nd rfl (lo rfl) (aG aS (aa (aG c5 (ae (pv 0)) (aa (aG aS (ae (pv 8)) (aa ao))))) (aa (aG fm (ae (pv 8)) (ae (pv 8))))))
  (aq (fZ (b5 (f7 hr.units) (ae (pv 8)) (ae (pv 4)) (bO _))
  (aD (aO (i:=9) aN.nd rfl (lo rfl) (aG aS (ae (pv 9)) (ae (pv 6)))))
  cb)
  (aD (aO (i:=7) aN.nd rfl (lo rfl) (aG aS (ae (pv 7)) (aa (bq (ae (pv 2)) (aa (aG bR (ae (pv 9)) (aa ao)))))))))))
  (aq (fZ (b5 (f7 hr.units) (ae (pv 7)) (aa (a5 AF (by decide))) (bO _))
  (aD (aO (i:=7) aN.nd rfl (lo rfl) (a5 Bw (by decide))))
  cb)
  (aD (fY (dS (pv 5) (a7 (pv 7)))))))))
  (aD (bL (bE (kR rfl) (by rfl) CY kU (ag (ae (pv 5)) aw)))))))))
abbrev cj:Stmt:=top 67
theorem ax:FnScope ["_law_script","_law_many","_law_names_here","_law_arcs","_law_xs","_law_turn","_law_k","_law_number","_law_back","_law_cell","_law_x"] ["_law_script"] (defScope cj):=fs
theorem fT(Df:Def K mg "_law_wide_chart" cj)(Ca:Ct P w K mg base "_law_cell_at" 1 (spF K ay))(Eu:Ct P w K mg base "_law_names" 1 (spF K bW))(CD:Ct P w K mg base "_law_stream" 1 (spF K aM))(CA:mg "len" = none)(B5:mg "range" = none)(CY:mg "sorted" = none)(CQ:mg "tuple" = none):Ct P w K mg base "_law_wide_chart" 2 (spF K aX):=
 dA Df ax (fun _ _ _ _ _ _=>wW fun _=>rfl) fun f Cg A outer s H E hr=>
  (aq (aO (i:=1) ax.nd rfl (lo rfl) (aG aS (aa ao) (aa (aG bR (aa (bo Ca hr.m (by rfl) (ag (ae (pv 0)) (ag (aa ao) aw)))) (aa ao)))))
  (aq (aO (i:=2) ax.nd rfl (lo rfl) (bo Eu hr.m (by rfl) (ag (aa (bo Ca hr.m (by rfl) (ag (ae (pv 0)) (ag (aa ao) aw)))) (ag (aa (aG bR (aa (bo Ca hr.m (by rfl) (ag (ae (pv 0)) (ag (aa ao) aw)))) (aa ao))) aw))))
  (aq (aO (i:=3) ax.nd rfl (lo rfl) ql)
  (aq (fZ (b5 (f7 hr.units) (ae (pv 2)) (aa (cG az)) (bO _))
  (aD (bL (a9 (af (a9 az) (af (cG az) az)))))
  cb)
  (aq (aO (i:=4) ax.nd rfl (lo rfl) (bo CD hr.m (by rfl) (ag (aa (bo Ca hr.m (by rfl) (ag (ae (pv 0)) (ag (aa ao) aw)))) (ag (aa ao) aw))))
  (aq (aO (i:=5) ax.nd rfl (lo rfl) (aG bR (aa (bq (ae (pv 4)) (aa ao))) (aa ao)))
  (aq (di Ng rfl (kJ (by rfl) B5 (ag (aa ao) (ag (ae (pv 1)) aw))) (aP (i:=6) ax.nd rfl (lo rfl))
  (aq (aO (i:=7) ax.nd rfl (lo rfl) (aG aS (aa ao) (aa (aG bR (aa (aG aS (aa (aG ib (ae (pv 6)) (aa ao))) (ae (pv 5)))) (aa (aG ib (ae (pv 1)) (aa ao)))))))
  (aq (aO (i:=8) ax.nd rfl (lo rfl) (aG bR (aa (bq (ae (pv 4)) (ae (pv 6)))) (ae (pv 6))))
  (aq (fZ (p4 yf (ae (pv 8)) (aa ao) (bO _))
  (aD (aO (i:=8) ax.nd rfl (lo rfl) (aG aS (aa ao) (aa (aG bR (aa (aG aS (aa (aG ib (ae (pv 8)) (aa ao))) (ae (pv 5)))) (aa (aG ib (ae (pv 1)) (aa ao))))))))
  cb)
  (aD (qq (hu_of hr) (pv 3) (a9 (af (a7 (pv 8)) (af (bq (ae (pv 2)) (aa (aG bR (aa (bq (ae (pv 4)) (aa (aG aS (aa ao) (ae (pv 6)))))) (aa (bE c6 (by rfl) CA bt_len (ag (ae (pv 2)) aw)))))) (af (a7 (pv 7)) az)))) iN))))))
  (aq (di Ng rfl (fR (yy (ae (pv 0)) (qg ao) (qg ao))) (aP (i:=9) ax.nd rfl (lo rfl))
  (aq (aO (i:=10) ax.nd rfl (lo rfl) (bq (aa (bo CD hr.m (by rfl) (ag (ae (pv 9)) (ag (aa ao) aw)))) (aa ao)))
  (aD (qq (hu_of hr) (pv 3) (a9 (af (aG bR (ae (pv 10)) (ae (pv 1))) (af (bq (ae (pv 2)) (aa (aG bR (aa (aG c5 (ae (pv 10)) (aa ao))) (aa (bE c6 (by rfl) CA bt_len (ag (ae (pv 2)) aw)))))) (af (aG bR (aa (aG c5 (ae (pv 10)) (aa ao))) (ae (pv 1))) az)))) iN))))
  (aD (bL (a9 (af (kG sD (by rfl) CQ jt (ag (ae (pv 2)) aw)) (af (bE (kR rfl) (by rfl) CY kU (ag (ae (pv 3)) aw)) az)))))))))))))
abbrev d9:Stmt:=top 68
theorem aV:FnScope ["_law_chart","_law_many","_law_has","_law_one","_law_move","_law_other","_law_cases_here","_law_state"] ["_law_chart"] (defScope d9):=fs
theorem jZ(Df:Def K mg "_law_cases" d9)(C8:mg "max" = none)(B5:mg "range" = none):Ct P w K mg base "_law_cases" 1 (spF K bX):=
 dA Df aV (fun _ _ _ _ _ _=>wW fun _=>rfl) fun f Cg A outer s H E hr=>
  (aq (aO (i:=1) aV.nd rfl (lo rfl) (aG aS (aa ao) (aa (lZ rfl (by rfl) C8 (fN [none,none,none] ["_law_one","_law_move","_law_other"] rfl (ja (fR (bq (ae (pv 0)) (aa ao)))) (fun _ _ _ _ _=>(have h:=(show List.Nodup (["_law_one","_law_move","_law_other"]:List Str) from by decide +kernel);(kH rfl (bF (aP (i:=0) h rfl (lo rfl)) (bF (aP (i:=1) h rfl (lo rfl)) (bF (aP (i:=2) h rfl (lo rfl)) ia)))))) (fun _ _ _ _ _=>lX) (fun _ _ _ _ _=>(bE (qi rfl) (by rfl) C8 qr (ag (ae (pv 0)) (ag (ae (pv 2)) aw))))) ao))))
  (aq (aO (i:=2) aV.nd rfl (lo rfl) ql)
  (aq (di Ng rfl (fR (bq (ae (pv 0)) (aa ao))) (kH rfl (bF (aP (i:=3) aV.nd rfl (lo rfl)) (bF (aP (i:=4) aV.nd rfl (lo rfl)) (bF (aP (i:=5) aV.nd rfl (lo rfl)) ia))))
  (aD (qq (hu_of hr) (pv 2) (a9 (af (a7 (pv 3)) (af (a7 (pv 4)) az))) iN)))
  (aq (sJ (i:=6) [none,some 1] ["_law_k","_law_many"] aV.nd rfl (lo rfl) rfl (ja (cn (by rfl) B5 (aa (aG fm (ae (pv 1)) (ae (pv 1)))))) (fun _ _ _ _ _=>(aP (i:=0) (show List.Nodup (["_law_k","_law_many"]:List Str) from by decide +kernel) rfl (lo rfl))) (fun _ _ _ _ _=>(lY (p4 (nh hr.units0) (aa (aG c5 (ae (pv 0)) (ae (pv 1)))) (aa (aG bR (ae (pv 0)) (ae (pv 1)))) (bO _)))) (fun _ _ _ _ _=>(a9 (af (a5 qH (by decide)) (af (aG c5 (ae (pv 0)) (ae (pv 1))) (af (aG bR (ae (pv 0)) (ae (pv 1))) az))))))
  (aq (di Ng rfl (cn (by rfl) B5 (ae (pv 1))) (aP (i:=7) aV.nd rfl (lo rfl))
  (aD (aO (i:=6) aV.nd rfl (lo rfl) (aG aS (ae (pv 6)) (aa (fN [none,some 7,some 2] ["_law_move","_law_state","_law_has"] rfl (ja (fR (bq (ae (pv 0)) (aa ao)))) (fun _ _ _ _ _=>(aP (i:=0) (show List.Nodup (["_law_move","_law_state","_law_has"]:List Str) from by decide +kernel) rfl (lo rfl))) (fun _ _ _ _ _=>(lY (b5 (vL hr.u65) (aa (a9 (af (a7 (pv 1)) (af (a7 (pv 0)) az)))) (ae (pv 2)) (by with_unfolding_all rfl)))) (fun _ _ _ _ _=>(a9 (af (a5 uk (by decide)) (af (a7 (pv 1)) (af (a7 (pv 0)) az)))))))))))
  (aD (bL (jE (pv 6)))))))))
abbrev c9:Stmt:=top 69
theorem aT:FnScope ["_law_chart","_law_x","_law_many","_law_state","_law_some","_law_move","_law_arc"] ["_law_chart","_law_x"] (defScope c9):=fs
theorem iG(Df:Def K mg "_law_no_case" c9)(CA:mg "len" = none)(C8:mg "max" = none):Ct P w K mg base "_law_no_case" 1 (spF K bH):=
 dA Df aT (fun _ _ _ _ _ _=>rk fun _ _=>rfl) fun f Cg A outer s H E hr=>
  (aq (aO (i:=2) aT.nd rfl (lo rfl) (aG aS (aa ao) (aa (lZ rfl (by rfl) C8 (fN [none,none,none] ["_law_one","_law_move","_law_other"] rfl (ja (fR (bq (ae (pv 0)) (aa ao)))) (fun _ _ _ _ _=>(have h:=(show List.Nodup (["_law_one","_law_move","_law_other"]:List Str) from by decide +kernel);(kH rfl (bF (aP (i:=0) h rfl (lo rfl)) (bF (aP (i:=1) h rfl (lo rfl)) (bF (aP (i:=2) h rfl (lo rfl)) ia)))))) (fun _ _ _ _ _=>lX) (fun _ _ _ _ _=>(bE (qi rfl) (by rfl) C8 qr (ag (ae (pv 0)) (ag (ae (pv 2)) aw))))) ao))))
  (aq (aO (i:=3) aT.nd rfl (lo rfl) (aG bR (aa (aG c5 (ae (pv 1)) (aa ao))) (ae (pv 2))))
  (aq (aO (i:=4) aT.nd rfl (lo rfl) (cG (af (a9 (af (a5 qH (by decide)) (af (a7 (pv 3)) (af (a7 (pv 3)) az)))) (af (a9 (af (a5 qH (by decide)) (af (aG ib (ae (pv 2)) (aa ao)) (af ao az)))) (af (a9 (af (a5 qH (by decide)) (af ao (af (a7 (pv 2)) az)))) (af (a9 (af (a5 qH (by decide)) (af (uh (aa ao)) (af ao az)))) (af (a9 (af (a5 uk (by decide)) (af (a7 (pv 3)) (af (a5 AF (by decide)) az)))) az)))))))
  (aq (aO (i:=4) aT.nd rfl (lo rfl) (aG aS (ae (pv 4)) (aa (cG (af (a9 (af (a5 uk (by decide)) (af (a7 (pv 2)) (af (a5 AG (by decide)) az)))) (af (cG (af (a5 qH (by decide)) (af ao (af ao az)))) (af (a9 az) (af (a5 qH (by decide)) (af (a9 (af (a5 Ad (by decide)) (af ao (af ao az)))) (af x6 (af ao (af (a9 (af (a5 qH (by decide)) (af ao (af (aG ib (ae (pv 2)) (aa ao)) (af ao az))))) az))))))))))))
  (aq (aO (i:=5) aT.nd rfl (lo rfl) (bq (aa (aG aS (aa (bq (ae (pv 0)) (aa ao))) (aa (a9 (af (a5 AG (by decide)) az))))) (aa (aG bR (aa (aG c5 (ae (pv 1)) (aa ao))) (aa (aG aS (aa (bE c6 (by rfl) CA bt_len (ag (aa (bq (ae (pv 0)) (aa ao))) aw))) (aa ao)))))))
  (aq (aO (i:=4) aT.nd rfl (lo rfl) (aG aS (ae (pv 4)) (aa (cG (af (a9 (af (a5 uk (by decide)) (af (uh (aa ao)) (af (a7 (pv 5)) az)))) (af (a9 (af (a5 uk (by decide)) (af (aG ib (aa ao) (ae (pv 2))) (af (a7 (pv 5)) az)))) (af (a9 (af (a5 qH (by decide)) (af (a5 BA (by decide)) (af (a5 Bz (by decide)) az)))) az)))))))
  (aq (fZ (b5 (sF hr.units) (aa (bq (ae (pv 0)) (aa ao))) (aa (cG az)) (bO _))
  (aq (aO (i:=6) aT.nd rfl (lo rfl) (bq (aa (bq (ae (pv 0)) (aa ao))) (aa (aG bR (aa (aG c5 (ae (pv 1)) (aa ao))) (aa (bE c6 (by rfl) CA bt_len (ag (aa (bq (ae (pv 0)) (aa ao))) aw)))))))
  (aD (fY (dS (pv 4) (a9 (af (a5 uk (by decide)) (af (bq (ae (pv 6)) (aa ao)) (af (bq (ae (pv 6)) (aa ao)) az))))))))
  cb)
  (aD (bL (bq (ae (pv 4)) (aa (aG bR (ae (pv 1)) (aa (bE c6 (by rfl) CA bt_len (ag (ae (pv 4)) aw)))))))))))))))
abbrev de:Stmt:=top 70
theorem a0:FnScope ["_law_chart","_law_case","_law_way","_law_told","_law_place","e"] ["_law_chart","_law_case","_law_way"] (defScope de):=fs
theorem iH(Df:Def K mg "_law_refused" de){Ck:Addr}{BQ:Addr}{CN:Addr}{C9:Addr}{Dc:Addr}{Cz:Addr}{CZ:Addr}{Cu:Addr}{CG:Addr}(ER:CtX P w K mg base "is_paper" 5 BQ (spX K BQ cE))(FD:CtX P w K mg base "parted" 5 BQ (spX K BQ eJ))(FE:CtX P w K mg base "solves" 5 BQ (spX K BQ eI))(Gm:mg "NoCase" = some (.ref BQ))(FH:mg "NoChart" = some (.ref CN))(He:mg "NoNet" = some (.ref C9))(Hf:mg "NoRun" = some (.ref Dc))(ES:mg "NoStretch" = some (.ref Cz))(Gn:mg "NoText" = some (.ref CZ))(Ew:mg "OtherMoves" = some (.ref Cu))(E7:mg "TooGreat" = some (.ref CG))(B7:PySem.W.mroIn K BQ (.ref Ck)=some true)(B3:PySem.W.kitOne K (.ref BQ) (.type "ValueError")=some true)(Ce:PySem.W.kitOne K (.ref BQ) (.ref BQ)=some true)(Cb:PySem.W.kitOne K (.ref BQ) (.ref CN)=some false)(Cm:PySem.W.kitOne K (.ref BQ) (.ref C9)=some false)(Cn:PySem.W.kitOne K (.ref BQ) (.ref Dc)=some false)(B6:PySem.W.kitOne K (.ref BQ) (.ref Cz)=some false)(Cf:PySem.W.kitOne K (.ref BQ) (.ref CZ)=some false)(B4:PySem.W.kitOne K (.ref BQ) (.ref Cu)=some false)(B8:PySem.W.kitOne K (.ref BQ) (.ref CG)=some false)(Cc:Asks K BQ)(CC:XCl mg base "NetError" Ck)(CK:mg "ValueError" = none)(BS:mg "isinstance" = none)(CA:mg "len" = none):Ct P w K mg base "_law_refused" 6 (spF K bI):=
 dA Df a0 (fun _ _ _ _ _ _=>yG fun _ _ _=>rfl) fun f Cg A outer s H E hr=>
  (aq (aO (i:=3) a0.nd rfl (lo rfl) (cG az))
  (aq (aO (i:=4) a0.nd rfl (lo rfl) (a9 (af ao (af (aG qB (aa (a9 (af ao az))) (aa (bE c6 (by rfl) CA bt_len (ag (aa (bq (ae (pv 0)) (aa ao))) aw)))) (af (aG qB (aa (a9 (af ao az))) (aa (bE c6 (by rfl) CA bt_len (ag (aa (bq (ae (pv 0)) (aa ao))) aw)))) az)))))
  (aq (sP (i:=5) (j:=3) CC B7 (by rfl) jU (ma (b5 (f7 hr.units) (ae (pv 2)) (aa ao) (bO _)) (jR (gf FD hr.m (by rfl) (ag (ae (pv 0)) (ag (ae (pv 1)) aw))))
  (ma (b5 (f7 hr.units) (ae (pv 2)) (aa ao) (bO _)) (jR (gf FE hr.m (by rfl) (ag (ae (pv 0)) (ag (ae (pv 4)) (ag (ae (pv 1)) aw)))))
  (ma (b5 (f7 hr.units) (ae (pv 2)) (aa ao) (bO _)) (jR (gf ER hr.m (by rfl) (ag (ae (pv 0)) (ag (ae (pv 1)) (ag (aa ao) (ag (aa (cG az)) aw))))))
  vX))) (fun a o vs h1 h2=>(vU (vS (j:=3) a0.nd rfl (Or.inl rfl) (dD (k7 My h1 h2 Cc (pv 5) (by rfl) BS (by rfl) Gm Ce) (dD (yD My h1 h2 Cc (pv 5) (by rfl) BS (by rfl) CK (by decide +kernel) B3) (dD (k7 My h1 h2 Cc (pv 5) (by rfl) BS (by rfl) Gn Cf) (dD (k7 My h1 h2 Cc (pv 5) (by rfl) BS (by rfl) FH Cb) qE))))
  (nE a0.nd rfl (Or.inl rfl) (pv 3) (dD (k7 My h1 h2 Cc (pv 5) (by rfl) BS (by rfl) He Cm) (dD (k7 My h1 h2 Cc (pv 5) (by rfl) BS (by rfl) E7 B8) (dD (k7 My h1 h2 Cc (pv 5) (by rfl) BS (by rfl) Ew B4) qE)))
  (nE a0.nd rfl (Or.inl rfl) (pv 3) (dD (k7 My h1 h2 Cc (pv 5) (by rfl) BS (by rfl) ES B6) (dD (k7 My h1 h2 Cc (pv 5) (by rfl) BS (by rfl) Hf Cn) qE))
  vR))))) rfl rfl rfl (by decide) rfl a0.nd rfl rfl rfl)
  (aD (bL (h8 (f7 hr.units) (ae (pv 3)) (aa (aG aS (aa (cG (af iN (af iN az)))) (aa (aG fm (aa (cG (af iN az))) (aa ao))))) (bO _)))))))
abbrev j0:Stmt:=top 71
theorem gK:FnScope ["_law_script","_law_chart","_law_handed","_law_due","_law_told","_law_case","_law_x","_law_k"] ["_law_script"] (defScope j0):=fs
theorem yH{f:Addr}{fd:FuncData}(F:Fun K "law" "law" j0 f fd)(Ex:Ct P w K mg base "_law_cases" 1 (spF K bX))(Ca:Ct P w K mg base "_law_cell_at" 1 (spF K ay))(D7:Ct P w K mg base "_law_no_case" 1 (spF K bH))(D8:Ct P w K mg base "_law_refused" 6 (spF K bI))(CD:Ct P w K mg base "_law_stream" 1 (spF K aM))(DI:Ct P w K mg base "_law_wide_chart" 2 (spF K aX))(D9:Ct P w K mg base "cases_of" 4 (spF K cf))(Dw:mg "bool" = none)(BS:mg "isinstance" = none)(Ea:mg "list" = none)(B5:mg "range" = none)(CQ:mg "tuple" = none):FnOk P w K mg base F2 7 f fd ["_law_script"] (spF K vY):=
 fnok_of F gK fun Cg A outer s H E hr=>
  (aq (aO (i:=1) gK.nd rfl (lo rfl) (bo DI hr.m (by rfl) (ag (ae (pv 0)) aw)))
  (aq (aO (i:=2) gK.nd rfl (lo rfl) (a9 (af (bq (ae (pv 1)) (aa ao)) (af (kG vB (by rfl) Ea pF (ag (aa (bq (ae (pv 1)) (aa ao))) aw)) az))))
  (aq (aO (i:=3) gK.nd rfl (lo rfl) (bo Ex hr.m (by rfl) (ag (ae (pv 1)) aw)))
  (aq (aO (i:=4) gK.nd rfl (lo rfl) (bo D9 hr.m (by rfl) (ag (ae (pv 2)) aw)))
  (aq (fZ (QW.qt (oj (gw (eO (l5 (T:="list") (by decide) (ae (pv 4)) (by rfl) BS (by rfl) Ea pF))) (oj (b5 (sF hr.units) (ae (pv 4)) (ae (pv 3)) (bO _)) (p6 (b5 (sF hr.units) (ae (pv 2)) (ae (pv 1)) (bO _))))))
  (aD (bL iN))
  cb)
  (aq (sO (di Ng rfl (fR (a7 (pv 4))) (aP (i:=5) gK.nd rfl (lo rfl))
  (aD (fZ (QW.qt (oj (gw (eO (l5 (T:="tuple") (by decide) (ae (pv 5)) (by rfl) BS (by rfl) CQ jt))) (oj (eO (l5 (T:="bool") (by decide) (aa (bq (ae (pv 5)) (aa ao))) (by rfl) BS (by rfl) Dw lS)) (p6 (eO (l5 (T:="bool") (by decide) (aa (bq (ae (pv 5)) (aa ao))) (by rfl) BS (by rfl) Dw lS))))))
  (aD (bL iN))
  cb))))
  (aq (fY (sM (pv 4)))
  (aq (aO (i:=6) gK.nd rfl (lo rfl) (bq (aa (bo CD hr.m (by rfl) (ag (aa (bo Ca hr.m (by rfl) (ag (ae (pv 0)) (ag (aa ao) aw)))) (ag (aa ao) aw)))) (aa ao)))
  (aq (di Ng rfl (cn (by rfl) B5 (aa ao)) (aP (i:=7) gK.nd rfl (lo rfl))
  (aD (fZ (gw (eO (bo D8 hr.m (by rfl) (ag (ae (pv 2)) (ag (aa (bo D7 hr.m (by rfl) (ag (ae (pv 1)) (ag (aa (aG aS (ae (pv 6)) (aa (aG fm (aa ao) (ae (pv 7)))))) aw)))) (ag (aa (aG bR (aa (aG aS (ae (pv 6)) (ae (pv 7)))) (aa ao))) aw))))))
  (aD (bL iN))
  cb)))
  (aD (bL (i5 (h8 (f7 hr.units) (aa (bo D9 hr.m (by rfl) (ag (ae (pv 2)) aw))) (ae (pv 3)) (bO _)) (mY (h8 (f7 hr.units) (ae (pv 2)) (ae (pv 1)) (bO _)))))))))))))))
end
end LW
namespace PV
open PySem L2 NX
class Cont (α β:Type) where
 run:α->Res β
def Res.bnd{α β:Type}[f:Cont α β](x:Res α):Res β:=x.bind f.run
theorem DV{α β:Type}(a:α)(f:α->Res β):Res.bnd (Res.ok a) (f:=⟨f⟩)=f a:=id rfl
section
variable(env:PV.Env)(i n:Nat)(d:D)(f g:FX)(c c':FT)(fo Jv Kg:FO)(fs:C6)(fd:FDs)(s t:FS)(op GJ:D->D->Res R)(F:List D->Res R)(a:FG)(as:GY)(fi fj:FI)(fp BY:FP)(T:String)
theorem IB:aA d env=.ok ((.f,d),env):=id rfl
theorem Hg:bJ i env=match env[i]? with|some (some r)=>.ok ((.f,r.2),env.set i (some (fz r.1,r.2)))|_=>.bad:=id rfl
theorem Kh:fz .f=.f:=id rfl
theorem Gp(p:Addr):tV (.pin p .d)=true:=id rfl
theorem Hh:lW i env=match env[i]? with|some (some r)=>.ok (r,env.set i none)|_=>.bad:=id rfl
theorem IC:av f env=Res.bnd (f env) (f:=⟨fun p=>.ok (.val p.1.2,p.2)⟩):=id rfl
theorem ID:au i env=match env[i]? with|some (some _)=>.ok (.var i,env)|_=>.bad:=id rfl
theorem Hi:aI env=.ok ([],env):=id rfl
theorem Gq:ai fo fs env=Res.bnd (fo env) (f:=⟨fun p=>Res.bnd (fs p.2) (f:=⟨fun q=>.ok (p.1::q.1,q.2)⟩)⟩):=id rfl
theorem Hj:aR env=.ok ([],env):=id rfl
theorem Gr:ah f fd env=Res.bnd (f env) (f:=⟨fun p=>Res.bnd (fd p.2) (f:=⟨fun q=>.ok (p.1.2::q.1,q.2)⟩)⟩):=id rfl
theorem IE:Dm env (.val d)=.ok d:=id rfl
theorem IF:Dm env (.var i)=match env[i]? with|some (some r)=>if tV r.1 then .ok r.2 else .bad|_=>.bad:=id rfl
theorem Hk:oh env (.val d)=.ok d:=id rfl
theorem Hl:oh env (.var i)=match env[i]? with|some (some r)=>.ok r.2|_=>.bad:=id rfl
theorem Hm:oi env []=.ok []:=id rfl
theorem Hn(o:Opd)(os:List Opd):oi env (o::os)=Res.bnd (Dm env o) (f:=⟨fun d=>Res.bnd (oi env os) (f:=⟨fun ds=>.ok (d::ds)⟩)⟩):=id rfl
theorem Gs:hX env []=.ok []:=id rfl
theorem Gu(o:Opd)(os:List Opd):hX env (o::os)=Res.bnd (oh env o) (f:=⟨fun d=>Res.bnd (hX env os) (f:=⟨fun ds=>.ok (d::ds)⟩)⟩):=id rfl
theorem Ho:tV .f=true:=id rfl
theorem Hq:tV (.l .f)=true:=id rfl
theorem Hr:tV .d=true:=id rfl
theorem IG:aF op fo Jv env=Res.bnd (fo env) (f:=⟨fun p=>Res.bnd (Jv p.2) (f:=⟨fun q=>Res.bnd (Dm q.2 p.1) (f:=⟨fun a=>Res.bnd (Dm q.2 q.1) (f:=⟨fun b=>Res.bnd (op a b) (f:=⟨fun r=>.ok (r,q.2)⟩)⟩)⟩)⟩)⟩):=id rfl
theorem Ht:bY op fo Jv env=Res.bnd (fo env) (f:=⟨fun p=>Res.bnd (Jv p.2) (f:=⟨fun q=>Res.bnd (oh q.2 p.1) (f:=⟨fun a=>Res.bnd (oh q.2 q.1) (f:=⟨fun b=>Res.bnd (op a b) (f:=⟨fun r=>.ok (r,q.2)⟩)⟩)⟩)⟩)⟩):=id rfl
theorem Ki:CP f env=Res.bnd (f env) (f:=⟨fun p=>match p.1.2 with | .bl k=>.ok (k,p.2)|_=>.bad⟩):=id rfl
theorem IH:zW c c' env=Res.bnd (c env) (f:=⟨fun p=>if p.1 then c' p.2 else .ok (false,p.2)⟩):=id rfl
theorem Kj:HS c c' env=Res.bnd (c env) (f:=⟨fun p=>if p.1 then .ok (true,p.2) else c' p.2⟩):=id rfl
theorem II:p5 c env=Res.bnd (c env) (f:=⟨fun p=>.ok (!p.1,p.2)⟩):=id rfl
theorem IJ:tZ f g env=Res.bnd (f env) (f:=⟨fun p=>match p.1.2 with | .bl true=>g p.2 | .bl false=>.ok ((.f,.bl false),p.2)|_=>.bad⟩):=id rfl
theorem IK:zg f env=Res.bnd (f env) (f:=⟨fun p=>match p.1.2 with | .bl k=>.ok ((.f,.bl (!k)),p.2)|_=>.bad⟩):=id rfl
theorem Gv:m3 op GJ fo Jv Kg env=Res.bnd (fo env) (f:=⟨fun p=>Res.bnd (Jv p.2) (f:=⟨fun q=>Res.bnd (Dm q.2 p.1) (f:=⟨fun a=>Res.bnd (Dm q.2 q.1) (f:=⟨fun b=>Res.bnd (op a b) (f:=⟨fun r=>match r with
 |(.f,.bl true)=>Res.bnd (Kg q.2) (f:=⟨fun t=>Res.bnd (Dm t.2 q.1) (f:=⟨fun b=>Res.bnd (Dm t.2 t.1) (f:=⟨fun c=>Res.bnd (GJ b c) (f:=⟨fun r=>.ok (r,t.2)⟩)⟩)⟩)⟩)
 |(.f,.bl false)=>.ok ((.f,.bl false),q.2)
 |_=>.bad⟩)⟩)⟩)⟩)⟩):=id rfl
theorem Hu:cz F fs env=Res.bnd (fs env) (f:=⟨fun p=>Res.bnd (oi p.2 p.1) (f:=⟨fun ds=>Res.bnd (F ds) (f:=⟨fun r=>.ok (r,p.2)⟩)⟩)⟩):=id rfl
theorem IL:e8 F fs env=Res.bnd (fs env) (f:=⟨fun p=>Res.bnd (hX p.2 p.1) (f:=⟨fun ds=>Res.bnd (F ds) (f:=⟨fun r=>.ok (r,if bP r.1 r.2 then p.2 else p.2.map frz)⟩)⟩)⟩):=id rfl
theorem IM:dk fd env=Res.bnd (fd env) (f:=⟨fun p=>if p.1.length<=1000 then .ok ((.f,.tup p.1),p.2) else .bad⟩):=id rfl
theorem IP:j9 fd env=Res.bnd (fd env) (f:=⟨fun p=>if p.1.length<=1000 then .ok ((.l .f,.lst p.1),p.2) else .bad⟩):=id rfl
theorem Hv:sy f env=Res.bnd (f env) (f:=⟨fun p=>match p.1.2 with | .int i=>.ok (some i,p.2)|_=>.bad⟩):=id rfl
theorem IQ:ud i f env=if qh env i then(Res.bnd (f env) (f:=⟨fun(p:R×PV.Env)=>match p.2[i]? with
 |some (some (.l .f,.lst ds))=>if ds.length<sizeLine then .ok ((.f,.non),p.2.set i (some (.l .f,.lst (ds++[p.1.2])))) else .bad
 |_=>.bad⟩)) else .bad:=id rfl
theorem Hw:qh env i=match env[i]? with|some (some (_,.lst _))=>true|_=>false:=id rfl
theorem Kk:Hb T fo env=Res.bnd (fo env) (f:=⟨fun p=>Res.bnd (oh p.2 p.1) (f:=⟨fun d=>.ok ((.f,.bl (i8 T d)),p.2)⟩)⟩):=id rfl
theorem Hx:kO f g env=Res.bnd (f env) (f:=⟨fun p=>Res.bnd (g p.2) (f:=⟨fun q=>match(m9 p.1.2).bind cv,q.1.2 with|some ns,.int d=>.ok ((.f,.int (NX.maxD ns d)),q.2)|_,_=>.bad⟩)⟩):=id rfl
theorem Hy(tk:Bool):eNewD tk env=.ok ((.d,.dct tk [] []),env):=id rfl
theorem Hz(ix:List (Option Nat)):fI fi ix a c f env=Res.bnd (fi env) (f:=⟨fun p=>Res.bnd (fH a c f p.1 (cF ix p.2)) (f:=⟨fun ds=>if ds.length<=sizeLine then .ok ((.l .f,.lst ds),if flatDs ds then p.2 else p.2.map frz) else .bad⟩)⟩):=id rfl
theorem E8:cF [] env=[]:=id rfl
theorem E9(ix:List (Option Nat)):cF (none::ix) env=none::cF ix env:=id rfl
theorem Fb(ix:List (Option Nat)):cF (some i::ix) env=(match env[i]? with|some (some r)=>some (O.f,r.2)|_=>none)::cF ix env:=id rfl
theorem yI:sx env=.ok (true,env):=id rfl
theorem nJ(ds:List D):fH a c f (d::ds) env=Res.bnd (a d env) (f:=⟨fun e=>Res.bnd (c e) (f:=⟨fun p=>if p.1 then(Res.bnd (f p.2) (f:=⟨fun q=>Res.bnd (fH a c f ds q.2) (f:=⟨fun rs=>.ok (q.1.2::rs)⟩)⟩)) else fH a c f ds p.2⟩)⟩):=id rfl
theorem yJ:ya f env=Res.bnd (f env) (f:=⟨fun p=>match p.1.2 with | .lst ds=>.ok (ds,p.2)|_=>.bad⟩):=id rfl
theorem vZ:qb f env=Res.bnd (f env) (f:=⟨fun p=>match p.1.2 with | .tup ds=>.ok (ds,p.2)|_=>.bad⟩):=id rfl
theorem v3:qd f env=Res.bnd (f env) (f:=⟨fun p=>match p.1.2 with | .str l=>.ok (l.map fun c=>.str [c],p.2)|_=>.bad⟩):=id rfl
theorem yK:Fo fi fj env=match fi env with | .ok a=>.ok a|_=>fj env:=by
 unfold Fo;cases fi env <;> rfl
theorem IS:Fo (ya f) (Fo (qb f) (qd f)) env=Res.bnd (f env) (f:=⟨fun p=>match p.1.2 with
 | .lst ds=>.ok (ds,p.2)
 | .tup ds=>.ok (ds,p.2)
 | .str l=>.ok (l.map fun c=>.str [c],p.2)
 |_=>.bad⟩):=by
 rw[yK,yK,yJ,vZ,v3];cases f env with
 |ok p=>
  obtain⟨⟨o,d⟩,e⟩:=p;cases d <;> rfl
 |exc c=>rfl
 |bad=>rfl
theorem Em:b6 fo env=Res.bnd (fo env) (f:=⟨fun p=>Res.bnd (Dm p.2 p.1) (f:=⟨fun d=>match d with
 | .int j=>if -4611686018427387904<=j/\j<4611686018427387904 then .ok ((List.range j.toNat).map fun(k:Nat)=>D.int (k:Int),p.2) else .bad
 |_=>.bad⟩)⟩):=id rfl
theorem FJ:jH fs env=Res.bnd (fs env) (f:=⟨fun p=>Res.bnd (oi p.2 p.1) (f:=⟨fun d=>match d with
 |[.int i,.int j]=>if(-4611686018427387904<=i/\i<4611686018427387904)/\-4611686018427387904<=j/\j<4611686018427387904 then .ok ((List.range (j-i).toNat).map fun(k:Nat)=>D.int (i+(k:Int)),p.2) else .bad
 |_=>.bad⟩)⟩):=id rfl
theorem Ae(k1 k2:Bool):qe k1 k2 fs env=Res.bnd (fs env) (f:=⟨fun p=>match p.1 with
 |[.val d1,.val d2]=>Res.bnd (gR k1 d1) (f:=⟨fun a=>Res.bnd (gR k2 d2) (f:=⟨fun b=>.ok ((a.zip b).map fun z=>D.tup [z.1,z.2],p.2)⟩)⟩)
 |_=>.bad⟩):=id rfl
theorem DZ:aK i d env=if i<env.length then .ok (env.set i (some (.f,d))) else .bad:=id rfl
theorem HA:gQ [] env=.ok env:=id rfl
theorem DJ(ds:List D):aW a as (d::ds) env=Res.bnd (a d env) (f:=⟨fun e=>as ds e⟩):=id rfl
theorem Gw(ds:List D):om n as (.tup ds) env=if ds.length=n then as ds env else .bad:=id rfl
theorem Fc:sSeq s t env=Res.bnd (s env) (f:=⟨fun o=>match o with | .nx e=>t e|o=>.ok o⟩):=id rfl
theorem HB:e9 env=.ok (.nx env):=id rfl
theorem IT:cC i f env=Res.bnd (f env) (f:=⟨fun p=>if i<p.2.length then .ok (.nx (p.2.set i (some p.1))) else .bad⟩):=id rfl
theorem HC:jG f env=Res.bnd (f env) (f:=⟨fun p=>.ok (.nx p.2)⟩):=id rfl
theorem IU:gy f env=Res.bnd (f env) (f:=⟨fun p=>.ok (.rt p.1)⟩):=id rfl
theorem Kl:EY c s t env=Res.bnd (c env) (f:=⟨fun p=>if p.1 then s p.2 else t p.2⟩):=id rfl
theorem Dx:lK fi a s env=Res.bnd (fi env) (f:=⟨fun p=>kI a s p.1 p.2⟩):=id rfl
theorem v5(ds:List D):kI a s (d::ds) env=Res.bnd (a d env) (f:=⟨fun e=>Res.bnd (s e) (f:=⟨fun o=>match o with
 | .nx e=>kI a s ds e
 | .ct e=>kI a s ds e
 | .bk e=>.ok (.nx e)
 | .rt r=>.ok (.rt r)⟩)⟩):=id rfl
theorem IV:wU i f g env=Res.bnd (g env) (f:=⟨fun(p:R×PV.Env)=>Res.bnd (f p.2) (f:=⟨fun(q:R×PV.Env)=>match p.2[i]?,q.2[i]? with
 |some (some _),some (some (.d,.dct tk ks vs))=>if dW tk q.1.2&&decide (ks.length<sizeLine) then .ok (.nx (q.2.set i (some (.d,.dct tk (l7 ks vs q.1.2 p.1.2).1 (l7 ks vs q.1.2 p.1.2).2)))) else .bad
 |_,_=>.bad⟩)⟩):=id rfl
theorem a8(ds:List D)(nn:Nat)(h:ds.length=n):fBody n nn s ds=Res.bnd (s (ds.map (fun d=>some (O.f,d))++List.replicate nn none)) (f:=⟨fun o=>match o with
 | .rt r=>.ok r
 | .nx _=>.ok (.f,.non)
 |_=>.bad⟩):=by
 unfold fBody;rw[MM h];all_goals cases s (ds.map (fun d=>some (O.f,d))++List.replicate nn none) with
 |ok o=>cases o <;> rfl
 |exc c=>rfl
 |bad=>rfl
end
theorem line_le{n:Nat}(h:n<=16777216):n<=sizeLine:=by rw[line_eq];exact h
section
variable(a b:Int)(x y:List Nat)(p q:Bool)(ds es:List D)
theorem Af:DH (.int a) (.int b)=.ok (.f,.bl (a==b)):=by simp only[DH,plainD,BZ,Ot,OH]
theorem Ag:DH (.str x) (.str y)=.ok (.f,.bl (x==y)):=by simp only[DH,plainD,BZ,Ot,OH]
theorem Ah:Fz (.int a) (.int b)=.ok (.f,.bl (!(a==b))):=by simp only[Fz,plainD,BZ,Ot,OH]
theorem yL:rh (.int a) (.int b)=.ok (.f,.int (a-b)):=id rfl
theorem v7:cQ (.int a) (.int b)=if 0<b/\b<1073741824 then .ok (.f,.int (a / b)) else .bad:=id rfl
theorem yM:dR (.int a) (.int b)=if 0<b then .ok (.f,.int (a%b)) else .bad:=id rfl
theorem Ai:Gh (.int a) (.int b)=.ok (.f,.bl (decide (a<b))):=id rfl
theorem Aj:KJ (.int a) (.int b)=.ok (.f,.bl (decide (a<=b))):=id rfl
theorem Ak:JX (.int a) (.int b)=.ok (.f,.bl (decide (b<a))):=id rfl
theorem um:jP [.lst ds]=.ok (.f,.int ds.length):=id rfl
theorem yN:jP [.tup ds]=.ok (.f,.int ds.length):=id rfl
theorem v9:sC [.lst ds]=.ok (.l .f,.lst ds):=id rfl
theorem sS:m7 [.lst ds]=.ok (.f,.tup ds):=id rfl
theorem wa:Cj (.lst ds) (.int a)=match DN ds a with|some d=>.ok (.f,d)|none=>.bad:=id rfl
theorem yO:Cj (.tup ds) (.int a)=match DN ds a with|some d=>.ok (.f,d)|none=>.bad:=id rfl
theorem Al:Cj (.str x) (.int a)=match DN x a with|some c=>.ok (.f,.str [c])|none=>.bad:=id rfl
theorem yP:maxD [.int a,.int b]=.ok (.f,.int (if a<b then b else a)):=id rfl
theorem Lx{α:Type}(d:α)(l:List α):DN (d::l) 0=some d:=by
 have:=eW (xs:=d::l) (j:=0) (v:=d) rfl;simpa using this
theorem Mi{α:Type}(c d:α)(l:List α):DN (c::d::l) 1=some d:=by
 have:=eW (xs:=c::d::l) (j:=1) (v:=d) rfl;simpa using this
end
theorem En(l:List Int):flatDs (l.map D.int)=true:=by
 rw[bN,OC,M3];intro b _;rfl
theorem flat_strs(l:List (List Nat)):flatDs (l.map D.str)=true:=by
 rw[bN,OC,M3];intro b _;rfl
theorem wb(d:D):bP .f d=dO d:=by rw[bP]
theorem nK(ds:List D):bP (.l .f) (.lst ds)=flatDs ds:=by rw[bP,jI]
theorem j3(i:Int):dO (.int i)=true:=by rw[dO];all_goals simp
theorem wc(i:Bool):dO (.bl i)=true:=by rw[dO];all_goals simp
theorem oJ(n:Nat)(l:List Int):plainDs n (l.map D.int)=true:=by
 induction l with
 |nil=>rfl
 |cons a l ih=>rw[MS,plainDs,ih,plainD];all_goals simp
theorem gm(n:Nat)(l:List (List Nat)):plainDs n (l.map D.str)=true:=by
 induction l with
 |nil=>rfl
 |cons a l ih=>rw[MS,plainDs,ih,plainD];all_goals simp
theorem sT(a:Int)(l:List Int):sG (.int a) (l.map D.int)=decide (a∈l):=by
 unfold sG;rw[Pl,MV,N6,ME];constructor
 ·rintro⟨x,hx,e⟩;have e:BZ (.int x) (.int a)=true:=e;rw[BZ,Nb]at e;rw[<-e];exact hx
 ·intro h;refine⟨a,h,?_⟩;show BZ (.int a) (.int a)=true;rw[BZ,Nl]
theorem zi(a:List Nat)(l:List (List Nat)):sG (.str a) (l.map D.str)=decide (a∈l):=by
 unfold sG;rw[Pl,MV,N6,ME];constructor
 ·rintro⟨x,hx,e⟩;have e:BZ (.str x) (.str a)=true:=e;rw[BZ,Nb]at e;rw[<-e];exact hx
 ·intro h;refine⟨a,h,?_⟩;show BZ (.str a) (.str a)=true;rw[BZ,Nl]
theorem yQ(a:Int)(l:List Int):Gf (.int a) (.lst (l.map D.int))=.ok (.f,.bl (decide (a∈l))):=by
 unfold Gf;dsimp only;rw[oJ,sT,plainD];all_goals simp
theorem wd(a:Int)(l:List Int):wR (.int a) (.lst (l.map D.int))=.ok (.f,.bl (!decide (a∈l))):=by
 unfold wR;rw[yQ];rfl
theorem j4{α:Type}{a:FG}{c:FT}{f:FX}{e:α->D}{p:α->Bool}{r:α->D}(I:PV.Env->Prop)(l:List α)
  (h:∀x∈l,∀env,I env->∃BW,a (e x) env=.ok BW/\∃Co,c BW=.ok (p x,Co)/\if p x then ∃o C7,f Co=.ok ((o,r x),C7)/\I C7 else I Co):∀env,I env->fH a c f (l.map e) env=.ok ((l.filter p).map r):=by
 induction l with
 |nil=>intro env _;rfl
 |cons x l ih=>
  intro env hI;obtain⟨BW,h1,Co,h2,h3⟩:=h x My env hI;have ih:=ih fun y hy=>h y (MJ _ hy)
  rw[MS,nJ,h1,DV,h2,DV];cases hp:p x with
  |true=>
   rw[hp]at h3;obtain⟨o,C7,h4,h5⟩:=h3;rw[MM rfl,h4,DV,ih C7 h5,DV,PU hp];rfl
  |false=>
   rw[hp]at h3;rw[MO MP,ih Co h3,PY (by rw[hp];exact MP)]
theorem nL{α:Type}{a:FG}{f:FX}{e:α->D}{r:α->D}(I:PV.Env->Prop)(l:List α)
  (h:∀x∈l,∀env,I env->∃BW,a (e x) env=.ok BW/\∃o C7,f BW=.ok ((o,r x),C7)/\I C7):∀env,I env->fH a sx f (l.map e) env=.ok (l.map r):=by
 induction l with
 |nil=>intro env _;rfl
 |cons x l ih=>
  intro env hI;obtain⟨BW,h1,o,C7,h4,h5⟩:=h x My env hI;have ih:=ih fun y hy=>h y (MJ _ hy)
  rw[MS,nJ,h1,DV,yI,DV,MM rfl,h4,DV,ih C7 h5];rfl
theorem we{a:FG}{g:FS}(P:Nat->PV.Env->Prop)(ds:List D)(h:∀i d env,ds[i]?=some d->P i env->∃BW,a d env=.ok BW/\∃Co,(g BW=.ok (.nx Co)\/g BW=.ok (.ct Co))/\P (i+1) Co):
  ∀env,P 0 env->∃env',kI a g ds env=.ok (.nx env')/\P ds.length env':=by
 have key:∀(l:List D) (k:Nat) (env:PV.Env),(∀i d,l[i]?=some d->ds[k+i]?=some d)->P k env->∃env',kI a g l env=.ok (.nx env')/\P (k+l.length) env':=by
  intro l;induction l with
  |nil=>exact fun k env _ hp=>⟨env,rfl,hp⟩
  |cons d l ih=>
   intro k env hd hp;obtain⟨BW,h1,Co,h2,h3⟩:=h k d env (hd 0 d rfl) hp;obtain⟨env',h4,h5⟩:=ih (k+1) Co (fun i d e=>by have:=hd (i+1) d (by simpa using e);rw[show k+1+i=k+(i+1) by lia];exact this) h3;refine⟨env',?_,by rw[MY,show k+(l.length+1)=k+1+l.length by lia];exact h5⟩;rw[v5,h1,DV];rcases h2 with h2|h2
   ·rw[h2,DV];exact h4
   ·rw[h2,DV];exact h4
 intro env hp;obtain⟨env',h1,h2⟩:=key ds 0 env (fun i d e=>by rw[OU];exact e) hp;exact⟨env',h1,by rw[OU]at h2;exact h2⟩
section
variable(env:PV.Env)(fo:FO)(fp BY:FP)(a b:Int)(ds:List D)(x:List Nat)
theorem IW:Aa fo fp BY env=Res.bnd (fo env) (f:=⟨fun p=>Res.bnd (fp p.2) (f:=⟨fun q=>Res.bnd (BY q.2) (f:=⟨fun t=>Res.bnd (Dm t.2 p.1) (f:=⟨fun d=>Res.bnd (J8 d q.1 t.1) (f:=⟨fun r=>.ok (r,t.2)⟩)⟩)⟩)⟩)⟩):=id rfl
theorem IX:zh fo env=Res.bnd (fo env) (f:=⟨fun p=>Res.bnd (Dm p.2 p.1) (f:=⟨fun d=>match d with
 | .int i=>.ok ((.f,.int (-i)),p.2)
 |_=>.bad⟩)⟩):=id rfl
theorem yR(lo hi:Option Int):J8 (.lst ds) lo hi=.ok (.l .f,.lst (lM ds lo hi)):=id rfl
theorem yS(lo hi:Option Int)(h:HT.sIx ds.length 0 lo=0/\HT.sIx ds.length ds.length hi=ds.length):lM ds lo hi=ds:=by
 unfold lM;rw[h.1,h.2,List.drop_zero,Nat.sub_zero,Qc (MH _)]
theorem wg:vH (.int a) (.int b)=if dj a||dj b then .ok (.f,.int (a*b)) else if a.natAbs<2 ^ 1000/\b.natAbs<2 ^ 1000 then .ok (.f,.int (a*b)) else .bad:=id rfl
end
section
variable(env:PV.Env)(fo:FO)(fs:C6)(f g:FX)(a b c:Int)(ds es:List D)(x y:List Nat)
theorem AH(d:D):(∃l,gR true d=.ok l/\gR false d=.bad/\m9 d=some l)\/(∃l,gR true d=.bad/\gR false d=.ok l/\m9 d=some l)\/(gR true d=.bad/\gR false d=.bad/\m9 d=none):=by
 cases d with
 |lst l=>exact .inl ⟨l,rfl,rfl,rfl⟩
 |tup l=>exact .inr (.inl ⟨l,rfl,rfl,rfl⟩)
 |_=>exact .inr (.inr ⟨rfl,rfl,rfl⟩)
def yT(k1 k2:Bool)(e:PV.Env)(d1 d2:D):Res (List D×PV.Env):=(gR k1 d1).bind fun a=>(gR k2 d2).bind fun b=>.ok ((a.zip b).map fun z=>D.tup [z.1,z.2],e)
def AI(e:PV.Env)(d1 d2:D):Res (List D×PV.Env):=match m9 d1,m9 d2 with|some a,some b=>.ok ((a.zip b).map fun z=>D.tup [z.1,z.2],e)|_,_=>.bad
def Km(a b:Res (List D×PV.Env)):Res (List D×PV.Env):=match a with | .ok a=>.ok a|_=>b
def zj(g:D->D->Res (List D×PV.Env))(os:List Opd):Res (List D×PV.Env):=match os with|[.val d1,.val d2]=>g d1 d2|_=>.bad
theorem Am(g h:D->D->Res (List D×PV.Env))(os:List Opd):Km (zj g os) (zj h os)=zj (fun a b=>Km (g a b) (h a b)) os:=by
 unfold zj;split <;> rfl
theorem An(e:PV.Env)(a b:D):Km (yT true true e a b) (Km (yT true false e a b) (Km (yT false true e a b) (yT false false e a b)))=AI e a b:=by
 unfold yT AI;rcases AH a with⟨l,h1,h2,h3⟩|⟨l,h1,h2,h3⟩|⟨h1,h2,h3⟩ <;> rcases AH b with⟨m,i1,i2,i3⟩|⟨m,i1,i2,i3⟩|⟨i1,i2,i3⟩ <;> rw[h1,h2,h3,i1,i2,i3] <;> rfl
theorem HD:m9 (.lst ds)=some ds:=id rfl
theorem wj:ox (.int a) (.int b)=vH (.int a) (.int b):=id rfl
theorem wm:ox (.lst ds) (.int b)=if 0<=b/\b<1000000/\ds.length*b.toNat<=sizeLine then .ok (.l .f,.lst (List.replicate b.toNat ds).flatten) else .bad:=id rfl
theorem Gx:yz f g env=Res.bnd (f env) (f:=⟨fun p=>Res.bnd (g p.2) (f:=⟨fun q=>if dW false p.1.2 then .ok ((.d,.dct false [p.1.2] [q.1.2]),q.2) else .bad⟩)⟩):=id rfl
theorem wo(d:D):ri d (.lst ds)=wR d (.lst ds):=id rfl
theorem yU:dW false (.int a)=true:=id rfl
theorem yV:dW false (.str x)=true:=id rfl
theorem wq:cR (.int a) (.int b)=.ok (.f,.int (a+b)):=id rfl
theorem wt:cR (.str x) (.str y)=if x.length+y.length<=sizeLine then .ok (.f,.str (x++y)) else .bad:=id rfl
theorem j5:cR (.lst ds) (.lst es)=if ds.length+es.length<=sizeLine then .ok (.l .f,.lst (ds++es)) else .bad:=id rfl
theorem wu:cR (.tup ds) (.tup es)=if ds.length+es.length<=sizeLine\/ds=[] then .ok (.f,.tup (ds++es)) else .bad:=by
 unfold cR;cases ds with
 |nil=>rw[MM (.inr rfl)];rfl
 |cons d ds=>
  dsimp only;unfold addD;dsimp only;by_cases h:(d::ds).length+es.length<=sizeLine
  ·rw[MM ⟨nofun,h⟩,MM (.inl h)]
  ·rw[MO (fun z=>h z.2),MO (fun z=>z.elim h nofun)]
end
section
variable(env:PV.Env)(f g:FX)(ds ks:List D)(i:Nat)
theorem sU:nq i env=match env[i]? with
 |some (some (ow,.lst _))=>if isLf ow then .ok ((.f,.non),env.set i (some (ow,.lst []))) else .bad
 |_=>.bad:=id rfl
theorem yW:isLf (.l .f)=true:=id rfl
end
section
variable(env:PV.Env)(f:FX)(fs:C6)(ds:List D)(i:Nat)
theorem yX(k:Int):wV (.tup ds) (.int k)=if ds≠[]/\ds.length<=10/\0<=k/\k<1000 then .ok (.f,.tup (List.replicate k.toNat ds).flatten) else .bad:=id rfl
end
noncomputable def pv:=(Zz @DV (Zz @IB (Zz @Hg (Zz @Hh (Zz @IC (Zz @ID (Zz @Hi (Zz @Gq (Zz @Hj (Zz @Gr (Zz @IE (Zz @IF (Zz @Hk (Zz @Hl (Zz @Hm (Zz @Hn (Zz @Gs (Zz @Gu (Zz @Ho (Zz @Hq (Zz @Hr (Zz @IG (Zz @Ht (Zz @Ki (Zz @IH (Zz @Kj (Zz @II (Zz @IJ (Zz @IK (Zz @Gv (Zz @Hu (Zz @IL (Zz @IM (Zz @IP (Zz @IW (Zz @IX (Zz @Hv (Zz @IQ (Zz @Hw (Zz @Kk (Zz @Hx (Zz @Hy (Zz @Hz (Zz @E8 (Zz @E9 (Zz @Fb (Zz @IS (Zz @Em (Zz @FJ (Zz @DZ (Zz @HA (Zz @DJ (Zz @Gw (Zz @Fc (Zz @HB (Zz @IT (Zz @HC (Zz @IU (Zz @Kl (Zz @Dx (Zz @IV (Zz @List.getElem?_cons_zero.{0} (Zz @List.getElem?_cons_succ.{0} (Zz @List.set_cons_zero.{0} (Zz @List.set_cons_succ.{0} (Zz @List.length_cons.{0} (Zz @List.length_nil.{0} (Zz @List.map_cons.{0,0} (Zz @List.map_nil.{0,0} (Zz @List.replicate_succ.{0} (Zz @List.replicate_zero.{0} (Zz @List.cons_append.{0} (Zz @List.nil_append.{0} (Zz @Nat.zero_add (Zz @HD (Zz @Gx (Zz @Kh @Gp)))))))))))))))))))))))))))))))))))))))))))))))))))))))))))))))))))))))))))))
noncomputable def op:=(Zz @Af (Zz @Ag (Zz @Ah (Zz @yL (Zz @Ai (Zz @Aj (Zz @Ak (Zz @um (Zz @yN (Zz @v9 (Zz @sS (Zz @wa (Zz @yO (Zz @Al (Zz @yR (Zz @yP (Zz @Lx (Zz @Mi (Zz @wd (Zz @wb (Zz @nK (Zz @j3 (Zz @wc (Zz @En (Zz @PV.flat_strs (Zz @wq (Zz @wj (Zz @wo (Zz @yU @yV)))))))))))))))))))))))))))))
theorem dV(n:Nat)(w:PV.Env):(∃d,Dm w (.var n)=.ok d)\/Dm w (.var n)=.bad:=by
 unfold Dm;dsimp only;split
 ·split
  ·exact .inl ⟨_,rfl⟩
  ·exact .inr rfl
 ·exact .inr rfl
section
variable(w:PV.Env)(op:D->D->Res R)(F:List D->Res R)(f g h:FX)(n n' n'':Nat)(x y:D)
end
section
variable(a b c d e g h i j k l m:Option R)(z:PV.Env)(r:R)(o:O)(x:D){ρ:Type}
end
end PV
namespace LW
open PySem L2 NX PV
theorem for_list{α:Type}{a:FG}{g:FS}{e:α->D}(l:List α)(P:Nat->PV.Env->Prop)
  (h:∀k x env,l[k]?=some x->P k env->∃BW,a (e x) env=.ok BW/\∃Co,g BW=.ok (.nx Co)/\P (k+1) Co):∀env,P 0 env->∃env',kI a g (l.map e) env=.ok (.nx env')/\P l.length env':=by
 intro env h0;have:=we (a:=a) (g:=g) P (l.map e) (fun i d env hi hp=>by
  rw[Nh,Nw]at hi;obtain⟨x,hx,rfl⟩:=hi;obtain⟨BW,h1,Co,h2,h3⟩:=h i x env hx hp;exact⟨BW,h1,Co,.inl h2,h3⟩) env h0
 rwa [MA]at this
theorem dI{a:FG}{g:FS}{e:Nat->D}(n:Nat)(P:Nat->PV.Env->Prop)
  (h:∀k env,k<n->P k env->∃BW,a (e k) env=.ok BW/\∃Co,g BW=.ok (.nx Co)/\P (k+1) Co):∀env,P 0 env->∃env',kI a g ((List.range n).map e) env=.ok (.nx env')/\P n env':=by
 intro env h0;have:=for_list (a:=a) (g:=g) (e:=e) (List.range n) P (fun k x env hk hp=>by
  obtain⟨h1,h2⟩:=MF.mp hk;rw[M8]at h1;rw[Q4]at h2;subst h2;exact h k env h1 hp) env h0
 rwa [M8]at this
abbrev LNN:=List (List Nat)
theorem gq{α β:Type}{l:List α}(f:α->β):(l.map f).length=l.length:=MA f
theorem ka:(false=true)=False:=NR
theorem Ao{α:Type}{l:List α}{i:Nat}{a:α}(h:l[i]?=some a):∃h:i<l.length,l[i]=a:=MF.mp h
theorem yY{α:Type}{l:List α}{i:Nat}(h:i<l.length):l[i]?=some l[i]:=Mz h
theorem oK{α β:Type}{f:α->β}{a:α}{l:List α}:(a::l).map f=f a::l.map f:=MS
theorem Ap{α:Type}{a b:α}(h:a∈[b]):a=b:=Nu.mp h
theorem wx{α β:Type}{f:α->β}{l:List α}{b:β}(h:b∈l.map f):∃a,a∈l/\f a=b:=NK.mp h
theorem wX{α:Type}{a:α}{s t:List α}(h:a∈s++t):a∈s\/a∈t:=M1.mp h
theorem nM{α:Type}{s t:List α}:(s++t).length=s.length+t.length:=Nt
theorem aB{s t:FS}{env env':PV.Env}(h:s env=.ok (.nx env')):sSeq s t env=t env':=by rw[Fc,h,DV]
theorem lx{ds:List D}(h:ds.length<=16777216):ds.length<=sizeLine:=line_le h
theorem jh{l:List Int}{k:Nat}(h:k<l.length):DN (l.map D.int) (k:Int)=some (.int (l.getD k 0)):=eW (by rw[Nh,MQ,yY h];rfl)
theorem ji:∀l:LNN,gA (l.map D.str)=some l
 |[]=>rfl
 |a::l=>by
  rw[oK,gA,ji l];rfl
theorem ly{α:Type}(lt:α->α->Bool)(l:List α):(cp lt l).length=l.length:=(eG lt l).length_eq
theorem wy(l:LNN)(h:l.length<64):dU [.lst (l.map D.str)]=.ok (.l .f,.lst ((cp FV l).map D.str)):=by
 unfold dU;dsimp only;rw[MM (by rw[gq];exact h)];unfold l6;cases l with
 |nil=>rfl
 |cons a l=>
  have e:cv ((a::l).map D.str)=none:=rfl;rw[e,ji]
def Ey:List Nat:=[97,98,99,100,101,102,103,104,105,106,107,108,109,110,111,112,113,114,115,116,117,118,119,120,121,122]
theorem yZ(j:Nat)(h:j<26):Ey[j]?=some (97+j):=by
 have:∀j:_root_.Fin 26,Ey[j.1]?=some (97+j.1):=by decide
 exact this ⟨j,h⟩
theorem y0(j:Int)(h0:0<=j)(h:j<26):DN Ey j=some (97+j.toNat):=by
 obtain⟨n,rfl⟩:=Nc h0;exact eW (yZ n (by lia))
theorem gr(x b:Int)(h:0<b):0<=x%b/\x%b<b:=⟨OI _ (by lia),Og _ h⟩
theorem iT(x b:Int)(h:0<b):dR (.int x) (.int b)=.ok (.f,.int (x%b)):=by rw[yM,MM h]
theorem lz(x b:Int)(h:0<b)(h2:b<1073741824):cQ (.int x) (.int b)=.ok (.f,.int (x / b)):=by rw[v7,MM ⟨h,h2⟩]
theorem qK(k:Nat)(h:k<=1000000):dj (k:Int)=true:=by
 unfold dj;rw[ME];lia
theorem BB(x y:List Nat)(h:x.length+y.length<=1000):cR (.str x) (.str y)=.ok (.f,.str (x++y)):=by rw[wt,MM (line_le (by lia))]
theorem AJ(j:Int)(h0:0<=j)(h:j<=1000)(fo:FO)(env env':PV.Env)(o:Opd)(e1:fo env=.ok (o,env'))(e2:Dm env' o=.ok (.int j)):b6 fo env=.ok ((List.range j.toNat).map fun(k:Nat)=>D.int (k:Int),env'):=by
 rw[Em,e1,DV];dsimp only;rw[e2,DV];dsimp only;rw[MM (by lia)]
theorem lA(d:D)(h:plainD 40 d=true):DH d d=.ok (.f,.bl true):=by
 unfold DH;rw[h,fK d 40 h];rfl
theorem lC(d:D)(h:plainD 40 d=true):Fz d d=.ok (.f,.bl false):=by
 unfold Fz;rw[h,fK d 40 h];rfl
theorem AK(b:Int):i8 "bool" (.int b)=false:=rfl
theorem AL(b:Int):i8 "int" (.int b)=true:=rfl
theorem isT(ds:List D):i8 "tuple" (.tup ds)=true:=rfl
theorem wz{α β:Type}(f:α->β)(l:List α)(lo hi:Option Int):lM (l.map f) lo hi=(lM l lo hi).map f:=by
 unfold lM;rw[gq,<-List.map_drop,<-List.map_take]
theorem lD{α:Type}{l:List α}(h:l.length<=100000):l.length<sizeLine:=ML (Ox _) (line_le (by lia))
section
variable(env:PV.Env)(f:FX)(fs:C6)(fo:FO)
theorem BC(r:R):frz (some r)=some (.f,r.2):=id rfl
end
abbrev Cr:=Int×List Nat×Int
def eA(a:Cr):D:=.tup [.int a.1,.str a.2.1,.int a.2.2]
abbrev Nd:=Int×LNN
def met(T:List Cr):List Int:=0::T.map (·.2.2)
def eCh(nY:LNN)(ap:List Cr):D:=.tup [.tup (nY.map D.str),.lst (ap.map eA)]
theorem fw(a:Cr)(t1 t2 t3:Option R)(ck:PV.Env):om 3 (aW (aK 0) (aW (aK 1) (aW (aK 2) gQ))) (eA a) (t1::t2::t3::ck)=.ok (some (.f,.int a.1)::some (.f,.str a.2.1)::some (.f,.int a.2.2)::ck):=by
 unfold eA;rw[Gw,MM (by simp),DJ,DZ,MM (by simp),DV,DJ,DZ,MM (by simp),DV,DJ,DZ,MM (by simp),DV];rfl
theorem sV{α:Type}{f:α->D}{p:α->Bool}{l:List α}(h:l.length<=16777216):((l.filter p).map f).length<=sizeLine:=by
 rw[gq];exact line_le (M4 (OV _ _) h)
theorem uo(l:List Int):(m9 (.lst (l.map D.int))).bind cv=some l:=oq l
def kc(a:Cr):Int:=if a.1<a.2.2 then a.2.2 else a.1
def aH(ap:List Cr):Int:=1+NX.maxD (ap.map kc) 0
theorem nN{α:Type}{f:α->D}{l:List α}(h:∀a,dO (f a)=true):flatDs (l.map f)=true:=by
 rw[bN,OC,M3];intro a _;exact h a
theorem fA(nY:LNN)(ap:List Cr)(hl:ap.length<=16777216):aZ [eCh nY ap]=.ok (.f,.int (aH ap)):=by
 unfold aZ iy;rw[a8 (h:=by rfl)];simp only[pv,seval,op,eCh];rw[nL (r:=fun a:Cr=>D.int (kc a)) (fun env=>∃t1 t2 t3,env=[t1,t2,t3]) ap ?_ _ ⟨_,_,_,rfl⟩]
 ·rw[DV,MM (lx (by rw[gq];exact hl)),DV,nN fun a=>j3 _];simp only[pv,seval,op];have e:(some (ap.map fun a=>D.int (kc a))).bind cv=some (ap.map kc):=by
   have:=uo (ap.map kc);rw[Ni]at this;exact this
  rw[e];rfl
 ·rintro a _ env ⟨t1,t2,t3,rfl⟩;refine⟨_,fw a t1 t2 t3 _,?_⟩;simp only[pv,seval,op];exact⟨_,_,rfl,_,_,_,rfl⟩
theorem wA(a:Cr):dO (eA a)=true:=rfl
theorem BD(w:LNN)(m:List Nat)(h:w.length<=1000):cR (.tup (w.map D.str)) (.tup [.str m])=.ok (.f,.tup ((w++[m]).map D.str)):=by
 rw[wu,MM (.inl (line_le (by rw[gq,MY,Qk];lia))),Nk];rfl
structure Found(ap:List Cr)(N:List Nd):Prop where
 z:N[0]?=some (0,[])
 nd:(N.map (·.1)).Nodup
 le:N.length<=12
 bd:∀n∈N,0<=n.1/\n.1<12
 wl:∀n∈N,n.2.length<=12
 par:∀n∈N,n=(0,[])\/∃a∈ap,∃m∈N,a.1=m.1/\n=(a.2.2,m.2++[a.2.1])
 clo:∀n∈N,∀a∈ap,a.1=n.1->∃m∈N,m.1=a.2.2/\m.2.length<=n.2.length+1
def ak(a:Cr):List Key:=[.inl a.1,.inr (S a.2.1),.inl a.2.2]
def iU(a b:Cr):Bool:=cP (ak a) (ak b)
theorem S_inj{a b:List Nat}(h:S a=S b):a=b:=by
 have:=NQ (fun s:Str=>s.cps.toList) h;simpa only[cu] using this
theorem y1{a b:Cr}(h:ak a=ak b):a=b:=by
 unfold ak at h;injection h with h1 h2;injection h2 with h2 h3;injection h3 with h3 _;injection h1 with h1;injection h2 with h2;injection h3 with h3;obtain⟨x,y,z⟩:=a;obtain⟨x',y',z'⟩:=b;simp only at h1 h2 h3;rw[h1,S_inj h2,h3]
theorem Aq(a:Cr):kT (ak a)=eA a:=by
 unfold kT ak eA;simp only[oK,NJ,kD,cu]
theorem qL{α β:Type}(f:α->β)(lt:β->β->Bool)(x:α):∀l:List α,ins lt (f x) (l.map f)=(ins (fun a b=>lt (f a) (f b)) x l).map f
 |[]=>rfl
 |y::ys=>by
  rw[oK,ins,ins];cases lt (f y) (f x) with
  |true=>rw[MM rfl,MM rfl,qL f lt x ys,oK]
  |false=>rw[MO MP,MO MP,oK,oK]
theorem lE{α β:Type}(f:α->β)(lt:β->β->Bool):∀l:List α,cp lt (l.map f)=(cp (fun a b=>lt (f a) (f b)) l).map f
 |[]=>rfl
 |x::l=>by
  show ins lt (f x) (cp lt (l.map f))=_;rw[lE f lt l,qL];rfl
theorem qM(as:List Cr):as.map eA=(as.map ak).map kT:=by
 rw[Ni];exact NN fun a _=>(Aq a).symm
theorem wB(as:List Cr)(vs:List D)(h:as.length<64):dU [.dct true (as.map eA) vs]=.ok (.l .f,.lst ((cp iU as).map eA)):=by
 unfold dU;dsimp only;rw[MM (by rw[gq];exact h)];cases as with
 |nil=>rfl
 |cons a as=>
  have e1:gB ((a::as).map eA)=some ((a::as).map ak):=by rw[qM,gc]
  have e2:sameKinds (ak a) (as.map ak)=true:=by
   unfold sameKinds;rw[OC,MG,M3];exact⟨rfl,fun b _=>rfl⟩
  rw[e1,oK,oK];dsimp only;rw[MM e2,<-oK,lE ak cP,qM];rfl
theorem y2(a b:Cr):BZ (eA a) (eA b)=decide (a=b):=by
 obtain⟨x,y,z⟩:=a;obtain⟨x',y',z'⟩:=b;unfold eA;simp only[BZ,iO];rw[MV];simp
def rl(as:List Cr)(a:Cr):List Cr:=if a∈as then as else as++[a]
theorem qN(as:List Cr)(vs:List D)(a:Cr)(v:D):∃DY,l7 (as.map eA) vs (eA a) v=((rl as a).map eA,DY):=by
 have e:(as.map eA).any (BZ (eA a))=decide (a∈as):=by
  rw[Pl,MV,N6,ME];constructor
  ·rintro⟨b,hb,h⟩;have h:BZ (eA a) (eA b)=true:=h;rw[y2,ME]at h;rw[h];exact hb
  ·intro h;refine⟨a,h,?_⟩;show BZ (eA a) (eA a)=true;rw[y2,ME]
 unfold l7 rl;rw[e];by_cases h:a∈as
 ·rw[MM h,MM (M6 h)];exact⟨_,rfl⟩
 ·rw[MO h,MO (by simpa using h),Nk];exact⟨_,rfl⟩
theorem dJ{as:List Cr}{a b:Cr}:b∈rl as a<->b∈as\/b=a:=by
 unfold rl;split
 ·rename_i h;exact⟨.inl,fun g=>g.elim id fun e=>e▸h⟩
 ·rw[M1,Nu]
theorem nO(as:List Cr)(a:Cr):(rl as a).length<=as.length+1:=by
 unfold rl;split
 ·lia
 ·rw[nM];exact MH _
theorem qO(nY:LNN)(h0:nY≠[])(x:Int):∃m∈nY,Cj (.lst (nY.map D.str)) (.int (x%(nY.length:Int)))=.ok (.f,.str m):=by
 have hp:=NO.mpr h0;have h1:0<=x%(nY.length:Int):=OI _ (by lia);have h2:x%(nY.length:Int)<(nY.length:Int):=Og _ (by lia);obtain⟨j,ej⟩:=Nc h1;have hj:j<nY.length:=by lia
 refine⟨nY[j],NS hj,?_⟩;have e:DN (nY.map D.str) (j:Int)=some (.str nY[j]):=eW (by rw[Nh,yY hj];rfl);rw[ej,wa,e]
theorem y3(x z:Int)(m:List Nat):dW true (.tup [.int x,.str m,.int z])=true:=rfl
theorem eg:∀(l:List Int) (b:Int),b<=l.foldl max b/\(∀x∈l,x<=l.foldl max b)/\(l.foldl max b=b\/l.foldl max b∈l)
 |[],b=>⟨Int.le_refl _,fun _ h=>(nomatch h),.inl rfl⟩
 |a::l,b=>by
  obtain⟨h1,h2,h3⟩:=eg l (max b a);rw[Oj];refine⟨by lia,fun x hx=>?_,?_⟩
  ·rcases MN.mp hx with rfl|hx
   ·lia
   ·exact h2 x hx
  ·rcases h3 with h3|h3
   ·rw[h3];by_cases h:b<=a
    ·exact .inr (by rw[Int.max_eq_right h];exact My)
    ·exact .inl (Int.max_eq_left (by lia))
   ·exact .inr (MJ _ h3)
theorem sW{ns:List Int}{x:Int}(h:x∈ns):x<=n5 ns:=(eg ns _).2.1 x h
theorem sX{ns:List Int}(h:ns≠[]):n5 ns∈ns:=by
 cases ns with
 |nil=>exact absurd rfl h
 |cons a l=>
  rcases(eg (a::l) a).2.2 with e|e
  ·show List.foldl max a (a::l)∈a::l;rw[e];exact My
  ·exact e
theorem wC{ns:List Int}{d x:Int}(h:x∈ns):x<=NX.maxD ns d:=by
 unfold NX.maxD;rw[MO (List.ne_nil_of_mem h)];exact sW h
theorem qP(ns:List Int)(d:Int):(ns=[]/\NX.maxD ns d=d)\/NX.maxD ns d∈ns:=by
 unfold NX.maxD;by_cases h:ns=[]
 ·exact .inl ⟨h,MM h⟩
 ·rw[MO h];exact .inr (sX h)
theorem mr(a:Cr):a.1<=kc a/\a.2.2<=kc a/\(kc a=a.1\/kc a=a.2.2):=by
 unfold kc;split
 ·exact⟨by lia,by lia,.inr rfl⟩
 ·exact⟨by lia,by lia,.inl rfl⟩
theorem qQ{ap:List Cr}{a:Cr}(h:a∈ap):a.1<aH ap/\a.2.2<aH ap:=by
 have h1:=wC (d:=0) (NK.mpr ⟨a,h,rfl⟩:kc a∈ap.map kc);obtain⟨h2,h3,_⟩:=mr a;unfold aH;lia
theorem oM{ap:List Cr}(h:∀a∈ap,0<=a.1/\0<=a.2.2):1<=aH ap:=by
 unfold aH;rcases qP (ap.map kc) 0 with⟨_,e⟩|e
 ·lia
 ·obtain⟨a,ha,e2⟩:=wx e;have:=h a ha;obtain⟨h1,h2,_⟩:=mr a;lia
theorem lF{α:Type}(lt:α->α->Bool){l:List α}{a:α}:a∈cp lt l<->a∈l:=(eG lt l).mem_iff
def cell(ns:List Int)(k:Nat):Int:=ns.getD k 0
theorem lG(ns:List Int)(k:Nat):ay [.lst (ns.map D.int),.int (k:Int)]=.ok (.f,.int (cell ns k)):=by
 unfold ay eQ cell;rw[a8 (h:=by rfl)];simp only[pv,seval,op,gq];by_cases h:k<ns.length
 ·have h1:(k:Int)<(ns.length:Int):=by lia
  simp only[h1,decide_true,pv,seval,jh h]
 ·have h1:¬ (k:Int)<(ns.length:Int):=by lia
  simp only[h1,decide_false,pv,seval,ka,MQ,List.getElem?_eq_none (Nat.le_of_not_lt h),P4]
theorem wY(x y:Int)(h:dj x=true):vH (.int x) (.int y)=.ok (.f,.int (x*y)):=by rw[wg,h,Bool.true_or,MM rfl]
theorem nP(x:Int)(h:0<=x)(h2:x<=4294967296):dj x=true:=by
 unfold dj;rw[ME];lia
theorem j6(c:Int)(n:Nat)(hn:n<=1000):∃xs:List Int,xs.length=n/\aM [.int c,.int (n:Int)]=.ok (.l .f,.lst (xs.map D.int)):=by
 unfold aM fQ;rw[a8 (h:=by rfl)];rw[aB (env':=[some (.f,.int c),some (.f,.int (n:Int)),some (.l .f,.lst []),none,none]) (by simp only[pv,seval,op])];rw[aB (env':=[some (.f,.int c),some (.f,.int (n:Int)),some (.l .f,.lst []),some (.f,.int (c%2147483629+7)),none]) (by simp only[pv,seval,op,iT _ 2147483629 (by decide)])];have hm:=gr c 2147483629 (by decide);obtain⟨env',ef,xs,x,t4,hx,h0,h1,rfl⟩:=dI (a:=aK 4) (g:=cq) (e:=fun k=>D.int (k:Int)) n (fun i env=>∃(xs:List Int) (x:Int) (t4:Option R),xs.length=i/\0<=x/\x<=2147483640/\env=[some (.f,.int c),some (.f,.int (n:Int)),some (.l .f,.lst (xs.map D.int)),some (.f,.int x),t4]) (by
  rintro k env hk ⟨xs,x,t4,hx,h0,h1,rfl⟩;have q:=gr (x*x+69069*x+5*(k:Int)+1) 2147483629 (by decide);refine⟨_,rfl,_,?_,xs++[(x*x+69069*x+5*(k:Int)+1)%2147483629 / 16],(x*x+69069*x+5*(k:Int)+1)%2147483629,some (.f,.int (k:Int)),by rw[nM,hx];rfl,q.1,by lia,rfl⟩;have z:(xs.map D.int).length<sizeLine:=lD (by rw[gq];lia);unfold cq;simp only[pv,seval,op,wY x x (nP x h0 (by lia)),wY 69069 x (by decide),wY 5 (k:Int) (by decide),iT _ 2147483629 (by decide),lz _ 16 (by decide) (by decide),z,Nk]) _ ⟨[],c%2147483629+7,none,rfl,by lia,by lia,rfl⟩
 rw[NJ]at ef;rw[aB (env':=_) (by
  unfold dY;simp only[pv,seval,op];rw[MM (by lia)];simp only[pv,seval,op,Nm];exact ef)]
 unfold dN;exact⟨xs,hx,by simp only[pv,seval,op]⟩
theorem wD(DX:Int)(cnt:Nat)(h5:cnt<=5):∃l:LNN,l.length=cnt/\(∀n∈l,n≠[109,111,118,101,115])/\l.Pairwise (fun a b=>FV b a=false)/\bW [.int DX,.int (cnt:Int)]=.ok (.l .f,.lst (l.map D.str)):=by
 unfold bW gI;rw[a8 (h:=by rfl)];rw[aB (env':=[some (.f,.int DX),some (.f,.int (cnt:Int)),some (.f,.str Ey),none,none,none,none,none,none,none]) (by simp only[pv,seval,op];rfl)];have m8:=gr DX 8 (by decide);rw[aB (env':=[some (.f,.int DX),some (.f,.int (cnt:Int)),some (.f,.str Ey),some (.f,.int (1+DX%8)),none,none,none,none,none,none]) (by simp only[pv,seval,op,iT _ 8 (by decide)])];generalize hlg:1+DX%8=lg;rw[aB (env':=[some (.f,.int DX),some (.f,.int (cnt:Int)),some (.f,.str Ey),some (.f,.int lg),some (.f,.int (DX / 8%lg)),none,none,none,none,none]) (by simp only[pv,seval,op,lz _ 8 (by decide) (by decide),iT _ lg (by lia)])];generalize DX / 8%lg=sp;rw[aB (env':=[some (.f,.int DX),some (.f,.int (cnt:Int)),some (.f,.str Ey),some (.f,.int lg),some (.f,.int sp),some (.l .f,.lst []),none,none,none,none]) (by simp only[pv,seval,op])];obtain⟨env',ef,l,t6,t7,t8,t9,hl,Gy,rfl⟩:=dI (a:=aK 6) (g:=b8) (e:=fun k=>D.int (k:Int)) cnt (fun i env=>∃(l:LNN) (t6 t7 t8 t9:Option R),l.length=i/\(∀n∈l,n≠[109,111,118,101,115])/\env=[some (.f,.int DX),some (.f,.int (cnt:Int)),some (.f,.str Ey),some (.f,.int lg),some (.f,.int sp),some (.l .f,.lst (l.map D.str)),t6,t7,t8,t9]) (by
  rintro k env hk ⟨l,t6,t7,t8,t9,hl,Gy,rfl⟩;suffices hs:∃(w:List Nat) (u7 u8 u9:Option R),w≠[109,111,118,101,115]/\b8 [some (.f,.int DX),some (.f,.int (cnt:Int)),some (.f,.str Ey),some (.f,.int lg),some (.f,.int sp),some (.l .f,.lst (l.map D.str)),some (.f,.int (k:Int)),t7,t8,t9]=.ok (.nx [some (.f,.int DX),some (.f,.int (cnt:Int)),some (.f,.str Ey),some (.f,.int lg),some (.f,.int sp),some (.l .f,.lst ((l++[w]).map D.str)),some (.f,.int (k:Int)),u7,u8,u9]) by
   obtain⟨w,u7,u8,u9,hw,e⟩:=hs;exact⟨_,rfl,_,e,l++[w],_,_,_,_,by rw[nM,hl];rfl,(fun n hn=>(wX hn).elim (Gy n) fun h=>by rw[Ap h];exact hw),rfl⟩
  unfold b8;rw[aB (env':=[some (.f,.int DX),some (.f,.int (cnt:Int)),some (.f,.str Ey),some (.f,.int lg),some (.f,.int sp),some (.l .f,.lst (l.map D.str)),some (.f,.int (k:Int)),some (.f,.str []),t8,t9]) (by simp only[pv,seval,op])];obtain⟨env',ef,w,Mj,Mk,hw,rfl⟩:=dI (a:=aK 8) (g:=b7) (e:=fun k=>D.int (k:Int)) lg.toNat (fun i env=>∃(w:List Nat) (t8 t9:Option R),w.length=i/\env=[some (.f,.int DX),some (.f,.int (cnt:Int)),some (.f,.str Ey),some (.f,.int lg),some (.f,.int sp),some (.l .f,.lst (l.map D.str)),some (.f,.int (k:Int)),some (.f,.str w),t8,t9]) (by
   rintro j env hj ⟨w,t8,t9,hw,rfl⟩;have hjj:=wY (j:Int) (j:Int) (qK j (by lia));have hd:=lz DX ((j:Int)+64) (by lia) (by lia);have key:∀st:Int,(cC 7 (aF cR (au 7) (av (aF Cj (au 2) (av (aF dR (au 9) (av (aA (.int 26))))))))) [some (.f,.int DX),some (.f,.int (cnt:Int)),some (.f,.str Ey),some (.f,.int lg),some (.f,.int sp),some (.l .f,.lst (l.map D.str)),some (.f,.int (k:Int)),some (.f,.str w),some (.f,.int (j:Int)),some (.f,.int st)]=.ok (.nx [some (.f,.int DX),some (.f,.int (cnt:Int)),some (.f,.str Ey),some (.f,.int lg),some (.f,.int sp),some (.l .f,.lst (l.map D.str)),some (.f,.int (k:Int)),some (.f,.str (w++[97+(st%26).toNat])),some (.f,.int (j:Int)),some (.f,.int st)]):=by
    intro st;obtain⟨m1,m2⟩:=gr st 26 (by decide);simp only[pv,seval,op,iT _ 26 (by decide),y0 _ m1 m2,BB w [97+(st%26).toNat] (by rw[MY,Qk];lia)]
   suffices hs:∃st:Int,b7 [some (.f,.int DX),some (.f,.int (cnt:Int)),some (.f,.str Ey),some (.f,.int lg),some (.f,.int sp),some (.l .f,.lst (l.map D.str)),some (.f,.int (k:Int)),some (.f,.str w),some (.f,.int (j:Int)),t9]=.ok (.nx [some (.f,.int DX),some (.f,.int (cnt:Int)),some (.f,.str Ey),some (.f,.int lg),some (.f,.int sp),some (.l .f,.lst (l.map D.str)),some (.f,.int (k:Int)),some (.f,.str (w++[97+(st%26).toNat])),some (.f,.int (j:Int)),some (.f,.int st)]) by
    obtain⟨st,e⟩:=hs;exact⟨_,rfl,_,e,w++[97+(st%26).toNat],_,_,by rw[nM,hw];rfl,rfl⟩
   unfold b7;rw[aB (env':=[some (.f,.int DX),some (.f,.int (cnt:Int)),some (.f,.str Ey),some (.f,.int lg),some (.f,.int sp),some (.l .f,.lst (l.map D.str)),some (.f,.int (k:Int)),some (.f,.str w),some (.f,.int (j:Int)),some (.f,.int (DX / ((j:Int)+64)+(j:Int)*(j:Int)))]) (by simp only[pv,seval,op,hd,hjj])];generalize DX / ((j:Int)+64)+(j:Int)*(j:Int)=st;cases he:(j:Int)==sp with
   |true=>
    refine⟨st+(k:Int),?_⟩;rw[aB (env':=[some (.f,.int DX),some (.f,.int (cnt:Int)),some (.f,.str Ey),some (.f,.int lg),some (.f,.int sp),some (.l .f,.lst (l.map D.str)),some (.f,.int (k:Int)),some (.f,.str w),some (.f,.int (j:Int)),some (.f,.int (st+(k:Int)))]) (by simp only[pv,seval,op,he])];exact key _
   |false=>
    refine⟨st,?_⟩;rw[aB (env':=[some (.f,.int DX),some (.f,.int (cnt:Int)),some (.f,.str Ey),some (.f,.int lg),some (.f,.int sp),some (.l .f,.lst (l.map D.str)),some (.f,.int (k:Int)),some (.f,.str w),some (.f,.int (j:Int)),some (.f,.int st)]) (by simp only[pv,seval,op,he,ka])];exact key _) _ ⟨[],t8,t9,rfl,rfl⟩
  rw[aB (env':=_) (by
   unfold eR;simp only[pv,seval,op];rw[MM (by lia)];simp only[pv,seval,op];exact ef)]
  unfold dZ;have z:(l.map D.str).length<sizeLine:=lD (by rw[gq];lia);cases he:w==[109,111,118,101,115] with
  |true=>exact⟨[109,111,118,101,115,97],some (.f,.str [109,111,118,101,115,97]),Mj,Mk,by decide,by simp only[pv,seval,op,he,z,Nk]⟩
  |false=>exact⟨w,some (.f,.str w),Mj,Mk,by simpa using he,by simp only[pv,seval,op,he,z,ka,Nk]⟩) _ ⟨[],none,none,none,none,rfl,(fun n hn=>nomatch hn),rfl⟩
 rw[NJ]at ef;rw[aB (env':=_) (by
  unfold eS;simp only[pv,seval,op];rw[MM (by lia)];simp only[pv,seval,op,Nm];exact ef)]
 unfold d4;exact⟨cp FV l,by rw[ly];exact hl,fun n hn=>Gy n ((lF FV).mp hn),cS qj l,by simp only[pv,seval,op,wy l (by lia)]⟩
def nu(mZ turn:Int)(k:Nat):Int:=if k=0 then 0 else 1+((k:Int)-1+turn)%(mZ-1)
theorem AM{mZ turn:Int}{k:Nat}(hk:(k:Int)<mZ):0<=nu mZ turn k/\nu mZ turn k<mZ:=by
 unfold nu;split
 ·lia
 ·have:=gr ((k:Int)-1+turn) (mZ-1) (by lia);lia
theorem wF{mZ turn s:Int}(h0:0<=s)(h:s<mZ):∃k:Nat,(k:Int)<mZ/\nu mZ turn k=s:=by
 by_cases hz:s=0
 ·exact⟨0,by lia,by rw[hz];rfl⟩
 ·have q:=gr (s-1-turn) (mZ-1) (by lia);obtain⟨j,ej⟩:=Nc q.1;refine⟨j+1,by lia,?_⟩;unfold nu;rw[MO (O0 j)];have e:((j+1:Nat):Int)-1+turn=(j:Int)+turn:=by lia
  have e2:((j:Int)+turn)%(mZ-1)=(s-1)%(mZ-1):=by
   rw[<-ej,Int.emod_add_emod,show s-1-turn+turn=s-1 by lia]
  rw[e,e2,Int.emod_eq_of_lt (by lia) (by lia)];lia
structure Wide(nY:LNN)(ap:List Cr):Prop where
 al:ap.length<=60
 nl:nY.length<=5
 bd:∀a∈ap,(0<=a.1/\a.1<12)/\0<=a.2.2/\a.2.2<12
 nm:∀a∈ap,a.2.1∈nY
 st:1<=aH ap/\aH ap<=12
 all:∀N,Found ap N->∀s:Int,0<=s->s<aH ap->s∈N.map (·.1)
 ns:nY.Pairwise (fun a b=>FV b a=false)
 as:ap.Pairwise (fun a b=>iU b a=false)
theorem wG:Ord iU:=⟨fun a=>ig.irr (ak a),fun a b c=>ig.trans (ak a) (ak b) (ak c),fun a b h1 h2=>y1 (ig.tot _ _ h1 h2)⟩
theorem Found.zero{ap:List Cr}{N:List Nd}(F:Found ap N):(0:Int)∈N.map (·.1):=NK.mpr ⟨(0,[]),NI F.z,rfl⟩
theorem sY:Wide [] []:=by
 refine⟨Nq _,Nq _,(fun a h=>nomatch h),(fun a h=>nomatch h),⟨by decide,by decide⟩,fun N F s h0 h1=>?_,.nil,.nil⟩;have:s=0:=by
  have:aH []=1:=rfl;lia
 rw[this];exact F.zero
theorem wH{nY:LNN}{as:List Cr}{mZ turn:Int}(hm:1<=mZ/\mZ<=12)(hl:as.length<=60)(hn:nY.length<=5)(Lz:nY.Pairwise (fun a b=>FV b a=false))(hb:∀a∈as,(0<=a.1/\a.1<mZ)/\0<=a.2.2/\a.2.2<mZ)(FK:∀a∈as,a.2.1∈nY)
  (hr:∀j:Nat,1<=j->(j:Int)<mZ->∃a∈as,a.2.2=nu mZ turn j/\∃b:Nat,b<j/\a.1=nu mZ turn b):Wide nY (cp iU as):=by
 have mem:∀{a:Cr},a∈cp iU as<->a∈as:=lF iU;have CO:1<=aH (cp iU as)/\aH (cp iU as)<=mZ:=by
  refine⟨oM fun a ha=>?_,?_⟩
  ·have:=hb a (mem.mp ha);lia
  ·unfold aH;rcases qP ((cp iU as).map kc) 0 with⟨_,e⟩|e
   ·lia
   ·obtain⟨a,ha,e2⟩:=wx e;have:=hb a (mem.mp ha);obtain⟨h1,h2,h3⟩:=mr a;lia
 refine⟨by rw[ly];exact hl,hn,fun a ha=>?_,fun a ha=>FK a (mem.mp ha),by lia,fun N F s h0 h1=>?_,Lz,cS wG as⟩
 ·have:=hb a (mem.mp ha);lia
 ·have key:∀j:Nat,(j:Int)<mZ->nu mZ turn j∈N.map (·.1):=by
   intro j;induction j using Nat.strongRecOn with
   |_ j ih=>
    intro hj;cases j with
    |zero=>exact F.zero
    |succ j=>
     obtain⟨a,ha,e1,b,hbj,e2⟩:=hr (j+1) (by lia) hj;obtain⟨n,hn,en⟩:=wx (ih b hbj (by lia));obtain⟨m,hm,em,_⟩:=F.clo n hn a (mem.mpr ha) (by rw[e2,en]);exact NK.mpr ⟨m,hm,by rw[em,e1]⟩
  obtain⟨k,hk,ek⟩:=wF (turn:=turn) h0 (show s<mZ by lia);rw[<-ek];exact key k hk
theorem Ar(ns:List Int)(nY:LNN)(h0:nY≠[])(mZ:Int)(hm:1<=mZ/\mZ<=12)(xs:List Int)(LA:xs.length=24)(turn:Int)(k:Nat)(hk:1+(k:Int)<mZ)(as:List Cr)(hl:as.length<=100)(vs:List D)(t7 t8:Option R):
  ∃(nm:List Nat) (b:Nat) (DY:List D) (u7 u8:Option R),nm∈nY/\b<k+1/\
   bz [some (.f,.lst (ns.map D.int)),some (.f,.int mZ),some (.l .f,.lst (nY.map D.str)),some (.d,.dct true (as.map eA) vs),some (.l .f,.lst (xs.map D.int)),some (.f,.int turn),some (.f,.int (1+(k:Int))),t7,t8,none,none]=.ok (.nx [some (.f,.lst (ns.map D.int)),some (.f,.int mZ),some (.l .f,.lst (nY.map D.str)),some (.d,.dct true ((rl as (nu mZ turn b,nm,nu mZ turn (k+1))).map eA) DY),some (.l .f,.lst (xs.map D.int)),some (.f,.int turn),some (.f,.int (1+(k:Int))),u7,u8,none,none]):=by
 have e1:1+(1+(k:Int)-1+turn)%(mZ-1)=nu mZ turn (k+1):=by
  unfold nu;rw[MO (O0 k),show 1+(k:Int)-1+turn=((k+1:Nat):Int)-1+turn by lia]
 have LB:=iT (1+(k:Int)-1+turn) (mZ-1) (by lia);have hxk:DN (xs.map D.int) (1+(k:Int))=some (.int (xs.getD (k+1) 0)):=by
  rw[show 1+(k:Int)=((k+1:Nat):Int) by lia];exact jh (by lia)
 have hxk2:DN (xs.map D.int) (12+(1+(k:Int)))=some (.int (xs.getD (k+13) 0)):=by
  rw[show 12+(1+(k:Int))=((k+13:Nat):Int) by lia];exact jh (by lia)
 have hbm:=gr (xs.getD (k+1) 0) (1+(k:Int)) (by lia);obtain⟨b,eb⟩:=Nc hbm.1;obtain⟨nm,FK,em⟩:=qO nY h0 (xs.getD (k+13) 0);obtain⟨DY,ep⟩:=qN as vs (nu mZ turn b,nm,nu mZ turn (k+1)) (.bl true);have hp:=NO.mpr h0;have hz:(decide (as.length<sizeLine))=true:=M6 (lD (by lia));unfold eA at ep;dsimp only at ep;have ee:(fun a:Cr=>D.tup [D.int a.1,D.str a.2.1,D.int a.2.2])=eA:=rfl;rw[ee]at ep;refine⟨nm,b,DY,some (.f,.int (nu mZ turn (k+1))),some (.f,.int (nu mZ turn b)),FK,by lia,?_⟩;unfold bz;rw[aB (env':=[some (.f,.lst (ns.map D.int)),some (.f,.int mZ),some (.l .f,.lst (nY.map D.str)),some (.d,.dct true (as.map eA) vs),some (.l .f,.lst (xs.map D.int)),some (.f,.int turn),some (.f,.int (1+(k:Int))),some (.f,.int (nu mZ turn (k+1))),t8,none,none]) (by simp only[pv,seval,op,LB,e1])];rw[aB (env':=[some (.f,.lst (ns.map D.int)),some (.f,.int mZ),some (.l .f,.lst (nY.map D.str)),some (.d,.dct true (as.map eA) vs),some (.l .f,.lst (xs.map D.int)),some (.f,.int turn),some (.f,.int (1+(k:Int))),some (.f,.int (nu mZ turn (k+1))),some (.f,.int (b:Int)),none,none]) (by simp only[pv,seval,op,hxk,iT _ (1+(k:Int)) (by lia),eb])];rw[aB (env':=[some (.f,.lst (ns.map D.int)),some (.f,.int mZ),some (.l .f,.lst (nY.map D.str)),some (.d,.dct true (as.map eA) vs),some (.l .f,.lst (xs.map D.int)),some (.f,.int turn),some (.f,.int (1+(k:Int))),some (.f,.int (nu mZ turn (k+1))),some (.f,.int (nu mZ turn b)),none,none]) (by
  unfold nu;cases b with
  |zero=>
   have:¬ (0:Int)<((0:Nat):Int):=by lia
   simp only[pv,seval,op,this,decide_false,ka];try rfl
  |succ b=>
   have:(0:Int)<((b+1:Nat):Int):=by lia
   rw[MO (O0 k),MO (O0 b)];simp only[pv,seval,op,this,decide_true,iT (((b+1:Nat):Int)-1+turn) (mZ-1) (by lia)])]
 simp only[pv,seval,op,hxk2,gq,iT _ (nY.length:Int) (by lia),em,y3,ep,hz,Ot]
theorem As(ns:List Int)(nY:LNN)(h0:nY≠[])(mZ:Int)(hm:1<=mZ/\mZ<=12)(xs:List Int)(turn:Int)(c:Int)(as:List Cr)(hl:as.length<=100)(vs:List D)(t6 t7 t8 Jw:Option R):
  ∃(a:Cr) (DY:List D) (Ml:Option R),((0<=a.1/\a.1<mZ)/\0<=a.2.2/\a.2.2<mZ)/\a.2.1∈nY/\
   bx [some (.f,.lst (ns.map D.int)),some (.f,.int mZ),some (.l .f,.lst (nY.map D.str)),some (.d,.dct true (as.map eA) vs),some (.l .f,.lst (xs.map D.int)),some (.f,.int turn),t6,t7,t8,some (.f,.int c),Jw]=.ok (.nx [some (.f,.lst (ns.map D.int)),some (.f,.int mZ),some (.l .f,.lst (nY.map D.str)),some (.d,.dct true ((rl as a).map eA) DY),some (.l .f,.lst (xs.map D.int)),some (.f,.int turn),t6,t7,t8,some (.f,.int c),Ml]):=by
 obtain⟨ys,LZ,es⟩:=j6 c 2 (by lia);have es:aM [.int c,.int 2]=.ok (.l .f,.lst (ys.map D.int)):=es;have hy:DN (ys.map D.int) 1=some (.int (ys.getD 1 0)):=jh (k:=1) (by lia);generalize ys.getD 1 0=x at hy;obtain⟨nm,FK,em⟩:=qO nY h0 (x / 12);obtain⟨DY,ep⟩:=qN as vs (x%mZ,nm,x / 64%mZ) (.bl true);have hp:=NO.mpr h0;have hz:(decide (as.length<sizeLine))=true:=M6 (lD (by lia));unfold eA at ep;dsimp only at ep;have ee:(fun a:Cr=>D.tup [D.int a.1,D.str a.2.1,D.int a.2.2])=eA:=rfl;rw[ee]at ep;refine⟨(x%mZ,nm,x / 64%mZ),DY,some (.f,.int x),⟨gr _ _ (by lia),gr _ _ (by lia)⟩,FK,?_⟩;unfold bx;rw[aB (env':=[some (.f,.lst (ns.map D.int)),some (.f,.int mZ),some (.l .f,.lst (nY.map D.str)),some (.d,.dct true (as.map eA) vs),some (.l .f,.lst (xs.map D.int)),some (.f,.int turn),t6,t7,t8,some (.f,.int c),some (.f,.int x)]) (by simp only[pv,seval,op,es,hy])];simp only[pv,seval,op,iT _ mZ (by lia),lz _ 12 (by decide) (by decide),lz _ 64 (by decide) (by decide),gq,iT _ (nY.length:Int) (by lia),em,y3,ep,hz,Ot]
theorem y4(ns:List Int):∃nY ap,Wide nY ap/\(∀n∈nY,n≠[109,111,118,101,115])/\aX [.lst (ns.map D.int)]=.ok (.f,eCh nY ap):=by
 unfold aX du;rw[a8 (h:=by rfl)];have c0:ay [.lst (ns.map D.int),.int 0]=.ok (.f,.int (cell ns 0)):=lG ns 0;have c1:ay [.lst (ns.map D.int),.int 1]=.ok (.f,.int (cell ns 1)):=lG ns 1;have c2:ay [.lst (ns.map D.int),.int 2]=.ok (.f,.int (cell ns 2)):=lG ns 2;have c3:ay [.lst (ns.map D.int),.int 3]=.ok (.f,.int (cell ns 3)):=lG ns 3;have m12:=gr (cell ns 1) 12 (by decide);have m6:=gr (cell ns 2) 6 (by decide);obtain⟨cnt,ec⟩:=Nc m6.1;obtain⟨nY,FW,Gy,Lz,en⟩:=wD (cell ns 0) cnt (by lia);rw[aB (env':=[some (.f,.lst (ns.map D.int)),some (.f,.int (1+cell ns 1%12)),none,none,none,none,none,none,none,none,none]) (by simp only[pv,seval,op,c1,iT _ 12 (by decide)])];have hm:1<=1+cell ns 1%12/\1+cell ns 1%12<=12:=by lia
 generalize 1+cell ns 1%12=mZ at hm;rw[aB (env':=[some (.f,.lst (ns.map D.int)),some (.f,.int mZ),some (.l .f,.lst (nY.map D.str)),none,none,none,none,none,none,none,none]) (by simp only[pv,seval,op,c0,c2,iT _ 6 (by decide),ec,en])];rw[aB (env':=[some (.f,.lst (ns.map D.int)),some (.f,.int mZ),some (.l .f,.lst (nY.map D.str)),some (.d,.dct true [] []),none,none,none,none,none,none,none]) (by simp only[pv,seval,op])];by_cases h0:nY=[]
 ·subst h0;have e1:DH (.lst []) (.lst [])=.ok (.f,.bl true):=rfl;refine⟨[],[],sY,(fun n hn=>nomatch hn),?_⟩;simp only[NJ];simp only[pv,seval,op,e1,eCh]
 ·have e1:DH (.lst (nY.map D.str)) (.lst [])=.ok (.f,.bl false):=by
   unfold DH;rw[plainD,gm];cases nY with
   |nil=>exact absurd rfl h0
   |cons a l=>rfl
  rw[aB (env':=[some (.f,.lst (ns.map D.int)),some (.f,.int mZ),some (.l .f,.lst (nY.map D.str)),some (.d,.dct true [] []),none,none,none,none,none,none,none]) (by simp only[pv,seval,op,e1,ka])];obtain⟨xs,LA,ex⟩:=j6 (cell ns 3) 24 (by lia);have ex:aM [.int (cell ns 3),.int 24]=.ok (.l .f,.lst (xs.map D.int)):=ex;rw[aB (env':=[some (.f,.lst (ns.map D.int)),some (.f,.int mZ),some (.l .f,.lst (nY.map D.str)),some (.d,.dct true [] []),some (.l .f,.lst (xs.map D.int)),none,none,none,none,none,none]) (by simp only[pv,seval,op,c3,ex])];have KQ:DN (xs.map D.int) 0=some (.int (xs.getD 0 0)):=jh (k:=0) (by lia);rw[aB (env':=[some (.f,.lst (ns.map D.int)),some (.f,.int mZ),some (.l .f,.lst (nY.map D.str)),some (.d,.dct true [] []),some (.l .f,.lst (xs.map D.int)),some (.f,.int (xs.getD 0 0%11)),none,none,none,none,none]) (by simp only[pv,seval,op,KQ,iT _ 11 (by decide)])];generalize xs.getD 0 0%11=turn;obtain⟨env',ef,as,vs,t6,t7,t8,hl,hb,FK,hr,rfl⟩:=dI (a:=aK 6) (g:=bz) (e:=fun k=>D.int (1+(k:Int))) (mZ-1).toNat (fun i env=>∃(as:List Cr) (vs:List D) (t6 t7 t8:Option R),as.length<=i/\(∀a∈as,(0<=a.1/\a.1<mZ)/\0<=a.2.2/\a.2.2<mZ)/\(∀a∈as,a.2.1∈nY)/\(∀j:Nat,1<=j->j<i+1->∃a∈as,a.2.2=nu mZ turn j/\∃b:Nat,b<j/\a.1=nu mZ turn b)/\env=[some (.f,.lst (ns.map D.int)),some (.f,.int mZ),some (.l .f,.lst (nY.map D.str)),some (.d,.dct true (as.map eA) vs),some (.l .f,.lst (xs.map D.int)),some (.f,.int turn),t6,t7,t8,none,none]) (by
   rintro k env hk ⟨as,vs,t6,t7,t8,hl,hb,FK,hr,rfl⟩;obtain⟨nm,b,DY,u7,u8,h1,h2,e⟩:=Ar ns nY h0 mZ hm xs LA turn k (by lia) as (by lia) vs t7 t8;have n1:=AM (turn:=turn) (k:=b) (show(b:Int)<mZ by lia);have n2:=AM (turn:=turn) (k:=k+1) (show((k+1:Nat):Int)<mZ by lia);refine⟨_,rfl,_,e,rl as (nu mZ turn b,nm,nu mZ turn (k+1)),DY,_,_,_,by have:=nO as (nu mZ turn b,nm,nu mZ turn (k+1));lia,fun a ha=>?_,fun a ha=>?_,fun j j1 j2=>?_,rfl⟩
   ·rcases dJ.mp ha with ha|rfl
    ·exact hb a ha
    ·exact⟨n1,n2⟩
   ·rcases dJ.mp ha with ha|rfl
    ·exact FK a ha
    ·exact h1
   ·by_cases hj:j=k+1
    ·subst hj;exact⟨_,dJ.mpr (.inr rfl),rfl,b,h2,rfl⟩
    ·obtain⟨a,ha,q⟩:=hr j j1 (by lia);exact⟨a,dJ.mpr (.inl ha),q⟩) _ ⟨[],[],none,none,none,MH _,(fun _ h=>nomatch h),(fun _ h=>nomatch h),(fun j j1 j2=>by lia),rfl⟩
  rw[NJ]at ef;rw[aB (env':=_) (by
   unfold cK;simp only[pv,seval,op];rw[MM (by lia)];simp only[pv,seval,op];exact ef)]
  clear ef;unfold cx;have Jg:(lM ns (some 4) (some 52)).length<=48:=by
   unfold lM;rw[Oc];have h1:HT.sIx ns.length 0 (some (4:Int))=min 4 ns.length:=HT.pq ns.length 0 4;have h2:HT.sIx ns.length ns.length (some (52:Int))=min 52 ns.length:=HT.pq ns.length ns.length 52;rw[h1,h2];lia
  have Ko:=wz D.int ns (some 4) (some 52);generalize lM ns (some 4) (some 52)=cs at Jg Ko;obtain⟨env',ef,as,vs,t9,Jw,hl,hb,FK,hr,rfl⟩:=for_list (a:=aK 9) (g:=bx) (e:=D.int) cs (fun i env=>∃(as:List Cr) (vs:List D) (t9 Jw:Option R),as.length<=11+i/\(∀a∈as,(0<=a.1/\a.1<mZ)/\0<=a.2.2/\a.2.2<mZ)/\(∀a∈as,a.2.1∈nY)/\(∀j:Nat,1<=j->(j:Int)<mZ->∃a∈as,a.2.2=nu mZ turn j/\∃b:Nat,b<j/\a.1=nu mZ turn b)/\env=[some (.f,.lst (ns.map D.int)),some (.f,.int mZ),some (.l .f,.lst (nY.map D.str)),some (.d,.dct true (as.map eA) vs),some (.l .f,.lst (xs.map D.int)),some (.f,.int turn),t6,t7,t8,t9,Jw]) (by
   rintro i c env hi ⟨as,vs,t9,Jw,hl,hb,FK,hr,rfl⟩;have DO:=(Ao hi).1;obtain⟨a,DY,Ml,h1,h2,e⟩:=As ns nY h0 mZ hm xs turn c as (by lia) vs t6 t7 t8 Jw;refine⟨_,rfl,_,e,rl as a,DY,_,_,by have:=nO as a;lia,fun x hx=>?_,fun x hx=>?_,fun j j1 j2=>?_,rfl⟩
   ·rcases dJ.mp hx with hx|rfl
    ·exact hb x hx
    ·exact h1
   ·rcases dJ.mp hx with hx|rfl
    ·exact FK x hx
    ·exact h2
   ·obtain⟨x,hx,q⟩:=hr j j1 j2;exact⟨x,dJ.mpr (.inl hx),q⟩) _ ⟨as,vs,none,none,by lia,hb,FK,(fun j j1 j2=>hr j j1 (by lia)),rfl⟩
  rw[aB (env':=_) (by
   unfold cJ;simp only[pv,seval,op,Ko];exact ef)]
  unfold cw;refine⟨nY,cp iU as,wH hm (by lia) (by lia) Lz hb FK hr,Gy,?_⟩;simp only[pv,seval,op,wB as vs (by lia),eCh]
def uq(ap:List Cr)(s:Int)(m:List Nat):List Int:=(ap.filter fun a=>a.1==s&&a.2.1==m).map fun a=>a.2.2
theorem qR(nY:LNN)(ap:List Cr)(s:Int)(m:List Nat)(hl:ap.length<=16777216):dq [eCh nY ap,.int s,.str m]=.ok (.l .f,.lst ((uq ap s m).map D.int)):=by
 unfold dq k8;rw[a8 (h:=by rfl)];simp only[pv,seval,op,eCh];rw[j4 (p:=fun a:Cr=>a.1==s&&a.2.1==m) (r:=fun a:Cr=>D.int a.2.2) (fun env=>∃t1 t2 t3,env=[t1,t2,t3,some (.f,.int s),some (.f,.str m)]) ap ?_ _ ⟨_,_,_,rfl⟩]
 ·rw[DV,MM (sV hl),DV];unfold uq;rw[Ni];rfl
 ·rintro a _ env ⟨t1,t2,t3,rfl⟩;refine⟨_,fw a t1 t2 t3 _,?_⟩;simp only[pv,seval,op];cases h1:a.1==s with
  |true=>
   cases h2:a.2.1==m with
   |true=>exact⟨_,rfl,_,_,rfl,_,_,_,rfl⟩
   |false=>exact⟨_,rfl,_,_,_,rfl⟩
  |false=>exact⟨_,rfl,_,_,_,rfl⟩
def lO(ap:List Cr)(s:Int)(m:List Nat):Bool:=decide (0<(uq ap s m).length)
theorem jj(nY:LNN)(ap:List Cr)(s:Int)(m:List Nat)(hl:ap.length<=1000):bV [eCh nY ap,.int s,.str m]=.ok (.f,.bl (lO ap s m)):=by
 have hg:=qR nY ap s m (by lia);have fl:=En (uq ap s m);have hd:decide ((0:Int)<((uq ap s m).length:Int))=lO ap s m:=by
  unfold lO;rw[MV,ME,ME];lia
 unfold bV jb;rw[a8 (h:=by rfl)];generalize eCh nY ap=CH at hg ⊢;simp only[pv,seval,op,hg,fl,gq,gt_iff_lt,hd]
def FY(a b:Nat):D:=.tup [.str [112,97,105,114],.int (a:Int),.int (b:Int)]
def IY(s:Nat)(m:List Nat):D:=.tup [.str [103,97,112],.int (s:Int),.str m]
def qS(n i:Nat):List D:=(List.range (n-(i+1))).map fun k=>FY i (i+1+k)
def a4(n:Nat):List D:=(List.range n).flatMap (qS n)
def mw(nY:LNN)(ap:List Cr)(s:Nat):List D:=(nY.filter fun m=>!lO ap (s:Int) m).map (IY s)
def cO(nY:LNN)(ap:List Cr)(n:Nat):List D:=(List.range n).flatMap (mw nY ap)
theorem iI{f:Nat->List D}{c:Nat}(h:∀i,(f i).length<=c):∀n:Nat,((List.range n).flatMap f).length<=n*c
 | 0=>Nq _
 |n+1=>by
  have:=iI h n;have:=h n;rw[Pa,QH,nM,List.flatMap_cons,List.flatMap_nil,M5,Nat.add_mul,Nat.one_mul];lia
theorem qT(n i:Nat):(qS n i).length<=n:=by
 unfold qS;rw[gq,M8];lia
theorem mx(nY:LNN)(ap:List Cr)(s:Nat):(mw nY ap s).length<=nY.length:=by
 unfold mw;rw[gq];exact OV _ _
theorem iJ(f:Nat->List D)(n:Nat):(List.range (n+1)).flatMap f=(List.range n).flatMap f++f n:=by
 rw[Pa,QH,List.flatMap_cons,List.flatMap_nil,M5]
section
variable{nY:LNN}{ap:List Cr}
theorem wI(CJ:ap.length<=1000)(n:Nat)(hn:n<=12)(CO:aH ap=(n:Int)):cD [eCh nY ap]=.ok (.l .f,.lst (a4 n)):=by
 have hs:=fA nY ap (by lia);rw[CO]at hs;have KR:((-4611686018427387904:Int)<=(n:Int)/\(n:Int)<4611686018427387904)=True:=eq_true ⟨by lia,by lia⟩;obtain⟨env',hf,t2,t3,rfl⟩:=dI (a:=aK 2) (g:=cB) (e:=fun(k:Nat)=>D.int (k:Int)) n (fun i env=>∃t2 t3:Option R,env=[some (.f,eCh nY ap),some (.l .f,.lst ((List.range i).flatMap (qS n))),t2,t3]) (by
  rintro i env hi ⟨t2,t3,rfl⟩;have hlen:=iI (fun i=>qT n i) i;have Gz:((List.range i).flatMap (qS n)).length<=200:=M4 hlen (M4 (Ow (by lia:i<=12) hn) (by decide));generalize hA:(List.range i).flatMap (qS n)=A at Gz;obtain⟨env',hf,u3,rfl⟩:=dI (a:=aK 3) (g:=cA) (e:=fun(k:Nat)=>D.int ((i:Int)+1+(k:Int))) (n-(i+1)) (fun j env=>∃t3:Option R,env=[some (.f,eCh nY ap),some (.l .f,.lst (A++(List.range j).map fun k=>FY i (i+1+k))),some (.f,.int (i:Int)),t3]) (by
   rintro j env hj ⟨t3,rfl⟩;have hz:(A++(List.range j).map fun k=>FY i (i+1+k)).length<sizeLine:=lD (by rw[nM,gq,M8];lia);refine⟨[some (.f,eCh nY ap),some (.l .f,.lst (A++(List.range j).map fun k=>FY i (i+1+k))),some (.f,.int (i:Int)),some (.f,.int ((i:Int)+1+(j:Int)))],by simp only[pv,seval],_,?_,some (.f,.int ((i:Int)+1+(j:Int))),rfl⟩;rw[Pa,Nk,<-Nn];rw[show(List.map (fun k=>FY i (i+1+k)) [j])=[.tup [.str [112,97,105,114],.int (i:Int),.int ((i:Int)+1+(j:Int))]] by
    show[FY i (i+1+j)]=_;unfold FY;rw[show((i+1+j:Nat):Int)=(i:Int)+1+(j:Int) by lia]]
   generalize A++(List.range j).map (fun k=>FY i (i+1+k))=B at hz ⊢;unfold cA;generalize eCh nY ap=CH;simp only[pv,seval,op,hz]) [some (.f,eCh nY ap),some (.l .f,.lst A),some (.f,.int (i:Int)),t3] ⟨t3,by rw[List.range_zero,NJ,M5]⟩
  refine⟨[some (.f,eCh nY ap),some (.l .f,.lst A),some (.f,.int (i:Int)),t3],by simp only[pv,seval],[some (.f,eCh nY ap),some (.l .f,.lst (A++qS n i)),some (.f,.int (i:Int)),u3],?_,some (.f,.int (i:Int)),u3,?_⟩
  ·unfold qS;unfold cB gE;rw[Dx,<-hf];generalize cA=GG;generalize eCh nY ap=CH at hs ⊢;have Ln:((-4611686018427387904:Int)<=(i:Int)+1/\(i:Int)+1<4611686018427387904)=True:=eq_true ⟨by lia,by lia⟩;have ht:((n:Int)-((i:Int)+1)).toNat=n-(i+1):=by lia
   simp only[pv,seval,op,hs,KR,Ln,and_self,ht]
  ·rw[iJ,hA]) [some (.f,eCh nY ap),some (.l .f,.lst []),none,none] ⟨none,none,rfl⟩
 have ff:dX [some (.f,eCh nY ap),some (.l .f,.lst []),none,none]=.ok (.nx [some (.f,eCh nY ap),some (.l .f,.lst (a4 n)),t2,t3]):=by
  unfold dX a4;rw[Dx,<-hf];generalize cB=GG;generalize eCh nY ap=CH at hs ⊢;simp only[pv,seval,op,hs,KR,Nm]
 unfold cD jd;rw[a8 (h:=by rfl)];rw[aB (env':=[some (.f,eCh nY ap),some (.l .f,.lst []),none,none]) (by simp only[pv,seval])];rw[aB ff];unfold fP;simp only[pv,seval]
theorem y6(CJ:ap.length<=1000)(FW:nY.length<=5)(n:Nat)(hn:n<=12)(CO:aH ap=(n:Int)):dt [eCh nY ap]=.ok (.l .f,.lst (cO nY ap n)):=by
 have hs:=fA nY ap (by lia);rw[CO]at hs;have KR:((-4611686018427387904:Int)<=(n:Int)/\(n:Int)<4611686018427387904)=True:=eq_true ⟨by lia,by lia⟩;obtain⟨env',hf,t2,t3,rfl⟩:=dI (a:=aK 2) (g:=cV) (e:=fun(k:Nat)=>D.int (k:Int)) n (fun i env=>∃t2 t3:Option R,env=[some (.f,eCh nY ap),some (.l .f,.lst ((List.range i).flatMap (mw nY ap))),t2,t3]) (by
  rintro i env hi ⟨t2,t3,rfl⟩;have hlen:=iI (fun i=>mx nY ap i) i;have Gz:((List.range i).flatMap (mw nY ap)).length<=200:=M4 hlen (M4 (Ow (by lia:i<=12) FW) (by decide));generalize hA:(List.range i).flatMap (mw nY ap)=A at Gz;obtain⟨env',hf,u3,rfl⟩:=for_list (a:=aK 3) (g:=cU) (e:=D.str) nY (fun j env=>∃t3:Option R,env=[some (.f,eCh nY ap),some (.l .f,.lst (A++((nY.take j).filter fun m=>!lO ap (i:Int) m).map (IY i))),some (.f,.int (i:Int)),t3]) (by
   rintro j m env hj ⟨t3,rfl⟩;obtain⟨h1,h2⟩:=Ao hj;have hh:=jj nY ap (i:Int) m CJ;have hz:(A++((nY.take j).filter fun m=>!lO ap (i:Int) m).map (IY i)).length<sizeLine:=lD (by
    have:=OV (fun m=>!lO ap (i:Int) m) (nY.take j);rw[nM,gq];rw[Oc]at this;lia)
   rw[List.take_succ_eq_append_getElem h1,h2,List.filter_append,Nk,<-Nn];refine⟨[some (.f,eCh nY ap),some (.l .f,.lst (A++((nY.take j).filter fun m=>!lO ap (i:Int) m).map (IY i))),some (.f,.int (i:Int)),some (.f,.str m)],by simp only[pv,seval],_,?_,some (.f,.str m),rfl⟩;generalize A++((nY.take j).filter fun m=>!lO ap (i:Int) m).map (IY i)=B at hz ⊢;unfold cU;generalize eCh nY ap=CH at hh ⊢;cases hc:lO ap (i:Int) m with
   |true=>
    rw[hc]at hh;rw[PY (by rw[hc];simp),Qs,NJ,M5];simp only[pv,seval,op,hh,NP,ka]
   |false=>
    rw[hc]at hh;rw[PU (by rw[hc];rfl),Qs,oK,NJ];unfold IY;simp only[pv,seval,op,hh,N9,hz]) [some (.f,eCh nY ap),some (.l .f,.lst A),some (.f,.int (i:Int)),t3] ⟨t3,by rw[Qy,Qs,NJ,M5]⟩
  rw[OX]at hf;refine⟨[some (.f,eCh nY ap),some (.l .f,.lst A),some (.f,.int (i:Int)),t3],by simp only[pv,seval],[some (.f,eCh nY ap),some (.l .f,.lst (A++mw nY ap i)),some (.f,.int (i:Int)),u3],?_,some (.f,.int (i:Int)),u3,?_⟩
  ·unfold mw;unfold cV iz;rw[Dx,<-hf];generalize cU=GG;unfold eCh;simp only[pv,seval,op,Lx]
  ·rw[iJ,hA]) [some (.f,eCh nY ap),some (.l .f,.lst []),none,none] ⟨none,none,rfl⟩
 have ff:ft [some (.f,eCh nY ap),some (.l .f,.lst []),none,none]=.ok (.nx [some (.f,eCh nY ap),some (.l .f,.lst (cO nY ap n)),t2,t3]):=by
  unfold ft cO;rw[Dx,<-hf];generalize cV=GG;generalize eCh nY ap=CH at hs ⊢;simp only[pv,seval,op,hs,KR,Nm]
 unfold dt k9;rw[a8 (h:=by rfl)];rw[aB (env':=[some (.f,eCh nY ap),some (.l .f,.lst []),none,none]) (by simp only[pv,seval])];rw[aB ff];unfold gF;simp only[pv,seval]
end
theorem flat_rows{f:Nat->List D}(h:∀i,flatDs (f i)=true)(n:Nat):flatDs ((List.range n).flatMap f)=true:=by
 rw[bN,M3];intro d hd;obtain⟨i,_,hd⟩:=P8.mp hd;have:=h i;rw[bN,M3]at this;exact this d hd
theorem lH(n i:Nat):flatDs (qS n i)=true:=by
 unfold qS;rw[bN,OC,M3];exact fun k _=>rfl
theorem lI(nY:LNN)(ap:List Cr)(s:Nat):flatDs (mw nY ap s)=true:=by
 unfold mw;rw[bN,OC,M3];exact fun k _=>rfl
section
variable{nY:LNN}{ap:List Cr}
theorem nQ(n:Nat)(hn:n<=12):(a4 n).length<=144:=M4 (iI (fun i=>qT n i) n) (Ow hn hn)
theorem qU(FW:nY.length<=5)(n:Nat)(hn:n<=12):(cO nY ap n).length<=60:=M4 (iI (fun i=>mx nY ap i) n) (Ow hn FW)
theorem wJ(CJ:ap.length<=1000)(FW:nY.length<=5)(n:Nat)(hn:n<=12)(CO:aH ap=(n:Int)):cf [eCh nY ap]=.ok (.l .f,.lst (a4 n++cO nY ap n)):=by
 have h1:=wI (nY:=nY) CJ n hn CO;have h2:=y6 CJ FW n hn CO;have f1:flatDs (a4 n)=true:=flat_rows (fun i=>lH n i) n;have f2:flatDs (cO nY ap n)=true:=flat_rows (fun i=>lI nY ap i) n;have l1:=nQ n hn;have l2:=qU (ap:=ap) FW n hn;have LC:cR (.lst (a4 n)) (.lst (cO nY ap n))=.ok (.l .f,.lst (a4 n++cO nY ap n)):=by
  rw[j5,MM (line_le (by lia))]
 unfold cf je;rw[a8 (h:=by rfl)];generalize eCh nY ap=CH at h1 h2 ⊢;generalize a4 n=P1 at h1 f1 LC ⊢;generalize cO nY ap n=P2 at h2 f2 LC ⊢;simp only[pv,seval,op,h1,h2,f1,f2,LC]
theorem ur(CJ:ap.length<=1000){n:Nat}(CO:aH ap=(n:Int))(z:Int):aE [eCh nY ap,.int z]=.ok (.f,.bl (decide (0<=z)&&decide (z<(n:Int)))):=by
 have hs:=fA nY ap (by lia);rw[CO]at hs;unfold aE dE;rw[a8 (h:=by rfl)];generalize eCh nY ap=CH at hs ⊢;cases h:decide (0<=z) with
 |true=>simp only[pv,seval,op,AL,AK,N9,h,hs,Bool.true_and]
 |false=>simp only[pv,seval,op,AL,AK,N9,h,hs,Bool.false_and]
theorem y7(l:List Nat)(CH:D):aE [CH,.str l]=.ok (.f,.bl false):=by
 have:i8 "int" (.str l)=false:=rfl;unfold aE dE;rw[a8 (h:=by rfl)];simp only[pv,seval,op,this]
def DS(CH d:D):Prop:=bc [CH,d]=.ok (.f,.bl false)
theorem j7{CH d:D}(h:i8 "tuple" d=false):DS CH d:=by
 unfold DS bc cI;rw[a8 (h:=by rfl)];simp only[pv,seval,op,h,N9]
theorem uu{CH:D}{ds:List D}(h:((ds.length:Int)==3)=false):DS CH (.tup ds):=by
 have h1:i8 "tuple" (.tup ds)=true:=rfl;unfold DS bc cI;rw[a8 (h:=by rfl)];simp only[pv,seval,op,h1,h,NP,N9,ka]
theorem fU{CH a b c:D}(h:aE [CH,b]=.ok (.f,.bl false)):DS CH (.tup [a,b,c]):=by
 have h1:i8 "tuple" (.tup [a,b,c])=true:=rfl;have h2:jP [.tup [a,b,c]]=.ok (.f,.int 3):=rfl;have h3:((3:Int)==3)=true:=rfl;have h4:Cj (.tup [a,b,c]) (.int 1)=.ok (.f,b):=rfl;unfold DS bc cI;rw[a8 (h:=by rfl)];generalize D.tup [a,b,c]=T at h1 h2 h4 ⊢;simp only[pv,seval,op,h1,h2,h3,h4,h,NP,N9,ka]
theorem my{CH:D}{k:Int}{c:D}{b:Bool}(h:aE [CH,.int k]=.ok (.f,.bl true))(hc:aE [CH,c]=.ok (.f,.bl b))(hb:b=true->∃z,c=.int z/\¬ k<z):DS CH (.tup [.str [112,97,105,114],.int k,c]):=by
 have h1:i8 "tuple" (.tup [.str [112,97,105,114],.int k,c])=true:=rfl;have h2:jP [.tup [.str [112,97,105,114],.int k,c]]=.ok (.f,.int 3):=rfl;have h3:((3:Int)==3)=true:=rfl;have h4:Cj (.tup [.str [112,97,105,114],.int k,c]) (.int 1)=.ok (.f,.int k):=rfl;have h5:Cj (.tup [.str [112,97,105,114],.int k,c]) (.int 2)=.ok (.f,c):=rfl;have h6:Cj (.tup [.str [112,97,105,114],.int k,c]) (.int 0)=.ok (.f,.str [112,97,105,114]):=rfl;have h7:(([112,97,105,114]:List Nat)==[112,97,105,114])=true:=rfl;unfold DS bc cI;rw[a8 (h:=by rfl)];generalize D.tup [.str [112,97,105,114],.int k,c]=T at h1 h2 h4 h5 h6 ⊢;rw[aB (env':=[some (.f,CH),some (.f,T)]) (by simp only[pv,seval,op,h1,h2,h3,h4,h,NP,ka])];cases b with
 |false=>simp only[pv,seval,op,h5,h6,h7,hc]
 |true=>
  obtain⟨z,rfl,hz⟩:=hb rfl;have hd:decide (k<z)=false:=MZ hz;simp only[pv,seval,op,h4,h5,h6,h7,hc,hd]
theorem wK(a:List Nat)(l:LNN):Ka (.str a) (.tup (l.map D.str))=.ok (.f,.bl (decide (a∈l))):=by
 have e:Gf (.str a) (.tup (l.map D.str))=Gf (.str a) (.lst (l.map D.str)):=rfl;have e2:Ka (.str a) (.tup (l.map D.str))=Gf (.str a) (.tup (l.map D.str)):=rfl;rw[e2,e];unfold Gf;simp only[plainD,gm,Ot,OH];congr 3
 unfold sG;rw[MV,ME];simp[BZ]
theorem uv(CJ:ap.length<=1000){k:Int}{t m:List Nat}(h:aE [eCh nY ap,.int k]=.ok (.f,.bl true))(hp:(t==[112,97,105,114])=false)(hg:t=[103,97,112]->m∉nY\/lO ap k m=true):DS (eCh nY ap) (.tup [.str t,.int k,.str m]):=by
 have h1:i8 "tuple" (.tup [.str t,.int k,.str m])=true:=rfl;have h2:jP [.tup [.str t,.int k,.str m]]=.ok (.f,.int 3):=rfl;have h3:((3:Int)==3)=true:=rfl;have h4:Cj (.tup [.str t,.int k,.str m]) (.int 1)=.ok (.f,.int k):=rfl;have h5:Cj (.tup [.str t,.int k,.str m]) (.int 2)=.ok (.f,.str m):=rfl;have h6:Cj (.tup [.str t,.int k,.str m]) (.int 0)=.ok (.f,.str t):=rfl;have KS:=wK m nY;have hh:=jj nY ap k m CJ;have FZ:Cj (eCh nY ap) (.int 0)=.ok (.f,.tup (nY.map D.str)):=rfl;unfold DS bc cI;rw[a8 (h:=by rfl)];generalize D.tup [.str t,.int k,.str m]=T at h1 h2 h4 h5 h6 ⊢;generalize eCh nY ap=CH at h hh FZ ⊢;rw[aB (env':=[some (.f,CH),some (.f,T)]) (by simp only[pv,seval,op,h1,h2,h3,h4,h,NP,ka])];rw[aB (env':=[some (.f,CH),some (.f,T)]) (by simp only[pv,seval,op,h6,hp,ka])];by_cases ht:t=[103,97,112]
 ·have hq:(t==[103,97,112])=true:=Nb.mpr ht;by_cases hm:m∈nY
  ·rw[M6 hm]at KS;have hb:=(hg ht).resolve_left (fun z=>z hm);rw[hb]at hh;simp only[pv,seval,op,h4,h5,h6,hq,FZ,KS,hh,NP]
  ·rw[MZ hm]at KS;simp only[pv,seval,op,h4,h5,h6,hq,FZ,KS]
 ·have hq:(t==[103,97,112])=false:=Oa.mpr ht;simp only[pv,seval,op,h6,hq]
end
abbrev Hs:=Int×List Nat
def eH(h:Hs):D:=.tup [.int h.1,.str h.2]
theorem sZ(a b:Hs):BZ (eH a) (eH b)=decide (a=b):=by
 obtain⟨x,y⟩:=a;obtain⟨x',y'⟩:=b;unfold eH;simp only[BZ,iO];rw[MV];simp
def tf(l:List Hs)(a:Hs):List Hs:=if a∈l then l else l++[a]
theorem j8{l:List Hs}{a b:Hs}:b∈tf l a<->b∈l\/b=a:=by
 unfold tf;split
 ·rename_i h;exact⟨.inl,fun g=>g.elim id fun e=>e▸h⟩
 ·rw[M1,Nu]
theorem tj(l:List Hs)(a:Hs):(tf l a).length<=l.length+1:=by
 unfold tf;split
 ·lia
 ·rw[nM];exact MH _
theorem BF(l:List Hs)(vs:List D)(a:Hs)(v:D)(hv:vs.length=l.length):∃DY,l7 (l.map eH) vs (eH a) v=((tf l a).map eH,DY)/\DY.length=(tf l a).length:=by
 have e:(l.map eH).any (BZ (eH a))=decide (a∈l):=by
  rw[Pl,MV,N6,ME];constructor
  ·rintro⟨b,hb,h⟩;have h:BZ (eH a) (eH b)=true:=h;rw[sZ,ME]at h;rw[h];exact hb
  ·intro h;refine⟨a,h,?_⟩;show BZ (eH a) (eH a)=true;rw[sZ,ME]
 unfold l7 tf;rw[e];by_cases h:a∈l
 ·rw[MM h,MM (M6 h)];refine⟨_,rfl,?_⟩;rw[gq,List.length_zip,gq,hv,Nat.min_self]
 ·rw[MO h,MO (by simpa using h),Nk];refine⟨_,rfl,?_⟩;rw[nM,nM,hv];rfl
theorem AN(r:Hs):∀(ms:List Hs) (vs:List D),vs.length=ms.length->(PV.getD (ms.map eH) vs (eH r)).isSome=decide (r∈ms)
 |[],vs,_=>by
  unfold PV.getD;rw[NJ,List.zip_nil_left];rfl
 |m::ms,[],h=>by cases h
 |m::ms,v::vs,h=>by
  have ih:=AN r ms vs (by simpa using h);unfold PV.getD at ih ⊢;rw[oK,Of];by_cases e:r=m
  ·rw[OL (by show BZ (eH r) (eH m)=true;rw[sZ];exact M6 e)];rw[M6 (by rw[e];exact My)];rfl
  ·rw[OM (by show ¬ BZ (eH r) (eH m)=true;rw[sZ,ME];exact e),ih,MV,ME,ME,MN];exact⟨.inr,fun z=>z.resolve_left e⟩
theorem keyH(h:Hs):dW true (eH h)=true:=rfl
theorem BG(r:Hs)(ms:List Hs)(vs:List D)(hv:vs.length=ms.length):ri (eH r) (.dct true (ms.map eH) vs)=.ok (.f,.bl (!decide (r∈ms))):=by
 unfold ri;dsimp only;rw[AN r ms vs hv,keyH];first
  |rfl
  |(rw[MM rfl];done)
  |(simp only[OH];done)
theorem tm(nY:LNN)(ap:List Cr)(hl:ap.length<=60)(A1 A6 A7:Option R):∃(hs:List Hs) (vs:List D) (t3 t4 t5:Option R),vs.length=hs.length/\(∀a∈ap,(a.1,a.2.1)∈hs)/\(∀h∈hs,∃a∈ap,a.1=h.1/\a.2.1=h.2)/\
  c7 [some (.f,eCh nY ap),A1,some (.d,.dct true [] []),none,none,none,A6,A7]=.ok (.nx [some (.f,eCh nY ap),A1,some (.d,.dct true (hs.map eH) vs),t3,t4,t5,A6,A7]):=by
 obtain⟨env',ef,hs,vs,t3,t4,t5,h1,h2,h3,h4,rfl⟩:=for_list (a:=om 3 (aW (aK 3) (aW (aK 4) (aW (aK 5) gQ)))) (g:=cN) (e:=eA) ap (fun j env=>∃(hs:List Hs) (vs:List D) (t3 t4 t5:Option R),vs.length=hs.length/\hs.length<=j/\(∀a∈ap.take j,(a.1,a.2.1)∈hs)/\(∀h∈hs,∃a∈ap,a.1=h.1/\a.2.1=h.2)/\env=[some (.f,eCh nY ap),A1,some (.d,.dct true (hs.map eH) vs),t3,t4,t5,A6,A7]) (by
  rintro j a env hj ⟨hs,vs,t3,t4,t5,h1,h2,h3,h4,rfl⟩;have DO:=(Ao hj).1;obtain⟨DY,e1,e2⟩:=BF hs vs (a.1,a.2.1) (.bl true) h1;have hle:=tj hs (a.1,a.2.1);have hk:=keyH (a.1,a.2.1);have hz:(tf hs (a.1,a.2.1)).length<=sizeLine:=line_le (by lia);refine⟨[some (.f,eCh nY ap),A1,some (.d,.dct true (hs.map eH) vs),some (.f,.int a.1),some (.f,.str a.2.1),some (.f,.int a.2.2),A6,A7],by unfold eA;simp only[pv,seval],[some (.f,eCh nY ap),A1,some (.d,.dct true ((tf hs (a.1,a.2.1)).map eH) DY),some (.f,.int a.1),some (.f,.str a.2.1),some (.f,.int a.2.2),A6,A7],?_,_,_,_,_,_,e2,by lia,fun b hb=>?_,fun b hb=>?_,rfl⟩
  ·unfold cN;unfold eH at e1 hk ⊢;have Iz:decide (hs.length<sizeLine)=true:=M6 (lD (by lia));simp only[pv,seval,op,hk,e1,gq,Iz,Ot]
  ·rw[Pt,hj]at hb;rcases wX hb with hb|hb
   ·exact j8.mpr (.inl (h3 b hb))
   ·rw[Ap hb];exact j8.mpr (.inr rfl)
  ·rcases j8.mp hb with hb|hb
   ·exact h4 b hb
   ·exact⟨a,NI hj,by rw[hb],by rw[hb]⟩) [some (.f,eCh nY ap),A1,some (.d,.dct true [] []),none,none,none,A6,A7] ⟨[],[],none,none,none,rfl,MH _,(fun a ha=>nomatch ha),(fun a ha=>nomatch ha),rfl⟩
 refine⟨hs,vs,t3,t4,t5,h1,fun a ha=>h3 a (by rw[OX];exact ha),h4,?_⟩;unfold c7 eCh;unfold eCh at ef;simp only[pv,seval,op,Mi,ef]
theorem lJ(nY:LNN)(ap:List Cr)(hl:ap.length<=60)(T:PV.Env):(aF cR (av (aA (.int 1))) (av (kO (fI (oQ (aF Cj (au 0) (av (aA (.int 1))))) [none,none,none] (om 3 (aW (aK 0) (aW (aK 1) (aW (aK 2) gQ)))) sx (cz maxD (ai (au 0) (ai (au 2) aI)))) (aA (.int 0))))) (some (.f,eCh nY ap)::T)=.ok ((.f,.int (aH ap)),some (.f,eCh nY ap)::T):=by
 simp only[pv,seval,op,eCh];rw[nL (r:=fun a:Cr=>D.int (kc a)) (fun env=>∃t1 t2 t3,env=[t1,t2,t3]) ap ?_ _ ⟨_,_,_,rfl⟩]
 ·rw[DV,MM (lx (by rw[gq];lia)),DV,nN fun a=>j3 _];simp only[pv,seval,op];have e:(some (ap.map fun a=>D.int (kc a))).bind cv=some (ap.map kc):=by
   have:=uo (ap.map kc);rw[Ni]at this;exact this
  rw[e];rfl
 ·rintro a _ env ⟨t1,t2,t3,rfl⟩;refine⟨_,fw a t1 t2 t3 _,?_⟩;simp only[pv,seval,op];exact⟨_,_,rfl,_,_,_,rfl⟩
theorem y8:∀n<13,((List.range (n*n)).filter fun k=>decide (k / n<k%n)).map (fun k=>(k / n,k%n))=(List.range n).flatMap fun i=>(List.range (n-(i+1))).map fun k=>(i,i+1+k):=by decide +kernel
theorem y9(n:Nat)(h:n<=12):((List.range (n*n)).filter fun k:Nat=>decide (((k:Int) / (n:Int))<(k:Int)%(n:Int))).map (fun k=>FY (k / n) (k%n))=a4 n:=by
 have e:=NQ (List.map fun p:Nat×Nat=>FY p.1 p.2) (y8 n (by lia));rw[Ni,List.map_flatMap]at e;have f:(fun k:Nat=>decide (((k:Int) / (n:Int))<(k:Int)%(n:Int)))=fun k=>decide (k / n<k%n):=by
  funext k
  rw[<-Int.natCast_ediv,<-Int.natCast_emod,MV,ME,ME];lia
 rw[f];refine e.trans ?_;unfold a4 qS;congr 1
 funext i
 rw[Ni];rfl
theorem tq(mZ:Nat)(hm:1<=mZ)(IZ:mZ<=12):fH (aK 0) (CP (aF Gh (av (aF cQ (au 0) (au 1))) (av (aF dR (au 0) (au 1))))) (dk (ah (aA (.str [112,97,105,114])) (ah (aF cQ (au 0) (au 1)) (ah (aF dR (au 0) (au 1)) aR)))) ((List.range (mZ*mZ)).map fun(k:Nat)=>D.int (k:Int)) [none,some (.f,.int (mZ:Int))]=.ok (a4 mZ):=by
 have:=j4 (e:=fun k:Nat=>D.int (k:Int)) (p:=fun k:Nat=>decide (((k:Int) / (mZ:Int))<(k:Int)%(mZ:Int))) (r:=fun k:Nat=>FY (k / mZ) (k%mZ)) (a:=aK 0) (c:=(CP (aF Gh (av (aF cQ (au 0) (au 1))) (av (aF dR (au 0) (au 1)))))) (f:=(dk (ah (aA (.str [112,97,105,114])) (ah (aF cQ (au 0) (au 1)) (ah (aF dR (au 0) (au 1)) aR))))) (fun env=>∃t1,env=[t1,some (.f,.int (mZ:Int))]) (List.range (mZ*mZ)) (by
  rintro k _ env ⟨t1,rfl⟩;have f1:=lz (k:Int) (mZ:Int) (by lia) (by lia);have f2:=iT (k:Int) (mZ:Int) (by lia);refine⟨[some (.f,.int (k:Int)),some (.f,.int (mZ:Int))],rfl,[some (.f,.int (k:Int)),some (.f,.int (mZ:Int))],?_,?_⟩
  ·simp only[pv,seval,op,f1,f2]
  ·split
   ·refine⟨.f,[some (.f,.int (k:Int)),some (.f,.int (mZ:Int))],?_,_,rfl⟩;simp only[pv,seval,op,f1,f2];unfold FY;rw[Int.natCast_ediv,Int.natCast_emod]
   ·exact⟨_,rfl⟩) _ ⟨none,rfl⟩
 rw[this,y9 mZ IZ]
theorem wL{ap:List Cr}{hs:List Hs}(h1:∀a∈ap,(a.1,a.2.1)∈hs)(h2:∀h∈hs,∃a∈ap,a.1=h.1/\a.2.1=h.2)(s:Int)(m:List Nat):decide ((s,m)∈hs)=lO ap s m:=by
 unfold lO uq;rw[MV,ME,ME,gq,OW];constructor
 ·intro h;obtain⟨a,ha,e1,e2⟩:=h2 _ h;exact⟨a,OD.mpr ⟨ha,by rw[e1,e2,MG];exact⟨Nl _,Nl _⟩⟩⟩
 ·rintro⟨a,ha⟩;obtain⟨ha,e⟩:=OD.mp ha;rw[MG,Nb,Nb]at e;rw[<-e.1,<-e.2];exact h1 a ha
theorem tu(nY:LNN)(ap:List Cr)(hs:List Hs)(h1:∀a∈ap,(a.1,a.2.1)∈hs)(h2:∀h∈hs,∃a∈ap,a.1=h.1/\a.2.1=h.2)(vs:List D)(hv:vs.length=hs.length)(s:Nat):fH (aK 0) (CP (bY ri (av (dk (ah (bJ 1) (ah (bJ 0) aR)))) (au 2))) (dk (ah (aA (.str [103,97,112])) (ah (bJ 1) (ah (bJ 0) aR)))) (nY.map D.str) [none,some (.f,.int (s:Int)),some (.f,.dct true (hs.map eH) vs)]=.ok (mw nY ap s):=by
 have:=j4 (e:=D.str) (p:=fun m=>!lO ap (s:Int) m) (r:=IY s) (a:=aK 0) (c:=(CP (bY ri (av (dk (ah (bJ 1) (ah (bJ 0) aR)))) (au 2)))) (f:=(dk (ah (aA (.str [103,97,112])) (ah (bJ 1) (ah (bJ 0) aR))))) (fun env=>∃t1,env=[t1,some (.f,.int (s:Int)),some (.f,.dct true (hs.map eH) vs)]) nY (by
  rintro m _ env ⟨t1,rfl⟩;have hn:ri (.tup [.int (s:Int),.str m]) (.dct true (hs.map eH) vs)=.ok (.f,.bl (!lO ap (s:Int) m)):=by
   rw[<-wL h1 h2];exact BG ((s:Int),m) hs vs hv
  refine⟨[some (.f,.str m),some (.f,.int (s:Int)),some (.f,.dct true (hs.map eH) vs)],rfl,[some (.f,.str m),some (.f,.int (s:Int)),some (.f,.dct true (hs.map eH) vs)],?_,?_⟩
  ·simp only[pv,seval,hn]
  ·split
   ·refine⟨.f,[some (.f,.str m),some (.f,.int (s:Int)),some (.f,.dct true (hs.map eH) vs)],?_,_,rfl⟩;simp only[pv,seval];rfl
   ·exact⟨_,rfl⟩) _ ⟨none,rfl⟩
 rw[this];rfl
theorem mz(nY:LNN)(ap:List Cr)(hl:ap.length<=60)(hn:nY.length<=5)(mZ:Nat)(hm:aH ap=(mZ:Int))(h1:1<=mZ)(IZ:mZ<=12):bX [eCh nY ap]=.ok (.l .f,.lst (a4 mZ++cO nY ap mZ)):=by
 have e1:=lJ nY ap hl [none,none,none,none,none,none,none];rw[hm]at e1;obtain⟨hs,vs,t3,t4,t5,hv,hh,hi,e2⟩:=tm nY ap hl (some (.f,.int (mZ:Int))) none none;have HE:=tq mZ h1 IZ;have Dl:=nQ mZ IZ;have hpz:(a4 mZ).length<=sizeLine:=line_le (by lia);have KL:flatDs (a4 mZ)=true:=flat_rows (fun i=>lH mZ i) mZ;have LB:vH (.int (mZ:Int)) (.int (mZ:Int))=.ok (.f,.int ((mZ:Int)*(mZ:Int))):=wY _ _ (nP _ (by lia) (by lia));have Mm:(mZ:Int)*(mZ:Int)=((mZ*mZ:Nat):Int):=by rw[Int.natCast_mul]
 have hmx:mZ*mZ<=144:=Ow IZ IZ;have e3:cC 6 (fI (b6 (av (aF ox (au 1) (au 1)))) [none,some 1] (aK 0) (CP (aF Gh (av (aF cQ (au 0) (au 1))) (av (aF dR (au 0) (au 1))))) (dk (ah (aA (.str [112,97,105,114])) (ah (aF cQ (au 0) (au 1)) (ah (aF dR (au 0) (au 1)) aR))))) [some (.f,eCh nY ap),some (.f,.int (mZ:Int)),some (.d,.dct true (hs.map eH) vs),t3,t4,t5,none,none]=.ok (.nx [some (.f,eCh nY ap),some (.f,.int (mZ:Int)),some (.d,.dct true (hs.map eH) vs),t3,t4,t5,some (.l .f,.lst (a4 mZ)),none]):=by
  generalize (dk (ah (aA (.str [112,97,105,114])) (ah (aF cQ (au 0) (au 1)) (ah (aF dR (au 0) (au 1)) aR))))=FF at HE ⊢;generalize (CP (aF Gh (av (aF cQ (au 0) (au 1))) (av (aF dR (au 0) (au 1)))))=GG at HE ⊢;simp only[pv,seval,op,LB];rw[MM (by rw[Mm];lia),Mm];simp only[pv,seval,op,Nm,HE,hpz,KL]
 obtain⟨env',ef,t7,rfl⟩:=dI (a:=aK 7) (g:=cM) (e:=fun k=>D.int (k:Int)) mZ (fun j env=>∃t7,env=[some (.f,eCh nY ap),some (.f,.int (mZ:Int)),some (.d,.dct true (hs.map eH) vs),t3,t4,t5,some (.l .f,.lst (a4 mZ++cO nY ap j)),t7]) (by
  rintro j env hj ⟨t7,rfl⟩;have hg:=tu nY ap hs hh hi vs hv j;have hgl:=mx nY ap j;have hgz:(mw nY ap j).length<=sizeLine:=line_le (by lia);have hgf:=lI nY ap j;have hga:=qU (ap:=ap) hn j (by lia);have Kp:cR (.lst (a4 mZ++cO nY ap j)) (.lst (mw nY ap j))=.ok (.l .f,.lst (a4 mZ++cO nY ap j++mw nY ap j)):=by rw[j5,MM (line_le (by rw[nM];lia))]
  refine⟨[some (.f,eCh nY ap),some (.f,.int (mZ:Int)),some (.d,.dct true (hs.map eH) vs),t3,t4,t5,some (.l .f,.lst (a4 mZ++cO nY ap j)),some (.f,.int (j:Int))],by simp only[pv,seval],[some (.f,eCh nY ap),some (.f,.int (mZ:Int)),some (.d,.dct true (hs.map eH) vs),t3,t4,t5,some (.l .f,.lst (a4 mZ++cO nY ap (j+1))),some (.f,.int (j:Int))],?_,_,rfl⟩;unfold cM;rw[show cO nY ap (j+1)=cO nY ap j++mw nY ap j from iJ _ _,<-Nn];generalize a4 mZ++cO nY ap j=PG at Kp ⊢;generalize (dk (ah (aA (.str [103,97,112])) (ah (bJ 1) (ah (bJ 0) aR))))=FF at hg ⊢;generalize (CP (bY ri (av (dk (ah (bJ 1) (ah (bJ 0) aR)))) (au 2)))=GG at hg ⊢;unfold eCh;simp only[pv,seval,op,Lx,hg,hgz,hgf,Kp]) [some (.f,eCh nY ap),some (.f,.int (mZ:Int)),some (.d,.dct true (hs.map eH) vs),t3,t4,t5,some (.l .f,.lst (a4 mZ)),none] ⟨none,by rw[show cO nY ap 0=[] from rfl,M5]⟩
 unfold bX gJ;rw[a8 (h:=by rfl),show(List.map (fun d=>some (O.f,d)) [eCh nY ap]++List.replicate 7 none:PV.Env)=[some (.f,eCh nY ap),none,none,none,none,none,none,none] from rfl];generalize (aF cR (av (aA (.int 1))) (av (kO (fI (oQ (aF Cj (au 0) (av (aA (.int 1))))) [none,none,none] (om 3 (aW (aK 0) (aW (aK 1) (aW (aK 2) gQ)))) sx (cz maxD (ai (au 0) (ai (au 2) aI)))) (aA (.int 0)))))=MX at e1 ⊢;rw[aB (env':=[some (.f,eCh nY ap),some (.f,.int (mZ:Int)),none,none,none,none,none,none]) (by simp only[pv,seval,e1])];rw[aB (env':=[some (.f,eCh nY ap),some (.f,.int (mZ:Int)),some (.d,.dct true [] []),none,none,none,none,none]) (by simp only[pv,seval])];rw[aB e2];unfold d7;rw[aB e3];have hr:b6 (au 1) [some (.f,eCh nY ap),some (.f,.int (mZ:Int)),some (.d,.dct true (hs.map eH) vs),t3,t4,t5,some (.l .f,.lst (a4 mZ)),none]=.ok ((List.range mZ).map fun(k:Nat)=>D.int (k:Int),[some (.f,eCh nY ap),some (.f,.int (mZ:Int)),some (.d,.dct true (hs.map eH) vs),t3,t4,t5,some (.l .f,.lst (a4 mZ)),none]):=by
  have:=AJ (mZ:Int) (by lia) (by lia) (au 1) [some (.f,eCh nY ap),some (.f,.int (mZ:Int)),some (.d,.dct true (hs.map eH) vs),t3,t4,t5,some (.l .f,.lst (a4 mZ)),none] [some (.f,eCh nY ap),some (.f,.int (mZ:Int)),some (.d,.dct true (hs.map eH) vs),t3,t4,t5,some (.l .f,.lst (a4 mZ)),none] (.var 1) (by simp only[pv,seval]) rfl;rw[Nm]at this;exact this
 unfold eT d5;rw[Fc,Dx,hr,DV];dsimp only;rw[ef,DV];simp only[pv,seval]
theorem jk{F:List D->Bool}{fs:C6}{env e:PV.Env}{os:List Opd}{ds:List D}(h:fs env=.ok (os,e))(h2:hX e os=.ok ds):lN F fs env=if F ds then some e else none:=by
 unfold lN;rw[h];dsimp only;rw[h2]
theorem mC{CH d:D}(h:DS CH d):aQ [CH,d]=true:=by
 unfold DS at h;unfold aQ iw;have hc:(p5 (CP (e8 bc (ai (au 0) (ai (au 1) aI))))) [some (.f,CH),some (.f,d)]=.ok (true,[some (.f,CH),some (.f,d)]):=by simp only[pv,seval,op,h,N9]
 show(decide (2=2)&&Kd _ _ [some (.f,CH),some (.f,d)])=true;unfold Kd;rw[hc];rfl
theorem tw{CH d:D}(h:DS CH d):eJ [CH,d]=true:=by
 unfold eJ iw;show(decide (2=2)&&xOf (lN aQ (ai (au 0) (ai (au 1) aI))) [some (.f,CH),some (.f,d)])=true;unfold xOf;rw[jk (os:=[.var 0,.var 1]) (ds:=[CH,d]) rfl rfl,mC h];rfl
theorem tD{CH d p:D}(h:DS CH d):eI [CH,p,d]=true:=by
 unfold eI iw;show(decide (3=3)&&xOf (lN aQ (ai (au 0) (ai (au 2) aI))) [some (.f,CH),some (.f,p),some (.f,d),none])=true;unfold xOf;rw[jk (os:=[.var 0,.var 2]) (ds:=[CH,d]) rfl rfl,mC h];rfl
theorem wM{CH d p q:D}(h:DS CH d):cE [CH,d,p,q]=true:=by
 unfold cE iw;show(decide (4=4)&&xOf (lN aQ (ai (au 0) (ai (au 1) aI))) [some (.f,CH),some (.f,d),some (.f,p),some (.f,q),none,none,none,none])=true;unfold xOf;rw[jk (os:=[.var 0,.var 1]) (ds:=[CH,d]) rfl rfl,mC h];rfl
theorem Au{c:FT}{x y:FXE}{env e:PV.Env}(h:c env=.ok (true,e)):oP c x y env=x e:=by
 unfold oP;rw[h]
theorem Av{c:FT}{x y:FXE}{env e:PV.Env}(h:c env=.ok (false,e)):oP c x y env=y e:=by
 unfold oP;rw[h]
theorem wN{i j:Nat}{x:FXE}{g:FS}{r:List (Nat×Bool)}{tot:List Bool}{env e:PV.Env}(h:x env=some e):sTryL i x g r j tot env=match e[i]? with
  |some none=>if((r.all fun z=>decide (z.1<e.length) && !(z.1==i))&&decide (j<e.length) && !(j==i))=true then .ok (.nx ((setB r e).set j (some (.l .f,.lst (tot.map D.bl))))) else .bad
  |_=>.bad:=by
 unfold sTryL;rw[h] <;> rfl
theorem qV{nY:LNN}{ap:List Cr}(hn:nY.length<=5){d:D}(h:DS (eCh nY ap) d){w:Int}(hw:w=0\/w=1\/w=2):bI [eCh nY ap,d,.int w]=.ok (.f,.bl true):=by
 have FZ:Cj (eCh nY ap) (.int 0)=.ok (.f,.tup (nY.map D.str)):=rfl;have Mn:wV (.tup [.int 0]) (.int (nY.length:Int))=.ok (.f,.tup (List.replicate nY.length [D.int 0]).flatten):=by
  rw[yX,MM ⟨P6 _ _,by decide,by lia,by lia⟩,Nm]
 have h1:=tw h;have h2:=fun p:D=>tD (p:=p) h
 have h3:=fun p q:D=>wM (p:=p) (q:=q) h
 generalize eCh nY ap=CH at FZ h1 h2 h3 ⊢;generalize (List.replicate nY.length [D.int 0]).flatten=Z at Mn;have ea:cR (.lst [.bl true,.bl true]) (.lst [.bl false,.bl false,.bl false,.bl false,.bl false,.bl false,.bl false])=.ok (.l .f,.lst [.bl true,.bl true,.bl false,.bl false,.bl false,.bl false,.bl false,.bl false,.bl false]):=by
  rw[j5,MM (line_le (by decide))];rfl
 have em:ox (.lst [.bl false]) (.int 7)=.ok (.l .f,.lst [.bl false,.bl false,.bl false,.bl false,.bl false,.bl false,.bl false]):=by
  rw[wm,MM ⟨by decide,by decide,line_le (by decide)⟩];rfl
 have ee:DH (.lst [.bl true,.bl true,.bl false,.bl false,.bl false,.bl false,.bl false,.bl false,.bl false]) (.lst [.bl true,.bl true,.bl false,.bl false,.bl false,.bl false,.bl false,.bl false,.bl false])=.ok (.f,.bl true):=rfl;unfold bI eV;rw[a8 (h:=by rfl),show(List.map (fun d=>some (O.f,d)) [CH,d,.int w]++List.replicate 3 none:PV.Env)=[some (.f,CH),some (.f,d),some (.f,.int w),none,none,none] from rfl];rw[aB (env':=[some (.f,CH),some (.f,d),some (.f,.int w),some (.l .f,.lst []),none,none]) (by simp only[pv,seval])];rw[aB (env':=[some (.f,CH),some (.f,d),some (.f,.int w),some (.l .f,.lst []),some (.f,.tup [.int 0,.tup Z,.tup Z]),none]) (by simp only[pv,seval,op,FZ,gq,Mn])];generalize D.tup [.int 0,.tup Z,.tup Z]=PL;have hx:(oP (CP (bY DH (au 2) (av (aA (.int 0))))) (lN eJ (ai (au 0) (ai (au 1) aI))) (oP (CP (bY DH (au 2) (av (aA (.int 1))))) (lN eI (ai (au 0) (ai (au 4) (ai (au 1) aI)))) (oP (CP (bY DH (au 2) (av (aA (.int 2))))) (lN cE (ai (au 0) (ai (au 1) (ai (av (aA (.int 1))) (ai (av (j9 aR)) aI))))) (fun _=>none)))) [some (.f,CH),some (.f,d),some (.f,.int w),some (.l .f,.lst []),some (.f,PL),none]=some [some (.f,CH),some (.f,d),some (.f,.int w),some (.l .f,.lst []),some (.f,PL),none]:=by
  have hc:∀k:Int,(CP (bY DH (au 2) (av (aA (.int k))))) [some (.f,CH),some (.f,d),some (.f,.int w),some (.l .f,.lst []),some (.f,PL),none]=.ok (w==k,[some (.f,CH),some (.f,d),some (.f,.int w),some (.l .f,.lst []),some (.f,PL),none]):=fun k=>by simp only[pv,seval,op]
  rcases hw with rfl|rfl|rfl
  ·rw[Au (hc 0),jk (os:=[.var 0,.var 1]) (ds:=[CH,d]) rfl rfl,h1,MM rfl]
  ·rw[Av (hc 0),Au (hc 1),jk (os:=[.var 0,.var 4,.var 1]) (ds:=[CH,PL,d]) rfl rfl,h2,MM rfl]
  ·rw[Av (hc 0),Av (hc 1),Au (hc 2),jk (e:=[some (.f,CH),some (.f,d),some (.f,.int 2),some (.l .f,.lst []),some (.f,PL),none]) (os:=[.var 0,.var 1,.val (.int 1),.val (.lst [])]) (ds:=[CH,d,.int 1,.lst []]) rfl rfl,h3,MM rfl]
 rw[aB (env':=[some (.f,CH),some (.f,d),some (.f,.int w),some (.l .f,.lst [.bl true,.bl true,.bl false,.bl false,.bl false,.bl false,.bl false,.bl false,.bl false]),some (.f,PL),none]) (by
  rw[wN hx];rfl)]
 simp only[pv,seval,op,em,ea,ee]
theorem wO{CH:D}{k:Int}{t:List Nat}{c:D}(h:aE [CH,.int k]=.ok (.f,.bl true))(hp:(t==[112,97,105,114])=false)(hg:(t==[103,97,112])=false):DS CH (.tup [.str t,.int k,c]):=by
 have h1:i8 "tuple" (.tup [.str t,.int k,c])=true:=rfl;have h2:jP [.tup [.str t,.int k,c]]=.ok (.f,.int 3):=rfl;have h3:((3:Int)==3)=true:=rfl;have h4:Cj (.tup [.str t,.int k,c]) (.int 1)=.ok (.f,.int k):=rfl;have h6:Cj (.tup [.str t,.int k,c]) (.int 0)=.ok (.f,.str t):=rfl;unfold DS bc cI;rw[a8 (h:=by rfl)];generalize D.tup [.str t,.int k,c]=T at h1 h2 h4 h6 ⊢;rw[aB (env':=[some (.f,CH),some (.f,T)]) (by simp only[pv,seval,op,h1,h2,h3,h4,h,NP,ka])];rw[aB (env':=[some (.f,CH),some (.f,T)]) (by simp only[pv,seval,op,h6,hp,ka])];simp only[pv,seval,op,h6,hg]
theorem qW(L:List D)(h0:L≠[])(x:Int):∃d∈L,Cj (.lst L) (.int (x%(L.length:Int)))=.ok (.f,d):=by
 have hp:=NO.mpr h0;have h1:0<=x%(L.length:Int):=OI _ (by lia);have h2:x%(L.length:Int)<(L.length:Int):=Og _ (by lia);obtain⟨j,ej⟩:=Nc h1;have hj:j<L.length:=by lia
 refine⟨L[j],NS hj,?_⟩;have e:DN L (j:Int)=some L[j]:=eW (yY hj);rw[ej,wa,e]
theorem tup_at(L:List D)(h0:L≠[])(x:Int):∃d∈L,Cj (.tup L) (.int (x%(L.length:Int)))=.ok (.f,d):=by
 have hp:=NO.mpr h0;have h1:0<=x%(L.length:Int):=OI _ (by lia);have h2:x%(L.length:Int)<(L.length:Int):=Og _ (by lia);obtain⟨j,ej⟩:=Nc h1;have hj:j<L.length:=by lia
 refine⟨L[j],NS hj,?_⟩;have e:DN L (j:Int)=some L[j]:=eW (yY hj);rw[ej,yO,e]
theorem za(A B:List D)(h:A.length+B.length<=100):cR (.lst A) (.lst B)=.ok (.l .f,.lst (A++B)):=by rw[j5,MM (line_le (by lia))]
theorem nR:∀l:List Cr,plainDs 39 (l.map eA)=true
 |[]=>rfl
 |a::l=>by
  rw[oK,plainDs,nR l];rfl
theorem wQ(ap:List Cr):Fz (.lst (ap.map eA)) (.lst [])=.ok (.f,.bl (!decide (ap=[]))):=by
 cases ap with
 |nil=>rfl
 |cons a l=>
  unfold Fz;rw[show plainD 40 (.lst ((a::l).map eA))=true from by
   rw[plainD];exact nR _]
  rfl
section
variable{nY:LNN}{ap:List Cr}
theorem uw(CJ:ap.length<=1000){n:Nat}(CO:aH ap=(n:Int)){z:Int}(h0:0<=z)(h:z<(n:Int)):aE [eCh nY ap,.int z]=.ok (.f,.bl true):=by
 rw[ur CJ CO,M6 h0,M6 h];rfl
theorem zb(CJ:ap.length<=1000){n:Nat}(CO:aH ap=(n:Int)){z:Int}(h:0<=z->¬ z<(n:Int)):aE [eCh nY ap,.int z]=.ok (.f,.bl false):=by
 rw[ur CJ CO];by_cases h0:0<=z
 ·rw[M6 h0,MZ (h h0)];rfl
 ·rw[MZ h0];rfl
theorem DQ(CJ:ap.length<=1000)(Gy:∀n∈nY,n≠[109,111,118,101,115]){mZ:Nat}(CO:aH ap=(mZ:Int))(h1:1<=mZ){s:Int}(LD:0<=s)(hs:s<(mZ:Int)):∀d∈([.tup [.str [112,97,105,114],.int s,.int s],.tup [.str [112,97,105,114],.int ((mZ:Int)-1),.int 0],.tup [.str [112,97,105,114],.int 0,.int (mZ:Int)],.tup [.str [112,97,105,114],.int (-1),.int 0],.tup [.str [103,97,112],.int s,.str [109,111,118,101,115]]]:List D),DS (eCh nY ap) d:=by
 intro d hd;simp only[MN,O1,SF]at hd;rcases hd with rfl|rfl|rfl|rfl|rfl
 ·exact my (uw CJ CO LD hs) (uw CJ CO LD hs) fun _=>⟨s,rfl,by lia⟩
 ·exact my (uw CJ CO (by lia) (by lia)) (uw CJ CO (by lia) (by lia)) fun _=>⟨0,rfl,by lia⟩
 ·exact my (uw CJ CO (by lia) (by lia)) (zb CJ CO (by lia)) fun h=>(MP h).elim
 ·exact fU (zb CJ CO (by lia))
 ·exact uv CJ (uw CJ CO LD hs) rfl fun _=>.inl fun h=>Gy _ h rfl
theorem GO(CJ:ap.length<=1000){mZ:Nat}(CO:aH ap=(mZ:Int))(h1:1<=mZ):∀d∈([.tup [.str [103,97,112],.int (mZ:Int),.str [97]],.lst [.str [112,97,105,114],.int 0,.int 1],.tup [],.str [112,97,105,114],.tup [.str [112,97,105,114,115],.int 0,.int 1],.non,.int 7,.tup [.str [112,97,105,114],.int 0,.int ((mZ:Int)-1),.int 0]]:List D),DS (eCh nY ap) d:=by
 intro d hd;simp only[MN,O1,SF]at hd;rcases hd with rfl|rfl|rfl|rfl|rfl|rfl|rfl|rfl
 ·exact fU (zb CJ CO (by lia))
 ·exact j7 rfl
 ·exact uu rfl
 ·exact j7 rfl
 ·exact wO (uw CJ CO (by lia) (by lia)) rfl rfl
 ·exact j7 rfl
 ·exact j7 rfl
 ·exact uu rfl
theorem ok3(CJ:ap.length<=1000){mZ:Nat}(CO:aH ap=(mZ:Int))(h1:1<=mZ)(mv:List Nat):∀d∈([.tup [.str [103,97,112],.int (-1),.str mv],.tup [.str [103,97,112],.int (0-(mZ:Int)),.str mv],.tup [.str [112,97,105,114],.str [48],.str [49]]]:List D),DS (eCh nY ap) d:=by
 intro d hd;simp only[MN,O1,SF]at hd;rcases hd with rfl|rfl|rfl
 ·exact fU (zb CJ CO (by lia))
 ·exact fU (zb CJ CO (by lia))
 ·exact fU (y7 _ _)
theorem ok4(CJ:ap.length<=1000){mZ:Nat}(CO:aH ap=(mZ:Int)){a:Cr}(ha:a∈ap)(h0:0<=a.1):DS (eCh nY ap) (.tup [.str [103,97,112],.int a.1,.str a.2.1]):=by
 have hg:=qQ ha;refine uv CJ (uw CJ CO h0 (by lia)) rfl fun _=>.inr ?_
 unfold lO uq;rw[ME,gq,OW];exact⟨a,OD.mpr ⟨ha,by rw[MG];exact⟨Nl _,Nl _⟩⟩⟩
theorem qX(hl:ap.length<=60)(hn:nY.length<=5)(hb:∀a∈ap,0<=a.1)(Gy:∀n∈nY,n≠[109,111,118,101,115]){mZ:Nat}(CO:aH ap=(mZ:Int))(h1:1<=mZ)(IZ:mZ<=12)(x:Int):∃d,DS (eCh nY ap) d/\bH [eCh nY ap,.int x]=.ok (.f,d):=by
 have e1:=lJ nY ap hl [some (.f,.int x),none,none,none,none,none];rw[CO]at e1;have hs:=gr (x / 16) (mZ:Int) (by lia);have o1:=DQ (nY:=nY) (ap:=ap) (by lia) Gy CO h1 hs.1 hs.2;have o2:=GO (nY:=nY) (ap:=ap) (by lia) CO h1;have o3:=fun mv=>ok3 (nY:=nY) (ap:=ap) (by lia) CO h1 mv
 have o4:=fun(a:Cr) (ha:a∈ap)=>ok4 (nY:=nY) (ap:=ap) (by lia) CO ha (hb a ha)
 have FZ:Cj (eCh nY ap) (.int 0)=.ok (.f,.tup (nY.map D.str)):=rfl;have HV:Cj (eCh nY ap) (.int 1)=.ok (.f,.lst (ap.map eA)):=rfl;have haw:=BD nY [97] (by lia);obtain⟨dm,hdm,em⟩:=tup_at ((nY++[[97]]).map D.str) (by simp) (x / 4096)
 obtain⟨mv,_,rfl⟩:=wx hdm;have hlm:(((nY++[[97]]).map D.str).length:Int)=(nY.length:Int)+1:=by
  rw[gq,nM];rfl
 rw[hlm]at em;have EK:=wQ ap;have o3:=o3 mv;generalize JL:x / 16%(mZ:Int)=s at o1 hs;have f1:=lz x 16 (by decide) (by decide);have f2:=iT (x / 16) (mZ:Int) (by lia);rw[JL]at f2;have f3:=lz x 4096 (by decide) (by decide);have f4:=iT (x / 4096) ((nY.length:Int)+1) (by lia);unfold bH eU;rw[a8 (h:=by rfl),show(List.map (fun d=>some (O.f,d)) [eCh nY ap,.int x]++List.replicate 5 none:PV.Env)=[some (.f,eCh nY ap),some (.f,.int x),none,none,none,none,none] from rfl];generalize (aF cR (av (aA (.int 1))) (av (kO (fI (oQ (aF Cj (au 0) (av (aA (.int 1))))) [none,none,none] (om 3 (aW (aK 0) (aW (aK 1) (aW (aK 2) gQ)))) sx (cz maxD (ai (au 0) (ai (au 2) aI)))) (aA (.int 0)))))=MX at e1 ⊢;rw[aB (env':=[some (.f,eCh nY ap),some (.f,.int x),some (.f,.int (mZ:Int)),none,none,none,none]) (by simp only[pv,seval,e1])];generalize eCh nY ap=CH at o1 o2 o3 o4 FZ HV ⊢;rw[aB (env':=[some (.f,CH),some (.f,.int x),some (.f,.int (mZ:Int)),some (.f,.int s),none,none,none]) (by simp only[pv,seval,op,f1,f2])];rw[aB (env':=[some (.f,CH),some (.f,.int x),some (.f,.int (mZ:Int)),some (.f,.int s),some (.l .f,.lst [.tup [.str [112,97,105,114],.int s,.int s],.tup [.str [112,97,105,114],.int ((mZ:Int)-1),.int 0],.tup [.str [112,97,105,114],.int 0,.int (mZ:Int)],.tup [.str [112,97,105,114],.int (-1),.int 0],.tup [.str [103,97,112],.int s,.str [109,111,118,101,115]]]),none,none]) (by simp only[pv,seval,op])];have a1:=za [.tup [.str [112,97,105,114],.int s,.int s],.tup [.str [112,97,105,114],.int ((mZ:Int)-1),.int 0],.tup [.str [112,97,105,114],.int 0,.int (mZ:Int)],.tup [.str [112,97,105,114],.int (-1),.int 0],.tup [.str [103,97,112],.int s,.str [109,111,118,101,115]]] [.tup [.str [103,97,112],.int (mZ:Int),.str [97]],.lst [.str [112,97,105,114],.int 0,.int 1],.tup [],.str [112,97,105,114],.tup [.str [112,97,105,114,115],.int 0,.int 1],.non,.int 7,.tup [.str [112,97,105,114],.int 0,.int ((mZ:Int)-1),.int 0]] (by show 5+8<=100;lia);have Mq:∀d∈([.tup [.str [112,97,105,114],.int s,.int s],.tup [.str [112,97,105,114],.int ((mZ:Int)-1),.int 0],.tup [.str [112,97,105,114],.int 0,.int (mZ:Int)],.tup [.str [112,97,105,114],.int (-1),.int 0],.tup [.str [103,97,112],.int s,.str [109,111,118,101,115]]]++[.tup [.str [103,97,112],.int (mZ:Int),.str [97]],.lst [.str [112,97,105,114],.int 0,.int 1],.tup [],.str [112,97,105,114],.tup [.str [112,97,105,114,115],.int 0,.int 1],.non,.int 7,.tup [.str [112,97,105,114],.int 0,.int ((mZ:Int)-1),.int 0]]:List D),DS CH d:=fun d hd=>(wX hd).elim (o1 d) (o2 d)
 have LF:([.tup [.str [112,97,105,114],.int s,.int s],.tup [.str [112,97,105,114],.int ((mZ:Int)-1),.int 0],.tup [.str [112,97,105,114],.int 0,.int (mZ:Int)],.tup [.str [112,97,105,114],.int (-1),.int 0],.tup [.str [103,97,112],.int s,.str [109,111,118,101,115]]]++[.tup [.str [103,97,112],.int (mZ:Int),.str [97]],.lst [.str [112,97,105,114],.int 0,.int 1],.tup [],.str [112,97,105,114],.tup [.str [112,97,105,114,115],.int 0,.int 1],.non,.int 7,.tup [.str [112,97,105,114],.int 0,.int ((mZ:Int)-1),.int 0]]:List D).length=13:=rfl;rw[aB (env':=[some (.f,CH),some (.f,.int x),some (.f,.int (mZ:Int)),some (.f,.int s),some (.l .f,.lst ([.tup [.str [112,97,105,114],.int s,.int s],.tup [.str [112,97,105,114],.int ((mZ:Int)-1),.int 0],.tup [.str [112,97,105,114],.int 0,.int (mZ:Int)],.tup [.str [112,97,105,114],.int (-1),.int 0],.tup [.str [103,97,112],.int s,.str [109,111,118,101,115]]]++[.tup [.str [103,97,112],.int (mZ:Int),.str [97]],.lst [.str [112,97,105,114],.int 0,.int 1],.tup [],.str [112,97,105,114],.tup [.str [112,97,105,114,115],.int 0,.int 1],.non,.int 7,.tup [.str [112,97,105,114],.int 0,.int ((mZ:Int)-1),.int 0]])),none,none]) (by
  generalize ([.tup [.str [112,97,105,114],.int s,.int s],.tup [.str [112,97,105,114],.int ((mZ:Int)-1),.int 0],.tup [.str [112,97,105,114],.int 0,.int (mZ:Int)],.tup [.str [112,97,105,114],.int (-1),.int 0],.tup [.str [103,97,112],.int s,.str [109,111,118,101,115]]]:List D)=A at a1 ⊢;simp only[pv,seval,op,a1])]
 generalize ([.tup [.str [112,97,105,114],.int s,.int s],.tup [.str [112,97,105,114],.int ((mZ:Int)-1),.int 0],.tup [.str [112,97,105,114],.int 0,.int (mZ:Int)],.tup [.str [112,97,105,114],.int (-1),.int 0],.tup [.str [103,97,112],.int s,.str [109,111,118,101,115]]]++[.tup [.str [103,97,112],.int (mZ:Int),.str [97]],.lst [.str [112,97,105,114],.int 0,.int 1],.tup [],.str [112,97,105,114],.tup [.str [112,97,105,114,115],.int 0,.int 1],.non,.int 7,.tup [.str [112,97,105,114],.int 0,.int ((mZ:Int)-1),.int 0]]:List D)=A at Mq LF ⊢;rw[aB (env':=[some (.f,CH),some (.f,.int x),some (.f,.int (mZ:Int)),some (.f,.int s),some (.l .f,.lst A),some (.f,.str mv),none]) (by simp only[pv,seval,op,FZ,haw,f3,gq,f4,em])];have a2:=za A [.tup [.str [103,97,112],.int (-1),.str mv],.tup [.str [103,97,112],.int (0-(mZ:Int)),.str mv],.tup [.str [112,97,105,114],.str [48],.str [49]]] (by rw[LF];show 13+3<=100;lia);have I0:∀d∈(A++[.tup [.str [103,97,112],.int (-1),.str mv],.tup [.str [103,97,112],.int (0-(mZ:Int)),.str mv],.tup [.str [112,97,105,114],.str [48],.str [49]]]:List D),DS CH d:=fun d hd=>(wX hd).elim (Mq d) (o3 d)
 have HF:(A++[.tup [.str [103,97,112],.int (-1),.str mv],.tup [.str [103,97,112],.int (0-(mZ:Int)),.str mv],.tup [.str [112,97,105,114],.str [48],.str [49]]]:List D).length=16:=by
  rw[nM,LF];rfl
 rw[aB (env':=[some (.f,CH),some (.f,.int x),some (.f,.int (mZ:Int)),some (.f,.int s),some (.l .f,.lst (A++[.tup [.str [103,97,112],.int (-1),.str mv],.tup [.str [103,97,112],.int (0-(mZ:Int)),.str mv],.tup [.str [112,97,105,114],.str [48],.str [49]]])),some (.f,.str mv),none]) (by simp only[pv,seval,op,a2])];generalize (A++[.tup [.str [103,97,112],.int (-1),.str mv],.tup [.str [103,97,112],.int (0-(mZ:Int)),.str mv],.tup [.str [112,97,105,114],.str [48],.str [49]]]:List D)=B at I0 HF ⊢;by_cases h0:ap=[]
 ·have EK:Fz (.lst []) (.lst [])=.ok (.f,.bl false):=rfl;rw[h0,NJ]at HV;obtain⟨d,hd,ed⟩:=qW B (fun z=>by rw[z]at HF;cases HF) x;refine⟨d,I0 d hd,?_⟩;rw[aB (env':=[some (.f,CH),some (.f,.int x),some (.f,.int (mZ:Int)),some (.f,.int s),some (.l .f,.lst B),some (.f,.str mv),none]) (by simp only[pv,seval,op,HV,EK,ka])];simp only[pv,seval,op,iT x (B.length:Int) (by lia),ed]
 ·rw[MZ h0]at EK;obtain⟨da,Iw,ea⟩:=qW (ap.map eA) (by simpa using h0) (x / 16);obtain⟨a,ha,rfl⟩:=wx Iw;rw[gq]at ea;have hp:=NO.mpr h0;have f5:=iT (x / 16) (ap.length:Int) (by lia);have hz:B.length<sizeLine:=lD (by lia);have oB:∀d∈B++[.tup [.str [103,97,112],.int a.1,.str a.2.1]],DS CH d:=fun d hd=>(wX hd).elim (I0 d) fun h=>by
   rw[Ap h];exact o4 a ha
  have lB:(B++[D.tup [.str [103,97,112],.int a.1,.str a.2.1]]).length=17:=by
   rw[nM,HF];rfl
  rw[aB (env':=[some (.f,CH),some (.f,.int x),some (.f,.int (mZ:Int)),some (.f,.int s),some (.l .f,.lst (B++[.tup [.str [103,97,112],.int a.1,.str a.2.1]])),some (.f,.str mv),some (.f,eA a)]) (by
   have i0:Cj (eA a) (.int 0)=.ok (.f,.int a.1):=rfl;have i1:Cj (eA a) (.int 1)=.ok (.f,.str a.2.1):=rfl;have hf:=wA a;have hlen:jP [.lst (ap.map eA)]=.ok (.f,.int (ap.length:Int)):=by rw[um,gq]
   generalize eA a=AA at ea i0 i1 hf ⊢;generalize D.lst (ap.map eA)=LL at HV EK ea hlen;simp only[pv,seval,op,HV,EK,N9,f1,hlen,f5,ea,i0,i1,hz,hf])]
  generalize B++[D.tup [.str [103,97,112],.int a.1,.str a.2.1]]=B2 at oB lB ⊢;obtain⟨d,hd,ed⟩:=qW B2 (fun z=>by rw[z]at lB;cases lB) x;refine⟨d,oB d hd,?_⟩;simp only[pv,seval,op,iT x (B2.length:Int) (by lia),ed]
end
theorem plain_ch(nY:LNN)(ap:List Cr):plainD 40 (eCh nY ap)=true:=by
 unfold eCh;rw[plainD,plainDs,plainD,gm,plainDs,plainD];rw[show plainDs 38 (ap.map eA)=true from by
  induction ap with
  |nil=>rfl
  |cons a l ih=>
   rw[oK,plainDs,ih];rfl]
 rfl
def tE(d:D):Prop:=i8 "tuple" d=true/\dO d=true/\plainD 39 d=true/\∃x y,Cj d (.int 1)=.ok (.f,x)/\Cj d (.int 2)=.ok (.f,y)/\i8 "bool" x=false/\i8 "bool" y=false
theorem oN(nY:LNN)(ap:List Cr)(n:Nat):∀d∈a4 n++cO nY ap n,tE d:=by
 intro d hd;rcases wX hd with h|h
 ·obtain⟨i,_,h⟩:=P8.mp h;obtain⟨k,_,rfl⟩:=wx h;exact⟨rfl,rfl,rfl,_,_,rfl,rfl,rfl,rfl⟩
 ·obtain⟨i,_,h⟩:=P8.mp h;obtain⟨k,_,rfl⟩:=wx h;exact⟨rfl,rfl,rfl,_,_,rfl,rfl,rfl,rfl⟩
theorem jl:∀l:List D,(∀d∈l,tE d)->plainDs 39 l=true
 |[],_=>rfl
 |a::l,h=>by
  rw[plainDs,jl l fun d hd=>h d (MJ _ hd),(h a My).2.2.1];rfl
def mD(cs:List D):Nat->Option R
 | 0=>none
 |j+1=>(cs[j]?).map fun d=>(.f,d)
theorem qY(cs:List D)(hg:∀d∈cs,tE d)(A0 A1 A2:Option R)(o:O):
  lh [A0,A1,A2,some (.l .f,.lst cs),some (o,.lst cs),none,none,none]=.ok (.nx [A0,A1,A2,some (.l .f,.lst cs),some (fz o,.lst cs),mD cs cs.length,none,none]):=by
 obtain⟨env',hf,rfl⟩:=for_list (a:=aK 5) (g:=jW) (e:=fun d:D=>d) cs (fun j env=>env=[A0,A1,A2,some (.l .f,.lst cs),some (fz o,.lst cs),mD cs j,none,none]) (by
  rintro j d env hj rfl;obtain⟨h1,_,_,x,y,h2,h3,h4,h5⟩:=hg d (NI hj);refine⟨[A0,A1,A2,some (.l .f,.lst cs),some (fz o,.lst cs),some (.f,d),none,none],by simp only[pv,seval],[A0,A1,A2,some (.l .f,.lst cs),some (fz o,.lst cs),some (.f,d),none,none],?_,by rw[mD,hj];rfl⟩;unfold jW;simp only[pv,seval,op,h1,h2,h3,h4,h5,NP,ka]) [A0,A1,A2,some (.l .f,.lst cs),some (fz o,.lst cs),none,none,none] rfl
 rw[List.map_id']at hf;rw[<-hf];rfl
theorem qZ(cs:List D)(hg:∀d∈cs,tE d)(HW:flatDs cs=true)(S C H:D)(hS:vM S=true)(hC:vM C=true)(hH:vM H=true):
  me [some (.f,S),some (.f,C),some (.f,H),some (.l .f,.lst cs),some (.l .f,.lst cs),none,none,none]=.ok (.nx [some (.f,S),some (.f,C),some (.f,H),some (.l .f,.lst cs),some (.l .f,.lst cs),mD cs cs.length,none,none]):=by
 unfold me lendR;rw[qY cs hg _ _ _ (.l .f)];dsimp only;refine vN ⟨⟨_,rfl,rfl⟩,fun j hj=>?_,fun k r hk=>?_,fun ps=>?_⟩
 ·simp only[MN,O1,SF]at hj;rcases hj with rfl|rfl|rfl
  ·exact⟨by decide,.f,_,hS,.inl rfl,rfl,rfl⟩
  ·exact⟨by decide,.f,_,hC,.inl rfl,rfl,rfl⟩
  ·exact⟨by decide,.f,_,hH,.inl rfl,rfl,rfl⟩
 ·match k,hk with
  | 0,hk=>exact .inr (.inl (by simp))
  | 1,hk=>exact .inr (.inl (by simp))
  | 2,hk=>exact .inr (.inl (by simp))
  | 3,hk=>cases hk;exact .inr (.inr (by show bP (.l .f) (.lst cs)=true;rw[nK];exact HW))
  | 4,hk=>exact .inl rfl
  | 5,hk=>
   have hk:mD cs cs.length=some r:=by simpa using hk
   refine .inr (.inr ?_);cases hl:cs.length with
   |zero=>
    rw[hl]at hk;cases hk
   |succ j=>
    rw[hl,mD,yY (by lia)]at hk;cases hk;exact(hg _ (NS (by lia))).2.1
  | 6,hk=>simp at hk
  | 7,hk=>simp at hk
  |k+8,hk=>simp at hk
 ·exact qY cs hg (some (.pin (ps 0) .f,S)) (some (.pin (ps 1) .f,C)) (some (.pin (ps 2) .f,H)) (.pin (ps 4) .f)
theorem q0:∀ns:List Int,ns.length<=63->∃o,vY [.lst (ns.map D.int)]=.ok (o,.bl true):=by
 intro ns _;obtain⟨nY,ap,Wd,Gy,ew⟩:=y4 ns;have CJ:=Wd.al;have FW:=Wd.nl;have CO:=Wd.st;obtain⟨mZ,em⟩:=Nc (show 0<=aH ap by lia);have HE:=wJ (nY:=nY) (ap:=ap) (by lia) FW mZ (by lia) em;have LG:=mz nY ap CJ FW mZ em (by lia) (by lia);have JD:=fun x=>qX (nY:=nY) (ap:=ap) CJ FW (fun a ha=>(Wd.bd a ha).1.1) Gy em (by lia) (by lia) x
 have Mr:=fun(d:D) (h:DS (eCh nY ap) d) (w:Int) (hw:w=0\/w=1\/w=2)=>qV FW h hw
 have hg:=oN nY ap mZ;have HW:flatDs (a4 mZ++cO nY ap mZ)=true:=by
  rw[bN,M3];exact fun d hd=>(hg d hd).2.1
 have Dl:plainD 40 (.lst (a4 mZ++cO nY ap mZ))=true:=by
  rw[plainD];exact jl _ hg
 have EK:=lC _ Dl;have heq:=lA _ Dl;have Ms:=lC _ (plain_ch nY ap);have LH:=lA _ (plain_ch nY ap);generalize a4 mZ++cO nY ap mZ=cs at HE LG hg HW Dl EK heq;have FZ:Cj (eCh nY ap) (.int 0)=.ok (.f,.tup (nY.map D.str)):=rfl;have HV:Cj (eCh nY ap) (.int 1)=.ok (.f,.lst (ap.map eA)):=rfl;have Mt:D.tup [.tup (nY.map D.str),.lst (ap.map eA)]=eCh nY ap:=rfl;have hR:vM (eCh nY ap)=true:=rfl;have c3:ay [.lst (ns.map D.int),.int 3]=.ok (.f,.int (cell ns 3)):=lG ns 3;obtain⟨xs,LA,ex⟩:=j6 (cell ns 3) 30 (by lia);have ex:aM [.int (cell ns 3),.int 30]=.ok (.l .f,.lst (xs.map D.int)):=ex;have KQ:DN (xs.map D.int) 29=some (.int (xs.getD 29 0)):=jh (k:=29) (by lia);generalize xs.getD 29 0=x at KQ;have isL:i8 "list" (.lst cs)=true:=rfl;have Mu:=qZ cs hg HW (.lst (ns.map D.int)) (eCh nY ap) (eCh nY ap) rfl hR hR;unfold vY yF;rw[a8 (h:=by rfl),show(List.map (fun d=>some (O.f,d)) [.lst (ns.map D.int)]++List.replicate 7 none:PV.Env)=[some (.f,.lst (ns.map D.int)),none,none,none,none,none,none,none] from rfl];rw[aB (env':=[some (.f,.lst (ns.map D.int)),some (.f,eCh nY ap),none,none,none,none,none,none]) (by
  simp only[pv,seval,op,ew];cases dO (eCh nY ap) <;> rfl)]
 rw[aB (env':=[some (.f,.lst (ns.map D.int)),some (.f,eCh nY ap),some (.f,eCh nY ap),none,none,none,none,none]) (by
  generalize eCh nY ap=CH at FZ HV Mt ⊢;simp only[pv,seval,op,FZ,HV,Mt])]
 generalize eCh nY ap=CH at HE LG JD Mr Ms LH Mu;rw[aB (env':=[some (.f,.lst (ns.map D.int)),some (.f,CH),some (.f,CH),some (.l .f,.lst cs),none,none,none,none]) (by simp only[pv,seval,op,LG,HW])];rw[aB (env':=[some (.f,.lst (ns.map D.int)),some (.f,CH),some (.f,CH),some (.l .f,.lst cs),some (.l .f,.lst cs),none,none,none]) (by simp only[pv,seval,op,HE,HW])];rw[aB (env':=[some (.f,.lst (ns.map D.int)),some (.f,CH),some (.f,CH),some (.l .f,.lst cs),some (.l .f,.lst cs),none,none,none]) (by simp only[pv,seval,op,isL,EK,Ms,NP,ka])];rw[aB Mu];generalize mD cs cs.length=t5;unfold nI;rw[aB (env':=[some (.f,.lst (ns.map D.int)),some (.f,CH),some (.f,CH),some (.l .f,.lst cs),some (.l .f,.lst []),t5,none,none]) (by simp only[pv,seval,op,sU,yW])];rw[aB (env':=[some (.f,.lst (ns.map D.int)),some (.f,CH),some (.f,CH),some (.l .f,.lst cs),some (.l .f,.lst []),t5,some (.f,.int x),none]) (by simp only[pv,seval,op,c3,ex,KQ])];obtain⟨env',ef,oD,oT,t5',t7,hD,rfl⟩:=dI (a:=aK 7) (g:=jV) (e:=fun k=>D.int (k:Int)) 3 (fun j env=>∃oD oT t5 t7,(oD=.l .f\/oD=.f)/\env=[some (.f,.lst (ns.map D.int)),some (.f,CH),some (.f,CH),some (oD,.lst cs),some (oT,.lst []),t5,some (.f,.int x),t7]) (by
  rintro k env hk ⟨oD,oT,t5,t7,hD,rfl⟩;refine⟨[some (.f,.lst (ns.map D.int)),some (.f,CH),some (.f,CH),some (oD,.lst cs),some (oT,.lst []),t5,some (.f,.int x),some (.f,.int (k:Int))],by simp only[pv,seval],?_⟩;obtain⟨d,hd,ed⟩:=JD (x+1009*(k:Int));have hm:=gr (x+(k:Int)) 3 (by decide);have hr:=Mr d hd ((x+(k:Int))%3) (by lia);have Mv:=wY 1009 (k:Int) (by decide);have Mw:=iT (x+(k:Int)) 3 (by decide);unfold jV;cases hf:dO d with
  |true=>exact⟨[some (.f,.lst (ns.map D.int)),some (.f,CH),some (.f,CH),some (oD,.lst cs),some (oT,.lst []),t5,some (.f,.int x),some (.f,.int (k:Int))],by simp only[pv,seval,op,Mv,ed,Mw,hf,hr,NP,ka],oD,oT,t5,_,hD,rfl⟩
  |false=>exact⟨[some (.f,.lst (ns.map D.int)),some (.f,CH),some (.f,CH),some (.f,.lst cs),some (.f,.lst []),frz t5,some (.f,.int x),some (.f,.int (k:Int))],by simp only[pv,seval,op,Mv,ed,Mw,hf,hr,NP,ka,BC],.f,.f,frz t5,_,.inr rfl,rfl⟩) [some (.f,.lst (ns.map D.int)),some (.f,CH),some (.f,CH),some (.l .f,.lst cs),some (.l .f,.lst []),t5,some (.f,.int x),none] ⟨.l .f,.l .f,t5,none,.inl rfl,rfl⟩
 have hr:b6 (av (aA (.int 3))) [some (.f,.lst (ns.map D.int)),some (.f,CH),some (.f,CH),some (.l .f,.lst cs),some (.l .f,.lst []),t5,some (.f,.int x),none]=.ok ((List.range 3).map fun(k:Nat)=>D.int (k:Int),[some (.f,.lst (ns.map D.int)),some (.f,CH),some (.f,CH),some (.l .f,.lst cs),some (.l .f,.lst []),t5,some (.f,.int x),none]):=AJ 3 (by decide) (by decide) (av (aA (.int 3))) _ _ (.val (.int 3)) rfl rfl;rw[aB (env':=[some (.f,.lst (ns.map D.int)),some (.f,CH),some (.f,CH),some (oD,.lst cs),some (oT,.lst []),t5',some (.f,.int x),t7]) (by
  unfold qG;rw[Dx,hr,DV];exact ef)]
 unfold nH;refine⟨.f,?_⟩;rcases hD with rfl|rfl
 ·simp only[pv,seval,op,HE,HW,heq,LH]
 ·simp only[pv,seval,op,HE,HW,heq,LH]
end LW
namespace FIN
open PySem PySem.Spec PyProof.Rows L2 NX PV LW
theorem zc{l:PySem.W.OpenLaw}{w:World}{K:W.Frag}{h:Heap}{mg:Str->Option Value}{fa f:Addr}{od an:Option Addr}{sl:Array (Option Value)}{oc kV dc pm cd ct:Value}(X:K.In h)(G:h.Ns mainGlobals mg)(hfa:mg "law" = some (.ref fa))
  (aL:PySem.W.nsIn K mainGlobals "law" = some (some (.ref f))) (lL:K.lookup f=some ⟨oc,od,.func (PySem.W.fnOf "law" "law" (dv j0) (bZ j0) (defScope j0) .none kV dc pm an cd ct),sl⟩) (cL:PySem.W.codeIn K cd "law" = true) (kL:PySem.W.keepIn K (.ref f)=true)
  (DW:Def K mg "states_of" fu) (Eo:Def K mg "goes_to" iA) (Eb:Def K mg "has_move" gi) (Ec:Def K mg "pairs_of" gj) (Ep:Def K mg "gaps_of" iB) (Ed:Def K mg "cases_of" gk) (Dp:Def K mg "is_state_of" dG) (Er:Def K mg "is_case" iC) (C1:Def K mg "check_case" cW) (Ee:Def K mg "solves" gZ) (Ef:Def K mg "parted" g0) (Dy:Def K mg "is_paper" eL) (De:Def K mg "_law_cell_at" c8) (Dq:Def K mg "_law_stream" dH) (DK:Def K mg "_law_names" d8) (CS:Def K mg "_law_wide_chart" cj) (DL:Def K mg "_law_cases" d9) (Dg:Def K mg "_law_no_case" c9) (Dh:Def K mg "_law_refused" de)
  (CK:PySem.W.nsIn K mainGlobals "ValueError" = some none) (Dw:PySem.W.nsIn K mainGlobals "bool" = some none) (Fp:PySem.W.nsIn K mainGlobals "int" = some none) (BS:PySem.W.nsIn K mainGlobals "isinstance" = some none) (CA:PySem.W.nsIn K mainGlobals "len" = some none) (Ea:PySem.W.nsIn K mainGlobals "list" = some none) (C8:PySem.W.nsIn K mainGlobals "max" = some none) (B5:PySem.W.nsIn K mainGlobals "range" = some none) (CY:PySem.W.nsIn K mainGlobals "sorted" = some none) (CQ:PySem.W.nsIn K mainGlobals "tuple" = some none) {Ck:Addr}(CC:PySem.W.nsIn K mainGlobals "NetError" = some (some (.ref Ck))) {BQ:Addr}(CW:PySem.W.nsIn K mainGlobals "NoCase" = some (some (.ref BQ))) {CN:Addr}(DT:PySem.W.nsIn K mainGlobals "NoChart" = some (some (.ref CN))) {C9:Addr}(Ez:PySem.W.nsIn K mainGlobals "NoNet" = some (some (.ref C9))) {Dc:Addr}(EA:PySem.W.nsIn K mainGlobals "NoRun" = some (some (.ref Dc))) {Cz:Addr}(Di:PySem.W.nsIn K mainGlobals "NoStretch" = some (some (.ref Cz))) {CZ:Addr}(Eg:PySem.W.nsIn K mainGlobals "NoText" = some (some (.ref CZ))) {Cu:Addr}(C2:PySem.W.nsIn K mainGlobals "OtherMoves" = some (some (.ref Cu))) {CG:Addr}(Dz:PySem.W.nsIn K mainGlobals "TooGreat" = some (some (.ref CG))) (DA:PySem.W.excIn K Ck [.type "ValueError",.type "Exception",.type "BaseException",.type "object"] "ValueError.__new__" = true) (Eh:PySem.W.excIn K BQ [.type "ValueError",.type "Exception",.type "BaseException",.type "object"] "ValueError.__new__" = true) (B7:PySem.W.mroIn K BQ (.ref Ck)=some true) (B3:PySem.W.kitOne K (.ref BQ) (.type "ValueError")=some true) (Ce:PySem.W.kitOne K (.ref BQ) (.ref BQ)=some true) (Cb:PySem.W.kitOne K (.ref BQ) (.ref CN)=some false) (Cm:PySem.W.kitOne K (.ref BQ) (.ref C9)=some false) (Cn:PySem.W.kitOne K (.ref BQ) (.ref Dc)=some false) (B6:PySem.W.kitOne K (.ref BQ) (.ref Cz)=some false) (Cf:PySem.W.kitOne K (.ref BQ) (.ref CZ)=some false) (B4:PySem.W.kitOne K (.ref BQ) (.ref Cu)=some false) (B8:PySem.W.kitOne K (.ref BQ) (.ref CG)=some false) (Cc:Asks K BQ):
  ∃fd:FuncData,(∀(s:Shared) (v:Value),BindsTo s fd ⟨[v],[]⟩ [("_law_script",v)])/\∀base:Heap,K.In base->base.Ns mainGlobals mg->FnOk l.prog w K mg base F2 7 fa fd ["_law_script"] (sI K):=by
 have e:=hfa.symm.trans (NF X G aL);cases e;have F:=tJ (st:=j0) lL cL kL;have EB:=Nj X G CK;have y_bool:=Nj X G Dw;have Kq:=Nj X G Fp;have CL:=Nj X G BS;have Es:=Nj X G CA;have Ja:=Nj X G Ea;have GA:=Nj X G C8;have C3:=Nj X G B5;have ET:=Nj X G CY;have EC:=Nj X G CQ;have Jb:=NF X G CC;have GC:=NF X G CW;have FL:=NF X G DT;have HG:=NF X G Ez;have HI:=NF X G EA;have EU:=NF X G Di;have GD:=NF X G Eg;have ED:=NF X G C2;have Fe:=NF X G Dz;refine⟨PySem.W.fnOf "law" "law" (dv j0) (bZ j0) (defScope j0) .none kV dc pm an cd ct,fun s v=>.of_eq rfl,fun base KB GB=>?_⟩;have Ff:XCl mg base "NetError" Ck:=⟨_,_,_,_,Pj,tP KB GB CC DA⟩
 have GF:XCl mg base "NoCase" BQ:=⟨_,_,_,_,Pj,tP KB GB CW Eh⟩
 have Dj:Ct l.prog w K mg base "states_of" 1 (spF K aZ):=ll DW GA;have FN:Ct l.prog w K mg base "goes_to" 1 (spF K dq):=oC Eo;have Ei:Ct l.prog w K mg base "has_move" 2 (spF K bV):=mh Eb FN Es;have Fg:Ct l.prog w K mg base "pairs_of" 2 (spF K cD):=ml Ec Dj C3;have FQ:Ct l.prog w K mg base "gaps_of" 3 (spF K dt):=oE Ep Ei Dj C3;have Fh:Ct l.prog w K mg base "cases_of" 4 (spF K cf):=mn Ed FQ Fg;have El:Ct l.prog w K mg base "is_state_of" 2 (spF K aE):=iQ Dp Dj y_bool Kq CL;have Et:Ct l.prog w K mg base "is_case" 3 (spF K bc):=oG Er Ei El CL Es EC;have HJ:Ct l.prog w K mg base "check_case" 4 (spF K gH):=jX C1 Et;have CT:=iR (P:=l.prog) (w:=w) (K:=K) (mg:=mg) (base:=base) C1 Et GF;have c_solves:Ct l.prog w K mg base "solves" 5 (spF K nF):=qI Ee;have FR:=oH (P:=l.prog) (w:=w) (K:=K) (mg:=mg) (base:=base) Ee CT;have c_parted:Ct l.prog w K mg base "parted" 5 (spF K nG):=qJ Ef;have FU:=oI (P:=l.prog) (w:=w) (K:=K) (mg:=mg) (base:=base) Ef CT;have Jc:Ct l.prog w K mg base "is_paper" 5 (spF K jg):=mq Dy;have EV:=lu (P:=l.prog) (w:=w) (K:=K) (mg:=mg) (base:=base) Dy CT;have Dk:Ct l.prog w K mg base "_law_cell_at" 1 (spF K ay):=iF De Es;have Dr:Ct l.prog w K mg base "_law_stream" 1 (spF K aM):=iS Dq C3;have EE:Ct l.prog w K mg base "_law_names" 1 (spF K bW):=jY DK C3 ET;have DM:Ct l.prog w K mg base "_law_wide_chart" 2 (spF K aX):=fT CS Dk EE Dr Es C3 ET EC;have EF:Ct l.prog w K mg base "_law_cases" 1 (spF K bX):=jZ DL GA C3;have Ej:Ct l.prog w K mg base "_law_no_case" 1 (spF K bH):=iG Dg Es GA;have Ek:Ct l.prog w K mg base "_law_refused" 6 (spF K bI):=iH Dh EV FU FR GC FL HG HI EU GD ED Fe B7 B3 Ce Cb Cm Cn B6 Cf B4 B8 Cc Ff EB CL Es;exact(yH F EF Dk Ej Ek Dr DM Fh y_bool CL Ja C3 EC).imp (yv q0)
end FIN
def PySem.W.Fast.tw13114066165677573984:=0
def PySem.W.Fast.tw4050186889090056027:=0
def PySem.W.Fast.tw17838878092082578806:=0
def PySem.W.Fast.tw16198929992950303533:=0
def PySem.W.Fast.tw7207117529118358259:=0
def PySem.W.Fast.tw13784481074665384025:=0
def PySem.W.Fast.tw1719092162304567712:=0
def PySem.W.Fast.tw15391425341096474462:=0
def PySem.W.Fast.tw11787799911092329568:=0
def PySem.W.Fast.tw13621616164985144144:=0
def PySem.W.Fast.tw8481206074632943820:=0
def PySem.W.Fast.tw2199961205509519644:=0
def PySem.W.Fast.tw4953701481326403568:=0
def PySem.W.Fast.tw14943556627715996023:=0
def PySem.W.Fast.tw6286726707429031887:=0
def PySem.W.Fast.tw2891468016214422449:=0
def PySem.W.Fast.tw17416042584849657469:=0
def PySem.W.Fast.tw2353352860185247896:=0
def PySem.W.Fast.tw3766672924687644795:=0
def PySem.W.Fast.tw13842207691895597971:=0
def PySem.W.Fast.tw7385899136482529701:=0
def PySem.W.Fast.tw14789806058600659661:=0
def PySem.W.Fast.tw6566704684557543462:=0
def PySem.W.Fast.tw12629339072298771986:=0
def PySem.W.Fast.tw17653557378226223115:=0
def PySem.W.Fast.tw8362083371621398391:=0
def PySem.W.Fast.tw8742236333397006991:=0
def PySem.W.Fast.tw13557194273896117046:=0
def PySem.W.Fast.tw10505397615251674127:=0
def PySem.W.Fast.tw2480972999519378670:=0
def PySem.W.Fast.tw7469296303204913131:=0
def PySem.W.Fast.tw6856917959968987252:=0
def PySem.W.Fast.tw6322518250569516451:=0
def PySem.W.Fast.tw10485487384595888543:=0
def PySem.W.Fast.tw16390057758301628697:=0
def PySem.W.Fast.tw10749816492398351845:=0
def PySem.W.Fast.tw5157248562059844259:=0
def PySem.W.Fast.tw4785300482003586282:=0
def PySem.W.Fast.tw16812500546571592240:=0
def PySem.W.Fast.tw14996939405568059902:=0
def PySem.W.Fast.tw3863795591110791299:=0
def PySem.W.Fast.tw17498227366998156380:=0
def PySem.W.Fast.tw12908814706149201813:=0
def PySem.W.Fast.tw7522443534369624998:=0
def PySem.W.Fast.tw1793298113201256388:=0
def PySem.W.Fast.tw5001975720281255530:=0
def PySem.W.Fast.tw16963886373417608054:=0
def PySem.W.Fast.tw7592030549648899335:=0
def PySem.W.Fast.tw18146063740663949695:=0
def PySem.W.Fast.tw15325747159375535370:=0
def PySem.W.Fast.tw5358459591123695781:=0
def PySem.W.Fast.tw14839796585831988468:=0
def PySem.W.Fast.tw5159215607882160504:=0
open PySem PySem.W PyProof.Rows
set_option maxRecDepth 100000 in
set_option maxHeartbeats 0 in
theorem PySem.Challenge.cw_netfinder_k60_cases_listed_holds : PySem.Challenge.rw_netfinder_k60_cases_listed.Holds := by
  w_on; o_law; k_head; (case hw => w_witness2)
  k_fill
  refine PV.Bq (l := PySem.Challenge.rw_netfinder_k60_cases_listed) (k := 7) (x := "_law_script") rfl rfl ⟨rfl, by decide, by decide⟩ (fun w h Y => PySem.W.kIn_of Y) ?F
  case F =>
    intro w mg fa h KX G JH
    refine' FIN.zc KX G JH ?aL ?lL ?cL ?kL ?DW ?Eo ?Eb ?Ec ?Ep ?Ed ?Dp ?Er ?C1 ?Ee ?Ef ?Dy ?De ?Dq ?DK ?CS ?DL ?Dg ?Dh ?CK ?Dw ?Fp ?BS ?CA ?Ea ?C8 ?B5 ?CY ?CQ ?CC ?CW ?DT ?Ez ?EA ?Di ?Eg ?C2 ?Dz ?DA ?Eh ?B7 ?B3 ?Ce ?Cb ?Cm ?Cn ?B6 ?Cf ?B4 ?B8 ?Cc
    (case aL => k_is); (case lL => k_is); (case cL => k_is); (case kL => k_is)
    iterate 19 (refine' PV.yw KX G ?a ?l ?c ?k; (case a => k_is); (case l => k_is); (case c => k_is); (case k => k_is))
    iterate 10 k_is
    (case CC => k_is)
    (case CW => k_is)
    (case DT => k_is)
    (case Ez => k_is)
    (case EA => k_is)
    (case Di => k_is)
    (case Eg => k_is)
    (case C2 => k_is)
    (case Dz => k_is)
    (case DA => k_exc)
    (case Eh => k_exc)
    (case B7 => k_is)
    (case B3 => kit_is)
    (case Ce => kit_is)
    (case Cb => kit_is)
    (case Cm => kit_is)
    (case Cn => kit_is)
    (case B6 => kit_is)
    (case Cf => kit_is)
    (case B4 => kit_is)
    (case B8 => kit_is)
    (case Cc => (refine' NX.Asks.mk ?a ?b ?c ?d ?e ?f ?g ?h; (case a => k_is); (case b => k_is); (case c => k_is); (case d => k_is); (case e => k_is); (case f => k_is); (case g => k_is); (case h => k_is)))
