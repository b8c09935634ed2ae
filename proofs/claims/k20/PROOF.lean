import PyProof.Rows.All
import Wide.All
import OpenK.AllK
import Wide.FinOn
import Lean
import PyProof.EqAt
import PyProof.EqKinds
import PyProof.TupleCall
import PySem.Challenge.RW_netfinder_k20_one_place_one_move
set_option Elab.async false
set_option linter.all false
set_option maxRecDepth 100000
set_option compiler.extract_closed false
set_option bootstrap.genMatcherCode false
noncomputable section
theorem Zz{a b:Prop}(x:a)(y:b):a∧b:=⟨x,y⟩
def M3:=@PySem.wpAny_bind
def M4:=@PySem.wpAny_pure
def M5:=@List.length_map
def M6:=@List.size_toArray
def M7:=@List.mem_cons_self
def M8:=@Nat.le_refl
def M9:=@PySem.Heap.lt_size
def Na:=@List.mem_append_right
def Nb:=@Bool.false_ne_true
def Nc:=@if_pos
def Nd:=@Nat.lt_of_lt_of_le
def Nf:=@Bool.and_eq_true
def Ng:=@if_neg
def Nh:=@decide_eq_false
def Ni:=@List.mem_cons
def Nj:=@List.mem_cons_of_mem
def Nk:=@List.map_cons
def Nl:=@Nat.ne_of_lt
def Nm:=@decide_eq_true
def Nn:=@decide_eq_true_eq
def Np:=@List.mem_append_left
def Nq:=@List.length_cons
def Nr:=@Option.map_eq_some_iff
def Nt:=@List.length_range
def Nu:=@List.map_append
def Nv:=@List.map_map
def Nw:=@Option.some.inj
def Nx:=@Bool.eq_iff_iff
def Ny:=@List.mem_append
def Nz:=@List.append_nil
def NA:=@List.all_eq_true
def NB:=@PySem.W.mg_none_of
def NC:=@List.length_append
def ND:=@decide_eq_false_iff_not
def NF:=@Nat.le_trans
def NG:=@Nat.zero_le
def NH:=@List.mem_range
def NI:=@List.length_take
def NJ:=@PySem.wpAny_call_entry
def NK:=@List.lookup_cons
def NL:=@PySem.wpAny_mono
def NM:=@PySem.wpAny_newObj_type
def NN:=@beq_iff_eq
def NO:=@List.nodup_append
def NP:=@Bool.not_true
def NQ:=@List.mem_of_getElem?
def NR:=@List.eq_nil_of_length_eq_zero
def NT:=@PySem.W.mg_of
def NU:=@beq_eq_false_iff_ne
def NV:=@PySem.sizeLine_eq
def NW:=@Option.isSome_iff_exists
def NY:=@congrArg
def NZ:=@PySem.wpAny_field
def N0:=@List.mem_singleton
def N1:=@List.zip_cons_cons
def N2:=@Option.bind_eq_some_iff
def N3:=@PySem.W.kia_one
def N4:=@PySem.PassesOwn.never
def N5:=@beq_self_eq_true
def N6:=@PySem.wpAny_truthy_bool
def N7:=@Array.length_toList
def N8:=@PyProof.Rows.slot_tuple_getitem
def N9:=@List.replicate_succ
def Oa:=@List.append_assoc
def Ob:=@List.foldl_cons
def Oc:=@Nat.lt_succ_self
def Od:=@PySem.wpAny_typeNameOfWhole_keyiter
def Oe:=@PySem.F.slot_dict_keyiterator_next
def Of:=@List.mem_map
def Og:=@List.flatten_cons
def Oh:=@List.nodup_cons
def Oi:=@PySem.mem_of_lookup
def Oj:=@List.map_congr_left
def Ol:=@PyProof.Rows.KeyOrd.kle_refl
def Om:=@List.take_of_length_le
def Oo:=@Ne.symm
def Oq:=@PySem.F.slot_tuple_iterator_next
def Ot:=@PySem.wpAny_pyIter_tuple
def Ou:=@PySem.wpAny_holding
def Ov:=@List.length_singleton
def Ow:=@Bool.false_eq_true
def Ox:=@PySem.wpAny_setField_rec
def Oy:=@List.cons.inj
def Oz:=@PySem.wpAny_seqItems
def OA:=@PySem.wpAny_passesOwn
def OB:=@PySem.wpAny_pyIter_list
def OC:=@Int.toNat_natCast
def OD:=@List.length_set
def OE:=@of_decide_eq_true
def OF:=@List.all_map
def OG:=@Nat.lt_irrefl
def OH:=@List.filterMap_cons
def OI:=@Int.eq_ofNat_of_zero_le
def OJ:=@PySem.wpAny_execs_cons
def OK:=@PySem.Heap.size_push
def OL:=@PySem.wpAny_Call_Name_kw
def OM:=@List.pairwise_cons
def ON:=@PyProof.Rows.callWith_type1
def OO:=@List.of_mem_zip
def OP:=@List.map_nil
def OQ:=@List.range_succ
def OR:=@Nat.le_succ
def OS:=@List.mem_iff_getElem?
def OT:=@List.idxOf_lt_length_of_mem
def OU:=@List.nodup_iff_pairwise_ne
def OV:=@PySem.Calls.call_function_entry
def OW:=@List.nodup_nil
def OX:=@List.getElem_mem
def OY:=@List.not_mem_nil
def OZ:=@PySem.Heap.SameBut.update
def O0:=@PySem.F.args_tuple_add_2
def O1:=@PySem.wpAny_typeOf
def O2:=@PySem.F.slot_tuple_index
def O3:=@PySem.wpAny_execs_nil
def O4:=@PySem.F.entry_tuple_add
def O5:=@PySem.Obj.data_mapFields
def O6:=@PySem.tupleKind_room_in1
def O7:=@List.length_zip
def O8:=@PySem.F.slot_tuple_add
def O9:=@PyProof.Rows.KeyOrd.kle_of_klt
def Pa:=@List.ext_getElem?
def Pb:=@PySem.wpAny_dictEntries
def Pc:=@List.pairwise_map
def Pd:=@List.findIdx_cons
def Pe:=@PySem.F.args_dict_keyiterator_next_1
def Pf:=@List.length_drop
def Pg:=@PyProof.Rows.KeyOrd.kle_trans
def Ph:=@PySem.F.entry_dict_keyiterator_next
def Pj:=@List.any_eq_true
def Pk:=@List.range'_succ
def Pm:=@PySem.Calls.evalArgs_plain
def Pn:=@PySem.wpAny_updateSeq_pair
def Po:=@PySem.W.looks_findIn
def Pp:=@PySem.Paired.length
def Pq:=@PySem.F.args_tuple_iterator_next_1
def Pr:=@PySem.wpAny_attempt
def Pt:=@List.all_cons
def Pu:=@Bool.and_true
def Pw:=@Bool.and_self
def Px:=@PySem.W.hideAll_get
def Py:=@if_true
def Pz:=@List.toList_toArray
def PB:=@List.forIn_cons
def PD:=@PySem.F.entry_tuple_iterator_next
def PF:=@PySem.F.slot_zip_next
def PH:=@Array.getD_eq_getD_getElem?
def PJ:=@PySem.Calls.Name_function_global
def PK:=@List.mem_filterMap
def PL:=@if_false
def PM:=@List.getElem_range
def PN:=@Nat.zero_add
def PQ:=@Option.isSome_none
def PR:=@Nat.eq_zero_or_pos
def PU:=@PySem.wpAny_setField
def PY:=@List.drop_eq_getElem_cons
def PZ:=@Bool.and_false
def P0:=@bne_self_eq_false
def P1:=@PySem.wpAny_comprehension_free
def P2:=@Nat.lt_succ_of_lt
def P4:=@Option.isSome_map
def P5:=@PySem.AutoSeq1.sub_tuple_tuple
def P6:=@List.zip_nil_left
def P7:=@List.filterMap_cons_none
def P8:=@List.filterMap_cons_some
def P9:=@PySem.F.type_tuple_index
def Qa:=@gt_iff_lt
def Qb:=@PySem.wpAny_onRaise
def Qc:=@List.not_lt
def Qd:=@decide_true
def Qe:=@PySem.noFill_tuple_add
def Qf:=@Option.getD_none
def Qg:=@PySem.wpAny_forIn_list
def Qh:=@PySem.W.cellsFrom_some
def Qn:=@List.Perm.append_right
def Qo:=@List.drop_eq_nil_of_le
def Qp:=@Nat.le_of_lt
def Qr:=@PySem.codeAny_mono
def Qs:=@PySem.concat_meets
def Qt:=@Bool.or_eq_true
def Qv:=@List.length_nil
def Qw:=@PySem.wpAny_dictEpoch
def Qy:=@List.Perm.append_left
def Qz:=@List.perm_append_comm
def QA:=@List.set_set
def QB:=@List.any_map
def QC:=@decide_false
def QD:=@PySem.typeIs_str
def QF:=@PySem.typeIs_int
def QK:=@List.mem_of_mem_take
def QL:=@List.range_eq_range'
def QM:=@Bool.false_and
def QN:=@List.drop_zero
def QQ:=@List.forIn_nil
def QR:=@Bool.not_false
def QV:=@PySem.wpAny_letGo
def QZ:=@PySem.W.looks_mroIn
def Q0:=@List.take_succ_cons
def Q1:=@List.drop_succ_cons
def Q4:=@PySem.W.of_hideAll
def Q5:=@PySem.W.callWith_K
def Q6:=@PySem.seq_tuple_add
def Q8:=@Nat.lt_of_le_of_lt
def Q9:=@PySem.wpAny_standAt
def Rb:=@PySem.wpAny_newList
def Rc:=@of_decide_eq_false
def Rf:=@List.any_cons
def Rg:=@List.sum_cons
def Rl:=@PySem.wpAny_rule
def Rp:=@Nat.ne_of_gt
def Rt:=@Nat.mul_comm
def RJ:=@or_false
def SD:=@bne_iff_ne
namespace L2
open PySem PySem.Spec PyProof.Rows
def IsTupN(h:Heap)(a:Addr)(items:Array Value):Prop:=∃o,h.get? a=some o/\o.cls=.type "tuple"/\(∃n,o.data=.seq items n)/\o.dict=none
theorem IsTupN.tup{h:Heap}{a:Addr}{items:Array Value}(p:IsTupN h a items):IsTup h a items:=by
 obtain⟨o,e,c,n,_⟩:=p;exact⟨o,e,c,n⟩
theorem IsTupN.new(h:Heap)(items:Array Value):IsTupN (h.push {cls:=.type "tuple",data:=.seq items}) h.objs.size items:=⟨_,Heap.get?_push_size _ rfl,rfl,⟨_,rfl⟩,rfl⟩
abbrev Key:=Sum Int Str
def nG:Key->Value->Bool
 | .inl k,v=>Value.isInt k v
 | .inr x,v=>Value.isStrOf x v
def Ba(w:World):Key->Int
 | .inl k=>hashInt k
 | .inr x=>hashStr w x
theorem bA:∀{k:Key}{v:Value},nG k v=true->(∃i t,k=Sum.inl i/\v=Value.int i t)\/(∃x t,k=Sum.inr x/\v=Value.str x t)
 | .inl i,v,h=>by
  obtain⟨t,e⟩:=Value.isInt_shape (k:=i) (v:=v) h;exact .inl ⟨i,t,rfl,e⟩
 | .inr x,v,h=>by
  obtain⟨t,e⟩:=Value.isStrOf_shape (x:=x) (v:=v) h;exact .inr ⟨x,t,rfl,e⟩
theorem oH(i:Int)(t:Tok):nG (.inl i) (.int i t)=true:=by simp[nG,Value.isInt]
theorem oI(x:Str)(t:Tok):nG (.inr x) (.str x t)=true:=by simp[nG,Value.isStrOf]
theorem wX(a b:Int):decide ((Sum.inl a:Key)=Sum.inl b)=(a==b):=by
 by_cases e:a=b
 ·subst e;simp
 ·have h:¬ (Sum.inl a:Key)=Sum.inl b:=fun q=>e (Sum.inl.inj q)
  rw[Nh h];exact(NU.mpr e).symm
theorem wY(a b:Str):decide ((Sum.inr a:Key)=Sum.inr b)=decide (a=b):=by
 by_cases e:a=b
 ·subst e;simp
 ·have h:¬ (Sum.inr a:Key)=Sum.inr b:=fun q=>e (Sum.inr.inj q)
  rw[Nh h,Nh e]
theorem wZ(a:Int)(b:Str):decide ((Sum.inl a:Key)=Sum.inr b)=false:=Nh (fun q=>nomatch q)
theorem w4(a:Str)(b:Int):decide ((Sum.inr a:Key)=Sum.inl b)=false:=Nh (fun q=>nomatch q)
noncomputable def mixKind(prog:Program)(w:World):PySem.KeyKind prog w Key where
 is:=nG
 hash:=Ba w
 inj:=fun v a b ha hb=>by
  rcases bA ha with⟨i,t,rfl,rfl⟩|⟨x,t,rfl,rfl⟩
  ·rcases bA hb with⟨j,u,rfl,e⟩|⟨y,u,rfl,e⟩
   ·injection e with e1 _;rw[e1]
   ·exact nomatch e
  ·rcases bA hb with⟨j,u,rfl,e⟩|⟨y,u,rfl,e⟩
   ·exact nomatch e
   ·injection e with e1 _;rw[e1]
 byValue:=fun k v h=>by
  rcases bA h with⟨i,t,rfl,rfl⟩|⟨x,t,rfl,rfl⟩ <;> rfl
 pyHash:=fun hv h=>by
  rcases bA hv with⟨i,t,rfl,rfl⟩|⟨x,t,rfl,rfl⟩
  ·exact wpAny_pyHash_int h
  ·exact wpAny_pyHash_str h
 eqBool:=fun hu hv h=>by
  rcases bA hu with⟨i,t,rfl,rfl⟩|⟨x,t,rfl,rfl⟩
  ·rcases bA hv with⟨j,u,rfl,rfl⟩|⟨y,u,rfl,rfl⟩
   ·rw[wX]at h;exact wpAny_eqBool_int h
   ·rw[wZ]at h;exact SeqAt.EqAt.int_str i t y u _ _ _ _ h
  ·rcases bA hv with⟨j,u,rfl,rfl⟩|⟨y,u,rfl,rfl⟩
   ·rw[w4]at h;exact SeqAt.EqAt.str_int x t j u _ _ _ _ h
   ·rw[wY]at h;exact wpAny_eqBool_str h
 «strs»:=fun k x t v h=>by
  rcases bA h with⟨i,u,rfl,e⟩|⟨y,u,rfl,e⟩
  ·exact nomatch e
  ·injection e with e1 _;subst e1;cases v <;> rfl
theorem lz(prog:Program)(w:World)(i:Int)(t:Tok):(mixKind prog w).is (.inl i) (.int i t)=true:=oH i t
theorem lA(prog:Program)(w:World)(x:Str)(t:Tok):(mixKind prog w).is (.inr x) (.str x t)=true:=oI x t
inductive V where
 |non|bl (b:Bool)|int (i:Int)|str (x:Str)|byt (b:Array UInt8)|flt (b:UInt64)|ref (a:Addr)|ty (n:String)
 deriving DecidableEq
noncomputable def RelV:V->Value->Prop
 | .non,u=>u=Value.none
 | .bl b,u=>u=Value.bool b
 | .int i,u=>∃t,u=Value.int i t
 | .str x,u=>∃t,u=Value.str x t
 | .byt b,u=>∃t,u=Value.bytes b t
 | .flt b,u=>∃t,u=Value.float b t
 | .ref a,u=>u=Value.ref a
 | .ty n,u=>u=Value.type n
abbrev Vals:List V->List Value->Prop:=Paired RelV
theorem Vals.length{xs:List V}{us:List Value}(r:Vals xs us):xs.length=us.length:=Pp r
theorem Vals.get:∀{xs:List V}{us:List Value}{i:Nat}{x:V},Vals xs us->xs[i]?=some x->∃u,us[i]?=some u/\RelV x u
 |_,_,_,_,.nil,e=>by simp at e
 |_,_,0,_,.cons r _,e=>by simp at e;subst e;exact⟨_,rfl,r⟩
 |_,_,i+1,x,.cons _ t,e=>by
  obtain⟨u,h1,h2⟩:=Vals.get (i:=i) (x:=x) t (by simpa using e);exact⟨u,by simpa using h1,h2⟩
theorem Vals.set{x:V}{u:Value}(r:RelV x u):∀{xs:List V}{us:List Value}(i:Nat),Vals xs us->Vals (xs.set i x) (us.set i u)
 |_,_,_,.nil=>.nil
 |_,_,0,.cons _ t=>.cons r t
 |_,_,i+1,.cons q t=>.cons q (Vals.set r i t)
theorem Vals.append:∀{xs ys:List V}{us ws:List Value},Vals xs us->Vals ys ws->Vals (xs++ys) (us++ws)
 |_,_,_,_,.nil,s=>s
 |_,_,_,_,.cons r t,s=>.cons r (Vals.append t s)
theorem Vals.take:∀{xs:List V}{us:List Value}(n:Nat),Vals xs us->Vals (xs.take n) (us.take n)
 |_,_,0,_=>.nil
 |_,_,_+1,.nil=>.nil
 |_,_,n+1,.cons r t=>.cons r (Vals.take n t)
theorem Vals.drop:∀{xs:List V}{us:List Value}(n:Nat),Vals xs us->Vals (xs.drop n) (us.drop n)
 |_,_,0,r=>r
 |_,_,_+1,.nil=>.nil
 |_,_,n+1,.cons _ t=>Vals.drop n t
theorem Vals.none_of:∀{xs:List V}{us:List Value}{i:Nat},Vals xs us->xs[i]?=none->us[i]?=none:=fun{xs us i} r e=>by
 have h1:=r.length;have h2:xs.length<=i:=List.getElem?_eq_none_iff.mp e;exact List.getElem?_eq_none_iff.mpr (by lia)
def RelO:Option V->Option Value->Prop
 |some v,some u=>RelV v u
 |none,none=>True
 |_,_=>False
def KV{κ:Type}:List (κ×V)->List (κ×Value)->Prop:=Paired fun(p:κ×V) (q:κ×Value)=>p.1=q.1/\RelV p.2 q.2
def kV:Key->V
 | .inl i=>.int i
 | .inr x=>.str x
inductive HO where
 |lst (xs:List V)
 |tup (xs:List V)
 |dK (kvs:List (Key×V))|dT (kvs:List (List Key×V))
 |set (S:Int->Bool) (n:Nat)
 |ins (C dx:Addr) (fs:List (Str×V))
 |own (x:Addr)
 |xd (fs:List (Str×V))
 |met (f x:Addr)
 |rng (lo hi:Int)
 |frz (o:Obj) (u:HO)
 |tbl (ps:Array Value)
 |ext (φ:Heap->Prop)
abbrev Hp:=Addr->Option HO
def upd(H:Hp)(a:Addr)(o:HO):Hp:=fun b=>if b=a then some o else H b
theorem bg{H:Hp}{a:Addr}{o:HO}:upd H a o a=some o:=by unfold upd;rw[Nc rfl]
theorem aA{H:Hp}{a b:Addr}{o:HO}(h:b≠a):upd H a o b=H b:=by unfold upd;rw[Ng h]
theorem w5{H:Hp}{a b:Addr}{o u:HO}(h:H a=some o)(h':H b=some u)(d:o≠u):a≠b:=by
 intro e;subst e;rw[h]at h';exact d (Nw h')
theorem aI{H:Hp}{a b:Addr}{o:HO}(h:H a=some o)(h':H b=none):a≠b:=by
 intro e;subst e;rw[h]at h';cases h'
section
variable(P:Program)(w:World)
noncomputable def ObjOk(H:Hp)(h:Heap)(a:Addr):HO->Prop
 | .lst xs=>xs.length<=sizeLine/\∃(Cc:List Value) (n:Nat),Vals xs Cc/\h.get? a=some {cls:=.type "list",data:=.seq Cc.toArray n}
 | .tup xs=>xs.length<=sizeLine/\∃Cc:List Value,Vals xs Cc/\IsTupN h a Cc.toArray
 | .dK kvs=>kvs.length<=sizeLine/\(a==sysModules)=false/\∃vs,KV kvs vs/\h.DictOf (mixKind P w) a vs
 | .dT kvs=>kvs.length<=sizeLine/\(a==sysModules)=false/\∃xs:List (List Key×Addr×Value),
   Paired (fun(p:List Key×V) (q:List Key×Addr×Value)=>p.1=q.1/\H q.2.1=some (.tup (p.1.map kV))/\RelV p.2 q.2.2) kvs xs/\
   ∃o es ep,h.get? a=some o/\o.ExactDict/\o.data=.dict es ep/\es.toList=xs.map (entryOfKey (tupleKind (mixKind P w)))/\(xs.map (·.1)).Nodup
 | .set S n=>h.SetOf (intKind P w) a S n
 | .ins C dx fs=>H dx=some (.own a)/\fs.length<=1000/\dx≠a/\h.get? a=some (PySem.W.instObj C dx)/\
   ∃mA,h.Ns1 dx mA/\(∀f,RelO (fs.lookup f) (mA f))/\PySem.Within mA (fs.map (·.1))
 | .own _=>∃o,h.get? a=some o
 | .xd fs=>∃mA,h.Ns1 a mA/\∀f,RelO (fs.lookup f) (mA f)
 | .rng lo hi=>∃t u v,h.get? a=some {cls:=.type "range",data:=.fields #[.int lo t,.int hi u,.int 1 v]}
 | .frz o u=>h.get? a=some o/\ObjOk H h a u
 | .tbl ps=>h.get? a=some {cls:=.none,data:=.fields ps}
 | .met f x=>h.get? a=some (PySem.W.methodObj (.ref f) (.ref x))
 | .ext φ=>φ h/\(∃o,h.get? a=some o)/\∀h1 h2:Heap,φ h1->(∀o,h1.get? a=some o->h2.get? a=some o)->φ h2
def HOk(H:Hp)(h:Heap):Prop:=∀a o,H a=some o->ObjOk P w H h a o
end
section
variable{P:Program}{w:World}{H H':Hp}{h h':Heap}{a:Addr}{o:HO}
theorem ObjOk.lt(x:ObjOk P w H h a o):a<h.objs.size:=by
 cases o with
 |lst xs=>obtain⟨_,_,_,_,e⟩:=x;exact M9 e
 |tup xs=>obtain⟨_,_,_,p⟩:=x;exact p.tup.lt
 |dK kvs=>obtain⟨_,_,_,_,o,_,_,e,_⟩:=x;exact M9 e
 |dT kvs=>obtain⟨_,_,_,_,o,_,_,e,_⟩:=x;exact M9 e
 |set S n=>obtain⟨o,_,_,_,e,_⟩:=x;exact M9 e
 |ins C dx fs=>obtain⟨_,_,_,e,_⟩:=x;exact M9 e
 |own y=>obtain⟨_,e⟩:=x;exact M9 e
 |xd fs=>obtain⟨_,⟨_,_,_,e,_⟩,_⟩:=x;exact M9 e
 |rng lo hi=>obtain⟨_,_,_,e⟩:=x;exact M9 e
 |frz ob u=>obtain⟨e,_⟩:=x;exact M9 e
 |tbl ps=>exact M9 (show h.get? a=some _ from x)
 |met f y=>exact M9 (show h.get? a=some _ from x)
 |ext φ=>obtain⟨_,⟨_,e⟩,_⟩:=x;exact M9 e
theorem Paired.mapP{α β:Type}{F G:α->β->Prop}:∀{l₁:List α}{l₂:List β},Paired F l₁ l₂->(∀a b,F a b->G a b)->Paired G l₁ l₂
 |_,_,.nil,_=>.nil
 |_,_,.cons r t,f=>.cons (f _ _ r) (Paired.mapP t f)
theorem ObjOk.stay(x:ObjOk P w H h a o)(k:∀b u,(b=a\/H b=some (.own a))->h.get? b=some u->h'.get? b=some u)
  (ho:∀b,H b=some (.own a)->H' b=some (.own a)) (ht:∀b xs,H b=some (.tup xs)->H' b=some (.tup xs)):ObjOk P w H' h' a o:=by
 induction o with
 |lst xs=>obtain⟨z,Cc,n,r,e⟩:=x;exact⟨z,Cc,n,r,k _ _ (.inl rfl) e⟩
 |tup xs=>obtain⟨z,Cc,r,ob,e,c⟩:=x;exact⟨z,Cc,r,ob,k _ _ (.inl rfl) e,c⟩
 |dK kvs=>obtain⟨z,y,vs,r,ob,es,ep,e,c⟩:=x;exact⟨z,y,vs,r,ob,es,ep,k _ _ (.inl rfl) e,c⟩
 |dT kvs=>
  obtain⟨z,y,xs,r,ob,es,ep,e,c⟩:=x;exact⟨z,y,xs,Paired.mapP r fun p q z=>⟨z.1,ht _ _ z.2.1,z.2.2⟩,ob,es,ep,k _ _ (.inl rfl) e,c⟩
 |set S n=>obtain⟨ob,es,ep,t,e,c⟩:=x;exact⟨ob,es,ep,t,k _ _ (.inl rfl) e,c⟩
 |ins C dx fs=>
  obtain⟨d,z,ne,e,mA,⟨od,es,ep,e2,c⟩,r⟩:=x;exact⟨ho _ d,z,ne,k _ _ (.inl rfl) e,mA,⟨od,es,ep,k _ _ (.inr d) e2,c⟩,r⟩
 |own y=>obtain⟨ob,e⟩:=x;exact⟨ob,k _ _ (.inl rfl) e⟩
 |xd fs=>obtain⟨mA,⟨od,es,ep,e,c⟩,r⟩:=x;exact⟨mA,⟨od,es,ep,k _ _ (.inl rfl) e,c⟩,r⟩
 |rng lo hi=>obtain⟨t,u,v,e⟩:=x;exact⟨t,u,v,k _ _ (.inl rfl) e⟩
 |frz ob u ih=>obtain⟨e,q⟩:=x;exact⟨k _ _ (.inl rfl) e,ih q⟩
 |tbl ps=>
  have e:h.get? a=some {cls:=.none,data:=.fields ps}:=x;show h'.get? a=some {cls:=.none,data:=.fields ps};exact k a _ (.inl rfl) e
 |met f y=>
  have e:h.get? a=some (PySem.W.methodObj (.ref f) (.ref y)):=x;show h'.get? a=some (PySem.W.methodObj (.ref f) (.ref y));exact k a _ (.inl rfl) e
 |ext φ=>obtain⟨p,⟨o,e⟩,st⟩:=x;exact⟨st _ _ p fun o q=>k _ _ (.inl rfl) q,⟨o,k _ _ (.inl rfl) e⟩,st⟩
theorem HOk.lt(x:HOk P w H h)(e:H a=some o):a<h.objs.size:=(x a o e).lt
theorem HOk.fresh(x:HOk P w H h)(e:h.objs.size<=a):H a=none:=by
 cases q:H a with
 |none=>rfl
 |some u=>exact absurd (Nd (x.lt q) e) (OG _)
theorem HOk.kept(x:HOk P w H h)(k:∀b u,h.get? b=some u->h'.get? b=some u):HOk P w H h':=fun a o e=>
 (x a o e).stay (fun b u _ q=>k b u q) (fun _ q=>q) fun _ _ q=>q
theorem HOk.laid(x:HOk P w H h)(k:∀b u,h.get? b=some u->h'.get? b=some u)(hp:h.objs.size<=a)(new:ObjOk P w (upd H a o) h' a o):HOk P w (upd H a o) h':=fun b u e=>by
 have hn:=x.fresh hp;by_cases hb:b=a
 ·subst hb;rw[bg]at e;cases e;exact new
 ·rw[aA hb]at e;exact(x b u e).stay (fun c v _ q=>k c v q) (fun c q=>by rw[aA (aI q hn)];exact q) fun c xs q=>by rw[aA (aI q hn)];exact q
end
def Rd(H:Hp)(a:Addr)(u:HO):Prop:=H a=some u\/∃o,H a=some (.frz o u)
theorem Rd.ok{P:Program}{w:World}{H:Hp}{h:Heap}{a:Addr}{u:HO}(r:Rd H a u)(x:HOk P w H h):ObjOk P w H h a u:=by
 rcases r with r|⟨o,r⟩
 ·exact x a u r
 ·obtain⟨_,q⟩:=x a _ r;exact q
def J0:Option HO->Prop
 |some (.lst _)=>True
 |some (.dK _)=>True
 |some (.dT _)=>True
 |some (.set _ _)=>True
 |some (.ins _ _ _)=>True
 |some (.ext _)=>True
 |_=>False
section
variable{P:Program}{w:World}{H:Hp}{h h':Heap}{x e:Addr}{o':HO}
theorem HOk.write(ok:HOk P w H h)(mu:J0 (H x))(he:e=x\/H e=some (.own x))(k:∀b u,b≠e->h.get? b=some u->h'.get? b=some u)(JF:∃u,h'.get? e=some u)
  (new:ObjOk P w (upd H x o') h' x o'):HOk P w (upd H x o') h':=fun b u q=>by
 have F3:∀c y,H c=some (.own y)->c≠x:=fun c y r z=>by subst z;rw[r]at mu;exact mu
 have ntup:∀c xs,H c=some (.tup xs)->c≠x:=fun c xs r z=>by subst z;rw[r]at mu;exact mu
 by_cases hb:b=x
 ·subst hb;rw[bg]at q;cases q;exact new
 ·rw[aA hb]at q;by_cases hbe:b=e
  ·have q':H b=some (.own x):=by
    rcases he with z|z
    ·exact absurd (hbe.trans z) hb
    ·rw[hbe];exact z
   rw[q]at q';cases q';obtain⟨v,hv⟩:=JF;exact⟨v,by rw[hbe];exact hv⟩
  ·refine(ok b u q).stay (fun c v hc r=>k c v ?_ r) (fun c r=>by rw[aA (F3 c b r)];exact r) fun c xs r=>by rw[aA (ntup c xs r)];exact r
   rcases hc with rfl|hc
   ·exact hbe
   ·rintro rfl;rcases he with z|z
    ·exact F3 c b hc z
    ·rw[hc]at z;cases z;exact hb rfl
end
structure Un(fs ex:List Addr)(H H':Hp)(h h':Heap):Prop where
 keep:∀b o,h.get? b=some o->H b=none->b∉fs->b∉ex->h'.get? b=some o
 slot:∀b o,h.get? b=some o->H b=none->b∈fs->b∉ex->∃sl,h'.get? b=some {o with slots:=sl}
 free:∀b o,h.get? b=some o->H b=none->b∉ex->H' b=none
 there:∀b o,h.get? b=some o->b∉ex->∃o',h'.get? b=some o'
 tups:∀b xs,H b=some (.tup xs)->H' b=some (.tup xs)
 frzs:∀b o u,H b=some (.frz o u)->H' b=some (.frz o u)
 tbls:∀b ps,H b=some (.tbl ps)->∃more,H' b=some (.tbl (ps++more))
section
variable{fs fs' ex ex':List Addr}{H H1 H2:Hp}{h h1 h2 h':Heap}{a x e:Addr}{o:HO}
theorem Un.any(u:Un fs ex H H1 h h1){b:Addr}{ob:Obj}(q:h.get? b=some ob)(n:H b=none)(hx:b∉ex):∃sl,h1.get? b=some {ob with slots:=sl}:=by
 by_cases hb:b∈fs
 ·exact u.slot b ob q n hb hx
 ·exact⟨ob.slots,u.keep b ob q n hb hx⟩
theorem Un.kept(k:∀b u,h.get? b=some u->h'.get? b=some u):Un fs ex H H h h':=
 ⟨fun b ob q _ _ _=>k b ob q,fun b ob q _ _ _=>⟨ob.slots,k b ob q⟩,fun _ _ _ n _=>n,fun b ob q _=>⟨ob,k b ob q⟩,fun _ _ q=>q,fun _ _ _ q=>q,fun _ ps q=>⟨#[],by rw[q];simp⟩⟩
theorem Un.refl:Un fs ex H H h h:=Un.kept fun _ _ q=>q
theorem Un.laid(k:∀b u,h.get? b=some u->h'.get? b=some u)(hp:h.objs.size<=a)(hn:H a=none):Un fs ex H (upd H a o) h h' where
 keep:=fun b u q _ _ _=>k b u q
 slot:=fun b u q _ _ _=>⟨u.slots,k b u q⟩
 free:=fun b u q n _=>by rw[aA (Nl (Nd (M9 q) hp))];exact n
 there:=fun b u q _=>⟨u,k b u q⟩
 tups:=fun b xs q=>by rw[aA (aI q hn)];exact q
 frzs:=fun b u xs q=>by rw[aA (aI q hn)];exact q
 tbls:=fun b ps q=>⟨#[],by rw[aA (aI q hn),q];simp⟩
theorem Un.write(mu:J0 (H x))(he:e=x\/H e=some (.own x))(k:∀b u,b≠e->h.get? b=some u->h'.get? b=some u)(JF:∃u,h'.get? e=some u):Un fs ex H (upd H x o) h h':=by
 have hx:∀b,H b=none->b≠x:=fun b n z=>by subst z;rw[n]at mu;exact mu
 have hb:∀b,H b=none->b≠e:=fun b n z=>by
  subst z;rcases he with r|r
  ·exact hx b n r
  ·rw[n]at r;cases r
 have hm:∀b u,H b=some u->¬ J0 (some u)->b≠x:=fun b u q nm z=>by subst z;rw[q]at mu;exact nm mu
 refine⟨fun b u q n _ _=>k b u (hb b n) q,fun b u q n _ _=>⟨u.slots,k b u (hb b n) q⟩,fun b u q n _=>by rw[aA (hx b n)];exact n,fun b u q _=>?_,
  fun b xs q=>by rw[aA (hm b _ q fun z=>z)];exact q,fun b u xs q=>by rw[aA (hm b _ q fun z=>z)];exact q,fun b ps q=>⟨#[],by rw[aA (hm b _ q fun z=>z),q];simp⟩⟩
 by_cases hbe:b=e
 ·subst hbe;exact JF
 ·exact⟨u,k b u hbe q⟩
end
def trk(h:Heap)(H:Hp):List Addr:=(List.range h.objs.size).filter fun a=>(H a).isSome
def qQ(h:Heap)(H:Hp):Heap:=PySem.W.hideAll h (trk h H)
theorem oJ(h:Heap)(H:Hp):(qQ h H).objs.size=h.objs.size:=PySem.W.hideAll_size _ _
theorem qR{h:Heap}{H:Hp}{b:Addr}{o:Obj}(e:h.get? b=some o)(n:H b=none):(qQ h H).get? b=some o:=
 Px _ e fun hm=>by
  have q:(H b).isSome=true:=(List.mem_filter.mp hm).2;rw[n]at q;simp at q
theorem uJ{h:Heap}{H:Hp}{b:Addr}{o:Obj}(e:(qQ h H).get? b=some o):h.get? b=some o/\H b=none:=by
 have e':h.get? b=some o:=Q4 (trk h H) e;refine⟨e',?_⟩;cases q:H b with
 |none=>rfl
 |some x=>
  have hm:b∈trk h H:=List.mem_filter.mpr ⟨NH.mpr (M9 e'),by simp[q]⟩;have z:(qQ h H).get? b=none:=PySem.W.hideAll_none (trk h H) hm;rw[z]at e;cases e
def uK(g h:Heap)(L:Addr):List (Addr×Obj):=(List.range h.objs.size).filterMap fun a=>if a=L\/(g.get? a).isSome=true then none else(h.get? a).map fun o=>(a,o)
def cj(g h:Heap)(L d:Addr):List (Addr×Obj):=(uK g h L).filter fun p=>decide (p.1≠d)
structure Mod(K:W.Frag)(mg:Str->Option Value)(base:Heap):Prop where
 kin:K.In base
 glob:base.Ns mainGlobals mg
 blt:∃mb,base.Ns builtinsNs mb/\∀x:Str,x≠"__name__"->mb x=bootBuiltins x
 nolimit:base.NoLimit
structure Cx where
 prog:Program
 w:World
 K:W.Frag
 mg:Str->Option Value
 base:Heap
 A:Around
 N:List Str
 s₀:Shared
 H₀:Hp
 env:Env
 outer:List Env
 stack:List Env
 ex:List Addr
 fn:Str->Bool
 calm:Bool
 pn:List (Addr×Obj)
 xe:Value->Shared->Prop
def DS(l:List Env):List Addr:=l.filterMap (·.frame)
abbrev Cx.fs(X:Cx):List Addr:=DS X.outer
def Lv(sc:Scope)(x:Str):Prop:=sc.names.lookup x=some .local\/sc.names.lookup x=some .cell\/sc.names.lookup x=some .free
def Loc(sc:Scope)(x:Str):Prop:=sc.names.lookup x=some .local\/sc.names.lookup x=some .cell
def AU(sc:Scope)(x:Str):Bool:=match sc.names.lookup x with
 |some .local=>true
 |some .cell=>true
 |_=>false
theorem lo{sc:Scope}{x:Str}(h:AU sc x=true):Loc sc x:=by
 unfold AU at h;split at h
 ·exact .inl (by assumption)
 ·exact .inr (by assumption)
 ·cases h

def Bb(env:Env)(h:Heap)(m:Str->Option Value)(x:Str)(u:Value):Prop:=
 (env.kindOf x=some .local/\m x=some u)\/((env.kindOf x=some .cell\/env.kindOf x=some .free)/\∃c,env.cells.lookup x=some c/\h.IsCell c (some u))
structure Cx.Ok(X:Cx):Prop where
 mod:Mod X.K X.mg X.base
 kind:X.env.scope.kind=.function
 glob:X.env.globals=mainGlobals
 blt:X.env.builtins=builtinsNs
 above:X.s₀.heap.objs.size<=X.env.locals
 inj:∀x y c,X.env.cells.lookup x=some c->X.env.cells.lookup y=some c->x=y
 has:∀x,(X.env.kindOf x=some .cell\/X.env.kindOf x=some .free)->∃c,X.env.cells.lookup x=some c
 cab:∀x c,X.fn x=true->X.env.cells.lookup x=some c->X.s₀.heap.objs.size<=c
 hd:X.calm=true->X.A.handled=none
 frames:X.A.frames=some X.stack
 stk:X.stack=X.outer\/(X.stack=X.env::X.outer/\X.env.frame=some X.env.locals)
 exf:∀b∈X.ex,b≠X.env.locals/\∀x c,X.env.cells.lookup x=some c->c≠b
 bs:∀b o,X.base.get? b=some o->X.s₀.heap.get? b=some o/\X.H₀ b=none
 bsz:X.base.objs.size<=X.s₀.heap.objs.size
 noex:∀b o,X.base.get? b=some o->b∉X.ex
 exfs:∀b∈X.ex,b∉X.fs
 funs:X.s₀.heap.FunFrames X.base X.outer
 frf:∀b∈X.fs,X.H₀ b=none
structure Inv(X:Cx)(pr:List (Addr×Obj))(σ:List (Option V))(H:Hp)(s:Shared):Prop where
 ok:X.Ok
 os:s.os=X.s₀.os
 bare:AllBare s.gens
 base:Un X.fs X.ex X.H₀ H X.s₀.heap s.heap
 loc:∃m,s.heap.Ns X.env.locals m/\∀(i:Nat) (x:Str) (v:V),X.N[i]?=some x->σ[i]?=some (some v)->Lv X.env.scope x->∃u,RelV v u/\Bb X.env s.heap m x u
 cell:∀x c,X.env.cells.lookup x=some c->∃v,s.heap.IsCell c v
 free:H X.env.locals=none
 freeC:∀x c,X.env.cells.lookup x=some c->H c=none
 pin:∀p∈X.pn++pr,s.heap.get? p.1=some p.2/\H p.1=none/\p.1≠X.env.locals/\p.1∉X.fs/\∀v,p.2.data≠.cell v
 hok:HOk X.prog X.w H s.heap
 len:σ.length=X.N.length
section
variable{X:Cx}{pr:List (Addr×Obj)}{σ:List (Option V)}{H H':Hp}{s:Shared}{h':Heap}
theorem Cx.Ok.nofr(ok:X.Ok){b:Addr}{o:Obj}(e:X.base.get? b=some o):b∉X.fs:=fun hb=>by
 have:=(ok.funs.mem hb).1;rw[e]at this;cases this
theorem Inv.bs(I:Inv X pr σ H s):∀b o,X.base.get? b=some o->s.heap.get? b=some o/\H b=none:=fun b o e=>
 ⟨I.base.keep b o (I.ok.bs b o e).1 (I.ok.bs b o e).2 (I.ok.nofr e) (I.ok.noex b o e),I.base.free b o (I.ok.bs b o e).1 (I.ok.bs b o e).2 (I.ok.noex b o e)⟩
theorem Inv.bk(I:Inv X pr σ H s):∀b o,X.base.get? b=some o->s.heap.get? b=some o:=fun b o e=>(I.bs b o e).1
theorem Inv.mod(I:Inv X pr σ H s):Mod X.K X.mg X.base:=I.ok.mod
theorem Inv.kIn(I:Inv X pr σ H s):X.K.In s.heap:=I.ok.mod.kin.keeps I.bk
theorem Inv.lt(I:Inv X pr σ H s):X.env.locals<s.heap.objs.size:=let⟨_,hn,_⟩:=I.loc;hn.lt
theorem Inv.sz(I:Inv X pr σ H s):X.s₀.heap.objs.size<=s.heap.objs.size:=NF I.ok.above (Qp I.lt)
theorem Inv.nofs(I:Inv X pr σ H s){a:Addr}(h:s.heap.objs.size<=a):a∉X.fs:=fun hb=>by
 obtain⟨_,o,ho,_⟩:=I.ok.funs.mem hb;exact absurd (Nd (M9 ho) (NF I.sz h)) (OG _)
theorem Inv.cne(I:Inv X pr σ H s):∀x c,X.env.cells.lookup x=some c->c≠X.env.locals:=fun x c e z=>by
 obtain⟨v,o,ho,hd⟩:=I.cell x c e;obtain⟨m,⟨o',es,ep,F4,J2,_⟩,_⟩:=I.loc;rw[z,F4]at ho;cases ho;rw[J2]at hd;cases hd
theorem Inv.funs(I:Inv X pr σ H s):s.heap.FunFrames X.base X.outer:=by
 have all:∀(l:List Env),(∀b∈DS l,b∈X.fs)->X.s₀.heap.FunFrames X.base l->s.heap.FunFrames X.base l:=by
  intro l;induction l with
  |nil=>intro _ _;trivial
  |cons env r ih=>
   intro hs hl;obtain⟨hk,⟨L,o,hf,hn,ho,hd⟩,hr⟩:=hl;have hL:L∈X.fs:=hs L (by unfold DS;rw[OH,hf];exact M7);obtain⟨sl,e⟩:=I.base.slot L o ho (I.ok.frf L hL) hL fun z=>I.ok.exfs L z hL
   exact⟨hk,⟨L,_,hf,hn,e,hd⟩,ih (fun b hb=>hs b (by unfold DS;rw[OH,hf];exact Nj _ hb)) hr⟩
 exact all X.outer (fun _ hb=>hb) I.ok.funs
theorem Inv.stack(I:Inv X pr σ H s):s.heap.FunFrames X.base X.stack:=by
 rcases I.ok.stk with e|⟨e,hf⟩
 ·rw[e];exact I.funs
 ·rw[e];obtain⟨m,hn,_⟩:=I.loc;refine .cons (by rw[I.ok.kind];decide) hf hn ?_ I.funs;exact Heap.get?_none_of_le (NF I.ok.bsz I.ok.above)
theorem Inv.stkSub(I:Inv X pr σ H s):∀b∈DS X.stack,b∈X.env.locals::X.fs:=fun b hb=>by
 rcases I.ok.stk with e|⟨e,hf⟩
 ·rw[e]at hb;exact Nj _ hb
 ·rw[e]at hb;unfold DS at hb;rw[OH,hf]at hb;exact hb
theorem Inv.stkFree(I:Inv X pr σ H s):∀b∈DS X.stack,H b=none:=fun b hb=>by
 rcases Ni.mp (I.stkSub b hb) with e|hb
 ·rw[e];exact I.free
 ·obtain⟨_,o,ho,_⟩:=I.ok.funs.mem hb;exact I.base.free b o ho (I.ok.frf b hb) fun z=>I.ok.exfs b z hb
theorem Inv.step{g':Array GenState}{t':Nat}{d':Drawn}{ch:List Addr}(I:Inv X pr σ H s)
  (Hd:∀b∈ch,(b∈X.ex\/X.s₀.heap.objs.size<=b)/\b≠X.env.locals/\(∀x c,X.env.cells.lookup x=some c->c≠b)/\∀p∈X.pn++pr,p.1≠b)
  (keep:∀b o,b≠X.env.locals->b∉X.fs->b∉ch->s.heap.get? b=some o->H b=none->h'.get? b=some o)
  (slot:∀b o,b≠X.env.locals->b∈X.fs->b∉ch->s.heap.get? b=some o->H b=none->∃sl,h'.get? b=some {o with slots:=sl}) (free:∀b o,b∉ch->s.heap.get? b=some o->H b=none->H' b=none)
  (there:∀b o,b∉ch->s.heap.get? b=some o->∃o',h'.get? b=some o')
  (tups:∀b xs,H b=some (.tup xs)->H' b=some (.tup xs)) (frzs:∀b o u,H b=some (.frz o u)->H' b=some (.frz o u)) (tbls:∀b ps,H b=some (.tbl ps)->∃more,H' b=some (.tbl (ps++more)))
  (ns:∀m,s.heap.Ns X.env.locals m->h'.Ns X.env.locals m) (hok:HOk X.prog X.w H' h') (hg:AllBare g'):
  Inv X pr σ H' {s with heap:=h',gens:=g',drawn:=d',toks:=t'}:=by
 have Mj:∀b o,X.s₀.heap.get? b=some o->b≠X.env.locals:=fun b o e=>Nl (Nd (M9 e) I.ok.above)
 have K2:∀b o,X.s₀.heap.get? b=some o->b∉X.ex->b∉ch:=fun b o e hx hb=>by
  rcases(Hd b hb).1 with z|z
  ·exact hx z
  ·exact absurd (Nd (M9 e) z) (OG _)
 have cellK:∀x c,X.env.cells.lookup x=some c->∀v,s.heap.IsCell c v->h'.IsCell c v:=fun x c e v Cm=>by
  obtain⟨o,ho,hd⟩:=Cm;have J3:c∉ch:=fun z=>(Hd c z).2.2.1 x c e rfl
  by_cases hc:c∈X.fs
  ·obtain⟨sl,q⟩:=slot c o (I.cne x c e) hc J3 ho (I.freeC x c e);exact⟨_,q,hd⟩
  ·exact⟨o,keep c o (I.cne x c e) hc J3 ho (I.freeC x c e),hd⟩
 refine⟨I.ok,I.os,hg,⟨fun b o e n hb hx=>?_,fun b o e n hb hx=>?_,fun b o e n hx=>?_,fun b o e hx=>?_,fun b xs e=>tups b xs (I.base.tups b xs e),fun b o xs e=>frzs b o xs (I.base.frzs b o xs e),fun b ps e=>?_⟩,?_,fun x c e=>?_,?_,fun x c e=>?_,fun p hp=>?_,hok,I.len⟩
 ·exact keep b o (Mj b o e) hb (K2 b o e hx) (I.base.keep b o e n hb hx) (I.base.free b o e n hx)
 ·obtain⟨sl,e1⟩:=I.base.slot b o e n hb hx;obtain⟨Mk,e2⟩:=slot b _ (Mj b o e) hb (K2 b o e hx) e1 (I.base.free b o e n hx);exact⟨Mk,e2⟩
 ·obtain⟨o',e1⟩:=I.base.there b o e hx;exact free b o' (K2 b o e hx) e1 (I.base.free b o e n hx)
 ·obtain⟨o',e1⟩:=I.base.there b o e hx;exact there b o' (K2 b o e hx) e1
 ·obtain⟨m1,e1⟩:=I.base.tbls b ps e;obtain⟨m2,e2⟩:=tbls b _ e1;exact⟨m1++m2,by rw[e2,Array.append_assoc]⟩
 ·obtain⟨m,hn,hl⟩:=I.loc;refine⟨m,ns m hn,fun i x v e1 e2 e3=>?_⟩;obtain⟨u,r,l⟩:=hl i x v e1 e2 e3;refine⟨u,r,?_⟩;rcases l with l|⟨k,c,e,z⟩
  ·exact .inl l
  ·exact .inr ⟨k,c,e,cellK x c e _ z⟩
 ·obtain⟨v,z⟩:=I.cell x c e;exact⟨v,cellK x c e v z⟩
 ·obtain⟨m,⟨o,_,_,ho,_⟩,_⟩:=I.loc;exact free _ o (fun z=>(Hd _ z).2.1 rfl) ho I.free
 ·obtain⟨v,o,ho,hd⟩:=I.cell x c e;exact free c o (fun z=>(Hd c z).2.2.1 x c e rfl) ho (I.freeC x c e)
 ·obtain⟨e,n,ne,nf,d⟩:=I.pin p hp;have J3:p.1∉ch:=fun z=>(Hd p.1 z).2.2.2 p hp rfl
  exact⟨keep p.1 p.2 ne nf J3 e n,free p.1 p.2 J3 e n,ne,nf,d⟩
theorem Inv.un{t':Nat}(I:Inv X pr σ H s)(u:Un X.fs [] H H' s.heap h')(hok:HOk X.prog X.w H' h'):Inv X pr σ H' {s with heap:=h',toks:=t'}:=by
 obtain⟨m,⟨o,es,ep,ho,r⟩,_⟩:=id I.loc;obtain⟨sl,hL⟩:=u.any ho I.free (by simp);exact I.step (g':=s.gens) (d':=s.drawn) (ch:=[]) (fun _ z=>nomatch z) (fun b o _ hb _ e n=>u.keep b o e n hb (by simp)) (fun b o _ hb _ e n=>u.slot b o e n hb (by simp)) (fun b o _ e n=>u.free b o e n (by simp)) (fun b o _ e=>u.there b o e (by simp)) u.tups u.frzs u.tbls (fun m' hm=>by
  obtain⟨o',ID,Lw,F4,r'⟩:=hm;rw[ho]at F4;cases F4;exact⟨_,ID,Lw,hL,r'⟩) hok I.bare
theorem Inv.call{g':Array GenState}{t':Nat}{d':Drawn}{ch:List Addr}(I:Inv X pr σ H s)(u:Un (DS X.stack) ch H H' s.heap h')(hok:HOk X.prog X.w H' h')(hg:AllBare g')
  (Hd:∀b∈ch,(b∈X.ex\/X.s₀.heap.objs.size<=b)/\b≠X.env.locals/\(∀x c,X.env.cells.lookup x=some c->c≠b)/\∀p∈X.pn++pr,p.1≠b):
  Inv X pr σ H' {s with heap:=h',gens:=g',drawn:=d',toks:=t'}:=by
 obtain⟨m,⟨o,es,ep,ho,r⟩,_⟩:=id I.loc;obtain⟨sl,hL⟩:=u.any ho I.free fun z=>(Hd _ z).2.1 rfl
 exact I.step (ch:=ch) Hd (fun b o hL hb hc e n=>u.keep b o e n (fun z=>(Ni.mp (I.stkSub b z)).elim hL hb) hc) (fun b o _ _ hc e n=>u.any e n hc) (fun b o hc e n=>u.free b o e n hc) (fun b o hc e=>u.there b o e hc) u.tups u.frzs u.tbls (fun m' hm=>by
  obtain⟨o',ID,Lw,F4,r'⟩:=hm;rw[ho]at F4;cases F4;exact⟨_,ID,Lw,hL,r'⟩) hok hg
theorem Inv.turned{t':Nat}{it:Addr}(I:Inv X pr σ H s)(k:∀b o,b≠it->s.heap.get? b=some o->h'.get? b=some o)(hn:H it=none)(hL:it≠X.env.locals)
  (h1:it∈X.ex\/X.s₀.heap.objs.size<=it) (h2:∀x c,X.env.cells.lookup x=some c->c≠it) (h3:∀p∈X.pn++pr,p.1≠it):Inv X pr σ H {s with heap:=h',toks:=t'}:=by
 have Ml:∀b u,H b=some u->b≠it:=fun b u e z=>by rw[z,hn]at e;cases e
 refine I.step (g':=s.gens) (d':=s.drawn) (ch:=[it]) (fun b hb=>?_) (fun b o _ _ hc e _=>k b o (fun z=>hc (by simp[z])) e) (fun b o _ _ hc e _=>⟨o.slots,k b o (fun z=>hc (by simp[z])) e⟩) (fun _ _ _ _ n=>n)
  (fun b o hc e=>⟨o,k b o (fun z=>hc (by simp[z])) e⟩) (fun _ _ e=>e) (fun _ _ _ e=>e) (fun b ps e=>⟨#[],by rw[e];simp⟩) (fun m hm=>?_) (fun b u e=>?_) I.bare
 ·have e:b=it:=by simpa using hb
  subst e;exact⟨h1,hL,h2,h3⟩
 ·obtain⟨o,es,ep,ho,r⟩:=hm;exact⟨o,es,ep,k _ o (Oo hL) ho,r⟩
 ·refine(I.hok b u e).stay (fun c v hc q=>k c v ?_ q) (fun _ q=>q) fun _ _ q=>q
  rcases hc with z|z
  ·rw[z];exact Ml b u e
  ·exact Ml c _ z
theorem Inv.tok(I:Inv X pr σ H s)(t:Nat):Inv X pr σ H {s with toks:=t}:=I.un (h':=s.heap) (t':=t) Un.refl I.hok
theorem Inv.kept{t':Nat}(I:Inv X pr σ H s)(k:∀b u,s.heap.get? b=some u->h'.get? b=some u):Inv X pr σ H {s with heap:=h',toks:=t'}:=I.un (Un.kept k) (I.hok.kept k)
theorem Inv.laid{a:Addr}{o:HO}{t':Nat}(I:Inv X pr σ H s)(k:∀b u,s.heap.get? b=some u->h'.get? b=some u)(hp:s.heap.objs.size<=a)(new:ObjOk X.prog X.w (upd H a o) h' a o):
  Inv X pr σ (upd H a o) {s with heap:=h',toks:=t'}:=I.un (Un.laid k hp (I.hok.fresh hp)) (I.hok.laid k hp new)
theorem Inv.write{x e:Addr}{o:HO}{t':Nat}(I:Inv X pr σ H s)(mu:J0 (H x))(he:e=x\/H e=some (.own x))(k:∀b u,b≠e->s.heap.get? b=some u->h'.get? b=some u)(JF:∃u,h'.get? e=some u)
  (new:ObjOk X.prog X.w (upd H x o) h' x o):Inv X pr σ (upd H x o) {s with heap:=h',toks:=t'}:=I.un (Un.write mu he k JF) (I.hok.write mu he k JF new)
theorem Inv.pins_of{Io:List (Addr×Obj)}(I:Inv X pr σ H s)(h:∀p∈Io,s.heap.get? p.1=some p.2/\H p.1=none/\p.1≠X.env.locals/\p.1∉X.fs/\∀v,p.2.data≠.cell v):Inv X Io σ H s:=
 ⟨I.ok,I.os,I.bare,I.base,I.loc,I.cell,I.free,I.freeC,fun p hp=>(Ny.mp hp).elim (fun z=>I.pin p (Np _ z)) (h p),I.hok,I.len⟩
theorem jq{N:List Str}(hN:N.Nodup){i j:Nat}{x:Str}(a:N[i]?=some x)(b:N[j]?=some x):i=j:=by
 obtain⟨h1,e1⟩:=List.getElem?_eq_some_iff.mp a;obtain⟨h2,e2⟩:=List.getElem?_eq_some_iff.mp b;exact(List.getElem_inj hN).mp (e1.trans e2.symm)
theorem kc{M:Model}{A:Around}{E:Value->Shared->Prop}{i:Nat}{x:Str}{v:V}{u:Value}{Q:Unit->Shared->Prop}(I:Inv X pr σ H s)(hN:X.N.Nodup)(hi:X.N[i]?=some x)(hx:Loc X.env.scope x)(r:RelV v u)
  (h:∀s',Inv X pr (σ.set i (some v)) H s'->(∃a,Heap.SameBut a s.heap s'.heap/\(a=X.env.locals\/X.env.cells.lookup x=some a))->Q () s') (hf:X.fn x=true\/X.env.scope.names.lookup x=some .local:=by first|exact .inl rfl|exact .inr rfl|assumption):wpAny M A (storeName X.env x u) Q E s:=by
 obtain⟨m,hn,hl⟩:=id I.loc;have hcls:(X.env.scope.kind==.class||(X.env.scope.kind==.module&&X.env.locals != X.env.globals))=false:=by rw[I.ok.kind];rfl
 have hiσ:i<σ.length:=by rw[I.len];exact(List.getElem?_eq_some_iff.mp hi).1
 have cne:=I.cne;have tracked:∀{a:Addr}{h':Heap},(∃o,s.heap.get? a=some o/\H a=none)->Heap.SameBut a s.heap h'->HOk X.prog X.w H h':=fun{a h'} ha hs b ob e=>by
  obtain⟨_,_,Ip⟩:=ha;refine(I.hok b ob e).stay (fun c w' hc q=>(hs.2 c ?_).trans q) (fun _ q=>q) fun _ _ q=>q
  rintro rfl;rcases hc with rfl|hc
  ·rw[Ip]at e;cases e
  ·rw[Ip]at hc;cases hc
 rcases hx with hk|hk
 ·refine wpAny_storeName_local hk hn (fun h' Lx hs=>?_) hcls;obtain⟨oL,_,_,hoL,_⟩:=id hn;refine h _ ⟨I.ok,I.os,I.bare,⟨fun b o e n hb hx=>?_,fun b o e n hb hx=>?_,I.base.free,fun b o e hx=>?_,I.base.tups,I.base.frzs,I.base.tbls⟩,⟨_,Lx,fun j y v' e1 e2 e3=>?_⟩,fun y c e=>?_,I.free,I.freeC,fun p hp=>?_,tracked ⟨oL,hoL,I.free⟩ hs,by simpa using I.len⟩ ⟨_,hs,.inl rfl⟩
  ·exact(hs.2 b (Nl (Nd (M9 e) I.ok.above))).trans (I.base.keep b o e n hb hx)
  ·obtain⟨sl,e1⟩:=I.base.slot b o e n hb hx;exact⟨sl,(hs.2 b (Nl (Nd (M9 e) I.ok.above))).trans e1⟩
  ·obtain⟨o',e1⟩:=I.base.there b o e hx;exact⟨o',(hs.2 b (Nl (Nd (M9 e) I.ok.above))).trans e1⟩
  ·by_cases hj:j=i
   ·subst hj;rw[hi]at e1;cases e1;rw[List.getElem?_set_self hiσ]at e2;cases e2;exact⟨u,r,.inl ⟨hk,by simp⟩⟩
   ·rw[List.getElem?_set_ne (Oo hj)]at e2;obtain⟨u',r',q⟩:=hl j y v' e1 e2 e3;refine⟨u',r',?_⟩;rcases q with⟨k,e⟩|⟨k,c,e,z⟩
    ·refine .inl ⟨k,?_⟩;have:y≠x:=fun e=>hj (jq hN e1 (e▸hi))
     simp[this,e]
    ·exact .inr ⟨k,c,e,z.sameBut hs (cne y c e)⟩
  ·obtain⟨w',z⟩:=I.cell y c e;exact⟨w',z.sameBut hs (cne y c e)⟩
  ·obtain⟨e,n,ne,nf,d⟩:=I.pin p hp;exact⟨(hs.2 p.1 ne).trans e,n,ne,nf,d⟩
 ·have IE:X.fn x=true:=by
   rcases hf with z|z
   ·exact z
   ·rw[z]at hk;cases hk
  obtain⟨c,hc⟩:=I.ok.has x (.inl hk);obtain⟨w',z⟩:=I.cell x c hc;refine wpAny_storeName_cell I.ok.kind hk hc z (fun h' K3 hs=>?_);obtain⟨oc,Mm,hocd⟩:=id z;refine h {s with heap:=h'} ⟨I.ok,I.os,I.bare,⟨fun b o e n hb hx=>?_,fun b o e n hb hx=>?_,I.base.free,fun b o e hx=>?_,I.base.tups,I.base.frzs,I.base.tbls⟩,⟨m,hn.sameBut hs (Oo (cne x c hc)),fun j y v' e1 e2 e3=>?_⟩,fun y c' e=>?_,I.free,I.freeC,fun p hp=>?_,tracked ⟨oc,Mm,I.freeC x c hc⟩ hs,by simpa using I.len⟩ ⟨c,hs,.inr hc⟩
  ·exact(hs.2 b (Nl (Nd (M9 e) (I.ok.cab x c IE hc)))).trans (I.base.keep b o e n hb hx)
  ·obtain⟨sl,e1⟩:=I.base.slot b o e n hb hx;exact⟨sl,(hs.2 b (Nl (Nd (M9 e) (I.ok.cab x c IE hc)))).trans e1⟩
  ·obtain⟨o',e1⟩:=I.base.there b o e hx;exact⟨o',(hs.2 b (Nl (Nd (M9 e) (I.ok.cab x c IE hc)))).trans e1⟩
  ·by_cases hj:j=i
   ·subst hj;rw[hi]at e1;cases e1;rw[List.getElem?_set_self hiσ]at e2;cases e2;exact⟨u,r,.inr ⟨.inl hk,c,hc,K3⟩⟩
   ·rw[List.getElem?_set_ne (Oo hj)]at e2;obtain⟨u',r',q⟩:=hl j y v' e1 e2 e3;refine⟨u',r',?_⟩;rcases q with q|⟨k,c',e,z'⟩
    ·exact .inl q
    ·refine .inr ⟨k,c',e,z'.sameBut hs ?_⟩;rintro rfl;exact hj (jq hN e1 (I.ok.inj _ _ _ e hc▸hi))
  ·by_cases hcc:c'=c
   ·subst hcc;exact⟨_,K3⟩
   ·obtain⟨w2,z2⟩:=I.cell y c' e;exact⟨w2,z2.sameBut hs hcc⟩
  ·obtain⟨e,n,ne,nf,d⟩:=I.pin p hp;refine⟨(hs.2 p.1 ?_).trans e,n,ne,nf,d⟩;intro q;rw[q,Mm]at e;have q':oc=p.2:=Nw e;exact d w' (by rw[<-q'];exact hocd)
theorem jr{M:Model}{A:Around}{E:Value->Shared->Prop}{i:Nat}{x:Str}{v:V}{u:Value}{Q:Unit->Shared->Prop}(I:Inv X pr σ H s)(hN:X.N.Nodup)(hi:X.N[i]?=some x)(hx:Loc X.env.scope x)(r:RelV v u)
  (h:∀s',Inv X pr (σ.set i (some v)) H s'->Q () s') (hf:X.fn x=true\/X.env.scope.names.lookup x=some .local:=by first|exact .inl rfl|exact .inr rfl|assumption):wpAny M A (storeName X.env x u) Q E s:=
 kc I hN hi hx r (fun s' I' _=>h s' I') hf
theorem Inv.call'{s':Shared}{ch:List Addr}(I:Inv X pr σ H s)(ho:s'.os=s.os)(u:Un (DS X.stack) ch H H' s.heap s'.heap)(hok:HOk X.prog X.w H' s'.heap)(hg:AllBare s'.gens)
  (Hd:∀b∈ch,(b∈X.ex\/X.s₀.heap.objs.size<=b)/\b≠X.env.locals/\(∀x c,X.env.cells.lookup x=some c->c≠b)/\∀p∈X.pn++pr,p.1≠b):Inv X pr σ H' s':=by
 obtain⟨h',g',d',t',o'⟩:=s';have e:o'=s.os:=ho;subst e;exact I.call (g':=g') (t':=t') (d':=d') u hok hg Hd
end
abbrev XK:=Value->Option Addr->Hp->Prop
abbrev St:=List (Option V)
abbrev VK:=V->Hp->Prop
abbrev TE:=St->Hp->VK->Prop
abbrev TT:=St->Hp->(Bool->Hp->Prop)->Prop
abbrev TA:=St->Hp->(List V->Hp->Prop)->Prop
structure Ends where
 nx:St->Hp->Prop
 rt:VK
 bk:St->Hp->Prop:=fun _ _=>False
 ct:St->Hp->Prop:=fun _ _=>False
abbrev TS:=Ends->St->Hp->Prop
def EP(X:Cx)(pr:List (Addr×Obj))(σ:St)(Q:VK)(u:Value)(s':Shared):Prop:=∃v H',Inv X pr σ H' s'/\RelV v u/\Q v H'
def TP(X:Cx)(pr:List (Addr×Obj))(σ:St)(Q:Bool->Hp->Prop)(b:Bool)(s':Shared):Prop:=∃H',Inv X pr σ H' s'/\Q b H'
def AP(X:Cx)(pr:List (Addr×Obj))(σ:St)(Q:List V->Hp->Prop)(us:List Value)(s':Shared):Prop:=∃vs H',Inv X pr σ H' s'/\Vals vs us/\Q vs H'
def SP(X:Cx)(pr:List (Addr×Obj))(D:Ends)(f:Flow)(s':Shared):Prop:=
 match f with
 | .next=>∃σ' H',Inv X pr σ' H' s'/\D.nx σ' H'
 | .brk=>∃σ' H',Inv X pr σ' H' s'/\D.bk σ' H'
 | .cont=>∃σ' H',Inv X pr σ' H' s'/\D.ct σ' H'
 | .ret u=>∃v σ' H',Inv X pr σ' H' s'/\RelV v u/\D.rt v H'
def PE(X:Cx)(e:Expr)(t:TE):Prop:=
 ∀(pr:List (Addr×Obj)) (s:Shared) (σ:St) (H:Hp) (Q:VK),Inv X pr σ H s->t σ H Q->wpAny (model X.prog X.w) X.A (eval e X.env) (EP X pr σ Q) X.xe s
def PT(X:Cx)(e:Expr)(t:TT):Prop:=
 ∀(pr:List (Addr×Obj)) (s:Shared) (σ:St) (H:Hp) (Q:Bool->Hp->Prop),Inv X pr σ H s->t σ H Q->wpAny (model X.prog X.w) X.A (isTrue e X.env (eval e X.env)) (TP X pr σ Q) X.xe s
def PW(X:Cx)(e:Expr)(t:TT):Prop:=
 ∀(whole:Sem Value) (pr:List (Addr×Obj)) (s:Shared) (σ:St) (H:Hp) (Q:Bool->Hp->Prop),Inv X pr σ H s->t σ H Q->wpAny (model X.prog X.w) X.A (isTrue e X.env whole) (TP X pr σ Q) X.xe s
theorem PW.pt{X:Cx}{e:Expr}{t:TT}(h:PW X e t):PT X e t:=h _
def PA(X:Cx)(es:List Expr)(t:TA):Prop:=
 ∀(pos:Pos) (pr:List (Addr×Obj)) (s:Shared) (σ:St) (H:Hp) (Q:List V->Hp->Prop),Inv X pr σ H s->t σ H Q->wpAny (model X.prog X.w) X.A (spliced (backTo pos (starEach es X.env))) (AP X pr σ Q) X.xe s
def PS(X:Cx)(st:Stmt)(t:TS):Prop:=
 ∀(pr:List (Addr×Obj)) (s:Shared) (σ:St) (H:Hp) (D:Ends),Inv X pr σ H s->t D σ H->wpAny (model X.prog X.w) X.A (exec st X.env) (SP X pr D) X.xe s
def PSs(X:Cx)(st:List Stmt)(t:TS):Prop:=
 ∀(pr:List (Addr×Obj)) (s:Shared) (σ:St) (H:Hp) (D:Ends),Inv X pr σ H s->t D σ H->wpAny (model X.prog X.w) X.A (execs st X.env) (SP X pr D) X.xe s
theorem Cs{α:Type}{t:Sem α}{Q Q':α->Shared->Prop}{M:Model}{A:Around}{E:Value->Shared->Prop}{s:Shared}(h:wpAny M A t Q E s)(hQ:∀a s,Q a s->Q' a s):wpAny M A t Q' E s:=NL h hQ fun _ _ x=>x
section
variable{X:Cx}
theorem bin{a b:Expr}{ta tb:TE}(ha:PE X a ta)(hb:PE X b tb){pr:List (Addr×Obj)}{s:Shared}{σ:St}{H:Hp}{R:V->V->Hp->Prop}(I:Inv X pr σ H s)(h:ta σ H fun x H1=>tb σ H1 fun y H2=>R x y H2)
  {α:Type}{Q:α->Shared->Prop}{f:Value->Value->Sem α}
  (hf:∀v u s2 x y H2,Inv X pr σ H2 s2->RelV x v->RelV y u->R x y H2->wpAny (model X.prog X.w) X.A (f v u) Q X.xe s2):
  wpAny (model X.prog X.w) X.A (eval a X.env) (fun v s₁=>wpAny (model X.prog X.w) X.A (eval b X.env) (fun u s₂=>wpAny (model X.prog X.w) X.A (f v u) Q X.xe s₂) X.xe s₁) X.xe s:=by
 refine Cs (ha pr s σ H _ I h) fun v s1 Cz=>?_
 obtain⟨x,H1,I1,r1,q1⟩:=Cz;refine Cs (hb pr s1 σ H1 _ I1 q1) fun u s2 Cz=>?_
 obtain⟨y,H2,I2,r2,q2⟩:=Cz;exact hf v u s2 x y H2 I2 r1 r2 q2
def nH(i:Nat):TE:=fun σ H Q=>∃v,σ[i]?=some (some v)/\Q v H
def tC(v:V):TE:=fun _ H Q=>Q v H
theorem w6{i:Nat}{x:Str}{pos:Pos}(hN:X.N[i]?=some x)(hv:Lv X.env.scope x)(hd:(x==("__debug__" : Str))=false:=by decide)(Fq:(x==("__classdict__" : Str))=false:=by decide):PE X (.Name x pos) (nH i):=by
 intro pr s σ H Q I h;obtain⟨v,e,h⟩:=h;obtain⟨m,hn,hl⟩:=I.loc;obtain⟨u,r,l⟩:=hl i x v hN e hv;have fin:EP X pr σ Q u s:=⟨v,H,I,r,h⟩
 rcases l with⟨hk,hm⟩|⟨hk,c,hc,C1⟩
 ·exact wpAny_Name (wpAny_loadName_local I.ok.kind hk hn hm fin) hd
 ·rcases hk with hk|hk
  ·exact wpAny_Name (wpAny_loadName_cell I.ok.kind hk hc C1 fin) hd
  ·exact wpAny_Name (wpAny_loadName_free I.ok.kind hk hc C1 fin Fq) hd
theorem w9{i j pos}:PE X (.Constant (.int i) j pos) (tC (.int i)):=fun _ _ _ H _ I h=>wpAny_Constant_int ⟨.int i,H,I.tok _,⟨_,rfl⟩,h⟩
theorem zr{b j pos}:PE X (.Constant (.bool b) j pos) (tC (.bl b)):=fun _ _ _ H _ I h=>Constant_bool ⟨.bl b,H,I,rfl,h⟩
theorem xa{j pos}:PE X (.Constant .none j pos) (tC .non):=fun _ _ _ H _ I h=>Constant_none ⟨.non,H,I,rfl,h⟩
theorem xb{x j pos}:PE X (.Constant (.str x) j pos) (tC (.str x)):=fun _ _ _ H _ I h=>Calls.Constant_str ⟨.str x,H,I.tok _,⟨_,rfl⟩,h⟩
def Gl(X:Cx)(x:Str):Prop:=X.env.kindOf x=some .globalImplicit
theorem g6{E:Value->Shared->Prop}{pr:List (Addr×Obj)}{s:Shared}{σ:St}{H:Hp}{x:Str}{u:Value}{pos:Pos}{Q:Value->Shared->Prop}(I:Inv X pr σ H s)(hg:Gl X x)(hm:X.mg x=some u)(h:Q u s)
  (hd:(x==("__debug__" : Str))=false:=by decide):wpAny (model X.prog X.w) X.A (eval (.Name x pos) X.env) Q E s:=
 PJ I.ok.kind hg (Calls.loadGlobal_global (by rw[I.ok.glob];exact I.mod.glob.keeps I.bk) hm h) hd
theorem ke{E:Value->Shared->Prop}{pr:List (Addr×Obj)}{s:Shared}{σ:St}{H:Hp}{x:Str}{u:Value}{pos:Pos}{Q:Value->Shared->Prop}(I:Inv X pr σ H s)(hg:Gl X x)(hm:X.mg x=none)(hv:bootBuiltins x=some u)(h:Q u s)
  (hn:x≠"__name__":=by decide) (hd:(x==("__debug__" : Str))=false:=by decide):wpAny (model X.prog X.w) X.A (eval (.Name x pos) X.env) Q E s:=by
 obtain⟨mb,h1,h2⟩:=I.mod.blt;exact PJ I.ok.kind hg (Calls.loadGlobal_builtin (by rw[I.ok.glob];exact I.mod.glob.keeps I.bk) hm (by rw[I.ok.blt];exact h1.keeps I.bk) ((h2 x hn).trans hv) h) hd
theorem lB{x:Str}{v:V}{u:Value}{pos:Pos}(hg:Gl X x)(hm:X.mg x=some u)(r:RelV v u)(hd:(x==("__debug__" : Str))=false:=by decide):PE X (.Name x pos) (tC v):=
 fun _ _ _ H _ I h=>g6 I hg hm ⟨v,H,I,r,h⟩ hd
theorem oK{x:Str}{v:V}{u:Value}{pos:Pos}(hg:Gl X x)(hm:X.mg x=none)(hv:bootBuiltins x=some u)(r:RelV v u)(hn:x≠"__name__":=by decide)(hd:(x==("__debug__" : Str))=false:=by decide):PE X (.Name x pos) (tC v):=
 fun _ _ _ H _ I h=>ke I hg hm hv ⟨v,H,I,r,h⟩ hn hd
variable{a b:Expr}{ta tb:TE}{pos:Pos}
def PC(X:Cx)(op:CmpOp)(a b:Expr)(t:TE):Prop:=
 ∀(pr:List (Addr×Obj)) (s:Shared) (σ:St) (H:Hp) (Q:VK),Inv X pr σ H s->t σ H Q->
  wpAny (model X.prog X.w) X.A (eval a X.env) (fun v s₁=>wpAny (model X.prog X.w) X.A (eval b X.env) (fun u s₂=>wpAny (model X.prog X.w) X.A (compareOp op v u) (EP X pr σ Q) X.xe s₂) X.xe s₁) X.xe s
theorem qS(b:Expr){op:CmpOp}(h:op≠.In)(h2:op≠.NotIn):behindInMarks op b=false:=by
 have e1:(op==CmpOp.In)=false:=by cases op <;> first|rfl|exact absurd rfl h
 have e2:(op==CmpOp.NotIn)=false:=by cases op <;> first|rfl|exact absurd rfl h2
 cases b <;> simp[behindInMarks,e1,e2]
def tB(t:TE):TT:=fun σ H Q=>t σ H fun x H1=>∃c,x=.bl c/\Q c H1
theorem AV{op:CmpOp}{t:TE}(h:PC X op a b t)(h1:behindInMarks op b=false:=by first|exact qS _ (by decide) (by decide)|rfl):PT X (.Compare a [op] [b] pos) (tB t):=by
 intro pr s σ H Q I hw;refine wpAny_isTrue_Compare1 (Cs (h pr s σ H _ I hw) fun v s1 h1=>Cs h1 fun u s2 h2=>Cs h2 fun c s3 ⟨x,H1,I1,r1,q1⟩=>?_) h1;obtain⟨d,rfl,q⟩:=q1;cases r1;exact N6 ⟨H1,I1,q⟩
theorem xc{e:Expr}{t:TE}(h:PE X e t)(he:∀whole,isTrue e X.env whole=(do let v <-whole;standAt e.pos;holding [v] (truthy v)):=by intro _;rfl):PT X e (tB t):=by
 intro pr s σ H Q I hw;refine isTrue_plain (Cs (h pr s σ H _ I hw) fun v s1 ⟨x,H1,I1,r1,q1⟩=>?_) (he _);obtain⟨d,rfl,q⟩:=q1;cases r1;exact N6 ⟨H1,I1,q⟩
variable{tA K4:TT}{cj:List Expr}
def Bc(t u:TT):TT:=fun σ H Q=>t σ H fun c H1=>if c=true then u σ H1 Q else Q false H1
def tOr(t u:TT):TT:=fun σ H Q=>t σ H fun c H1=>if c=true then Q true H1 else u σ H1 Q
def Bd(t:TT):TT:=fun σ H Q=>t σ H fun c H1=>Q (!c) H1
theorem uL(ha:PT X a tA):PW X (.BoolOp .And [a] pos) tA:=by
 intro wh pr s σ H Q I h;refine isTrue_and (Cs (ha pr s σ H Q I h) fun c s1 e=>?_);cases c with
 |true=>exact isTrue_and_nil e
 |false=>exact e
theorem xf(ha:PT X a tA):PW X (.BoolOp .Or [a] pos) tA:=by
 intro wh pr s σ H Q I h;refine isTrue_or (Cs (ha pr s σ H Q I h) fun c s1 e=>?_);cases c with
 |false=>exact isTrue_or_nil e
 |true=>exact e
theorem xg(ha:PT X a tA)(hb:PW X (.BoolOp .And (b::cj) pos) K4):PW X (.BoolOp .And (a::b::cj) pos) (Bc tA K4):=by
 intro wh pr s σ H Q I h;refine isTrue_and (Cs (ha pr s σ H _ I h) fun c s1 Cz=>?_);obtain⟨H1,I1,q1⟩:=Cz;cases c with
 |true=>exact hb wh pr s1 σ H1 Q I1 q1
 |false=>exact⟨H1,I1,q1⟩
theorem zt(ha:PT X a tA)(hb:PW X (.BoolOp .Or (b::cj) pos) K4):PW X (.BoolOp .Or (a::b::cj) pos) (tOr tA K4):=by
 intro wh pr s σ H Q I h;refine isTrue_or (Cs (ha pr s σ H _ I h) fun c s1 Cz=>?_);obtain⟨H1,I1,q1⟩:=Cz;cases c with
 |true=>exact⟨H1,I1,q1⟩
 |false=>exact hb wh pr s1 σ H1 Q I1 q1
theorem xh(ha:PT X a tA):PT X (.UnaryOp .Not a pos) (Bd tA):=by
 intro pr s σ H Q I h;exact isTrue_not (ha pr s σ H (fun c H1=>Q (!c) H1) I h)
def zu(ta tb:TE):TE:=fun σ H Q=>ta σ H fun x H1=>∃c,x=.bl c/\if c=true then tb σ H1 Q else Q (.bl false) H1
def zv(ta:TE):TE:=fun σ H Q=>ta σ H fun x H1=>∃c,x=.bl c/\Q (.bl (!c)) H1
theorem tH{op}{t:TE}(h:PE X a t):PE X (.BoolOp op [a] pos) t:=fun pr s σ H Q I hw=>BoolOp_one (h pr s σ H Q I hw)
theorem tI(ha:PE X a ta)(hb:PE X (.BoolOp .And (b::cj) pos) tb):PE X (.BoolOp .And (a::b::cj) pos) (zu ta tb):=by
 intro pr s σ H Q I h;refine BoolOp_and (Cs (ha pr s σ H _ I h) fun v s1 Cz=>?_);obtain⟨x,H1,I1,r1,q1⟩:=Cz;obtain⟨c,rfl,q1⟩:=q1;cases r1;refine N6 ?_;cases c with
 |true=>exact hb pr s1 σ H1 Q I1 q1
 |false=>exact⟨.bl false,H1,I1,rfl,q1⟩
theorem tJ(ha:PE X a ta):PE X (.UnaryOp .Not a pos) (zv ta):=by
 intro pr s σ H Q I h;refine UnaryOp_ (Cs (ha pr s σ H _ I h) fun v s1 Cz=>?_);obtain⟨x,H1,I1,r1,q1⟩:=Cz;obtain⟨c,rfl,q1⟩:=q1;cases r1;exact not_of (N6 ⟨.bl (!c),H1,I1,rfl,q1⟩)
end
def SqL(K:W.Frag)(H:Hp)(a:Addr)(xs:List V):Prop:=
 Rd H a (.lst xs)\/
  ∃(o:Obj) (Cc:Array Value) (n:Nat),K.lookup a=some o/\o.cls=.type "list"/\o.dict=none/\o.data=.seq Cc n/\Cc.size<=sizeLine/\Vals xs Cc.toList
def SqT(K:W.Frag)(H:Hp)(a:Addr)(xs:List V):Prop:=
 Rd H a (.tup xs)\/
  ∃(o:Obj) (Cc:Array Value) (n:Nat),K.lookup a=some o/\o.cls=.type "tuple"/\o.dict=none/\o.data=.seq Cc n/\Cc.size<=sizeLine/\Vals xs Cc.toList
def Be:Value->Option V
 | .none=>some .non
 | .bool b=>some (.bl b)
 | .int i _=>some (.int i)
 | .str x _=>some (.str x)
 | .bytes b _=>some (.byt b)
 | .float b _=>some (.flt b)
 | .ref a=>some (.ref a)
 | .type n=>some (.ty n)
 |_=>none
theorem RelV.abs{x:V}{u:Value}(r:RelV x u):Be u=some x:=by
 cases x with
 |non=>cases r;rfl
 |bl _=>cases r;rfl
 |int _=>obtain⟨t,rfl⟩:=r;rfl
 |str _=>obtain⟨t,rfl⟩:=r;rfl
 |byt _=>obtain⟨t,rfl⟩:=r;rfl
 |flt _=>obtain⟨t,rfl⟩:=r;rfl
 |ref _=>cases r;rfl
 |ty _=>cases r;rfl
theorem RelV.inj{x y:V}{u:Value}(r:RelV x u)(q:RelV y u):x=y:=Nw (r.abs.symm.trans q.abs)
theorem Vals.inj:∀{xs ys:List V}{us:List Value},Vals xs us->Vals ys us->xs=ys
 |_,_,_,.nil,.nil=>rfl
 |_,_,_,.cons r t,.cons r' t'=>by rw[r.inj r',Vals.inj t t']
section
variable{X:Cx}{pr:List (Addr×Obj)}{σ:St}{H:Hp}{s:Shared}{a:Addr}{xs ys:List V}
theorem SqL.of{K:W.Frag}(h:H a=some (.lst xs)):SqL K H a xs:=.inl (.inl h)
theorem SqT.of{K:W.Frag}(h:H a=some (.tup xs)):SqT K H a xs:=.inl (.inl h)
theorem Inv.list(I:Inv X pr σ H s)(h:SqL X.K H a xs):∃Cc:List Value,Vals xs Cc/\PlainL s.heap a Cc.toArray/\xs.length<=sizeLine:=by
 rcases h with h|⟨o,Cc,n,hk,hc,hd,hs,hz,r⟩
 ·obtain⟨z,Cc,n,r,e⟩:=h.ok I.hok;exact⟨Cc,r,⟨_,n,e,rfl,rfl,rfl⟩,z⟩
 ·refine⟨Cc.toList,r,⟨o,n,I.kIn a o hk,hc,hd,by simpa using hs⟩,?_⟩;have e:=r.length;simp only[N7]at e;lia
theorem Inv.tupleN(I:Inv X pr σ H s)(h:SqT X.K H a xs):∃Cc:List Value,Vals xs Cc/\IsTupN s.heap a Cc.toArray/\xs.length<=sizeLine:=by
 rcases h with h|⟨o,Cc,n,hk,hc,hdn,hs,hz,r⟩
 ·obtain⟨z,Cc,r,p⟩:=h.ok I.hok;exact⟨Cc,r,p,z⟩
 ·refine⟨Cc.toList,r,⟨o,I.kIn a o hk,hc,⟨n,by simpa using hs⟩,hdn⟩,?_⟩;have e:=r.length;simp only[N7]at e;lia
theorem Inv.tuple(I:Inv X pr σ H s)(h:SqT X.K H a xs):∃Cc:List Value,Vals xs Cc/\IsTup s.heap a Cc.toArray/\xs.length<=sizeLine:=by
 obtain⟨Cc,r,p,z⟩:=I.tupleN h;exact⟨Cc,r,p.tup,z⟩
theorem Inv.list_inj(I:Inv X pr σ H s)(h:SqL X.K H a xs)(h':SqL X.K H a ys):xs=ys:=by
 obtain⟨Cc,r,⟨o,n,e,_,_,d⟩,_⟩:=I.list h;obtain⟨its',r',⟨o',n',e',_,_,d'⟩,_⟩:=I.list h';rw[e]at e';cases e';rw[d]at d';injection d' with d1 _;have:Cc=its':=by simpa using NY Array.toList d1
 subst this;exact r.inj r'
theorem Inv.tuple_inj(I:Inv X pr σ H s)(h:SqT X.K H a xs)(h':SqT X.K H a ys):xs=ys:=by
 obtain⟨Cc,r,⟨o,e,_,n,d⟩,_⟩:=I.tuple h;obtain⟨its',r',⟨o',e',_,n',d'⟩,_⟩:=I.tuple h';rw[e]at e';cases e';rw[d]at d';injection d' with d1 _;have:Cc=its':=by simpa using NY Array.toList d1
 subst this;exact r.inj r'
end
abbrev Cx.wish(X:Cx)(E:Value->Shared->Prop):Cx:={X with xe:=E}
abbrev Cx.nox(X:Cx):Cx:=X.wish fun _ _=>False
theorem Cx.Ok.wish{X:Cx}(ok:X.Ok)(E:Value->Shared->Prop):(X.wish E).Ok:=
 ⟨ok.mod,ok.kind,ok.glob,ok.blt,ok.above,ok.inj,ok.has,ok.cab,ok.hd,ok.frames,ok.stk,ok.exf,ok.bs,ok.bsz,ok.noex,ok.exfs,ok.funs,ok.frf⟩
theorem Cx.Ok.unwish{X:Cx}{E:Value->Shared->Prop}(ok:(X.wish E).Ok):X.Ok:=
 ⟨ok.mod,ok.kind,ok.glob,ok.blt,ok.above,ok.inj,ok.has,ok.cab,ok.hd,ok.frames,ok.stk,ok.exf,ok.bs,ok.bsz,ok.noex,ok.exfs,ok.funs,ok.frf⟩
section
variable{X:Cx}{pr:List (Addr×Obj)}{σ:St}{H:Hp}{s:Shared}{E:Value->Shared->Prop}
theorem Inv.wish(I:Inv X pr σ H s)(E:Value->Shared->Prop):Inv (X.wish E) pr σ H s:=⟨I.ok.wish E,I.os,I.bare,I.base,I.loc,I.cell,I.free,I.freeC,I.pin,I.hok,I.len⟩
theorem Inv.unwish(I:Inv (X.wish E) pr σ H s):Inv X pr σ H s:=⟨I.ok.unwish,I.os,I.bare,I.base,I.loc,I.cell,I.free,I.freeC,I.pin,I.hok,I.len⟩
theorem SP.unwish{D:Ends}{f:Flow}{s':Shared}(h:SP (X.wish E) pr D f s'):SP X pr D f s':=by
 cases f with
 |next=>obtain⟨σ',H',I,q⟩:=h;exact⟨σ',H',I.unwish,q⟩
 |brk=>obtain⟨σ',H',I,q⟩:=h;exact⟨σ',H',I.unwish,q⟩
 |cont=>obtain⟨σ',H',I,q⟩:=h;exact⟨σ',H',I.unwish,q⟩
 |ret u=>obtain⟨v,σ',H',I,r,q⟩:=h;exact⟨v,σ',H',I.unwish,r,q⟩
theorem PT.nox{e:Expr}{t:TT}(h:PT X.nox e t):PT X e t:=fun pr s σ H Q I hw=>
 NL (h pr s σ H Q (I.wish _) hw) (fun _ _ ⟨H',I',q⟩=>⟨H',I'.unwish,q⟩) fun _ _ z=>False.elim z
theorem PSs.nox{st:List Stmt}{t:TS}(h:PSs X.nox st t):PSs X st t:=fun pr s σ H D I hw=>
 NL (h pr s σ H D (I.wish _) hw) (fun _ _ q=>q.unwish) fun _ _ z=>False.elim z
end
section
variable{X:Cx}{st:Stmt}{cj:List Stmt}{t u:TS}{e:Expr}{te:TE}{pos:Pos}
def zw:TS:=fun D σ H=>D.nx σ H
def Bf(t u:TS):TS:=fun D σ H=>t {D with nx:=u D} σ H
theorem oM:PSs X [] zw:=fun _ _ σ H _ I h=>O3 ⟨σ,H,I,h⟩
theorem mf(h1:PS X st t)(h2:PSs X cj u):PSs X (st::cj) (Bf t u):=by
 intro pr s σ H D I h;refine OJ (Cs (h1 pr s σ H {D with nx:=u D} I h) fun f s1 q=>?_);cases f with
 |next=>
  obtain⟨σ',H',I',q⟩:=q;exact h2 pr s1 σ' H' D I' q
 |ret v=>exact q
 |brk=>exact q
 |cont=>exact q
theorem uM(h1:PS X st t):PSs X [st] t:=by
 intro pr s σ H D I h;refine OJ (Cs (h1 pr s σ H D I h) fun f s1 q=>?_);cases f with
 |next=>exact O3 q
 |ret v=>exact q
 |brk=>exact q
 |cont=>exact q
theorem Inv.quiet{pr:List (Addr×Obj)}{σ:St}{H:Hp}{s:Shared}(I:Inv X pr σ H s):interactive X.env=false:=by simp[interactive,I.ok.kind]
def zx(te:TE):TS:=fun D σ H=>te σ H fun _ H1=>D.nx σ H1
theorem uN(he:PE X e te)(hs:swapsWith e none pos.line X.env=pure false:=by rfl):PS X (.Expr e pos) (zx te):=by
 intro pr s σ H D I h;exact wpAny_Expr_any (Cs (he pr s σ H _ I h) fun v s1 ⟨x,H1,I1,r1,q1⟩=>⟨σ,H1,I1,q1⟩) I.quiet hs
def Bg(te:TE):TS:=fun D σ H=>te σ H D.rt
theorem xi(he:PE X e te):PS X (.Return (some e) pos) (Bg te):=by
 intro pr s σ H D I h;exact wpAny_Return_some (Cs (he pr s σ H _ I h) fun v s1 ⟨x,H1,I1,r1,q1⟩=>⟨x,σ,H1,I1,r1,q1⟩)
def Bh(c:TT)(t u:TS):TS:=fun D σ H=>c σ H fun b H1=>if b=true then t D σ H1 else u D σ H1
theorem zy{c:Expr}{a b:List Stmt}{tc:TT}(hc:PT X c tc)(ha:PSs X a t)(hb:PSs X b u):PS X (.If c a b pos) (Bh tc t u):=by
 intro pr s σ H D I h;refine wpAny_If (Cs (hc pr s σ H _ I h) fun d s1 Cz=>?_);obtain⟨H1,I1,q1⟩:=Cz;cases d with
 |true=>exact ha pr s1 σ H1 D I1 q1
 |false=>exact hb pr s1 σ H1 D I1 q1
def xj:TS:=fun _ _ _=>False
theorem qT:PS X st xj:=fun _ _ _ _ _ _ h=>h.elim
end
abbrev TG:=V->St->Hp->(St->Hp->Prop)->Prop
abbrev Iq:=List V->St->Hp->(St->Hp->Prop)->Prop
def PG(X:Cx)(target:Expr)(t:TG):Prop:=
 ∀(pr:List (Addr×Obj)) (s:Shared) (σ:St) (H:Hp) (v:V) (u:Value) (Q:St->Hp->Prop),Inv X pr σ H s->RelV v u->t v σ H Q->
  wpAny (model X.prog X.w) X.A (assign target X.env u) (fun _ s'=>∃σ' H',Inv X pr σ' H' s'/\Q σ' H') X.xe s
def IF(X:Cx)(ts:List Expr)(t:Iq):Prop:=
 ∀(pr:List (Addr×Obj)) (s:Shared) (σ:St) (H:Hp) (vs:List V) (us:List Value) (Q:St->Hp->Prop),Inv X pr σ H s->Vals vs us->t vs σ H Q->
  wpAny (model X.prog X.w) X.A (assignInOrder ((assignEach ts X.env).map (·.2)) us) (fun _ s'=>∃σ' H',Inv X pr σ' H' s'/\Q σ' H') X.xe s
abbrev Bi:=V->V->V->Hp->(Hp->Prop)->Prop
def Bj(X:Cx)(t:Bi):Prop:=
 ∀(pr:List (Addr×Obj)) (s:Shared) (σ:St) (H:Hp) (o i v:V) (ov iv u:Value) (Q:Hp->Prop),Inv X pr σ H s->RelV o ov->RelV i iv->RelV v u->t o i v H Q->
  wpAny (model X.prog X.w) X.A (setItem ov iv u) (fun _ s'=>∃H',Inv X pr σ H' s'/\Q H') X.xe s
section
variable{X:Cx}{pos:Pos}
def xk(i:Nat):TG:=fun v σ H Q=>Q (σ.set i (some v)) H
theorem uO{i:Nat}{x:Str}(hN:X.N.Nodup)(hi:X.N[i]?=some x)(hx:Loc X.env.scope x)(hf:X.fn x=true\/X.env.scope.names.lookup x=some .local:=by first|exact .inl rfl|exact .inr rfl|assumption):PG X (.Name x pos) (xk i):=by
 intro pr s σ H v u Q I r h;exact wpAny_assign_Name (jr I hN hi hx r (fun s' I'=>⟨_,H,I',h⟩) hf)
def Bk:Iq:=fun vs σ H Q=>vs=[]/\Q σ H
def zH(t:TG)(u:Iq):Iq:=fun vs σ H Q=>∃v r,vs=v::r/\t v σ H fun σ' H'=>u r σ' H' Q
theorem uP:IF X [] Bk:=by
 intro pr s σ H vs us Q I r h;obtain⟨e,h⟩:=h;subst e;cases r;exact assignInOrder_nil ⟨σ,H,I,h⟩
theorem qU{e:Expr}{es:List Expr}{t:TG}{u:Iq}(h1:PG X e t)(h2:IF X es u)
  (hs:(assignEach (e::es) X.env).map (·.2)=assign e X.env::(assignEach es X.env).map (·.2):=by rfl):IF X (e::es) (zH t u):=by
 intro pr s σ H vs us Q I r h;obtain⟨v,vr,e1,h⟩:=h;subst e1;cases r with
 |cons r rr=>
  rw[hs];refine assignInOrder_cons (Cs (h1 pr s σ H _ _ _ I r h) fun _ s1 Cz=>?_);obtain⟨σ1,H1,I1,q1⟩:=Cz;exact h2 pr s1 σ1 H1 _ _ Q I1 rr q1
def Bl(K:W.Frag)(n:Nat)(t:Iq):TG:=fun v σ H Q=>∃a xs,v=.ref a/\SqT K H a xs/\xs.length=n/\t xs σ H Q
theorem xl{es:List Expr}{k:Nat}{t:Iq}{n:Nat}(hc:X.calm=true)(h:IF X es t)
  (hn:(assignEach es X.env).length=n:=by rfl) (Hk:(assignEach es X.env).findIdx? (·.1)=none:=by rfl):PG X (.Tuple es k pos) (Bl X.K n t):=by
 intro pr s σ H v u Q I r hw;obtain⟨a,xs,e1,hq,hl,hw⟩:=hw;subst e1;cases r;obtain⟨Cc,rv,ht,hz⟩:=I.tuple hq;refine assign_Tuple_tuple (I.ok.hd hc) ht (by simp[hn,<-hl,rv.length]) Hk fun h' hx=>?_
 have I1:Inv X pr σ H {s with heap:=h'}:=I.kept (t':=s.toks) fun b o e=>hx b o (Nl (M9 e)) e
 exact h pr _ σ H xs _ Q I1 (by simpa using rv) hw
def Bm(te:TE)(g:TG):TS:=fun D σ H=>te σ H fun x H1=>g x σ H1 D.nx
theorem tL{i:Nat}{x:Str}{e:Expr}{te:TE}{pos':Pos}(hN:X.N.Nodup)(hi:X.N[i]?=some x)(hx:Loc X.env.scope x)(he:PE X e te)(hs:swapsWith e (some (.Name x pos')) pos.line X.env=pure false:=by rfl)(hf:X.fn x=true\/X.env.scope.names.lookup x=some .local:=by first|exact .inl rfl|exact .inr rfl|assumption):
  PS X (.Assign [.Name x pos'] e pos) (Bm te (xk i)):=by
 intro pr s σ H D I h;refine wpAny_Assign_Name (Cs (he pr s σ H _ I h) fun v s1 ⟨y,H1,I1,r1,q1⟩=>?_) hs;exact jr I1 hN hi hx r1 (fun s2 I2=>⟨_,H1,I2,q1⟩) hf
end
section
variable{X:Cx}{pos:Pos}
def xm(c:TT)(tb:TS):TS:=fun D σ H=>∃W:Nat->St->Hp->Prop,(∃m,W m σ H)/\∀m σ H,W m σ H->
 c σ H fun b H1=>if b=true then ∃N:St->Hp->Prop,(∀σ' H',N σ' H'->∃m',m'<m/\W m' σ' H')/\tb {D with nx:=N,ct:=N,bk:=D.nx} σ H1 else D.nx σ H1
theorem qV{c:Expr}{body:List Stmt}{tc:TT}{tb:TS}(hp:PassesOwn (model X.prog X.w) X.A X.env X.xe)(hc:PT X c tc)(hb:PSs X body tb):PS X (.While c body [] pos) (xm tc tb):=by
 intro pr s σ H D I h;obtain⟨W,⟨m0,w0⟩,turn⟩:=h;refine wpAny_While (codeAny_whileLoop (fun n s'=>∃σ' H',Inv X pr σ' H' s'/\W n σ' H') ?_ m0 ⟨σ,H,I,w0⟩);rintro n s1 ⟨σ1,H1,I1,w1⟩;refine OA hp (Cs (hc pr s1 σ1 H1 _ I1 (turn n σ1 H1 w1)) fun b s2 Cz=>?_);obtain⟨H2,I2,q2⟩:=Cz;cases b with
 |true=>
  obtain⟨N,hN,q2⟩:=q2;rw[Nc rfl];refine OA hp (Cs (hb pr s2 σ1 H2 _ I2 q2) fun f s3 q3=>?_);cases f with
  |next=>
   obtain⟨σ3,H3,I3,n3⟩:=q3;obtain⟨m',hm,w3⟩:=hN σ3 H3 n3;exact⟨m',hm,σ3,H3,I3,w3⟩
  |cont=>
   obtain⟨σ3,H3,I3,n3⟩:=q3;obtain⟨m',hm,w3⟩:=hN σ3 H3 n3;exact⟨m',hm,σ3,H3,I3,w3⟩
  |brk=>exact q3
  |ret v=>exact q3
 |false=>
  rw[Ng Nb];exact O3 ⟨σ1,H2,I2,q2⟩
end
structure It where
 go:Nat->Hp->Prop
 yld:Nat->Hp->V->Hp->Prop
 stop:Nat->Hp->Prop
def oF(X:Cx)(pr:List (Addr×Obj))(H:Hp)(b:Addr):Prop:=
 H b=none/\b≠X.env.locals/\b∉X.fs/\(b∈X.ex\/X.s₀.heap.objs.size<=b)/\(∀x c,X.env.cells.lookup x=some c->c≠b)/\∀p∈X.pn++pr,p.1≠b
theorem Inv.fpOk{X:Cx}{pr:List (Addr×Obj)}{σ:St}{H H':Hp}{s:Shared}{b:Addr}(I:Inv X pr σ H s)(hb:s.heap.objs.size<=b)(hn:H' b=none):oF X pr H' b:=by
 refine⟨hn,Rp (Nd I.lt hb),I.nofs hb,.inr (NF I.sz hb),fun x c e z=>?_,fun p hp z=>?_⟩
 ·obtain⟨v,q⟩:=I.cell x c e;exact absurd (Nd q.lt (by rw[z];exact hb)) (OG _)
 ·exact absurd (Nd (M9 (I.pin p hp).1) (by rw[z];exact hb)) (OG _)
structure Turn(P:Program)(w:World)(K:W.Frag)(tg:Expr)(J:It)(fp:List Addr)(it:Addr)(tn:Nat->Heap->Prop):Prop where
 mem:it∈fp
 obj:∀i h,tn i h->∀b∈fp,∃o,h.get? b=some o/\∀v,o.data≠.cell v
 keep:∀i h h',tn i h->(∀b∈fp,∀o,h.get? b=some o->h'.get? b=some o)->tn i h'
 item:∀(X:Cx),X.prog=P->X.w=w->X.K=K->X.calm=true->∀(i:Nat) (pr:List (Addr×Obj)) (s:Shared) (σ:St) (H:Hp) (E:Value->Shared->Prop),Inv X pr σ H s->(∀b∈fp,oF X pr H b)->tn i s.heap->J.go i H->
  wpAny (model P w) X.A (pyNext (.ref it)) (fun r s1=>∃u,r=some u/\
   wpAny (model P w) X.A (letOwnedTupleGo tg (.ref it) u) (fun _ s2=>∃x H',Inv X pr σ H' s2/\RelV x u/\J.yld i H x H'/\tn (i+1) s2.heap/\∀b∈fp,H' b=none) E s1) E s
 done:∀(X:Cx),X.prog=P->X.w=w->X.K=K->X.calm=true->∀(i:Nat) (pr:List (Addr×Obj)) (s:Shared) (σ:St) (H:Hp) (E:Value->Shared->Prop),Inv X pr σ H s->(∀b∈fp,oF X pr H b)->tn i s.heap->J.stop i H->
  wpAny (model P w) X.A (pyNext (.ref it)) (fun r s1=>r=none/\Inv X pr σ H s1) E s
 self:∀(A:Around) (i:Nat) (s:Shared) (Q:Value->Shared->Prop) (E:Value->Shared->Prop),tn i s.heap->Q (.ref it) s->wpAny (model P w) A (pyIter (.ref it)) Q E s
abbrev TI:=St->Hp->(It->Hp->Prop)->Prop
def Mn(X:Cx)(pr:List (Addr×Obj))(σ:St)(tg:Expr)(R:It->Hp->Prop)(K5:Value)(s2:Shared):Prop:=
 ∃(it:Addr) (fp:List Addr) (tn:Nat->Heap->Prop) (J:It) (H':Hp),K5=.ref it/\Inv X pr σ H' s2/\Turn X.prog X.w X.K tg J fp it tn/\tn 0 s2.heap/\(∀b∈fp,oF X pr H' b)/\R J H'
def PI(X:Cx)(tg iter:Expr)(wi:TI):Prop:=
 ∀(pr:List (Addr×Obj)) (s:Shared) (σ:St) (H:Hp) (R:It->Hp->Prop),Inv X pr σ H s->wi σ H R->
  wpAny (model X.prog X.w) X.A (eval iter X.env) (fun v s1=>wpAny (model X.prog X.w) X.A (pyIter v) (Mn X pr σ tg R) X.xe s1) X.xe s
theorem qW {M : Model} {A : Around} {E : Value -> Shared -> Prop} {s : Shared} {tg : Expr} {it : Addr} {u : Value} {o : Obj} {n : String} {vs : Array Value} {Q : Unit -> Shared -> Prop} (ho : s.heap.get? it = some o) (hc : o.cls = .type n) (hd : o.data = .fields vs)
    (hn : ["enumerate", "zip", "dict_itemiterator", "dict_reverseitemiterator", "odict_iterator", "itertools.zip_longest", "itertools.pairwise"].contains n = false) (hQ : Q () s) : wpAny M A (letOwnedTupleGo tg (.ref it) u) Q E s := by
  unfold letOwnedTupleGo
  cases tg <;> first
    | exact M4 hQ
    | (cases u <;> first
        | exact M4 hQ
        | (refine M3 (wpAny_load ho ?_)
           rw [hc, hd]
           show wpAny M A (if (["enumerate", "zip", "dict_itemiterator", "dict_reverseitemiterator", "odict_iterator", "itertools.zip_longest", "itertools.pairwise"].contains n && vs[0]? == some (rawInt _)) = true then _ else _) Q E s
           rw [Ng (by intro h; rw [hn, QM] at h; cases h)]
           exact M4 hQ))
def JG(K:W.Frag)(a:Addr):It:=
 ⟨fun i H=>∃xs x,SqL K H a xs/\xs[i]?=some x,fun i H x H'=>H'=H/\∀xs,SqL K H a xs->xs[i]?=some x,fun i H=>∃xs,SqL K H a xs/\xs.length<=i⟩
def Ly(K:W.Frag)(a:Addr):It:=
 ⟨fun i H=>∃xs x,SqT K H a xs/\xs[i]?=some x,fun i H x H'=>H'=H/\∀xs,SqT K H a xs->xs[i]?=some x,fun i H=>∃xs,SqT K H a xs/\xs.length<=i⟩
def K6(lo:Int)(n:Nat):It:=⟨fun i _=>i<n,fun i H x H'=>H'=H/\x=.int (lo+i),fun i _=>n<=i⟩
theorem oN{P:Program}{w:World}{K:W.Frag}{tg:Expr}(a it:Addr):Turn P w K tg (JG K a) [it] it (fun i h=>h.IsListIter it a i) where
 mem:=by simp
 obj:=fun i h st b hb=>by
  have e:b=it:=by simpa using hb
  subst e;obtain⟨o,e,c,d⟩:=st;exact⟨o,e,fun v z=>by rw[d]at z;cases z⟩
 keep:=fun i h h' st k=>st.at fun o e=>k it (by simp) o e
 item:=by
  intro X hP hw hK hc i pr s σ H E I hf st hg;subst hP hw hK;obtain⟨xs,x,hq,hx⟩:=hg;obtain⟨Cc,rv,p,hz⟩:=I.list hq;obtain⟨u,hu,ru⟩:=rv.get hx;obtain⟨f0,f1,f2,f3,f4,f5⟩:=hf it (by simp);refine wpAny_pyNext_list_item st p.isList (x:=u) (by simpa using hu) fun h' E6 sb=>?_
  have I1:Inv X pr σ H {s with heap:=h'}:=I.turned (t':=s.toks) (fun b o hb e=>(sb.2 b hb).trans e) f0 f1 f3 f4 f5;obtain⟨o,e,c,d⟩:=id E6;exact⟨u,rfl,qW (s:={s with heap:=h'}) e c d (by decide) ⟨x,H,I1,ru,⟨rfl,fun ys hy=>by rw[I.list_inj hy hq];exact hx⟩,E6,fun b hb=>(hf b hb).1⟩⟩
 done:=by
  intro X hP hw hK hc i pr s σ H E I hf st hg;subst hP hw hK;obtain⟨xs,hq,hx⟩:=hg;obtain⟨Cc,rv,p,hz⟩:=I.list hq;obtain⟨f0,f1,f2,f3,f4,f5⟩:=hf it (by simp);have hl:=rv.length;exact wpAny_pyNext_list_end (I.ok.hd hc) st p.isList (by simp;lia) fun h' eb=>⟨rfl,I.turned (t':=s.toks) (fun b o hb e=>eb b o hb e) f0 f1 f3 f4 f5⟩
 self:=fun _ _ _ _ _ st h=>wpAny_pyIter_listiter st h
theorem nI{P:Program}{w:World}{K:W.Frag}{tg:Expr}(a it:Addr):Turn P w K tg (Ly K a) [it] it (fun i h=>h.IsTupleIter it a i) where
 mem:=by simp
 obj:=fun i h st b hb=>by
  have e:b=it:=by simpa using hb
  subst e;obtain⟨o,e,c,d⟩:=st;exact⟨o,e,fun v z=>by rw[d]at z;cases z⟩
 keep:=fun i h h' st k=>st.at fun o e=>k it (by simp) o e
 item:=by
  intro X hP hw hK hc i pr s σ H E I hf st hg;subst hP hw hK;obtain⟨xs,x,hq,hx⟩:=hg;obtain⟨Cc,rv,p,hz⟩:=I.tuple hq;obtain⟨u,hu,ru⟩:=rv.get hx;obtain⟨f0,f1,f2,f3,f4,f5⟩:=hf it (by simp);refine wpAny_pyNext_tuple_item st (show s.heap.IsTuple a Cc.toArray from p) (x:=u) (by simpa using hu) fun h' E6 sb=>?_
  have I1:Inv X pr σ H {s with heap:=h'}:=I.turned (t':=s.toks) (fun b o hb e=>(sb.2 b hb).trans e) f0 f1 f3 f4 f5;obtain⟨o,e,c,d⟩:=id E6;exact⟨u,rfl,qW (s:={s with heap:=h'}) e c d (by decide) ⟨x,H,I1,ru,⟨rfl,fun ys hy=>by rw[I.tuple_inj hy hq];exact hx⟩,E6,fun b hb=>(hf b hb).1⟩⟩
 done:=by
  intro X hP hw hK hc i pr s σ H E I hf st hg;subst hP hw hK;obtain⟨xs,hq,hx⟩:=hg;obtain⟨Cc,rv,p,hz⟩:=I.tuple hq;obtain⟨f0,f1,f2,f3,f4,f5⟩:=hf it (by simp);have hl:=rv.length;exact wpAny_pyNext_tuple_end (I.ok.hd hc) st (show s.heap.IsTuple a Cc.toArray from p) (by simp;lia) fun h' eb=>⟨rfl,I.turned (t':=s.toks) (fun b o hb e=>eb b o hb e) f0 f1 f3 f4 f5⟩
 self:=fun _ _ _ _ _ st h=>wpAny_pyIter_tupleiter st h
theorem nJ{P:Program}{w:World}{K:W.Frag}{tg:Expr}(it:Addr)(lo:Int)(n:Nat):Turn P w K tg (K6 lo n) [it] it (fun i h=>IsRangeIter h it (lo+(i:Nat)*1) ((n:Int)-(i:Nat)) 1) where
 mem:=by simp
 obj:=fun i h st b hb=>by
  have e:b=it:=by simpa using hb
  subst e;exact⟨_,st,fun v z=>by
   have z':Data.fields _=Data.cell v:=z;cases z'⟩
 keep:=fun i h h' st k=>k it (by simp) _ st
 item:=by
  intro X hP hw hK hc i pr s σ H E I hf st hg;subst hP hw hK;obtain⟨f0,f1,f2,f3,f4,f5⟩:=hf it (by simp);have W:=Walks.range (prog:=X.prog) (w:=X.w) (I.ok.hd hc) it lo 1 n;refine W.item i s _ _ hg st fun v h' tk hv E6 kk=>?_
  obtain⟨t,rfl⟩:=hv;have I1:Inv X pr σ H {s with heap:=h',toks:=tk}:=I.turned (fun b o hb e=>kk b o (by simpa using hb) e) f0 f1 f3 f4 f5;refine⟨_,rfl,qW (s:={s with heap:=h',toks:=tk}) (n:="range_iterator") E6 rfl rfl (by decide) ⟨.int (lo+i),H,I1,⟨t,?_⟩,⟨rfl,rfl⟩,E6,fun b hb=>(hf b hb).1⟩⟩;rw[Int.mul_one]
 done:=by
  intro X hP hw hK hc i pr s σ H E I hf st hg;subst hP hw hK;obtain⟨f0,f1,f2,f3,f4,f5⟩:=hf it (by simp);exact wpAny_pyNext_range_end (I.ok.hd hc) st (by have:n<=i:=hg;lia) fun h' eb=>⟨rfl,I.turned (t':=s.toks) (fun b o hb e=>eb b o hb e) f0 f1 f3 f4 f5⟩
 self:=fun _ _ _ _ _ st h=>wpAny_pyIter_rangeiter st h
section
variable{X:Cx}{tg:Expr}
def zI(K:W.Frag)(tl:TE):TI:=fun σ H R=>tl σ H fun x H1=>∃a,x=.ref a/\(∃xs,SqL K H1 a xs)/\R (JG K a) H1
def Bn(K:W.Frag)(tl:TE):TI:=fun σ H R=>tl σ H fun x H1=>∃a,x=.ref a/\(∃xs,SqT K H1 a xs)/\R (Ly K a) H1
theorem oO{l:Expr}{tl:TE}(hl:PE X l tl):PI X tg l (zI X.K tl):=by
 intro pr s σ H R I h;refine Cs (hl pr s σ H _ I h) fun v s1 Cz=>?_
 obtain⟨x,H1,I1,r1,q1⟩:=Cz;obtain⟨a,e,⟨xs,hq⟩,q⟩:=q1;subst e;cases r1;obtain⟨Cc,rv,p,hz⟩:=I1.list hq;refine OB p.isList ?_;refine⟨s1.heap.objs.size,[s1.heap.objs.size],_,_,H1,rfl,I1.kept (t':=s1.toks) fun b o e=>Heap.get?_push_of_some _ e,oN a _,⟨_,Heap.get?_push_size _ rfl,rfl,rfl⟩,fun b hb=>?_,q⟩;have e:b=s1.heap.objs.size:=by simpa using hb
 subst e;exact I1.fpOk (M8 _) (I1.hok.fresh (M8 _))
theorem xn{l:Expr}{tl:TE}(hl:PE X l tl):PI X tg l (Bn X.K tl):=by
 intro pr s σ H R I h;refine Cs (hl pr s σ H _ I h) fun v s1 Cz=>?_
 obtain⟨x,H1,I1,r1,q1⟩:=Cz;obtain⟨a,e,⟨xs,hq⟩,q⟩:=q1;subst e;cases r1;obtain⟨Cc,rv,p,hz⟩:=I1.tuple hq;refine Ot (show s1.heap.IsTuple a Cc.toArray from p) ?_;refine⟨s1.heap.objs.size,[s1.heap.objs.size],_,_,H1,rfl,I1.kept (t':=s1.toks) fun b o e=>Heap.get?_push_of_some _ e,nI a _,⟨_,Heap.get?_push_size _ rfl,rfl,rfl⟩,fun b hb=>?_,q⟩;have e:b=s1.heap.objs.size:=by simpa using hb
 subst e;exact I1.fpOk (M8 _) (I1.hok.fresh (M8 _))
theorem qX{pr:List (Addr×Obj)}{σ:St}{H:Hp}{s:Shared}{R:It->Hp->Prop}{E:Value->Shared->Prop}{lo hi:Int}{t u v:Tok}{tk:Nat}(I:Inv X pr σ H s)(h1:-(2 ^ 62)<=lo)(h2:lo<2 ^ 62)(h3:-(2 ^ 62)<=hi)(h4:hi<2 ^ 62)
  (q:R (K6 lo (hi-lo).toNat) H):wpAny (model X.prog X.w) X.A (pyIter (.ref s.heap.objs.size)) (Mn X pr σ tg R) E {s with heap:=s.heap.push {cls:=.type "range",data:=.fields #[.int lo t,.int hi u,.int 1 v]},toks:=tk}:=by
 refine wpAny_pyIter_range (IsRange.new ..) (small_one h1 h2 h3 h4) ?_;have I1:Inv X pr σ H {s with heap:=s.heap.push {cls:=.type "range",data:=.fields #[.int lo t,.int hi u,.int 1 v]},toks:=tk}:=I.kept fun b o e=>Heap.get?_push_of_some _ e
 refine⟨(s.heap.push {cls:=.type "range",data:=.fields #[.int lo t,.int hi u,.int 1 v]}).objs.size,[(s.heap.push {cls:=.type "range",data:=.fields #[.int lo t,.int hi u,.int 1 v]}).objs.size],_,_,H,rfl,
  I1.kept (t':=tk) fun b o e=>Heap.get?_push_of_some _ e,nJ _ lo (hi-lo).toNat,?_,fun b hb=>?_,q⟩
 ·have e1:lo+((0:Nat):Int)*1=lo:=by simp
  have e2:(((hi-lo).toNat:Nat):Int)-((0:Nat):Int)=Builtin.Range.rangeSize lo hi 1:=by rw[rangeSize_one];split <;> lia
  show IsRangeIter _ _ (lo+((0:Nat):Int)*1) ((((hi-lo).toNat:Nat):Int)-((0:Nat):Int)) 1;rw[e1,e2];exact Heap.get?_push_size _ rfl
 ·have e:b=(s.heap.push {cls:=.type "range",data:=.fields #[.int lo t,.int hi u,.int 1 v]}).objs.size:=by simpa using hb
  subst e;exact I1.fpOk (M8 _) (I1.hok.fresh (M8 _))
def zJ(ta:TA):TI:=fun σ H R=>ta σ H fun vs H1=>∃j:Int,vs=[.int j]/\-(2 ^ 62)<=j/\j<2 ^ 62/\R (K6 0 j.toNat) H1
theorem oP{a:Expr}{ta:TA}{p pos:Pos}(hg:Gl X "range")(hm:X.mg "range" = none)(ha:PA X [a] ta)(hs:starEach [a] X.env=[(false,eval a X.env)]:=by rfl):PI X tg (.Call (.Name "range" p) [a] [] pos) (zJ ta):=by
 intro pr s σ H R I h;refine Call_ (ke I hg hm boot_range (ON (Cs (ha pos pr s σ H _ I h) fun us s1 ⟨vs,H1,I1,r1,q1⟩=>?_) hs rfl));obtain⟨j,e,q1,q2,q⟩:=q1;subst e;cases r1 with
 |cons r rr=>
  cases rr;obtain⟨t,rfl⟩:=r;exact call_range_1 (qX I1 (by lia) (by lia) q1 q2 (by simpa using q))
noncomputable def Bo(wi:TI)(g:TG)(tb:TS):TS:=fun D σ H=>wi σ H fun J H1=>∃W:Nat->Nat->St->Hp->Prop,(∃m,W 0 m σ H1)/\∀i m σ H,W i m σ H->
 (J.stop i H/\D.nx σ H)\/(J.go i H/\∃N:St->Hp->Prop,(∀σ' H',N σ' H'->∃m',m'<m/\W (i+1) m' σ' H')/\∀x H',J.yld i H x H'->g x σ H' fun σ2 H2=>tb {D with nx:=N,ct:=N,bk:=D.nx} σ2 H2)
def kg(fp:List Addr)(h:Heap):List (Addr×Obj):=fp.filterMap fun b=>(h.get? b).map fun o=>(b,o)
theorem et{fp:List Addr}{h:Heap}{b:Addr}{o:Obj}(hb:b∈fp)(e:h.get? b=some o):(b,o)∈kg fp h:=PK.mpr ⟨b,hb,by rw[e];rfl⟩
theorem oQ{fp:List Addr}{h:Heap}{p:Addr×Obj}(hp:p∈kg fp h):p.1∈fp/\h.get? p.1=some p.2:=by
 obtain⟨b,hb,e⟩:=PK.mp hp;cases q:h.get? b with
 |none=>rw[q]at e;cases e
 |some o=>
  rw[q]at e;have e':(b,o)=p:=Nw e;subst e';exact⟨hb,q⟩
theorem Inv.pinned{pr:List (Addr×Obj)}{σ:St}{H:Hp}{s:Shared}{fp:List Addr}(I:Inv X pr σ H s)(hf:∀b∈fp,oF X pr H b)(ho:∀b∈fp,∃o,s.heap.get? b=some o/\∀v,o.data≠.cell v):Inv X (pr++kg fp s.heap) σ H s:=
 I.pins_of fun p hp=>(Ny.mp hp).elim (fun z=>I.pin p (Na _ z)) fun z=>by
  obtain⟨hb,e⟩:=oQ z;obtain⟨f0,f1,f2,_⟩:=hf p.1 hb;obtain⟨o,e',d⟩:=ho p.1 hb;rw[e]at e';cases e';exact⟨e,f0,f1,f2,d⟩
theorem Inv.unpinned{pr pl:List (Addr×Obj)}{σ:St}{H:Hp}{s:Shared}(I:Inv X (pr++pl) σ H s):Inv X pr σ H s:=I.pins_of fun p hp=>I.pin p (Na _ (Np _ hp))
theorem xo{iter:Expr}{body:List Stmt}{wi:TI}{g:TG}{tb:TS}{pos:Pos}(hp:PassesOwn (model X.prog X.w) X.A X.env X.xe)(hc:X.calm=true)(hi:PI X tg iter wi)(hg:PG X tg g)(hb:PSs X body tb)
  (hs:∀x,foldedSetIterable iter X.env x=pure x:=by intro _;rfl):PS X (.For tg iter body [] pos) (Bo wi g tb):=by
 intro pr s σ H D I h;refine wpAny_For (Cs (hi pr s σ H _ I h) fun v s1 h1=>Cs h1 fun K5 s2 h2=>?_) hs;obtain⟨it,fp,tn,J,H2,e,I2,T,Cj,f2,W,⟨m0,w0⟩,turn⟩:=h2;subst e;have Fs:∀{H':Hp},(∀b∈fp,H' b=none)->∀b∈fp,oF X pr H' b:=fun hn b hb=>⟨hn b hb,(f2 b hb).2⟩
 refine codeAny_forLoop_any (fun n s'=>∃i σ' H',Inv X pr σ' H' s'/\tn i s'.heap/\(∀b∈fp,H' b=none)/\W i n σ' H') ?_ m0 ⟨0,σ,H2,I2,Cj,fun b hb=>(f2 b hb).1,w0⟩;rintro n s3 ⟨i,σ3,H3,I3,CV,J4,w3⟩;rcases turn i n σ3 H3 w3 with⟨stop,qn⟩|⟨go,N,hN,step⟩
 ·refine OA hp (Cs (T.done X rfl rfl rfl hc i pr s3 σ3 H3 X.xe I3 (Fs J4) CV stop) fun r s4 Cz=>?_);obtain⟨hr,I4⟩:=Cz;subst hr;exact O3 ⟨σ3,H3,I4,qn⟩
 ·refine OA hp (Cs (T.item X rfl rfl rfl hc i pr s3 σ3 H3 X.xe I3 (Fs J4) CV go) fun r s4 Cz=>?_);obtain⟨u,hr,h4⟩:=Cz;subst hr;refine OA hp (Cs h4 fun _ s5 Cz=>?_);obtain⟨x,H5,I5,r5,y5,En,Lz⟩:=Cz;have LA:=I5.pinned (Fs Lz) (T.obj _ _ En);refine OA hp (Cs (hg _ s5 σ3 H5 x u _ LA r5 (step x H5 y5)) fun _ s6 Cz=>?_);obtain⟨σ6,H6,I6,q6⟩:=Cz;refine OA hp (Cs (hb _ s6 σ6 H6 _ I6 q6) fun f s7 q7=>?_);have again:∀{σ7:St}{H7:Hp},Inv X (pr++kg fp s5.heap) σ7 H7 s7->N σ7 H7->∃m,m<n/\∃i σ' H',Inv X pr σ' H' s7/\tn i s7.heap/\(∀b∈fp,H' b=none)/\W i m σ' H':=fun{σ7 H7} I7 n7=>by
   obtain⟨m',hm,w7⟩:=hN σ7 H7 n7;refine⟨m',hm,i+1,σ7,H7,I7.unpinned,T.keep _ _ _ En fun b hb o e=>(I7.pin (b,o) (Na _ (Na _ (et hb e)))).1,fun b hb=>?_,w7⟩;obtain⟨o,e,d⟩:=T.obj _ _ En b hb;exact(I7.pin (b,o) (Na _ (Na _ (et hb e)))).2.1
  cases f with
  |next=>obtain⟨σ7,H7,I7,n7⟩:=q7;exact again I7 n7
  |cont=>obtain⟨σ7,H7,I7,n7⟩:=q7;exact again I7 n7
  |brk=>obtain⟨σ7,H7,I7,q7⟩:=q7;exact⟨σ7,H7,I7.unpinned,q7⟩
  |ret v=>obtain⟨x7,σ7,H7,I7,r7,q7⟩:=q7;exact⟨x7,σ7,H7,I7.unpinned,r7,q7⟩
end
theorem for_list{K:W.Frag}{a:Addr}{xs:List V}{g:TG}{tb:TS}{D:Ends}{σ:St}{H:Hp}(Pv:Nat->St->Hp->Prop)(h0:Pv 0 σ H)(hl:∀i σ H,i<=xs.length->Pv i σ H->SqL K H a xs)
  (hs:∀i x σ H,xs[i]?=some x->Pv i σ H->g x σ H fun σ2 H2=>tb {D with nx:=Pv (i+1),ct:=Pv (i+1),bk:=D.nx} σ2 H2) (hd:∀σ H,Pv xs.length σ H->D.nx σ H):
  ∃W:Nat->Nat->St->Hp->Prop,(∃m,W 0 m σ H)/\∀i m σ H,W i m σ H->
   ((JG K a).stop i H/\D.nx σ H)\/((JG K a).go i H/\∃N:St->Hp->Prop,(∀σ' H',N σ' H'->∃m',m'<m/\W (i+1) m' σ' H')/\∀x H',(JG K a).yld i H x H'->g x σ H' fun σ2 H2=>tb {D with nx:=N,ct:=N,bk:=D.nx} σ2 H2):=by
 refine⟨fun i m σ H=>m=xs.length-i/\i<=xs.length/\Pv i σ H,⟨xs.length,by simp,NG _,h0⟩,?_⟩;rintro i m σ H ⟨rfl,hi,p⟩;have q:=hl i σ H hi p;by_cases Dz:i<xs.length
 ·refine .inr ⟨⟨xs,xs[i],q,by simp[Dz]⟩,Pv (i+1),fun σ' H' p'=>⟨xs.length-(i+1),by lia,rfl,Dz,p'⟩,fun x H' y=>?_⟩;obtain⟨e,y⟩:=y;subst e;exact hs i x σ _ (y xs q) p
 ·have e:i=xs.length:=by lia
  subst e;exact .inl ⟨⟨xs,q,M8 _⟩,hd σ H p⟩
abbrev R2:=V->V->Hp->VK->Prop
def CM(X:Cx)(f:Value->Value->Sem Value)(r:R2):Prop:=
 ∀(pr:List (Addr×Obj)) (s:Shared) (σ:St) (H:Hp) (x y:V) (v u:Value) (Q:VK),Inv X pr σ H s->RelV x v->RelV y u->r x y H Q->
  wpAny (model X.prog X.w) X.A (f v u) (EP X pr σ Q) X.xe s
def de(X:Cx)(f:Value)(r:List V->Hp->VK->Prop):Prop:=
 ∀(pr:List (Addr×Obj)) (s:Shared) (σ:St) (H:Hp) (xs:List V) (us:List Value) (Q:VK),Inv X pr σ H s->Vals xs us->r xs H Q->
  wpAny (model X.prog X.w) X.A (call f us) (EP X pr σ Q) X.xe s
def JH(r:R2)(ta tb:TE):TE:=fun σ H Q=>ta σ H fun x H1=>tb σ H1 fun y H2=>r x y H2 Q
def rI(C:Int->Int->Prop)(g:Int->Int->V):R2:=fun x y H Q=>∃i j,x=.int i/\y=.int j/\C i j/\Q (g i j) H
def Ir(g:Int->Int->V):R2:=fun x y H Q=>∃i j,x=.int i/\y=.int j/\Q (g i j) H
section
variable{X:Cx}{a b c:Expr}{ta tb tc:TE}{pos:Pos}
theorem zL(ha:PE X a ta)(hb:PE X b tb){pr:List (Addr×Obj)}{s:Shared}{σ:St}{H:Hp}{R:V->V->Hp->Prop}(I:Inv X pr σ H s)
  (h:ta σ H fun x H1=>tb σ H1 fun y H2=>R x y H2) {Q:Value->Shared->Prop}{f:Value->Value->Sem Value}
  (hf:∀v u s2 x y H2,Inv X pr σ H2 s2->RelV x v->RelV y u->R x y H2->wpAny (model X.prog X.w) X.A (f v u) Q X.xe s2):
  wpAny (model X.prog X.w) X.A (eval a X.env) (fun v s₁=>wpAny (model X.prog X.w) X.A (eval b X.env) (fun u s₂=>wpAny (model X.prog X.w) X.A (f v u) Q X.xe s₂) X.xe s₁) X.xe s:=by
 refine Cs (ha pr s σ H _ I h) fun v s1 Cz=>?_
 obtain⟨x,H1,I1,r1,q1⟩:=Cz;refine Cs (hb pr s1 σ H1 _ I1 q1) fun u s2 Cz=>?_
 obtain⟨y,H2,I2,r2,q2⟩:=Cz;exact hf v u s2 x y H2 I2 r1 r2 q2
theorem zM{op:Operator}{r:R2}(ho:CM X (binaryOp op) r)(ha:PE X a ta)(hb:PE X b tb):PE X (.BinOp a op b pos) (JH r ta tb):=by
 intro pr s σ H Q I h;exact wpAny_BinOp (zL ha hb I h fun v u s2 x y H2 I2 rx ry q=>ho pr s2 σ H2 x y v u Q I2 rx ry q)
theorem J5{f:Value->Value->Sem Value}{C:Int->Int->Prop}{g:Int->Int->Int}
  (rule:∀(i j:Int) (t u:Tok) (s:Shared) (Q:Value->Shared->Prop) (E:Value->Shared->Prop),C i j->Q (.int (g i j) s.toks) {s with toks:=s.toks+1}->wpAny (model X.prog X.w) X.A (f (.int i t) (.int j u)) Q E s):
  CM X f (rI C fun i j=>.int (g i j)):=by
 intro pr s σ H x y v u Q I rx ry h;obtain⟨i,j,rfl,rfl,hc,q⟩:=h;obtain⟨t,rfl⟩:=rx;obtain⟨t',rfl⟩:=ry;exact rule i j t t' s _ _ hc ⟨.int (g i j),H,I.tok _,⟨_,rfl⟩,q⟩
theorem AW{f:Value->Value->Sem Value}{g:Int->Int->Int}
  (rule:∀(i j:Int) (t u:Tok) (s:Shared) (Q:Value->Shared->Prop) (E:Value->Shared->Prop),Q (.int (g i j) s.toks) {s with toks:=s.toks+1}->wpAny (model X.prog X.w) X.A (f (.int i t) (.int j u)) Q E s):
  CM X f (Ir fun i j=>.int (g i j)):=by
 intro pr s σ H x y v u Q I rx ry h;obtain⟨i,j,rfl,rfl,q⟩:=h;obtain⟨t,rfl⟩:=rx;obtain⟨t',rfl⟩:=ry;exact rule i j t t' s _ _ ⟨.int (g i j),H,I.tok _,⟨_,rfl⟩,q⟩
theorem zi{f:Value->Value->Sem Value}{g:Int->Int->Bool}
  (rule:∀(i j:Int) (t u:Tok) (s:Shared) (Q:Value->Shared->Prop) (E:Value->Shared->Prop),Q (.bool (g i j)) s->wpAny (model X.prog X.w) X.A (f (.int i t) (.int j u)) Q E s):
  CM X f (Ir fun i j=>.bl (g i j)):=by
 intro pr s σ H x y v u Q I rx ry h;obtain⟨i,j,rfl,rfl,q⟩:=h;obtain⟨t,rfl⟩:=rx;obtain⟨t',rfl⟩:=ry;exact rule i j t t' s _ _ ⟨.bl (g i j),H,I,rfl,q⟩
def Bp(i j:Int):Prop:=0<j/\j<1073741824
def Bq(i j:Int):Prop:=0<=j/\j<=1000000/\i.natAbs<2 ^ 64
def CMul(i j:Int):Prop:=(-(2 ^ 64)<i/\i<2 ^ 64)\/(-(2 ^ 64)<j/\j<2 ^ 64)
theorem CMul.ok{i j:Int}(h:CMul i j):IntMulOk i j:=by
 rcases h with⟨h1,h2⟩|⟨h1,h2⟩
 ·exact .of_left (intBits_le_64 h1 h2)
 ·exact .of_right (intBits_le_64 h1 h2)
theorem xp:CM X (binaryOp .Add) (Ir fun i j=>.int (i+j)):=AW fun _ _ _ _ _ _ _ q=>add_int q
theorem xq:CM X (binaryOp .Sub) (Ir fun i j=>.int (i-j)):=AW fun _ _ _ _ _ _ _ q=>sub_int q
theorem xr:CM X (binaryOp .Mult) (rI CMul fun i j=>.int (i*j)):=J5 fun _ _ _ _ _ _ _ hc q=>mul_int q hc.ok
theorem uQ:CM X (binaryOp .FloorDiv) (rI Bp fun i j=>.int (i / j)):=J5 fun i j _ _ _ _ _ hc q=>by
 have h1:(0:Int)<j:=hc.1;have h2:j<1073741824:=hc.2;exact floordiv_int (by lia) (by rw[Int.fdiv_eq_ediv_of_nonneg i (by lia)];exact q) (.inl (PyProof.noPylong_small (by lia)))
theorem xt:CM X (binaryOp .Mod) (rI (fun _ j=>0<j) fun i j=>.int (i%j)):=J5 fun i j _ _ _ _ _ hc q=>by
 have h1:(0:Int)<j:=hc;exact mod_int' (by lia) (by rw[Int.fmod_eq_emod_of_nonneg i (by lia)];exact q)
theorem xu:CM X (binaryOp .Pow) (rI Bq fun i j=>.int (i ^ j.toNat)):=J5 fun _ _ _ _ _ _ _ hc q=>pow_int_small hc.1 hc.2.1 hc.2.2 q
end
section
variable{X:Cx}{a b c:Expr}{ta tb tc:TE}{pos:Pos}
theorem mh{pr:List (Addr×Obj)}{σ:St}{H:Hp}{s:Shared}{Q:VK}{k k':Bool}(I:Inv X pr σ H s)(q:Q (.bl k) H)(e:k=k'):EP X pr σ Q (.bool k') s:=by
 subst e;exact⟨.bl k,H,I,rfl,q⟩
theorem zN:CM X (compareOp .Lt) (Ir fun i j=>.bl (decide (i<j))):=zi fun _ _ _ _ _ _ _ q=>lt_int q
theorem zO:CM X (compareOp .LtE) (Ir fun i j=>.bl (decide (i<=j))):=zi fun _ _ _ _ _ _ _ q=>le_int q
theorem zP:CM X (compareOp .Gt) (Ir fun i j=>.bl (decide (j<i))):=zi fun _ _ _ _ _ _ _ q=>gt_int q
theorem zQ:CM X (compareOp .GtE) (Ir fun i j=>.bl (decide (j<=i))):=zi fun _ _ _ _ _ _ _ q=>ge_int q
theorem oR:CM X (compareOp .Lt) (fun x y H Q=>∃i j,x=.str i/\y=.str j/\Q (.bl (decide (i.cps.toList<j.cps.toList))) H):=by
 intro pr s σ H x y v u Q I rx ry h;obtain⟨i,j,rfl,rfl,q⟩:=h;obtain⟨t,rfl⟩:=rx;obtain⟨t',rfl⟩:=ry;exact lt_str (mh I q rfl)
theorem oS:CM X (compareOp .In) (fun x y H Q=>∃i j,x=.str i/\y=.str j/\Q (.bl (!(Builtin.Str.occurrences j i 0 j.length 1).isEmpty)) H):=by
 intro pr s σ H x y v u Q I rx ry h;obtain⟨i,j,rfl,rfl,q⟩:=h;obtain⟨t,rfl⟩:=rx;obtain⟨t',rfl⟩:=ry;exact in_str (mh I q rfl)
theorem kh:CM X (compareOp .NotIn) (fun x y H Q=>∃i j,x=.str i/\y=.str j/\Q (.bl (!(!(Builtin.Str.occurrences j i 0 j.length 1).isEmpty))) H):=by
 intro pr s σ H x y v u Q I rx ry h;obtain⟨i,j,rfl,rfl,q⟩:=h;obtain⟨t,rfl⟩:=rx;obtain⟨t',rfl⟩:=ry;exact notIn_str (mh I q rfl)
theorem bu(b:Expr){op:CmpOp}(h:op≠.In:=by decide)(h2:op≠.NotIn:=by decide):behindInMarks op b=false:=by
 have e1:(op==CmpOp.In)=false:=by cases op <;> first|rfl|exact absurd rfl h
 have e2:(op==CmpOp.NotIn)=false:=by cases op <;> first|rfl|exact absurd rfl h2
 cases b <;> simp[behindInMarks,e1,e2]
theorem oU{op:CmpOp}{r:R2}(ho:CM X (compareOp op) r)(ha:PE X a ta)(hb:PE X b tb)(hm:behindInMarks op b=false):PE X (.Compare a [op] [b] pos) (JH r ta tb):=by
 intro pr s σ H Q I h;exact wpAny_Compare1 (zL ha hb I h fun v u s2 x y H2 I2 rx ry q=>ho pr s2 σ H2 x y v u Q I2 rx ry q) hm
def xv(t:TE):TT:=fun σ H Q=>t σ H fun x H'=>∃k,x=.bl k/\Q k H'
theorem oV{op:CmpOp}{r:R2}(ho:CM X (compareOp op) r)(ha:PE X a ta)(hb:PE X b tb)(hm:behindInMarks op b=false):PT X (.Compare a [op] [b] pos) (xv (JH r ta tb)):=by
 intro pr s σ H Q I h;refine wpAny_isTrue_Compare1 (Cs (ha pr s σ H _ I h) fun v s1 ⟨x,H1,I1,r1,q1⟩=>Cs (hb pr s1 σ H1 _ I1 q1) fun u s2 ⟨y,H2,I2,r2,q2⟩=>
  Cs (ho pr s2 σ H2 x y v u _ I2 r1 r2 q2) fun c s3 ⟨z,H3,I3,r3,k,e,q3⟩=>?_) hm
 subst e;cases r3;exact N6 ⟨H3,I3,q3⟩
def tM(r r':R2)(ta tb tc:TE):TE:=fun σ H Q=>ta σ H fun x H1=>tb σ H1 fun y H2=>r x y H2 fun z H3=>∃k,z=.bl k/\
 (if k=true then tc σ H3 fun w' H4=>r' y w' H4 Q else Q (.bl false) H3)
theorem qY{op He:CmpOp}{r r':R2}(ho:CM X (compareOp op) r)(F4:CM X (compareOp He) r')(ha:PE X a ta)(hb:PE X b tb)(hc:PE X c tc)
  (hm:lastMarks [op,He] [b,c]=false:=by with_unfolding_all rfl):PT X (.Compare a [op,He] [b,c] pos) (xv (tM r r' ta tb tc)):=by
 intro pr s σ H Q I h;refine isTrue_chain (Cs (ha pr s σ H _ I h) fun v s1 ⟨x,H1,I1,r1,q1⟩=>test_link (Cs (hb pr s1 σ H1 _ I1 q1) fun u s2 ⟨y,H2,I2,r2,q2⟩=>
  Cs (ho pr s2 σ H2 x y v u _ I2 r1 r2 q2) fun d s3 ⟨z,H3,I3,r3,k,e,q3⟩=>?_)) hm
 subst e;cases r3;refine N6 ?_;cases k with
 |false=>
  obtain⟨k',e',q'⟩:=q3;cases e';exact ite_ff ⟨H3,I3,q'⟩
 |true=>
  refine ite_tt (test_last (Cs (hc pr s3 σ H3 _ I3 q3) fun w' s4 ⟨z',H4,I4,r4,q4⟩=>Cs (F4 pr s4 σ H4 y z' u w' _ I4 r2 r4 q4) fun d' s5 Cz=>?_));obtain⟨z2,H5,I5,r5,k2,e2,q5⟩:=Cz;subst e2;cases r5;exact N6 ⟨H5,I5,q5⟩
theorem jc:(sizeLine:Nat)<2 ^ 63:=by rw[NV];decide
theorem nK:CM X (binaryOp .Add) (fun x y H Q=>∃i j,x=.str i/\y=.str j/\i.length+j.length<=sizeLine/\Q (.str (i++j)) H):=by
 intro pr s σ H x y v u Q I rx ry h;obtain⟨i,j,rfl,rfl,hz,q⟩:=h;obtain⟨t,rfl⟩:=rx;obtain⟨t',rfl⟩:=ry;exact add_str (fun t' tk=>⟨.str (i++j),H,I.tok _,⟨_,rfl⟩,q⟩) hz
theorem gK{x:V}{us:List Value}(r:Vals [x] us):∃u,us=[u]/\RelV x u:=by
 cases r with
 |cons r1 r2=>cases r2;exact⟨_,rfl,r1⟩
theorem oW{x y:V}{us:List Value}(r:Vals [x,y] us):∃u w',us=[u,w']/\RelV x u/\RelV y w':=by
 cases r with
 |cons r1 r2=>
  cases r2 with
  |cons r3 r4=>cases r4;exact⟨_,_,rfl,r1,r3⟩
end
section
variable{prog:Program}{w:World}{A:Around}{E:Value->Shared->Prop}{s:Shared}{K:W.Frag}{x dx C f:Addr}{mA:Str->Option Value}{name:Str}{v:Value}
end
theorem RelO.some_of{v:V}{o:Option Value}(r:RelO (some v) o):∃u,o=some u/\RelV v u:=by
 cases o with
 |none=>exact(show False from r).elim
 |some u=>exact⟨u,rfl,r⟩
theorem RelO.none_of{o:Option Value}(r:RelO none o):o=none:=by
 cases o with
 |none=>rfl
 |some u=>exact(show False from r).elim
section
variable{P:Program}{w:World}{H H':Hp}{h h':Heap}{a C dx:Addr}{fs fs':List (Str×V)}
end
structure Cls(K:W.Frag)(C:Addr):Prop where
 pg:PySem.W.plainGet K C Str.empty=true
 hd:PySem.W.hasDictIn K C=true
 po:PySem.W.plainOver K C=true
 sa:PySem.W.findIn K (.ref C) "__setattr__" = some (some (.builtin "object.__setattr__"))
theorem Cls.get{K:W.Frag}{C:Addr}(c:Cls K C)(f:Str):PySem.W.plainGet K C f=true:=c.pg
section
variable{X:Cx}{pr:List (Addr×Obj)}{σ:St}{H:Hp}{s:Shared}{a C dx:Addr}{fs:List (Str×V)}{f:Str}{v:V}{A:Around}{E:Value->Shared->Prop}
end
section
variable{X:Cx}{o e value:Expr}{f:Str}{pos pos' E7:Pos}{ta tv:TE}
end
section
variable{X:Cx}{pr:List (Addr×Obj)}{σ:St}{H:Hp}{s:Shared}{A:Around}{E:Value->Shared->Prop}{Q:Value->Shared->Prop}{c:Value}{b:Bool}
end
structure Room(k:Nat)(A:Around):Prop where
 hd:A.handled=none
 dp:A.depth+3*k+5<recursionLimit
 un:A.units+16*k+200<cLine
theorem Room.mono{j k:Nat}{A:Around}(r:Room k A)(h:j<=k):Room j A:=⟨r.hd,by have:=r.dp;lia,by have:=r.un;lia⟩
theorem Room.m{j k:Nat}{A:Around}(r:Room k A)(h:j<=k:=by decide):Room j A:=r.mono h
theorem Room.deeper{k:Nat}{A:Around}(r:Room (k+1) A)(env:Env):Room k (A.deeper env):=
 ⟨r.hd,by have:=r.dp;show A.depth+1+3*k+5<_;lia,by have:=r.un;show A.units+3+16*k+200<_;lia⟩
theorem Room.depth{k:Nat}{A:Around}(r:Room k A):A.depth<recursionLimit:=by have:=r.dp;lia
theorem Room.units{k:Nat}{A:Around}(r:Room k A):A.units+64<cLine:=by have:=r.un;lia
theorem Room.units0{k:Nat}{A:Around}(r:Room k A):A.units<cLine:=by have:=r.un;lia
def Br:TA:=fun _ H Q=>Q [] H
def zR(ta:TE)(tr:TA):TA:=fun σ H Q=>ta σ H fun x H1=>tr σ H1 fun xs H2=>Q (x::xs) H2
section
variable{X:Cx}{e:Expr}{es:List Expr}{te:TE}{t:TA}{pos:Pos}
theorem g7:PA X [] Br:=fun _ _ _ _ H Q I h=>Calls.spliced_nil ⟨[],H,I,.nil,h⟩
theorem cJ(ha:PE X e te)(hr:PA X es t)(hs:starEach (e::es) X.env=(false,eval e X.env)::starEach es X.env:=by rfl):PA X (e::es) (zR te t):=by
 intro pos pr s σ H Q I h;rw[hs];show wpAny _ _ (spliced ((false,eval e X.env)::backTo pos (starEach es X.env))) _ _ s;refine Calls.spliced_cons (Cs (ha pr s σ H _ I h) fun u s1 Cz=>?_);obtain⟨x,H1,I1,r1,q1⟩:=Cz;exact Cs (hr pos pr s1 σ H1 _ I1 q1) fun us s2 ⟨xs,H2,I2,r2,q2⟩=>⟨x::xs,H2,I2,.cons r1 r2,q2⟩
def Bs(t:TA):TE:=fun σ H Q=>t σ H fun xs H1=>xs.length<=sizeLine/\∀p,H1 p=none->Q (.ref p) (upd H1 p (.tup xs))
def Bt(t:TA):TE:=fun σ H Q=>t σ H fun xs H1=>xs.length<=sizeLine/\∀p,H1 p=none->Q (.ref p) (upd H1 p (.lst xs))
theorem tN{x1}(h:PA X es t):PE X (.Tuple es x1 pos) (Bs t):=by
 intro pr s σ H Q I hq;refine wpAny_Tuple_spliced (Cs (h pos pr s σ H _ I hq) fun us s1 ⟨xs,H1,I1,r,z,q⟩=>⟨by rw[<-r.length];exact z,?_⟩);have hf:H1 s1.heap.objs.size=none:=I1.hok.fresh (M8 _);refine⟨.ref s1.heap.objs.size,upd H1 s1.heap.objs.size (.tup xs),I1.laid (t':=s1.toks) (fun b u e=>Heap.get?_push_of_some _ e) (M8 _) ?_,rfl,q _ hf⟩;exact⟨z,us,r,⟨_,Heap.get?_push_size _ rfl,rfl,⟨_,rfl⟩,rfl⟩⟩
theorem xw(h:PA X es t):PE X (.List es pos) (Bt t):=by
 intro pr s σ H Q I hq;refine wpAny_List_spliced (Cs (h pos pr s σ H _ I hq) fun us s1 ⟨xs,H1,I1,r,z,q⟩=>⟨by rw[<-r.length];exact z,?_⟩);have hf:H1 s1.heap.objs.size=none:=I1.hok.fresh (M8 _);refine⟨.ref s1.heap.objs.size,upd H1 s1.heap.objs.size (.lst xs),I1.laid (t':=s1.toks) (fun b u e=>Heap.get?_push_of_some _ e) (M8 _) ?_,rfl,q _ hf⟩;exact⟨z,us,0,r,Heap.get?_push_size _ rfl⟩
end
abbrev Sp:=List V->Hp->VK->XK->Prop
abbrev F5:=List Env->Hp->Shared->XK->Value->Shared->Prop
structure Env0(P:Program)(w:World)(K:W.Frag)(mg:Str->Option Value)(base:Heap)(A:Around)(outer:List Env)(s:Shared)(H:Hp):Prop where
 frames:A.frames=some outer
 mod:Mod K mg base
 bs:∀b o,base.get? b=some o->s.heap.get? b=some o/\H b=none
 bsz:base.objs.size<=s.heap.objs.size
 funs:s.heap.FunFrames base outer
 frf:∀b∈DS outer,H b=none
 hok:HOk P w H s.heap
 bare:AllBare s.gens
def CE(outer:List Env)(P:Program)(w:World)(H:Hp)(s:Shared)(Q:VK)(u:Value)(s':Shared):Prop:=
 ∃v H',s'.os=s.os/\AllBare s'.gens/\Un (DS outer) [] H H' s.heap s'.heap/\HOk P w H' s'.heap/\RelV v u/\Q v H'
def CR(CX:F5)(outer:List Env)(P:Program)(w:World)(H:Hp)(s:Shared)(Q:VK)(E:XK)(r:Result)(s':Shared):Prop:=
 match r with
 | .ok (.ret u)=>CE outer P w H s Q u s'
 | .ok _=>False
 | .error e=>CX outer H s E e s'
structure FnOk(P:Program)(w:World)(K:W.Frag)(mg:Str->Option Value)(base:Heap)(CX:F5)(k:Nat)(f:Addr)(fd:FuncData)(ps:List Str)(sp:Sp):Prop where
 len:∀vs H Q E,sp vs H Q E->vs.length=ps.length
 run:∀(A:Around) (outer:List Env) (s:Shared) (H:Hp) (args:Args) (us:List Value) (vs:List V) (Q:VK) (E:XK),Room k A->Env0 P w K mg base A outer s H->BindsTo s fd args (ps.zip us)->Vals vs us->sp vs H Q E->
  codeAny (model P w) A (.call (.ref f) args) (CR CX outer P w H s Q E) s
theorem FnOk.imp{P:Program}{w:World}{K:W.Frag}{mg:Str->Option Value}{base:Heap}{CX:F5}{k:Nat}{f:Addr}{fd:FuncData}{ps:List Str}{sp Mp:Sp}(F:FnOk P w K mg base CX k f fd ps sp)
  (h:∀vs H Q E,Mp vs H Q E->sp vs H Q E):FnOk P w K mg base CX k f fd ps Mp:=
 ⟨fun vs H Q E q=>F.len vs H Q E (h _ _ _ _ q),fun A outer s H args us vs Q E hr he hb hv hs=>F.run A outer s H args us vs Q E hr he hb hv (h _ _ _ _ hs)⟩
section
variable{X:Cx}{pr:List (Addr×Obj)}{σ:St}{H:Hp}{s s':Shared}
theorem Inv.env0(I:Inv X pr σ H s):Env0 X.prog X.w X.K X.mg X.base X.A X.stack s H:=
 ⟨I.ok.frames,I.ok.mod,I.bs,NF I.ok.bsz I.sz,I.stack,I.stkFree,I.hok,I.bare⟩
theorem Inv.after{Q:VK}{u:Value}(I:Inv X pr σ H s)(h:CE X.stack X.prog X.w H s Q u s'):EP X pr σ Q u s':=by
 obtain⟨v,H',os,bare,un,hok,r,q⟩:=h;obtain⟨hh,g,d,t,os'⟩:=s';obtain rfl:os'=s.os:=os;exact⟨v,H',I.call (h':=hh) (g':=g) (d':=d) (t':=t) (ch:=[]) un hok bare (fun b z=>absurd z (by simp)),r,q⟩
end
def tCall(sp:Sp)(Iu:List V)(E:XK)(t:TA):TE:=fun σ H Q=>t σ H fun vs H1=>sp (vs++Iu) H1 Q E
def Binds(K:W.Frag)(fd:FuncData)(ps:List Str)(ds:List Value):Prop:=
 ∀(s:Shared) (us:List Value),K.In s.heap->(us++ds).length=ps.length->BindsTo s fd ⟨us,[]⟩ (ps.zip (us++ds))
theorem Binds.all{K:W.Frag}{fd:FuncData}{ps:List Str}(h:∀us:List Value,us.length=ps.length->bindArgs fd ⟨us,[]⟩=pure (ps.zip us)):Binds K fd ps []:=fun s us _ hl=>by
 rw[Nz]at hl ⊢;exact .of_eq (h us hl)
def oX(CX:F5)(X:Cx)(E:XK):Prop:=∀(pr:List (Addr×Obj)) (σ:St) (H:Hp) (s:Shared) (e:Value) (s':Shared),Inv X pr σ H s->CX X.stack H s E e s'->X.xe e s'
section
variable{X:Cx}{CX:F5}{k:Nat}{f C:Addr}{fd:FuncData}{ps:List Str}{sp:Sp}{Iu:List V}{ds:List Value}{E:XK}{x m:Str}{p pos apos:Pos}{e o:Expr}{es:List Expr}{ta:TE}{t:TA}
theorem xx{pr:List (Addr×Obj)}{σ:St}{H:Hp}{s:Shared}{Q:VK}{us:List Value}{vs:List V}(F:FnOk X.prog X.w X.K X.mg X.base CX k f fd ps sp)(hr:Room k X.A)(hb:Binds X.K fd ps ds)(hd:Vals Iu ds)(hx:oX CX X E)
  (I:Inv X pr σ H s) (r:Vals vs us) (h:sp (vs++Iu) H Q E):wpAny (model X.prog X.w) X.A (call (.ref f) us) (EP X pr σ Q) X.xe s:=by
 have r2:Vals (vs++Iu) (us++ds):=r.append hd;have hl:(us++ds).length=ps.length:=by rw[<-r2.length];exact F.len _ _ _ _ h
 refine wpAny_call (Qr (F.run X.A X.stack s H ⟨us,[]⟩ (us++ds) (vs++Iu) Q E hr I.env0 (hb s us I.kIn hl) r2 h) fun r s' hq=>?_);cases r with
 |error e=>exact hx pr σ H s e s' I hq
 |ok fl=>
  cases fl with
  |ret u=>exact I.after hq
  |next=>exact False.elim hq
  |brk=>exact False.elim hq
  |cont=>exact False.elim hq
theorem uR(F:FnOk X.prog X.w X.K X.mg X.base CX k f fd ps sp)(hr:Room k X.A)(hg:Gl X x)(hm:X.mg x=some (.ref f))(hk:PySem.W.keepIn X.K (.ref f)=true)(hb:Binds X.K fd ps ds)(hd:Vals Iu ds)(hx:oX CX X E)
  (ha:PA X (e::es) t) (C9:(x==("__debug__" : Str))=false:=by decide) (he:starEach (e::es) X.env=(false,eval e X.env)::starEach es X.env:=by rfl) (C8:(backTo pos (starEach es X.env)).any (·.1)=false:=by rfl):
  PE X (.Call (.Name x p) (e::es) [] pos) (tCall sp Iu E t):=by
 intro pr s σ H Q I h;refine OL (g6 I hg hm ?_ C9);refine Q5 (h₀:=X.base) I.ok.mod.kin hk (Cs (ha pos pr s σ H _ I h) fun us s1 ⟨vs,H1,I1,r,q⟩=>⟨I1.kIn,?_⟩) he C8;exact xx F hr hb hd hx I1 r q
end
section
variable{X:Cx}{CX:F5}{k:Nat}{f C:Addr}{fd:FuncData}{ps ks:List Str}{sp:Sp}{E:XK}{x m:Str}{p pos apos J6:Pos}{e o:Expr}{es:List Expr}{kws:List Keyword}{te ta:TE}{t tk:TA}{nm:Option Str}
variable{g:List Value->List Value->List Value}{gV:List V->List V->List V}
end
structure FnScope(N P:List Str)(sc:Scope):Prop where
 kind:sc.kind=.function
 co:sc.isCoroutine=false
 gen:sc.isGenerator=false
 nd:N.Nodup
 pre:N.take P.length=P
 par:∀x∈P,sc.names.lookup x=some .local\/sc.names.lookup x=some .cell
 nofree:∀y∈sc.names,y.2≠.free
theorem fs{N P:List Str}{sc:Scope}(a:sc.kind=.function:=by rfl)(b:sc.isCoroutine=false:=by rfl)(c:sc.isGenerator=false:=by rfl)(d:N.Nodup:=by decide +kernel)(e:N.take P.length=P:=by rfl)(f:∀x∈P,sc.names.lookup x=some .local\/sc.names.lookup x=some .cell:=by decide +kernel)(g:∀y∈sc.names,y.2≠.free:=by decide +kernel):FnScope N P sc:=⟨a,b,c,d,e,f,g⟩
theorem ki{kindOf:Str->Option NameKind}{x:Str}:∀{binds:List (Str×Value)}{m:Str->Option Value},(∀v,(x,v)∉binds)->bindL kindOf binds m x=m x
 |[],_,_=>rfl
 |(n,v)::r,m,h=>by
  unfold bindL;rw[ki fun w hw=>h w (Nj _ hw)];split
  ·have:x≠n:=by rintro rfl;exact h v M7
   simp[this]
  ·rfl
theorem kj{kindOf:Str->Option NameKind}{x:Str}:∀{binds:List (Str×Value)}{m:Str->Option Value},(∀v,(x,v)∉binds)->bindC kindOf binds m x=m x
 |[],_,_=>rfl
 |(n,v)::r,m,h=>by
  unfold bindC;rw[kj fun w hw=>h w (Nj _ hw)];split
  ·rfl
  ·have:x≠n:=by rintro rfl;exact h v M7
   simp[this]
theorem kl{kindOf:Str->Option NameKind}{x:Str}{v:Value}:∀{P:List Str}{vs:List Value}{i:Nat}{m:Str->Option Value},P.Nodup->P[i]?=some x->vs[i]?=some v->kindOf x=some .local->
  bindL kindOf (P.zip vs) m x=some v
 |[],_,_,_,_,h,_,_=>by simp at h
 |_::_,[],_,_,_,_,h,_=>by simp at h
 |p::P,w::vs,0,m,nd,h1,h2,hk=>by
  simp at h1 h2;subst h1;subst h2;show bindL kindOf ((p,w)::P.zip vs) m p=_;unfold bindL;rw[ki fun v hv=>(Oh.mp nd).1 (OO hv).1,Nc hk];simp
 |p::P,w::vs,i+1,m,nd,h1,h2,hk=>by
  show bindL kindOf ((p,w)::P.zip vs) m x=_;unfold bindL;exact kl (i:=i) (Oh.mp nd).2 (by simpa using h1) (by simpa using h2) hk
theorem km{kindOf:Str->Option NameKind}{x:Str}{v:Value}:∀{P:List Str}{vs:List Value}{i:Nat}{m:Str->Option Value},P.Nodup->P[i]?=some x->vs[i]?=some v->kindOf x≠some .local->
  bindC kindOf (P.zip vs) m x=some v
 |[],_,_,_,_,h,_,_=>by simp at h
 |_::_,[],_,_,_,_,h,_=>by simp at h
 |p::P,w::vs,0,m,nd,h1,h2,hk=>by
  simp at h1 h2;subst h1;subst h2;show bindC kindOf ((p,w)::P.zip vs) m p=_;unfold bindC;rw[kj fun v hv=>(Oh.mp nd).1 (OO hv).1,Ng hk];simp
 |p::P,w::vs,i+1,m,nd,h1,h2,hk=>by
  show bindC kindOf ((p,w)::P.zip vs) m x=_;unfold bindC;exact km (i:=i) (Oh.mp nd).2 (by simpa using h1) (by simpa using h2) hk
def gL(N:List Str)(vs:List V):St:=vs.map some++List.replicate (N.length-vs.length) none
noncomputable def oY(CX:F5)(P:Program)(w:World)(K:W.Frag)(mg:Str->Option Value)(base:Heap)(N:List Str)(qual:Str)(scope:Scope)(f:Addr)(cd:Value)(A:Around)(outer:List Env)(s:Shared)(H:Hp)(E:XK):Cx where
 prog:=P
 w:=w
 K:=K
 mg:=mg
 base:=base
 A:=A.deeper (envOfC qual scope s.heap.objs.size f cd)
 N:=N
 s₀:=s
 H₀:=H
 env:=envOfC qual scope s.heap.objs.size f cd
 outer:=outer
 stack:=envOfC qual scope s.heap.objs.size f cd::outer
 ex:=[]
 calm:=true
 fn:=fun _=>true
 pn:=[]
 xe:=fun e s'=>wpAny (model P w) (A.deeper (envOfC qual scope s.heap.objs.size f cd)) (leaving (envOfC qual scope s.heap.objs.size f cd) e) (fun _ LB=>CX outer H s E e LB) (fun e' LB=>CX outer H s E e' LB) s'
theorem ml{sc:Scope}{n:Nat}{x:Str}(h:sc.names.lookup x=some .cell):∃c,(cellsFrom n sc.names []).lookup x=some c:=by
 have q:=Qh sc.names n [] (.inl h);exact NW.mp q
theorem oZ{CX:F5}{P:Program}{w:World}{K:W.Frag}{mg:Str->Option Value}{base:Heap}{N ps:List Str}{qual:Str}{scope:Scope}{f:Addr}{cd:Value}{A:Around}{outer:List Env}{s s1:Shared}{H:Hp}{E:XK}{us:List Value}{vs:List V}
  (S:FnScope N ps scope) (hd:A.handled=none) (e0:Env0 P w K mg base A outer s H) (hl:vs.length=ps.length) (r:Vals vs us)
  (x:InCallC s s.heap.objs.size (bindL (envOfC qual scope s.heap.objs.size f cd).kindOf (ps.zip us) fun _=>none) (cellsFrom (s.heap.objs.size+1) scope.names []) (bindC (envOfC qual scope s.heap.objs.size f cd).kindOf (ps.zip us) fun _=>none) s1):
  Inv (oY CX P w K mg base N qual scope f cd A outer s H E) [] (gL N vs) H s1:=by
 have C8:ps.length<=N.length:=by have:=NY List.length S.pre;rw[NI]at this;lia
 obtain⟨h1,tk,rfl,hk⟩:=x.done;have J7:∀b:Addr,b∉(oY CX P w K mg base N qual scope f cd A outer s H E).ex:=fun b z=>absurd (show b∈([]:List Addr) from z) (by simp)
 refine⟨⟨e0.mod,S.kind,rfl,rfl,M8 _,fun y z c h1 h2=>?_,fun y hy=>?_,fun y c _ h=>?_,fun _=>hd,Around.frames_deeper e0.frames,.inr ⟨rfl,rfl⟩,fun b z=>absurd z (J7 b),e0.bs,e0.bsz,fun b _ _=>J7 b,fun b z=>absurd z (J7 b),e0.funs,e0.frf⟩,
  rfl,e0.bare,Un.kept hk,⟨_,x.toInCall.ns,fun i y v h1 h2 h3=>?_⟩,fun y c h=>⟨_,x.cell y c h⟩,e0.hok.fresh (M8 _),fun y c h=>?_,fun p hp=>absurd (show p∈([]:List (Addr×Obj)) from hp) (by simp),e0.hok.kept hk,?_⟩
 ·exact name_of_addr x.apart (Oi h1) (Oi h2)
 ·have hy:scope.names.lookup y=some .cell\/scope.names.lookup y=some .free:=hy;rcases hy with hy|hy
  ·exact ml hy
  ·exact absurd rfl (S.nofree _ (Oi hy))
 ·exact Qp (x.above y c (Oi h))
 ·have hi:i<vs.length:=by
   unfold gL at h2;by_cases hi:i<vs.length
   ·exact hi
   ·rw[List.getElem?_append_right (by simpa using hi)]at h2;rw[List.getElem?_replicate]at h2;split at h2 <;> cases h2
  have ha:vs[i]?=some v:=by
   unfold gL at h2;rw[List.getElem?_append_left (by simpa using hi),List.getElem?_map]at h2;cases e:vs[i]? with
   |none=>rw[e]at h2;cases h2
   |some a=>rw[e]at h2;cases h2;rfl
  obtain⟨u,hu,rv⟩:=r.get ha;have hp:ps[i]?=some y:=by
   rw[<-S.pre,List.getElem?_take_of_lt (by lia)];exact h1
  have Mq:ps.Nodup:=by rw[<-S.pre];exact S.nd.sublist (List.take_sublist _ _)
  refine⟨u,rv,?_⟩;rcases S.par y (NQ hp) with k|k
  ·exact .inl ⟨k,kl Mq hp hu k⟩
  ·obtain⟨c,e⟩:=ml (n:=s.heap.objs.size+1) k;refine .inr ⟨.inl k,c,e,?_⟩;have q:=x.cell y c e;rw[km Mq hp hu (by show scope.names.lookup y≠_;rw[k];decide)]at q;exact q
 ·exact e0.hok.fresh (Qp (x.above y c (Oi h)))
 ·unfold gL;show _=N.length;rw[NC,M5,List.length_replicate];lia
theorem xy{CX:F5}{P:Program}{w:World}{K:W.Frag}{mg:Str->Option Value}{base:Heap}{k:Nat}{f:Addr}{name qual:Str}{params:Arguments}{body:List Stmt}{scope:Scope}{dV kV doc pm CB ct oc:Value}{an od:Option Addr}
  {Gr:Array (Option Value)}{N ps:List Str}{sp:Sp}(lk:K.lookup f=some ⟨oc,od,.func (PySem.W.fnOf name qual params body scope dV kV doc pm an CB ct),Gr⟩) (Fq:PySem.W.codeIn K CB qual=true) (S:FnScope N ps scope)
  (len:∀vs H Q E,sp vs H Q E->vs.length=ps.length)
  (E8:∀(A:Around) (outer:List Env) (s:Shared) (H:Hp) (vs:List V) (Q:VK) (E:XK),Room k (A.deeper (envOfC qual scope s.heap.objs.size f CB))->sp vs H Q E->
   ∃t,PSs (oY CX P w K mg base N qual scope f CB A outer s H E) body t/\t {nx:=fun _ H'=>Q .non H',rt:=Q} (gL N vs) H):
  FnOk P w K mg base CX (k+1) f (PySem.W.fnOf name qual params body scope dV kV doc pm an CB ct) ps sp:=by
 refine⟨len,fun A outer s H args us vs Q E hr e0 hb r Hf=>?_⟩;have hl:=len _ _ _ _ Hf;have KX:K.In s.heap:=e0.mod.kin.keeps fun b o e=>(e0.bs b o e).1
 have lim:s.heap.NoLimit:=e0.mod.nolimit.keeps fun b o e=>(e0.bs b o e).1
 have Eo:∀y∈ps.zip us,scope.names.lookup y.1=some .local\/(scope.names.lookup y.1=some .cell/\((cellsFrom (s.heap.objs.size+1) scope.names []).lookup y.1).isSome=true):=fun Cm hy=>by
  obtain⟨n,v⟩:=Cm;rcases S.par n (OO hy).1 with q|q
  ·exact .inl q
  ·exact .inr ⟨q,Qh _ _ _ (.inl q)⟩
 refine codeAny_call_function hr.depth (KX _ _ lk) rfl S.co S.gen rfl (PySem.W.codeRec_of KX Fq) (hb _ _ _ _ ?_);refine wpAny_newFunctionEnv_cells S.kind Eo fun env he s1 x=>?_
 subst he;refine⟨lim.keeps x.toInCall.keep,codeAny_func ?_⟩;obtain⟨t,ht,hq⟩:=E8 A outer s H vs Q E (hr.deeper _) Hf;have I:Inv (oY CX P w K mg base N qual scope f CB A outer s H E) [] (gL N vs) H s1:=oZ S hr.hd e0 hl r x;refine NL (ht [] s1 (gL N vs) H _ I hq) (fun fl s' hs=>?_) fun e s' hs=>hs
 have fin:∀{σ':St}{H':Hp}{v:V}{u:Value},Inv (oY CX P w K mg base N qual scope f CB A outer s H E) [] σ' H' s'->RelV v u->Q v H'->CE outer P w H s Q u s':=
  fun{σ' H' v u} J rv q=>⟨v,H',J.os,J.bare,J.base,J.hok,rv,q⟩
 cases fl with
 |ret u=>
  obtain⟨v,σ',H',J,rv,q⟩:=hs;exact fin J rv q
 |next=>
  obtain⟨σ',H',J,q⟩:=hs;exact fin (v:=V.non) (u:=Value.none) J rfl q
 |brk=>
  obtain⟨_,_,_,q⟩:=hs;exact False.elim q
 |cont=>
  obtain⟨_,_,_,q⟩:=hs;exact False.elim q
section
variable{X:Cx}{x:Str}{p pos:Pos}{e:Expr}{es:List Expr}{t:TA}{id T:String}{r:List V->Hp->VK->Prop}
def LC(r:List V->Hp->VK->Prop)(t:TA):TE:=fun σ H Q=>t σ H fun vs H1=>r vs H1 Q
theorem fm(hc:de X (.builtin id) r)(hg:Gl X x)(hm:X.mg x=none)(hv:bootBuiltins x=some (.builtin id))(ha:PA X (e::es) t)(hn:x≠"__name__":=by decide)(C9:(x==("__debug__" : Str))=false:=by decide)
  (he:starEach (e::es) X.env=(false,eval e X.env)::starEach es X.env:=by rfl) (C8:(backTo pos (starEach es X.env)).any (·.1)=false:=by rfl):PE X (.Call (.Name x p) (e::es) [] pos) (LC r t):=by
 intro pr s σ H Q I h;refine OL (ke I hg hm hv ?_ hn C9);exact PyProof.Rows.callWith_builtin1 (Cs (ha pos pr s σ H _ I h) fun us s1 ⟨vs,H1,I1,r1,q1⟩=>hc pr s1 σ H1 vs us Q I1 r1 q1) he C8
theorem o3(hc:de X (.type T) r)(hg:Gl X x)(hm:X.mg x=none)(hv:bootBuiltins x=some (.type T))(ha:PA X (e::es) t)(hn:x≠"__name__":=by decide)(C9:(x==("__debug__" : Str))=false:=by decide)
  (he:starEach (e::es) X.env=(false,eval e X.env)::starEach es X.env:=by rfl) (C8:(backTo pos (starEach es X.env)).any (·.1)=false:=by rfl):PE X (.Call (.Name x p) (e::es) [] pos) (LC r t):=by
 intro pr s σ H Q I h;refine OL (ke I hg hm hv ?_ hn C9);exact ON (Cs (ha pos pr s σ H _ I h) fun us s1 ⟨vs,H1,I1,r1,q1⟩=>hc pr s1 σ H1 vs us Q I1 r1 q1) he C8
end
end L2
namespace HT
open PySem PyProof.Rows
section
open PySem.SeqAt
open PySem.AutoSeq1 (wpAny_loadPart')
open PySem.MeetsSeq PySem.MeetsSeq2 PySem.MeetsSeq3
end
section
variable{prog:Program}{w:World}{A:Around}{E:Value->Shared->Prop}{s:Shared}
theorem uS{t b:Addr}{vs ws:List Value}{Q:Value->Shared->Prop}(ht:IsTup s.heap t vs.toArray)(hb:IsTup s.heap b ws.toArray)(hv:vs≠[])
  (h1:ws=[]->Q (.ref t) s) (h2:ws≠[]->Q (.ref s.heap.objs.size) {s with heap:=s.heap.push {cls:=.type "tuple",data:=.seq (vs++ws).toArray}})
  (hsz:vs.length+ws.length<=sizeLine):wpAny (model prog w) A (binaryOp .Add (.ref t) (.ref b)) Q E s:=by
 obtain⟨⟨cls,dd,data,sl⟩,ho,hc,n,hd⟩:=id ht;obtain⟨⟨Hl,FR,data2,FU⟩,DJ,E9,n2,hd2⟩:=id hb;simp only at hc hd E9 hd2;subst hc hd E9 hd2;have e:vs.toArray++ws.toArray=(vs++ws).toArray:=by simp
 by_cases hw:ws=[]
 ·exact Qs ⟨_,ho,rfl⟩ ⟨_,DJ,rfl⟩ Qe Q6 O8 O4 (O0 _ _)
   (tuple_addW1 t b vs.toArray ws.toArray n n2 dd FR sl FU (by simpa using hv) (by simp[hw])) ⟨ho,DJ,h1 hw⟩
 ·refine Qs ⟨_,ho,rfl⟩ ⟨_,DJ,rfl⟩ Qe Q6 O8 O4 (O0 _ _)
   (tuple_addW2 t b vs.toArray ws.toArray n n2 dd FR sl FU (by simpa using hv) (by simpa using hw) (by rw[M6,M6];exact hsz)) ⟨ho,DJ,?_⟩
  rw[e];exact h2 hw
def sIx(n d:Nat):Option Int->Nat
 |none=>d
 |some v=>if v<0 then(v+(n:Int)).toNat else min v.toNat n
theorem mm(n d:Nat):sIx n d none=d:=rfl
theorem o4(n d k:Nat):sIx n d (some (k:Int))=min k n:=by
 show(if(k:Int)<0 then((k:Int)+(n:Int)).toNat else min (k:Int).toNat n)=min k n;rw[Ng (by lia),OC]
theorem o5(n d:Nat)(hd:d<=n)(o:Option Int):sIx n d o<=n:=by
 cases o with
 |none=>exact hd
 |some v=>
  show(if v<0 then(v+(n:Int)).toNat else min v.toNat n)<=n;by_cases hv:v<0
  ·rw[Nc hv];lia
  ·rw[Ng hv];exact Nat.min_le_right _ _
theorem o6(v:Int)(n d:Nat):(if v<0 then max (v+(n:Int)) 0 else min v (n:Int))=((sIx n d (some v):Nat):Int):=by
 show(if v<0 then max (v+(n:Int)) 0 else min v (n:Int))=(((if v<0 then(v+(n:Int)).toNat else min v.toNat n):Nat):Int)
 by_cases hv:v<0
 ·simp only[Nc hv];lia
 ·simp only[Ng hv];lia
theorem nL(lo hi:Option Int)(n:Nat):Builtin.Slice.sliceAdjust lo hi 1 (n:Int)=(((sIx n 0 lo:Nat):Int),((sIx n n hi:Nat):Int)):=by
 have h1:¬ ((1:Int)<0):=by lia
 unfold Builtin.Slice.sliceAdjust;simp only[h1,PL];refine Prod.ext ?_ ?_
 ·cases lo with
  |none=>rfl
  |some v=>exact o6 v n 0
 ·cases hi with
  |none=>rfl
  |some v=>exact o6 v n n
theorem nM(i j:Nat):Builtin.Slice.slicePlaces (i:Int) (j:Int) 1=j-i:=by
 unfold Builtin.Slice.slicePlaces;have h1:(1:Int)>0:=by lia
 simp only[h1,Py,Int.ediv_one];split <;> lia
theorem jd{v:Value}{o:Option Int}{Q:Option Int->Shared->Prop}(p:IsPart v o)(h:Q o s):wpAny (model prog w) A (Builtin.Slice.slicePartIndex v) Q E s:=by
 cases p with
 |none=>exact slicePart_none h
 |int i t=>exact slicePart_int h
theorem dP{sl:Addr}{vl vu:Value}{lo hi:Option Int}{n:Nat}{Q:Int×Int×Nat->Shared->Prop}(hs:s.heap.IsSliceOf sl vl vu .none)(pl:IsPart vl lo)(pu:IsPart vu hi)
  (h:Q (((sIx n 0 lo:Nat):Int),1,sIx n n hi-sIx n 0 lo) s):wpAny (model prog w) A (Builtin.Slice.sliceApplied (.ref sl) (pure (n:Int))) Q E s:=by
 obtain⟨os,Hm,K7,IG⟩:=id hs;unfold Builtin.Slice.sliceApplied Builtin.Slice.sliceFields;refine M3 (M3 (NZ Hm IG (x:=vl) rfl (M3 (NZ Hm IG (x:=vu) rfl (M3 (NZ Hm IG (x:=.none) rfl (M4 ?_)))))));refine M3 (slicePart_none ?_);show wpAny _ _ (if((1:Int)==0)=true then _ else _) _ _ s;rw[Ng (by decide)];refine M3 (jd pl (M3 (jd pu (M3 (M4 ?_)))));show wpAny _ _ (match Builtin.Slice.sliceAdjust lo hi 1 (n:Int) with|(lo,hi)=>pure (lo,(1:Int),Builtin.Slice.slicePlaces lo hi 1)) _ _ s;rw[nL lo hi n];show wpAny _ _ (pure (((sIx n 0 lo:Nat):Int),(1:Int),Builtin.Slice.slicePlaces ((sIx n 0 lo:Nat):Int) ((sIx n n hi:Nat):Int) 1)) _ _ s;rw[nM];exact M4 h
theorem qZ(xs:Array Value)(i k:Nat):((List.range k).filterMap fun(m:Nat)=>xs[((i:Int)+(m:Int)*1).toNat]?).toArray=((xs.toList.drop i).take k).toArray:=by
 have e:(fun(m:Nat)=>xs[((i:Int)+(m:Int)*1).toNat]?)=fun m=>xs[i+m]?:=by
  funext m
  have:((i:Int)+(m:Int)*1).toNat=i+m:=by lia
  rw[this]
 rw[e];have:=pick_run xs i k;rw[List.filterMap_map]at this;have e2:((fun x=>xs[x]?)∘fun x=>i+x)=fun m=>xs[i+m]?:=rfl
 rw[e2]at this;rw[this]
theorem fW{t sl:Addr}{items:Array Value}{vl vu:Value}{lo hi:Option Int}{Q:Value->Shared->Prop}(ht:IsTup s.heap t items)(hs:s.heap.IsSliceOf sl vl vu .none)(pl:IsPart vl lo)(pu:IsPart vu hi)
  (hw:¬ (sIx items.size 0 lo=0/\sIx items.size items.size hi=items.size))
  (h:Q (.ref s.heap.objs.size) {s with heap:=s.heap.push {cls:=.type "tuple",data:=.seq ((items.toList.drop (sIx items.size 0 lo)).take (sIx items.size items.size hi-sIx items.size 0 lo)).toArray}})
  (hsz:items.size<=sizeLine):wpAny (model prog w) A (getItem (.ref t) (.ref sl)) Q E s:=by
 have FV:sizeOk (.seq ((items.toList.drop (sIx items.size 0 lo)).take (sIx items.size items.size hi-sIx items.size 0 lo)).toArray):=by
  show((items.toList.drop (sIx items.size 0 lo)).take (sIx items.size items.size hi-sIx items.size 0 lo)).toArray.size<=sizeLine;rw[M6,NI,Pf,N7];lia
 have hj:sIx items.size items.size hi<=items.size:=o5 _ _ (M8 _) hi;obtain⟨os,Hm,K7,IG⟩:=id hs;have LD:s.TypeIs (.ref sl) "slice":=⟨os,Hm,K7⟩
 unfold getItem;try with_reducible refine Ou ?_
 first|refine M3 (M4 ?_)|skip
 refine M3 (wpAny_sequenceKey ht.typeIs (by decide) ?_);refine M3 (wpAny_callSpecial?_slot (name:=Str.ofString "__getitem__") ht.typeIs N8
  (NJ N8 ht.typeIs entry_tuple_getitem ?_ (args_tuple_getitem _ _)))
 show wpAny _ _ (Builtin.Tuple.tupleItemsOf (.ref t) >>= _) _ _ s;refine M3 (tupleItemsOf_ ht ?_);refine M3 (O1 LD ?_);rw[Nc (by decide)];refine M3 (dP hs pl pu ?_);have Mr:¬ ((((sIx items.size 0 lo:Nat):Int)==0&&(1:Int)==1&&(sIx items.size items.size hi-sIx items.size 0 lo)==items.size)=true):=by
  intro q;rw[Nf,Nf]at q;have q1:((sIx items.size 0 lo:Nat):Int)=0:=eq_of_beq q.1.1;have q2:sIx items.size items.size hi-sIx items.size 0 lo=items.size:=eq_of_beq q.2;exact hw ⟨by lia,by lia⟩
 show wpAny _ _ (if(((sIx items.size 0 lo:Nat):Int)==0&&(1:Int)==1&&(sIx items.size items.size hi-sIx items.size 0 lo)==items.size)=true then _ else _) _ _ s;rw[Ng Mr,qZ];first
  |exact M3 (m:=Builtin.Tuple.tupleExact _) (NM (M4 ⟨_,rfl,M4 h⟩) FV)
  |exact M3 (m:=Builtin.Tuple.tupleExact _) (NM (M3 (M4 (M4 ⟨_,rfl,M4 h⟩))) FV)
  |exact M3 (M3 (m:=Builtin.Tuple.tupleExact _) (NM (M4 (M4 ⟨_,rfl,M4 h⟩)) FV))
  |exact M3 (M3 (m:=Builtin.Tuple.tupleExact _) (NM (M4 ⟨_,rfl,M4 h⟩) FV))
end
end HT
namespace L2
open PySem PySem.Spec PyProof.Rows
abbrev TO:=St->Hp->(Option Int->Hp->Prop)->Prop
def PO(X:Cx)(e:Option Expr)(t:TO):Prop:=
 ∀(pr:List (Addr×Obj)) (s:Shared) (σ:St) (H:Hp) (Q:Option Int->Hp->Prop),Inv X pr σ H s->t σ H Q->
  wpAny (model X.prog X.w) X.A (evalPart e X.env) (fun u s'=>∃o H',Inv X pr σ H' s'/\IsPart u o/\Q o H') X.xe s
def uT:TO:=fun _ H Q=>Q none H
def zS(t:TE):TO:=fun σ H Q=>t σ H fun x H1=>∃i,x=.int i/\Q (some i) H1
section
variable{X:Cx}{e:Expr}{te:TE}{lo hi:Option Expr}{tl th:TO}{pos p2:Pos}
theorem uU:PO X none uT:=by
 intro pr s σ H Q I h;rw[evalPart_none];exact M4 ⟨none,H,I,.none,h⟩
theorem uV(h:PE X e te):PO X (some e) (zS te):=by
 intro pr s σ H Q I hw;rw[evalPart_some];refine Cs (h pr s σ H _ I hw) fun u s1 Cz=>?_
 obtain⟨x,H1,I1,r1,q1⟩:=Cz;obtain⟨i,rfl,q⟩:=q1;obtain⟨t,rfl⟩:=r1;exact⟨some i,H1,I1,.int i t,q⟩
def IH(X:Cx)(r:V->Option Int->Option Int->Hp->VK->Prop):Prop:=
 ∀(pr:List (Addr×Obj)) (s:Shared) (σ:St) (H:Hp) (x:V) (v vl vu:Value) (lo hi:Option Int) (sl:Addr) (Q:VK),Inv X pr σ H s->RelV x v->s.heap.IsSliceOf sl vl vu .none->IsPart vl lo->IsPart vu hi->r x lo hi H Q->
  ∃T id,typeLookup (.type T) "__getitem__" = pure (some (.builtin id))/\s.TypeIs v T/\wpAny (model X.prog X.w) X.A (getItem v (.ref sl)) (EP X pr σ Q) X.xe s
def tSl(r:V->Option Int->Option Int->Hp->VK->Prop)(te:TE)(tl th:TO):TE:=fun σ H Q=>te σ H fun x H1=>tl σ H1 fun l H2=>th σ H2 fun u H3=>r x l u H3 Q
theorem rg{r:V->Option Int->Option Int->Hp->VK->Prop}(hr:IH X r)(he:PE X e te)(hl:PO X lo tl)(hu:PO X hi th):PE X (.Subscript e (.Slice lo hi none p2) pos) (tSl r te tl th):=by
 intro pr s σ H Q I h;refine Subscript_ (Cs (he pr s σ H _ I h) fun v s1 Cz=>?_);obtain⟨x,H1,I1,r1,q1⟩:=Cz;refine wpAny_Slice (Cs (hl pr s1 σ H1 _ I1 q1) fun vl s2 ⟨l,H2,I2,pl,q2⟩=>Cs (hu pr s2 σ H2 _ I2 q2) fun vu s3 Cz=>?_);obtain⟨u,H3,I3,pu,q3⟩:=Cz;rw[evalPart_none];refine M4 ?_;have I4:Inv X pr σ H3 {s3 with heap:=s3.heap.push {cls:=.type "slice",data:=.fields #[vl,vu,.none]}}:=I3.kept (t':=s3.toks) fun b ob q=>Heap.get?_push_of_some _ q
 obtain⟨T,id,hT,ht,hg⟩:=hr pr {s3 with heap:=s3.heap.push {cls:=.type "slice",data:=.fields #[vl,vu,.none]}} σ H3 x v vl vu l u s3.heap.objs.size Q I4 r1 (Heap.IsSliceOf.new ..) pl pu q3;show wpAny (model X.prog X.w) X.A (subscriptTail e (.Slice lo hi none p2) v (.ref s3.heap.objs.size)) (EP X pr σ Q) X.xe {s3 with heap:=s3.heap.push {cls:=.type "slice",data:=.fields #[vl,vu,.none]}};exact tail_any (ops:=[.ref s3.heap.objs.size,v]) ht hT hg (by with_unfolding_all rfl)
def tP(xs:List V)(lo hi:Option Int):List V:=(xs.drop (HT.sIx xs.length 0 lo)).take (HT.sIx xs.length xs.length hi-HT.sIx xs.length 0 lo)
theorem g8(xs:List V)(lo hi:Option Int):(tP xs lo hi).length<=xs.length:=by
 unfold tP;rw[NI,Pf];lia
def Bu(K:W.Frag):V->Option Int->Option Int->Hp->VK->Prop:=fun x lo hi H Q=>∃a xs,x=.ref a/\SqT K H a xs/\
 ¬ (HT.sIx xs.length 0 lo=0/\HT.sIx xs.length xs.length hi=xs.length)/\∀p,H p=none->Q (.ref p) (upd H p (.tup (tP xs lo hi)))
theorem xA:IH X (Bu X.K):=by
 intro pr s σ H x v vl vu lo hi sl Q I rx hs pl pu h;obtain⟨a,xs,rfl,hx,hw,q⟩:=h;cases rx;obtain⟨Cc,r,ht,hz⟩:=I.tuple hx;have hlen:Cc.toArray.size=xs.length:=by rw[M6];exact r.length.symm
 refine⟨"tuple",_,PyProof.Rows.slot_tuple_getitem.lookup,ht.typeIs,?_⟩;refine HT.fW ht hs pl pu (by rw[hlen];exact hw) ?_ (by rw[hlen];exact hz);rw[hlen];refine⟨.ref s.heap.objs.size,_,I.laid (t':=s.toks) (o:=.tup (tP xs lo hi)) (fun b ob q=>Heap.get?_push_of_some _ q) (M8 _) ?_,rfl,q _ (I.hok.fresh (M8 _))⟩;exact⟨NF (g8 xs lo hi) hz,_,(r.drop (HT.sIx xs.length 0 lo)).take (HT.sIx xs.length xs.length hi-HT.sIx xs.length 0 lo),IsTupN.new _ _⟩
def zT(K:W.Frag):R2:=fun x y H Q=>∃a b xs ys,x=.ref a/\y=.ref b/\SqT K H a xs/\SqT K H b ys/\xs≠[]/\xs.length+ys.length<=sizeLine/\
 (ys=[]->Q (.ref a) H)/\(ys≠[]->∀p,H p=none->Q (.ref p) (upd H p (.tup (xs++ys))))
theorem Vals.nil_iff{xs:List V}{us:List Value}(r:Vals xs us):us=[]<->xs=[]:=by
 cases r with
 |nil=>simp
 |cons _ _=>simp
theorem uW:CM X (binaryOp .Add) (zT X.K):=by
 intro pr s σ H x y v u Q I rx ry h;obtain⟨a,b,xs,ys,rfl,rfl,ha,hb,hx,hz,q1,q2⟩:=h;cases rx;cases ry;obtain⟨Cc,r1,p1,_⟩:=I.tuple ha;obtain⟨Ft,r2,p2,_⟩:=I.tuple hb;refine HT.uS p1 p2 (fun z=>hx (r1.nil_iff.mp z)) (fun z=>⟨.ref a,H,I,rfl,q1 (r2.nil_iff.mp z)⟩) (fun z=>?_) (by rw[<-r1.length,<-r2.length];exact hz);refine⟨.ref s.heap.objs.size,_,I.laid (t':=s.toks) (o:=.tup (xs++ys)) (fun b ob q=>Heap.get?_push_of_some _ q) (M8 _) ?_,rfl,q2 (fun w=>z (r2.nil_iff.mpr w)) _ (I.hok.fresh (M8 _))⟩;exact⟨by rw[NC];exact hz,_,r1.append r2,IsTupN.new _ _⟩
end
def ixN(n:Nat)(i:Int):Option Nat:=if 0<=i then(if i<n then some i.toNat else none) else if -(n:Int)<=i then some (i+n).toNat else none
def D4{α:Type}(xs:List α)(i:Int):Option α:=(ixN xs.length i).bind fun j=>xs[j]?
theorem o7{n:Nat}{i:Int}{j:Nat}(h:ixN n i=some j):seqIndex? i n=some j/\j<n/\-(n:Int)<=i/\i<n:=by
 unfold ixN at h;by_cases h0:0<=i
 ·rw[Nc h0]at h;by_cases h1:i<n
  ·rw[Nc h1]at h;have e:i.toNat=j:=Nw h;exact⟨by rw[seqIndex_of h0 h1,e],by lia,by lia,h1⟩
  ·rw[Ng h1]at h;cases h
 ·rw[Ng h0]at h;by_cases h1:-(n:Int)<=i
  ·rw[Nc h1]at h;have e:(i+n).toNat=j:=Nw h;exact⟨by rw[seqIndex_neg (by lia) h1,e],by lia,h1,by lia⟩
  ·rw[Ng h1]at h;cases h
theorem lC{α:Type}{xs:List α}{i:Int}{v:α}(h:D4 xs i=some v):∃j,seqIndex? i xs.length=some j/\xs[j]?=some v/\j<xs.length/\-(xs.length:Int)<=i/\i<xs.length:=by
 unfold D4 at h;cases e:ixN xs.length i with
 |none=>rw[e]at h;cases h
 |some j=>
  rw[e]at h;obtain⟨h1,h2,h3,h4⟩:=o7 e;exact⟨j,h1,h,h2,h3,h4⟩
theorem fX{α:Type}{xs:List α}{j:Nat}{v:α}(h:xs[j]?=some v):D4 xs (j:Int)=some v:=by
 have hj:j<xs.length:=(List.getElem?_eq_some_iff.mp h).1;have e:ixN xs.length (j:Int)=some j:=by
  unfold ixN;rw[Nc (by lia),Nc (by lia)];simp
 unfold D4;rw[e];exact h
def o8(b:Expr):Prop:=∀o i,subscripted b false o i=operate [o,i] (getItem o i)
def J8(X:Cx)(r:R2):Prop:=
 ∀(value slice:Expr) (pr:List (Addr×Obj)) (s:Shared) (σ:St) (H:Hp) (x y:V) (v u:Value) (Q:VK),Inv X pr σ H s->RelV x v->RelV y u->r x y H Q->
  subscripted slice false v u=operate [v,u] (getItem v u)->wpAny (model X.prog X.w) X.A (subscriptTail value slice v u) (EP X pr σ Q) X.xe s
def JI(X:Cx)(id:String)(r:V->List V->Hp->VK->Prop):Prop:=
 ∀(pr:List (Addr×Obj)) (s:Shared) (σ:St) (H:Hp) (x:V) (xs:List V) (v:Value) (us:List Value) (Q:VK),Inv X pr σ H s->RelV x v->Vals xs us->r x xs H Q->
  wpAny (model X.prog X.w) X.A (call (.builtin id) (v::us)) (EP X pr σ Q) X.xe s
section
variable{X:Cx}{a b:Expr}{ta tb:TE}{pos:Pos}
theorem zU{r:R2}(hr:J8 X r)(ha:PE X a ta)(hb:PE X b tb)(hs:o8 b):PE X (.Subscript a b pos) (JH r ta tb):=by
 intro pr s σ H Q I h;exact Subscript_ (zL ha hb I h fun v u s2 x y H2 I2 rx ry q=>hr a b pr s2 σ H2 x y v u Q I2 rx ry q (hs _ _))
def Bv(K:W.Frag):R2:=fun x y H Q=>∃p xs i v,x=.ref p/\y=.int i/\SqL K H p xs/\D4 xs i=some v/\Q v H
def Bw(K:W.Frag):R2:=fun x y H Q=>∃p xs i v,x=.ref p/\y=.int i/\SqT K H p xs/\D4 xs i=some v/\Q v H
def Bx:R2:=fun x y H Q=>∃z i c,x=.str z/\y=.int i/\z.length<=sizeLine/\D4 z.cps.toList i=some c/\Q (.str ⟨#[c]⟩) H
theorem uX:J8 X (Bv X.K):=by
 intro value slice pr s σ H x y v u Q I rx ry h hs;obtain⟨p,xs,i,z,rfl,rfl,hq,he,q⟩:=h;cases rx;obtain⟨t,rfl⟩:=ry;obtain⟨Cc,r,pl,hz⟩:=I.list hq;obtain⟨j,h1,h2,h3,h4,h5⟩:=lC he;obtain⟨w,ew,F6⟩:=r.get h2;have hl:=r.length;have hn:=jc;have fin:EP X pr σ Q w s:=⟨z,H,I,F6,q⟩
 by_cases h0:0<=i
 ·have hj:i.toNat=j:=by
   rw[seqIndex_of h0 h5]at h1;exact Nw h1
  exact item_listR pl.isList h0 (by lia) (by rw[hj];simpa using ew) fin hs
 ·have hj:(i+(Cc.toArray.size:Int)).toNat=j:=by
   rw[seqIndex_neg (by lia) h4]at h1;rw[M6,<-hl];exact Nw h1
  exact subscriptTail_builtinR (x:=w) pl.isList.typeIs slot_list_getitem.lookup
   (wpAny_getItem_list_neg (Q:=fun r s'=>r=w/\EP X pr σ Q r s') pl.isList (by lia) (by rw[M6] <;> lia) (by lia) (by rw[hj];simpa using ew) ⟨rfl,fin⟩) hs
theorem xB:J8 X (Bw X.K):=by
 intro value slice pr s σ H x y v u Q I rx ry h hs;obtain⟨p,xs,i,z,rfl,rfl,hq,he,q⟩:=h;cases rx;obtain⟨t,rfl⟩:=ry;obtain⟨Cc,r,pl,hz⟩:=I.tuple hq;obtain⟨j,h1,h2,h3,h4,h5⟩:=lC he;obtain⟨w,ew,F6⟩:=r.get h2;have hl:=r.length;have hn:=jc;have fin:EP X pr σ Q w s:=⟨z,H,I,F6,q⟩
 exact subscriptTail_builtinR (x:=w) pl.typeIs slot_tuple_getitem.lookup
  (getItem_tuple (j:=j) (Q:=fun r s'=>r=w/\EP X pr σ Q r s') pl (by lia) (by lia) (by rw[M6,<-hl];exact h1) (by simpa using ew) ⟨rfl,fin⟩) hs
theorem xC:J8 X Bx:=by
 intro value slice pr s σ H x y v u Q I rx ry h hs;obtain⟨z,i,c,rfl,rfl,hz,he,q⟩:=h;obtain⟨t,rfl⟩:=rx;obtain⟨t',rfl⟩:=ry;obtain⟨j,h1,h2,h3,h4,h5⟩:=lC he;have hl:z.cps.toList.length=z.length:=by simp[Str.length]
 rw[hl]at h1 h4 h5;have hn:=jc;exact tail_any (QD s z t) slot_str_getitem.lookup (getItem_str (c:=c) (by
  have e1:decide (i < -(2 ^ 63:Int))=false:=Nh (by lia);have e2:decide (i>=2 ^ 63)=false:=Nh (by lia);rw[e1,e2,Bool.or_false]) (by rw[h1];simpa using h2) ⟨.str ⟨#[c]⟩,H,I.tok _,⟨_,rfl⟩,q⟩) hs
theorem nN(Cc:List Value)(n j:Nat)(u:Value):Obj.mapSeq (·.setIfInBounds j u) {cls:=.type "list",data:=.seq Cc.toArray n}={cls:=.type "list",data:=.seq (Cc.set j u).toArray n}:=by
 simp[Obj.mapSeq]
theorem Inv.lst{pr:List (Addr×Obj)}{σ:St}{H:Hp}{s:Shared}{p:Addr}{xs:List V}(I:Inv X pr σ H s)(h:H p=some (.lst xs)):
  ∃(Cc:List Value) (n:Nat),Vals xs Cc/\s.heap.get? p=some {cls:=.type "list",data:=.seq Cc.toArray n}/\xs.length<=sizeLine:=by
 obtain⟨z,Cc,n,r,e⟩:=I.hok p _ h;exact⟨Cc,n,r,e,z⟩
theorem Inv.lstUpd{pr:List (Addr×Obj)}{σ:St}{H:Hp}{s:Shared}{p:Addr}{xs ys:List V}{Cc its':List Value}{n n':Nat}{f:Obj->Obj}(I:Inv X pr σ H s)(h:H p=some (.lst xs))
  (ho:s.heap.get? p=some {cls:=.type "list",data:=.seq Cc.toArray n}) (hf:f {cls:=.type "list",data:=.seq Cc.toArray n}={cls:=.type "list",data:=.seq its'.toArray n'}) (r:Vals ys its') (hz:ys.length<=sizeLine) (t:Nat):
  Inv X pr σ (upd H p (.lst ys)) {s with heap:=s.heap.update p f,toks:=t}:=by
 have e:(s.heap.update p f).get? p=some {cls:=.type "list",data:=.seq its'.toArray n'}:=by
  rw[Heap.get?_update_self f ho (by rw[hf] <;> rfl),hf]
 refine I.write (x:=p) (e:=p) (by rw[h];trivial) (.inl rfl) (fun b u hb q=>(Heap.get?_update_other _ _ (Oo hb)).trans q) ⟨_,e⟩ ?_;exact⟨hz,its',n',r,e⟩
def xD:V->V->V->Hp->(Hp->Prop)->Prop:=fun o i v H Q=>∃p xs k j,o=.ref p/\i=.int k/\H p=some (.lst xs)/\ixN xs.length k=some j/\Q (upd H p (.lst (xs.set j v)))
theorem rh:Bj X xD:=by
 intro pr s σ H o i v ov iv u Q I ro ri rv h;obtain⟨p,xs,k,j,rfl,rfl,hp,hj,q⟩:=h;cases ro;obtain⟨t,rfl⟩:=ri;obtain⟨Cc,n,r,ho,hz⟩:=I.lst hp;obtain⟨h1,h2,h3,h4⟩:=o7 hj;have hl:=r.length;have hn:=jc;have I':Inv X pr σ (upd H p (.lst (xs.set j v))) {s with heap:=s.heap.update p (Obj.mapSeq (·.setIfInBounds j u))}:=
  I.lstUpd hp ho (nN Cc n j u) (r.set rv j) (by rw[OD];exact hz) s.toks
 by_cases h0:0<=k
 ·have hk:k.toNat=j:=by
   rw[seqIndex_of h0 h4]at h1;exact Nw h1
  exact PySem.W.ki_setAt ho h0 (by lia) (by rw[M6,<-hl];exact h4) (by rw[hk];exact⟨_,I',q⟩)
 ·have hk:(k+(Cc.toArray.size:Int)).toNat=j:=by
   rw[seqIndex_neg (by lia) h3]at h1;rw[M6,<-hl];exact Nw h1
  exact PySem.W.ki_setBack ho (by lia) (by rw[M6,<-hl];exact h3) (by lia) (by rw[hk];exact⟨_,I',q⟩)
theorem ko(lo hi:Option Int)(n:Nat):(sliceBounds lo hi none n).1=((HT.sIx n 0 lo:Nat):Int)/\(sliceBounds lo hi none n).2.1=((HT.sIx n n hi:Nat):Int)/\(sliceBounds lo hi none n).2.2=1:=by
 refine⟨?_,?_,rfl⟩
 ·cases lo with
  |none=>simp[sliceBounds,HT.sIx]
  |some i=>
   simp only[sliceBounds,HT.sIx,Qf,show(1:Int)>0 by decide,Py];by_cases h:i<0
   ·simp only[h,Py] <;> lia
   ·simp only[h,PL] <;> lia
 ·cases hi with
  |none=>simp[sliceBounds,HT.sIx]
  |some i=>
   simp only[sliceBounds,HT.sIx,Qf,show(1:Int)>0 by decide,Py];by_cases h:i<0
   ·simp only[h,Py] <;> lia
   ·simp only[h,PL] <;> lia
theorem ju(Cc:List Value)(lo hi:Option Int):slicePick Cc.toArray lo hi none=((Cc.drop (HT.sIx Cc.length 0 lo)).take (HT.sIx Cc.length Cc.length hi-HT.sIx Cc.length 0 lo)).toArray:=by
 obtain⟨h1,h2,h3⟩:=ko lo hi Cc.toArray.size;unfold slicePick;rw[h1,h2,h3];simp only[sliceRange_one,pick_run,M6] <;> rfl
def By(K:W.Frag):V->Option Int->Option Int->Hp->VK->Prop:=fun x lo hi H Q=>∃a xs,x=.ref a/\SqL K H a xs/\∀p,H p=none->Q (.ref p) (upd H p (.lst (tP xs lo hi)))
theorem uY:IH X (By X.K):=by
 intro pr s σ H x v vl vu lo hi sl Q I rx hs pl pu h;obtain⟨a,xs,rfl,hx,q⟩:=h;cases rx;obtain⟨Cc,r,ht,hz⟩:=I.list hx;have hlen:=r.length;refine⟨"list",_,slot_list_getitem.lookup,ht.isList.typeIs,?_⟩;refine wpAny_getItem_list_slice ht.isList hs pl pu .none (by simp) ?_ (by rw[M6] <;> lia);rw[ju,<-hlen];refine⟨.ref s.heap.objs.size,_,I.laid (t':=s.toks) (o:=.lst (tP xs lo hi)) (fun b ob q=>Heap.get?_push_of_some _ q) (M8 _) ?_,rfl,q _ (I.hok.fresh (M8 _))⟩;exact⟨NF (g8 xs lo hi) hz,_,0,(r.drop (HT.sIx xs.length 0 lo)).take (HT.sIx xs.length xs.length hi-HT.sIx xs.length 0 lo),Heap.get?_push_size _ rfl⟩
def rj:V->Bool
 | .non=>true
 | .bl _=>true
 | .int _=>true
 | .str _=>true
 |_=>false
def LF:V->V->Bool
 | .non,.non=>true
 | .bl a,.bl b=>a==b
 | .bl a,.int b=>(if a then 1 else 0)==b
 | .int a,.bl b=>a==(if b then 1 else 0)
 | .int a,.int b=>a==b
 | .str a,.str b=>a==b
 |_,_=>false
theorem tR{A:Around}{s:Shared}{y x:V}{u v:Value}(ry:RelV y u)(rx:RelV x v)(fy:rj y=true)(fx:rj x=true):SeqAt.EqAt A s u v (LF y x):=by
 cases y with
 |non=>
  cases ry;cases x with
  |non=>cases rx;exact SeqAt.EqAt.same _
  |bl b=>cases rx;exact SeqAt.EqAt.none_bool b
  |int b=>obtain⟨t,rfl⟩:=rx;exact SeqAt.EqAt.none_int b t
  |str b=>obtain⟨t,rfl⟩:=rx;exact SeqAt.EqAt.none_str b t
  |_=>exact absurd (show false=true from fx) Nb
 |bl a=>
  cases ry;cases x with
  |non=>cases rx;exact SeqAt.EqAt.bool_none a
  |bl b=>cases rx;exact SeqAt.EqAt.bool_bool a b
  |int b=>obtain⟨t,rfl⟩:=rx;exact SeqAt.EqAt.bool_int a b t
  |str b=>obtain⟨t,rfl⟩:=rx;exact SeqAt.EqAt.bool_str a b t
  |_=>exact absurd (show false=true from fx) Nb
 |int a=>
  obtain⟨t',rfl⟩:=ry;cases x with
  |non=>cases rx;exact SeqAt.EqAt.int_none a t'
  |bl b=>cases rx;exact SeqAt.EqAt.int_bool a t' b
  |int b=>obtain⟨t,rfl⟩:=rx;exact SeqAt.EqAt.int_int a t' b t
  |str b=>obtain⟨t,rfl⟩:=rx;exact SeqAt.EqAt.int_str a t' b t
  |_=>exact absurd (show false=true from fx) Nb
 |str a=>
  obtain⟨t',rfl⟩:=ry;cases x with
  |non=>cases rx;exact SeqAt.EqAt.str_none a t'
  |bl b=>cases rx;exact SeqAt.EqAt.str_bool a t' b
  |int b=>obtain⟨t,rfl⟩:=rx;exact SeqAt.EqAt.str_int a t' b t
  |str b=>obtain⟨t,rfl⟩:=rx;exact SeqAt.EqAt.str_str a t' b t
  |_=>exact absurd (show false=true from fx) Nb
 |_=>exact absurd (show false=true from fy) Nb
theorem gw:de X (.builtin "len") (fun xs H Q=>∃p ys,xs=[.ref p]/\(SqL X.K H p ys\/SqT X.K H p ys)/\Q (.int ys.length) H):=by
 intro pr s σ H xs us Q I r h;obtain⟨p,ys,rfl,hq,q⟩:=h;obtain⟨u,rfl,rx⟩:=gK r;cases rx;have hn:=jc;rcases hq with hq|hq
 ·obtain⟨Cc,r',pl,hz⟩:=I.list hq;have hlen:=r'.length;exact Calls.call_len_list pl.isList (by simp only[M6] <;> lia) ⟨.int ys.length,H,I.tok _,⟨s.toks+1,by rw[M6,hlen]⟩,q⟩
 ·obtain⟨Cc,r',pl,hz⟩:=I.tuple hq;have hlen:=r'.length;exact len_tuple pl (by simp only[M6] <;> lia) ⟨.int ys.length,H,I.tok _,⟨s.toks+1,by rw[M6,hlen]⟩,q⟩
theorem kq:de X (.builtin "len") (fun xs H Q=>∃z,xs=[.str z]/\z.length<=sizeLine/\Q (.int z.length) H):=by
 intro pr s σ H xs us Q I r h;obtain⟨z,rfl,hz,q⟩:=h;obtain⟨u,rfl,t,rfl⟩:=gK r;have hn:=jc;exact len_str (by lia) ⟨.int z.length,H,I.tok _,⟨_,rfl⟩,q⟩
theorem gy:de X (.type "list") (fun xs H Q=>∃p ys,xs=[.ref p]/\(SqL X.K H p ys\/SqT X.K H p ys)/\∀l,H l=none->Q (.ref l) (upd H l (.lst ys))):=by
 intro pr s σ H xs us Q I r h;obtain⟨p,ys,rfl,hq,q⟩:=h;obtain⟨u,rfl,rx⟩:=gK r;cases rx;have fin:∀(Cc:List Value),Vals ys Cc->ys.length<=sizeLine->∀(h':Heap) (c':Nat),(∀b o',s.heap.get? b=some o'->h'.get? b=some o')->
   h'.get? s.heap.objs.size=some {cls:=.type "list",dict:=none,data:=.seq Cc.toArray c',slots:=#[]}->EP X pr σ Q (.ref s.heap.objs.size) {s with heap:=h'}:=fun Cc r' hz h' c' kp e=>
  ⟨.ref s.heap.objs.size,_,I.laid (t':=s.toks) kp (M8 _) (show ObjOk X.prog X.w _ h' _ (.lst ys) from⟨hz,Cc,c',r',e⟩),rfl,q _ (I.hok.fresh (M8 _))⟩
 rcases hq with hq|hq
 ·obtain⟨Cc,r',pl,hz⟩:=I.list hq;have hlen:=r'.length;obtain⟨o,ho,hc,n,hd⟩:=pl.isList;exact call_list_seq p (.inl rfl) ho hc hd (fun h' c' kp e=>fin Cc r' hz h' c' kp e) (by simp only[M6] <;> lia)
 ·obtain⟨Cc,r',pl,hz⟩:=I.tuple hq;have hlen:=r'.length;obtain⟨o,ho,hc,n,hd⟩:=pl;exact call_list_seq p (.inr rfl) ho hc hd (fun h' c' kp e=>fin Cc r' hz h' c' kp e) (by simp only[M6] <;> lia)
theorem ft:de X (.type "tuple") (fun xs H Q=>∃p ys,xs=[.ref p]/\((SqL X.K H p ys/\∀l,H l=none->Q (.ref l) (upd H l (.tup ys)))\/(SqT X.K H p ys/\Q (.ref p) H))):=by
 intro pr s σ H xs us Q I r h;obtain⟨p,ys,rfl,h⟩:=h;obtain⟨u,rfl,rx⟩:=gK r;cases rx;rcases h with⟨hq,q⟩|⟨hq,q⟩
 ·obtain⟨Cc,r',pl,hz⟩:=I.list hq;have hlen:=r'.length;refine call_tuple_list pl.isList (fun h' kp=>?_) (by simp only[M6] <;> lia);have I1:Inv X pr σ H {s with heap:=h'}:=I.kept (t':=s.toks) kp;have I2:Inv X pr σ (upd H h'.objs.size (.tup ys)) {s with heap:=h'.push {cls:=.type "tuple",data:=.seq Cc.toArray}}:=
   I1.laid (t':=s.toks) (fun b o e=>Heap.get?_push_of_some _ e) (M8 _) (show ObjOk X.prog X.w _ _ _ (.tup ys) from⟨hz,Cc,r',IsTupN.new _ _⟩)
  exact⟨.ref h'.objs.size,_,I2,rfl,q _ (I1.hok.fresh (M8 _))⟩
 ·obtain⟨Cc,r',pl,hz⟩:=I.tuple hq;exact call_tuple_same pl ⟨.ref p,H,I,rfl,q⟩
def LG(K:W.Frag)(T:String)(x:V)(H:Hp):Prop:=match x with
 | .str _=>T = "str"
 | .int _=>T = "int"
 | .ref p=>(T = "list"/\∃xs,SqL K H p xs)\/(T = "tuple"/\∃o,K.lookup p=some o/\o.cls=.type "tuple"/\o.dict=none)\/
   (T = "dict"/\((∃kvs,H p=some (.dK kvs))\/∃kvs,H p=some (.dT kvs)))\/(T = "set"/\∃S n,H p=some (.set S n))
 |_=>False
theorem xE{pr:List (Addr×Obj)}{σ:St}{H:Hp}{s:Shared}{T:String}{x:V}{v:Value}(I:Inv X pr σ H s)(r:RelV x v)(ty:LG X.K T x H):
  s.TypeIs v T/\∀a,v=.ref a->∃ob,s.heap.get? a=some ob/\ob.dict=none:=by
 cases x with
 |str z=>
  obtain⟨t,rfl⟩:=r;cases(show T = "str" from ty);exact⟨QD s z t,fun _ e=>nomatch e⟩
 |int i=>
  obtain⟨t,rfl⟩:=r;cases(show T = "int" from ty);exact⟨QF s i t,fun _ e=>nomatch e⟩
 |ref p=>
  cases r;rcases ty with⟨rfl,xs,hq⟩|⟨rfl,o,hk,hc,hd⟩|⟨rfl,hk⟩|⟨rfl,S,n,hk⟩
  ·obtain⟨Cc,_,pl,_⟩:=I.list hq;refine⟨pl.isList.typeIs,fun a e=>?_⟩;cases e;obtain⟨o,n,e,c,hd,_⟩:=pl;exact⟨o,e,hd⟩
  ·refine⟨⟨o,I.kIn p o hk,hc⟩,fun a e=>?_⟩;cases e;exact⟨o,I.kIn _ o hk,hd⟩
  ·have z:∃o,s.heap.get? p=some o/\o.ExactDict:=by
    rcases hk with⟨kvs,hk⟩|⟨kvs,hk⟩
    ·obtain⟨_,_,_,_,o,_,_,e,ex,_⟩:=I.hok p _ hk;exact⟨o,e,ex⟩
    ·obtain⟨_,_,_,_,o,_,_,e,ex,_⟩:=I.hok p _ hk;exact⟨o,e,ex⟩
   obtain⟨o,e,ex⟩:=z;refine⟨⟨o,e,ex.1⟩,fun a e2=>?_⟩;cases e2;exact⟨o,e,ex.2.1⟩
  ·obtain⟨o,_,_,_,e,ex,_⟩:=I.hok p _ hk;refine⟨⟨o,e,ex.1⟩,fun a e2=>?_⟩;cases e2;exact⟨o,e,ex.2.1⟩
 |_=>exact False.elim ty
def tBM(K:W.Frag)(T:String)(r:V->List V->Hp->VK->Prop)(to:TE)(t:TA):TE:=fun σ H Q=>to σ H fun x H1=>LG K T x H1/\t σ H1 fun xs H2=>r x xs H2 Q
variable{o e:Expr}{es:List Expr}{to:TE}{t:TA}{name:Str}{apos Cu:Pos}{T id:String}{r:V->List V->Hp->VK->Prop}
theorem xF(pa:PlainAttrs T)(slot:Slot T name id)(Hn:typeOf (.builtin id)=pure (.type "method_descriptor"))(hm:JI X id r)(ho:PE X o to)(ha:PA X (e::es) t)
  (DW:attributeBase o name X.env (eval o X.env)=eval o X.env:=by rfl)
  (EN:((backTo Cu (starEach (e::es) X.env)).all (fun x=>!x.1)&&(backToKw Cu (keywordEach [] X.env)).all (fun x=>x.1.isSome)
   && decide ((e::es).length+([]:List Keyword).length+(if([]:List Keyword).isEmpty then 0 else 1)<30))=true:=by rfl)
  (DX:(apos.endLine==Cu.line)=true:=by rfl) (hs:starEach (e::es) X.env=(false,eval e X.env)::starEach es X.env:=by rfl) (Di:(backTo Cu (starEach es X.env)).any (·.1)=false:=by rfl):
  PE X (.Call (.Attribute o name apos) (e::es) [] Cu) (tBM X.K T r to t):=by
 intro pr s σ H Q I h;refine wpAny_Call_method_late DW EN DX rfl (Cs (ho pr s σ H _ I h) fun v s1 Cz=>?_);obtain⟨x,H1,I1,r1,ty,q1⟩:=Cz;obtain⟨h1,h2⟩:=xE I1 r1 ty;refine⟨T,id,pa,slot,Hn,h1,h2,?_⟩;have hA:=ha Cu pr s1 σ H1 _ I1 q1;rw[hs]at hA ⊢;refine Calls.callWith_builtin (by show(false||(backTo Cu (starEach es X.env)).any (·.1))=false;rw[Di] <;> rfl) (Pm ?_);exact Cs hA fun us s2 ⟨vs,H2,I2,r2,q2⟩=>hm pr s2 σ H2 x vs v us Q I2 r1 r2 q2
end
def MtM(X:Cx)(id:String)(r:V->List V->Hp->VK->Prop):Prop:=
 ∀(pr:List (Addr×Obj)) (s:Shared) (σ:St) (H:Hp) (x:V) (xs:List V) (v:Value) (us:List Value) (Q:VK),Inv X pr σ H s->RelV x v->Vals xs us->r x xs H Q->
  wpAny (model X.prog X.w) X.A (call (.builtin id) (v::us)) (EP X pr σ Q) X.xe s
theorem Vals.one:∀{x:V}{us:List Value},Vals [x] us->∃u,us=[u]/\RelV x u
 |_,_,.cons r .nil=>⟨_,rfl,r⟩
theorem Vals.rep{xs:List V}{us:List Value}(h:Vals xs us):∀k:Nat,Vals (List.replicate k xs).flatten (List.replicate k us).flatten
 | 0=>.nil
 |k+1=>by
  rw[N9,N9,Og,Og];exact Vals.append h (Vals.rep h k)
theorem kr(Cc:List Value):∀(k:Nat) (acc:List Value),
  List.foldl (fun x1 x2=>x1++x2) acc.toArray (List.replicate k Cc.toArray)=(acc++(List.replicate k Cc).flatten).toArray
 | 0,acc=>by simp
 |k+1,acc=>by
  have e:acc.toArray++Cc.toArray=(acc++Cc).toArray:=by simp
  have e2:(acc++Cc)++(List.replicate k Cc).flatten=acc++(List.replicate (k+1) Cc).flatten:=by
   rw[N9,Og,Oa]
  rw[<-e2,<-kr Cc k (acc++Cc),<-e,N9,Ob]
section
variable{X:Cx}{pr:List (Addr×Obj)}{σ:St}{H:Hp}{s:Shared}{l b:Addr}{xs ys zs:List V}
theorem Inv.lset{Cc its':List Value}{n:Nat}{f:Array Value->Array Value}{t':Nat}(I:Inv X pr σ H s)(hH:H l=some (.lst xs))
  (e:s.heap.get? l=some {cls:=.type "list",data:=.seq Cc.toArray n}) (hf:f Cc.toArray=its'.toArray) (hv:Vals ys its') (hz:ys.length<=sizeLine):
  Inv X pr σ (upd H l (.lst ys)) {s with heap:=s.heap.update l (Obj.mapSeq f),toks:=t'}:=by
 have q:=PySem.IsL.update e f;rw[hf]at q;refine I.write (x:=l) (e:=l) (by rw[hH];exact trivial) (.inl rfl) (fun b' u hb hu=>(Heap.get?_update_other s.heap (Obj.mapSeq f) (Oo hb)).trans hu) ⟨_,q⟩ ?_;exact⟨hz,its',_,hv,q⟩
theorem Inv.lnew{Cc:List Value}{t':Nat}(I:Inv X pr σ H s)(hv:Vals ys Cc)(hz:ys.length<=sizeLine):
  Inv X pr σ (upd H s.heap.objs.size (.lst ys)) {s with heap:=s.heap.push {cls:=.type "list",data:=.seq Cc.toArray},toks:=t'}:=
 I.laid (fun _ _ q=>Heap.get?_push_of_some _ q) (M8 _) ⟨hz,Cc,0,hv,Heap.get?_push_size _ rfl⟩
theorem Inv.fresh(I:Inv X pr σ H s):H s.heap.objs.size=none:=I.hok.fresh (M8 _)
theorem Inv.lstM(I:Inv X pr σ H s)(hH:H l=some (.lst xs)):xs.length<=sizeLine/\∃(Cc:List Value) (n:Nat),Vals xs Cc/\xs.length=Cc.length/\s.heap.get? l=some {cls:=.type "list",data:=.seq Cc.toArray n}:=by
 obtain⟨z,Cc,n,r,e⟩:=I.hok l _ hH;exact⟨z,Cc,n,r,r.length,e⟩
theorem rk{n:Nat}(h:n<=sizeLine):Builtin.List.listTooLong n=false:=by
 unfold Builtin.List.listTooLong;exact Nh (by lia)
end
section
variable{X:Cx}
def uZ:V->List V->Hp->VK->Prop:=fun x vs H Q=>∃l xs y,x=.ref l/\vs=[y]/\H l=some (.lst xs)/\xs.length<sizeLine/\Q .non (upd H l (.lst (xs++[y])))
theorem ku:MtM X "list.append" uZ:=by
 intro pr s σ H x vs v us Q I rx rv h;obtain⟨l,xs,y,rfl,rfl,hH,hz,q⟩:=h;cases rx;obtain⟨u,rfl,ru⟩:=rv.one;obtain⟨z,Cc,n,r,hl,e⟩:=I.lstM hH;refine call_meets F.slot_list_append ⟨_,e,rfl⟩ F.entry_list_append (F.args_list_append_2 _ _) (PySem.list_append l Cc.toArray n u (by rw[M6];lia)) ⟨e,?_⟩;refine⟨.non,_,I.lset (its':=Cc++[u]) hH e (by simp) (r.append (.cons ru .nil)) ?_,rfl,q⟩;rw[NC,Ov];lia
theorem jv{α:Type}(xs:List α)(k:Nat):(List.replicate k xs).flatten.length=k*xs.length:=by
 induction k with
 |zero=>simp
 |succ k ih=>rw[N9,Og,NC,ih,Nat.succ_mul,Nat.add_comm]
end
section
variable{prog:Program}{w:World}{A:Around}{E:Value->Shared->Prop}{s:Shared}
end
section
variable{X:Cx}
end
end L2
namespace Att
open PySem PySem.W PySem.Calls PyProof.Rows
theorem g9{P:Params}{h:Heap}:∀(ns:List Int) (vs:List Value),WellAll P h vs (ns.map WData.int)->IntsAre vs ns:=by
 intro ns;induction ns with
 |nil=>
  intro vs w;rw[OP]at w;cases w;exact .nil
 |cons n ns ih=>
  intro vs w;rw[Nk]at w;cases w with
  |cons a b=>
   cases a;exact .cons _ _ (ih _ b)
theorem o9{l:OpenLaw}{n:Nat}(hn:l.most=some n){P:Params}{h:Heap}{args:List WData}{vals:List Value}
  (Ho:l.row.toRowW.claim.pre args=true) (K8:WellAll P h vals args):
  ∃a vs ns,vals=[Value.ref a]/\args=[WData.list (ns.map WData.int)]/\h.get? a=some {cls:=.type "list",data:=.seq vs.toArray}/\IntsAre vs ns/\ns.length<=n:=by
 have hsh:WShape.hasAll [] args [.list .int]=true:=(pre_splitW Ho).1;have hc:l.pre.holds [] {args:=args}=true:=(pre_splitW Ho).2;obtain⟨d,r,rfl,h1,h2⟩:=hasAllW_cons hsh;obtain rfl:=hasAllW_nil h2;obtain⟨xs,rfl,h3⟩:=hasW_list h1;obtain⟨ns,rfl⟩:=items_int h3;have hlen:ns.length<=n:=by
  unfold OpenLaw.pre at hc;have h4:(WTm.not (.lt (.lit (.int (n:Int))) (.len (.arg 0)))).holds [] {args:=[.list (ns.map .int)]}=true:=by
   have h4:=(holds_andW hc).1;rw[hn]at h4;exact h4
  have h5:=condW_of h4 (w_not (w_lt w_lit (w_len_list (w_arg rfl))));rw[M5]at h5;refine Nat.le_of_not_lt fun q=>?_
  have q':(n:Int)<((ns.length:Nat):Int):=by lia
  first
   |(rw[Nm q']at h5;exact absurd h5 (by decide))
   |(simp at h5;lia)
 cases K8 with
 |cons w1 w2=>
  cases w2;cases w1 with
  |list ho Gs=>exact⟨_,_,ns,rfl,rfl,ho,g9 ns _ Gs,hlen⟩
theorem pb(l:OpenLaw)(args:List WData):l.row.toRowW.claim.post args (.bool true) args=true:=
 postW_of (r:=l.row.toRowW) (X:=(true==true))
  (show WShape.has [] (.bool true) .bool=true by first|rfl|decide|simp[WShape.has,WShape.arms,WShape.armsAll])
  (show(WTm.eq .res (.lit (.bool true))).value [] {args:=args,res:=some (.bool true),after:=args}=some (.bool (true==true)) from w_eq_bool (w_res rfl) w_lit) rfl
theorem attach_call{l:OpenLaw}{n:Nat}{q:Program}{loose:List Str}{XP:(Str->Option Value)->Heap->Prop}{YP:World->Heap->Prop}{d:DefRec}
  (hn:l.most=some n) (J9:d.params.defaults=[])
  (call:∀(w:World) (s₀ s₁:Shared) (mg mb:Str->Option Value) (fa:Addr) (o:Obj) (pm cd doc:Value) (a:Addr) (vs:List Value) (ns:List Int),
   Ground q loose [] XP w s₀ mg mb s₁.heap->YP w s₁.heap->
   s₁.heap.get? fa=some o->o.data=.func (docDef d.name d.params d.body d.scope pm cd doc)->s₁.heap.CodeRec cd d.name->mg d.name=some (.ref fa)->
   s₁.heap.get? a=some {cls:=.type "list",data:=.seq vs.toArray}->IntsAre vs ns->ns.length<=n->s₁.gens = #[]->
   codeAny (model l.prog w) callerA (.call (.ref fa) ⟨[.ref a],[]⟩) (fun r s'=>r=.ok (.ret (.bool true))/\OldK s₁.heap s'.heap/\s'.os=s₁.os/\AllBare s'.gens) s₁):
  WalkO q loose XP YP l.row.toRowW d [] (fun f vs=>PySem.call f vs):=by
 intro w s₀ s₁ mg mb G Y fa o pm cd doc dV kV ho hd Fq hD Ka hg args vals as Ho hlay hrd K8 Ms;obtain rfl:dV=.none:=Dflts.none hD J9;obtain rfl:kV=.none:=Dflts.noKw hD;obtain⟨a,vs,ns,rfl,rfl,II,hints,hlen⟩:=o9 hn Ho K8;refine enter_call (Qr (call w s₀ s₁ mg mb fa o pm cd doc a vs ns G Y ho (fd_plain hd) Fq Ka II hints hlen hg) fun r s' hq=>?_);obtain⟨rfl,h2,h3,h4⟩:=hq;exact⟨.inl ⟨.bool true,.bool true,[],rfl,fun _=>rfl,.bool true,pb l _,fun _=>⟨List.Pairwise.nil,fun _ hm=>(nomatch hm)⟩⟩,h2,h3,h4⟩
section
variable{prog:Program}{w:World}{A:Around}{E:Value->Shared->Prop}{s:Shared}{K:Frag}
end
end Att
namespace L2
open PySem PySem.Spec PyProof.Rows
theorem kx:∀{vs:List Value}{ns:List Int},IntsAre vs ns->Vals (ns.map V.int) vs
 |_,_,.nil=>.nil
 |_,_,.cons n t h=>.cons ⟨t,rfl⟩ (kx h)
def zV(H:Hp):Prop:=∀b,H b=none\/∃o xs,H b=some (.frz o (.lst xs))
theorem rm{P:Program}{w:World}{K:W.Frag}{mg mb:Str->Option Value}{CX:F5}{k:Nat}{fa a:Addr}{fd:FuncData}{x:Str}{sp:Sp}{s₁:Shared}{vs:List Value}{ns:List Int}
  (KX:K.In s₁.heap) (K9:s₁.heap.Ns mainGlobals mg) (hb:s₁.heap.Ns builtinsNs mb) (Kb:∀x:Str,x≠"__name__"->mb x=bootBuiltins x) (hlim:s₁.heap.NoLimit) (hg:s₁.gens = #[])
  (ha:s₁.heap.get? a=some {cls:=.type "list",data:=.seq vs.toArray}) (hi:IntsAre vs ns) (hl:ns.length<=sizeLine) (hr:Room k callerA)
  (F:∀base:Heap,K.In base->base.Ns mainGlobals mg->FnOk P w K mg base CX k fa fd [x] sp) (Kc:∀(s:Shared) (u:Value),BindsTo s fd ⟨[u],[]⟩ [(x,u)])
  (Hf:∀H:Hp,zV H->SqL K H a (ns.map V.int)->sp [.ref a] H (fun v _=>v=.bl true) fun _ _ _=>False)
  (LH:∀H e s',CX [] H s₁ (fun _ _ _=>False) e s'->False):
  codeAny (model P w) callerA (.call (.ref fa) ⟨[.ref a],[]⟩) (fun r s'=>r=.ok (.ret (.bool true))/\OldK s₁.heap s'.heap/\s'.os=s₁.os/\AllBare s'.gens) s₁:=by
 have rv:=kx hi;have lenV:=hi.length;have core:∀H:Hp,zV H->SqL K H a (ns.map V.int)->HOk P w H s₁.heap->(∀b,H b≠none->b=a)->(H a≠none->K.lookup a=none)->
   codeAny (model P w) callerA (.call (.ref fa) ⟨[.ref a],[]⟩) (fun r s'=>r=.ok (.ret (.bool true))/\OldK s₁.heap s'.heap/\s'.os=s₁.os/\AllBare s'.gens) s₁:=by
  intro H hO hS hok hA hK;have FW:∀{b:Addr}{o:Obj},s₁.heap.get? b=some o->H b=none->(qQ s₁.heap H).get? b=some o:=fun e n=>qR e n
  have J7:∀{b:Addr}{o:Obj}{es:Array DictEntry}{ep:Nat},s₁.heap.get? b=some o->o.data=.dict es ep->H b=none:=fun{b o es ep} e d=>by
   cases q:H b with
   |none=>rfl
   |some u=>
    have e':b=a:=hA b (by rw[q];simp);subst e';rw[ha]at e;cases e;have d':Data.seq vs.toArray _=Data.dict es ep:=d;cases d'
  have La:∀{b:Addr}{m:Str->Option Value},s₁.heap.Ns b m->(qQ s₁.heap H).Ns b m:=fun{b m} ⟨o,es,ep,e,d,r⟩=>⟨o,es,ep,FW e (J7 e d),d,r⟩
  have Mt:K.In (qQ s₁.heap H):=fun b o e=>FW (KX b o e) (by
   cases q:H b with
   |none=>rfl
   |some u=>
    have e':b=a:=hA b (by rw[q];simp);subst e';rw[hK (by rw[q];simp)]at e;cases e)
  have hM:Mod K mg (qQ s₁.heap H):=⟨Mt,La K9,⟨mb,La hb,Kb⟩,let⟨mc,h1,h2⟩:=hlim;⟨mc,La h1,h2⟩⟩
  have e0:Env0 P w K mg (qQ s₁.heap H) callerA [] s₁ H:=⟨rfl,hM,fun b o e=>uJ e,Nat.le_of_eq (oJ _ _),trivial,fun b hb=>absurd (show b∈([]:List Addr) from hb) (by simp),hok,.of_eq hg⟩
  refine Qr ((F _ Mt (La K9)).run callerA [] s₁ H ⟨[.ref a],[]⟩ [.ref a] [.ref a] _ _ hr e0 (Kc s₁ (.ref a)) (.cons rfl .nil) (Hf H hO hS)) fun r s' h=>?_
  cases r with
  |error e=>exact(LH H e s' h).elim
  |ok fl=>
   cases fl with
   |next=>exact False.elim h
   |brk=>exact False.elim h
   |cont=>exact False.elim h
   |ret u=>
    obtain⟨v,H',os,bare,un,hok',r',q⟩:=h;have q':v=.bl true:=q;subst q';obtain rfl:u=Value.bool true:=r';refine⟨rfl,OldK.of_keep fun b o e=>?_,os,bare⟩;cases q:H b with
    |none=>exact un.keep b o e q (by intro z;exact absurd (show b∈([]:List Addr) from z) (by simp)) (by simp)
    |some u=>
     rcases hO b with z|⟨ob,xs,z⟩
     ·rw[q]at z;cases z
     ·have z2:=un.frzs b ob _ z;obtain⟨e1,_⟩:=hok b _ z;obtain⟨e2,_⟩:=hok' b _ z2;rw[e]at e1;cases e1;exact e2
 cases hk:K.lookup a with
 |some o=>
  have e:=KX a o hk;rw[ha]at e;cases e;refine core (fun _=>none) (fun _=>.inl rfl) (.inr ⟨_,vs.toArray,_,hk,rfl,rfl,rfl,by rw[M6,lenV];exact hl,by simpa using rv⟩) (fun b u z=>by have z':(none:Option HO)=some u:=z;cases z') (fun b z=>absurd rfl z) fun z=>absurd rfl z
 |none=>
  refine core (fun b=>if b=a then some (.frz {cls:=.type "list",data:=.seq vs.toArray} (.lst (ns.map V.int))) else none) (fun b=>?_) (.inl (.inr ⟨{cls:=.type "list",data:=.seq vs.toArray},Nc rfl⟩)) (fun b u z=>?_) (fun b z=>?_) fun _=>hk
  ·by_cases hb:b=a
   ·exact .inr ⟨_,_,Nc hb⟩
   ·exact .inl (Ng hb)
  ·by_cases hb:b=a
   ·have z':=(Nc hb).symm.trans z;cases z';subst hb;exact⟨ha,by rw[M5];exact hl,vs,_,rv,ha⟩
   ·have z':=(Ng hb).symm.trans z;cases z'
  ·by_cases hb:b=a
   ·exact hb
   ·exact absurd (Ng hb) z
theorem u6{l:PySem.W.OpenLaw}{n k:Nat}{q:Program}{loose:List Str}{XP:(Str->Option Value)->Heap->Prop}{YP:World->Heap->Prop}{d:DefRec}{K:Params->W.Frag}{CX:World->F5}{sp:World->Sp}{x:Str}
  (hn:l.most=some n) (hn2:n<=sizeLine) (J9:d.params.defaults=[]) (hr:Room k callerA)
  (hY:∀(w:World) (h:Heap),YP w h->(K w.params).In h)
  (F:∀(w:World) (mg:Str->Option Value) (fa:Addr) (h:Heap),(K w.params).In h->h.Ns mainGlobals mg->mg d.name=some (.ref fa)->
   ∃fd:FuncData,(∀(s:Shared) (u:Value),BindsTo s fd ⟨[u],[]⟩ [(x,u)])/\
    ∀base:Heap,(K w.params).In base->base.Ns mainGlobals mg->FnOk l.prog w (K w.params) mg base (CX w) k fa fd [x] (sp w))
  (Hf:∀(w:World) (H:Hp) (a:Addr) (ns:List Int),ns.length<=n->zV H->SqL (K w.params) H a (ns.map V.int)->sp w [.ref a] H (fun v _=>v=.bl true) fun _ _ _=>False)
  (LH:∀(w:World) (H:Hp) (s:Shared) (e:Value) (s':Shared),CX w [] H s (fun _ _ _=>False) e s'->False):
  PySem.W.WalkO q loose XP YP l.row.toRowW d [] (fun f vs=>PySem.call f vs):=by
 refine Att.attach_call hn J9 fun w s₀ s₁ mg mb fa o pm cd doc a vs ns G Y ho hd Fq Ka II hints hlen hg=>?_
 have KX:=hY w _ Y;obtain⟨fd,hb,hF⟩:=F w mg fa _ KX G.T.g Ka;exact rm KX G.T.g G.T.b G.T.builtins G.T.nolimit hg II hints (NF hlen hn2) hr hF hb (fun H hO hS=>Hf w H a ns hlen hO hS) fun H e s'=>LH w H s₁ e s'
def dE(s:Stmt):Arguments:=match s with
 | .FunctionDef _ a _ _ _ _ _ _ _ _=>a
 |_=>{posonlyargs:=[],args:=[],vararg:=none,kwonlyargs:=[],kw_defaults:=[],kwarg:=none,defaults:=[]}
def bY(s:Stmt):List Stmt:=match s with
 | .FunctionDef _ _ b _ _ _ _ _ _ _=>b
 |_=>[]
def defScope(s:Stmt):Scope:=match s with
 | .FunctionDef _ _ _ _ _ _ sc _ _ _=>sc
 |_=>{kind:=.function,names:=[],isGenerator:=false,isCoroutine:=false}
abbrev Gu:F5:=fun _ _ _ _ _ _=>False
abbrev E0:XK:=fun _ _ _=>False
theorem zW{X:Cx}:oX Gu X E0:=fun _ _ _ _ _ _ _ h=>h.elim
structure Fun(K:W.Frag)(x qual:Str)(st:Stmt)(f:Addr)(fd:FuncData):Prop where
 ex:∃(oc:Value) (od:Option Addr) (kV doc pm:Value) (an:Option Addr) (CB ct:Value) (Gr:Array (Option Value)),
  fd=PySem.W.fnOf x qual (dE st) (bY st) (defScope st) .none kV doc pm an CB ct/\K.lookup f=some ⟨oc,od,.func fd,Gr⟩/\PySem.W.codeIn K CB qual=true
 kp:PySem.W.keepIn K (.ref f)=true
section
variable{P:Program}{w:World}{K:W.Frag}{mg:Str->Option Value}{base:Heap}
theorem Fun.ok{x qual:Str}{st:Stmt}{f:Addr}{fd:FuncData}{N ps:List Str}{k:Nat}{sp:Sp}(F:Fun K x qual st f fd)(S:FnScope N ps (defScope st))(len:∀vs H Q E,sp vs H Q E->vs.length=ps.length)
  (E8:∀(CB:Value) (A:Around) (outer:List Env) (s:Shared) (H:Hp) (vs:List V) (Q:VK) (E:XK),Room k (A.deeper (envOfC qual (defScope st) s.heap.objs.size f CB))->sp vs H Q E->
   ∃t,PSs (oY Gu P w K mg base N qual (defScope st) f CB A outer s H E).nox (bY st) t/\t {nx:=fun _ H'=>Q .non H',rt:=Q} (gL N vs) H):FnOk P w K mg base Gu (k+1) f fd ps sp:=by
 obtain⟨oc,od,kV,doc,pm,an,CB,ct,Gr,rfl,lk,Fq⟩:=F.ex;refine xy lk Fq S len fun A outer s H vs Q E hr Hf=>?_
 obtain⟨t,h,q⟩:=E8 CB A outer s H vs Q E hr Hf;exact⟨t,h.nox,q⟩
theorem Fun.binds{x qual:Str}{st:Stmt}{f:Addr}{fd:FuncData}{ps:List Str}(F:Fun K x qual st f fd)
  (h:∀(kV doc pm:Value) (an:Option Addr) (CB ct:Value) (us:List Value),us.length=ps.length->bindArgs (PySem.W.fnOf x qual (dE st) (bY st) (defScope st) .none kV doc pm an CB ct) ⟨us,[]⟩=pure (ps.zip us)):Binds K fd ps []:=by
 obtain⟨oc,od,kV,doc,pm,an,CB,ct,Gr,rfl,lk,Fq⟩:=F.ex;exact .all (h kV doc pm an CB ct)
theorem tS{x qual:Str}{st:Stmt}{f:Addr}{oc:Value}{od an:Option Addr}{Gr:Array (Option Value)}{kV doc pm CB ct:Value}(l:K.lookup f=some ⟨oc,od,.func (PySem.W.fnOf x qual (dE st) (bY st) (defScope st) .none kV doc pm an CB ct),Gr⟩)
  (c:PySem.W.codeIn K CB qual=true) (k:PySem.W.keepIn K (.ref f)=true):Fun K x qual st f (PySem.W.fnOf x qual (dE st) (bY st) (defScope st) .none kV doc pm an CB ct):=⟨⟨oc,od,kV,doc,pm,an,CB,ct,Gr,rfl,l,c⟩,k⟩
end
theorem hu_of{A:Around}{k:Nat}(hr:Room k A):A.units+1<cLine:=Q8 (Nat.add_le_add_left (by decide:1<=64) _) hr.units
section
variable{X:Cx}
theorem pv(i:Nat){x:Str}{pos:Pos}(hN:X.N[i]?=some x:=by rfl)(hv:Lv X.env.scope x:=by first|exact Or.inl rfl|exact Or.inr (Or.inl rfl)|exact Or.inr (Or.inr rfl))(hd:(x==("__debug__" : Str))=false:=by decide)
  (Fq:(x==("__classdict__" : Str))=false:=by decide):PE X (.Name x pos) (nH i):=w6 hN hv hd Fq
end
theorem iteF{A B:Prop}(h:B):if false=true then A else B:=by
 rw[Ng Nb];exact h
theorem wM{A B:Prop}(h:A):if true=true then A else B:=by
 rw[Nc rfl];exact h
def Same(H H':Hp):Prop:=∀b o,H b=some o->H' b=some o
theorem Same.refl(H:Hp):Same H H:=fun _ _ h=>h
theorem Same.trans{H H1 H2:Hp}(a:Same H H1)(b:Same H1 H2):Same H H2:=fun c o h=>b c o (a c o h)
end L2
set_option maxHeartbeats 4000000
namespace NX
open PySem PySem.Spec PyProof.Rows L2
section
variable{X:Cx}
theorem pd:CM X (compareOp .LtE) (fun x y H Q=>∃i j,x=.str i/\y=.str j/\Q (.bl (!decide (j.cps.toList<i.cps.toList))) H):=by
 intro pr s σ H x y v u Q I rx ry h;obtain⟨i,j,rfl,rfl,q⟩:=h;obtain⟨t,rfl⟩:=rx;obtain⟨t',rfl⟩:=ry;exact PySem.P.le_str (mh I q rfl)
theorem rp(v:Int)(n:Nat):max (0:Int) (min (if v<0 then v+(n:Int) else v) (n:Int))=((HT.sIx n 0 (some v):Nat):Int):=by
 show _=(((if v<0 then(v+(n:Int)).toNat else min v.toNat n):Nat):Int)
 split <;> lia
theorem xG(a b:Nat):sliceRange (a:Int) (b:Int) 1=(List.range (b-a)).map (fun k=>a+k):=by
 unfold sliceRange;rw[Nc (by decide:(1:Int)>0)];by_cases Dz:(a:Int)<b
 ·have e3:(((b:Int)-a+1-1) / 1).toNat=b-a:=by first|lia|(simp;done)|(simp;lia)
  simp only[Dz,Py,e3];refine Oj fun k _=>?_
  lia
 ·have:b-a=0:=by lia
  simp[Dz,this]
theorem Bz(lo hi:Option Int)(n:Nat):Builtin.Str.strSliceIndices lo hi 1 n=(List.range (HT.sIx n n hi-HT.sIx n 0 lo)).map (fun k=>HT.sIx n 0 lo+k):=by
 rw[<-xG];unfold Builtin.Str.strSliceIndices;simp only[show(1:Int)>0 from by decide,Py];cases lo with
 |none=>
  cases hi with
  |none=>rfl
  |some v=>exact NY (fun z=>sliceRange 0 z 1) (rp v n)
 |some u=>
  cases hi with
  |none=>exact NY (fun z=>sliceRange z (n:Int) 1) (rp u n)
  |some v=>exact(NY (fun z=>sliceRange z _ 1) (rp u n)).trans (NY (fun z=>sliceRange _ z 1) (rp v n))
def xH(xs:List Nat)(lo hi:Option Int):List Nat:=(xs.drop (HT.sIx xs.length 0 lo)).take (HT.sIx xs.length xs.length hi-HT.sIx xs.length 0 lo)
theorem tU{α:Type}(l:List α):∀(n a:Nat),a+n<=l.length->((List.range n).map (fun k=>a+k)).filterMap (l[·]?)=(l.drop a).take n
 | 0,_,_=>by simp
 |n+1,a,h=>by
  have Dz:a+n<l.length:=by lia
  rw[OQ,Nu,List.filterMap_append,tU l n a (by lia),List.take_add_one,List.getElem?_drop];simp[List.getElem?_eq_getElem Dz]
theorem pe(x:Str)(lo hi:Option Int):(Txt.slice x lo hi).cps.toList=xH x.cps.toList lo hi:=by
 have hl:x.cps.toList.length=x.length:=N7;have ha:=HT.o5 x.length 0 (NG _) lo;have hb:=HT.o5 x.length x.length (M8 _) hi;unfold Txt.slice xH;rw[Bz,hl];split
 ·rename_i h;have h2:HT.sIx x.length x.length hi-HT.sIx x.length 0 lo=x.length:=by simpa using h
  have ez:HT.sIx x.length 0 lo=0\/x.length=0:=by lia
  rcases ez with e|e
  ·rw[h2,e,QN,Om (by lia)]
  ·have:x.cps.toList=[]:=NR (by lia);rw[this];simp
 ·have hk:∀(f:List Nat),f.filterMap (x.cps[·]?)=f.filterMap (x.cps.toList[·]?):=fun f=>by
   congr 1
   funext i
   simp
  show(List.filterMap _ _).toArray.toList=_;rw[Pz,hk];by_cases hle:HT.sIx x.length 0 lo<=HT.sIx x.length x.length hi
  ·rw[tU _ _ _ (by lia)]
  ·have e0:HT.sIx x.length x.length hi-HT.sIx x.length 0 lo=0:=by lia
   rw[e0];rfl
abbrev S(l:List Nat):Str:=⟨l.toArray⟩
theorem ky(x:Str):S x.cps.toList=x:=by cases x;simp[S]
theorem u9{a b:List Nat}(h:S a=S b):a=b:=by
 have:=NY (fun z:Str=>z.cps.toList) h;simpa[S] using this
theorem i6(l:List Nat):(S l).length=l.length:=by simp[S,Str.length]
theorem cn(l:List Nat):(S l).cps.toList=l:=by simp[S]
theorem zX(a b:List Nat):S a++S b=S (a++b):=by
 rw[<-ky (S a++S b),PySem.W.KT.app_list,cn,cn]
def BA:V->Option Int->Option Int->Hp->VK->Prop:=fun x lo hi H Q=>∃l,x=.str (S l)/\l.length<=sizeLine/\Q (.str (S (xH l lo hi))) H
theorem xI:IH X BA:=by
 intro pr s σ H x v vl vu lo hi sl Q I rx hs pl pu h;obtain⟨l,rfl,hz,q⟩:=h;obtain⟨t,rfl⟩:=rx;have hz':(S l).length<=sizeLine:=by rw[i6];exact hz
 have e:∀t' k,EP X pr σ Q (.str (Txt.slice (S l) lo hi) t') {s with toks:=k}:=fun t' k=>by
  refine⟨.str (S (xH l lo hi)),H,I.tok _,⟨t',?_⟩,q⟩;have e1:=pe (S l) lo hi;rw[cn]at e1;rw[<-e1,ky]
 refine⟨"str",_,PySem.F.slot_str_getitem.lookup,QD _ _ _,?_⟩;have key:∀(IJ Lb:Option (Int×Tok)),partValue IJ=vl->partValue Lb=vu->IJ.map (·.1)=lo->Lb.map (·.1)=hi->
   wpAny (model X.prog X.w) X.A (getItem (.str (S l) t) (.ref sl)) (EP X pr σ Q) X.xe s:=by
  rintro IJ Lb rfl rfl rfl rfl;exact wpAny_getItem_str_slice (l:=IJ) (u:=Lb) (st:=none) hs rfl (post_val_or_str ⟨NF (Txt.slice_le (S l) _ _) hz',fun t' k=>e t' k⟩)
 cases pl with
 |none=>
  cases pu with
  |none=>exact key none none rfl rfl rfl rfl
  |int j uj=>exact key none (some (j,uj)) rfl rfl rfl rfl
 |int i ui=>
  cases pu with
  |none=>exact key (some (i,ui)) none rfl rfl rfl rfl
  |int j uj=>exact key (some (i,ui)) (some (j,uj)) rfl rfl rfl rfl
theorem ve{xs:List V}{j:Nat}{x:V}(h:xs[j]?=some x):xs.getD j .non=x:=by rw[List.getD_eq_getElem?_getD,h];rfl
end
def Def(K:W.Frag)(mg:Str->Option Value)(x:Str)(st:Stmt):Prop:=∃f fd,Fun K x x st f fd/\mg x=some (.ref f)
def Ct(P:Program)(w:World)(K:W.Frag)(mg:Str->Option Value)(base:Heap)(x:Str)(k:Nat)(sp:Sp):Prop:=
 ∃f fd ps,FnOk P w K mg base Gu k f fd ps sp/\mg x=some (.ref f)/\PySem.W.keepIn K (.ref f)=true/\Binds K fd ps []
section
variable{X:Cx}{e:Expr}{es:List Expr}{t:TA}{x:Str}{p pos:Pos}{k:Nat}{sp:Sp}
theorem zY(C:Ct X.prog X.w X.K X.mg X.base x k sp)(hr:Room k X.A)(hg:Gl X x)(ha:PA X (e::es) t)(C9:(x==("__debug__" : Str))=false:=by decide)
  (he:starEach (e::es) X.env=(false,eval e X.env)::starEach es X.env:=by rfl) (C8:(backTo pos (starEach es X.env)).any (·.1)=false:=by rfl):
  PE X (.Call (.Name x p) (e::es) [] pos) (tCall sp [] E0 t):=by
 obtain⟨f,fd,ps,G,m,kp,b⟩:=C;exact uR G hr hg m kp b .nil zW ha C9 he C8
def Gi(mg:Str->Option Value)(x:Str)(n:Int):Prop:=∃t,mg x=some (.int n t)
theorem zZ{n:Int}(h:Gi X.mg x n)(hg:Gl X x)(hd:(x==("__debug__" : Str))=false:=by decide):PE X (.Name x p) (tC (.int n)):=by
 obtain⟨t,m⟩:=h;exact lB hg m ⟨t,rfl⟩ hd
end
theorem bt_len:bootBuiltins "len" = some (.builtin "len"):=by decide +kernel
theorem cF:bootBuiltins "isinstance" = some (.builtin "isinstance"):=by decide +kernel
theorem xJ:bootBuiltins "str" = some (.type "str"):=by decide +kernel
theorem lD:bootBuiltins "list" = some (.type "list"):=by decide +kernel
theorem xK:bootBuiltins "int" = some (.type "int"):=by decide +kernel
theorem cT:bootBuiltins "tuple" = some (.type "tuple"):=by decide +kernel
theorem vf:bootBuiltins "bool" = some (.type "bool"):=by decide +kernel
theorem line_eq:sizeLine=16777216:=NV
theorem flat_strs(a:List (List Nat)):(a.map fun l=>V.str (S l)).all rj=true:=by
 rw[NA];intro v hv;obtain⟨l,_,rfl⟩:=Of.mp hv;rfl
section
variable{X:Cx}{e:Expr}{st:Stmt}
end
def clOf(scope:Scope)(env:Env):List (Str×Addr):=scope.names.foldl (fun cs y=>if y.2==NameKind.free then(y.1,(env.cells.lookup y.1).getD 0)::cs else cs) []
def fu(scope:Scope)(env:Env):Bool:=scope.names.all fun y=>y.2 != NameKind.free||env.kindOf y.1==some .cell||env.kindOf y.1==some .free
theorem eB(env:Env):∀(l:List (Str×NameKind)) (cs:List (Str×Addr)),(∀y∈l,y.2=.free->∃c,env.cells.lookup y.1=some c)->
  (forIn l cs fun(y:Str×NameKind) (r:List (Str×Addr))=>(do
   if y.2==NameKind.free then
    let a <-cellOf env y.1
    pure (ForInStep.yield ((y.1,a)::r))
   else pure (ForInStep.yield r):Sem (ForInStep (List (Str×Addr)))))=pure (l.foldl (fun cs y=>if y.2==NameKind.free then(y.1,(env.cells.lookup y.1).getD 0)::cs else cs) cs)
 |[],cs,_=>by simp
 |y::l,cs,h=>by
  rw[PB,Ob];by_cases k:y.2=.free
  ·obtain⟨c,e⟩:=h y M7 k;have e2:cellOf env y.1=pure c:=by unfold cellOf;rw[e]
   simp only[k,N5,Py,e2,e,Option.getD_some,pure_bind];exact eB env l _ fun z hz=>h z (Nj _ hz)
  ·have kb:(y.2==NameKind.free)=false:=by simpa using k
   simp only[kb,Ow,PL,pure_bind];exact eB env l _ fun z hz=>h z (Nj _ hz)
theorem eR(env:Env)(x:Str)(c:Addr):∀(l:List (Str×NameKind)) (cs:List (Str×Addr)),(∀y∈l,y.2=.free->∃c,env.cells.lookup y.1=some c)->(cs.lookup x=some c->env.cells.lookup x=some c)->
  (l.foldl (fun cs y=>if y.2==NameKind.free then(y.1,(env.cells.lookup y.1).getD 0)::cs else cs) cs).lookup x=some c->env.cells.lookup x=some c
 |[],_,_,h,e=>h e
 |y::l,cs,hf,h,e=>by
  rw[Ob]at e;refine eR env x c l _ (fun z hz=>hf z (Nj _ hz)) (fun q=>?_) e;split at q
  ·rename_i k;have k:y.2=.free:=by simpa using k
   obtain⟨d,ed⟩:=hf y M7 k;rw[NK]at q;cases hx:x==y.1 with
   |true=>
    rw[hx]at q;have exy:x=y.1:=by simpa using hx
    rw[ed,Option.getD_some]at q;rw[exy,ed];exact q
   |false=>
    rw[hx]at q;exact h q
  ·exact h q
theorem hJ(env:Env)(x:Str):∀(l:List (Str×NameKind)) (cs:List (Str×Addr)),((∃d,cs.lookup x=some d)\/(x,NameKind.free)∈l)->
  ∃d,(l.foldl (fun cs y=>if y.2==NameKind.free then(y.1,(env.cells.lookup y.1).getD 0)::cs else cs) cs).lookup x=some d
 |[],_,h=>by
  rcases h with h|h
  ·exact h
  ·cases h
 |y::l,cs,h=>by
  rw[Ob];refine hJ env x l _ ?_;rcases h with⟨d,h⟩|h
  ·refine .inl ?_;split
   ·rw[NK];cases hx:x==y.1 with
    |true=>exact⟨_,rfl⟩
    |false=>exact⟨d,h⟩
   ·exact⟨d,h⟩
  ·rcases Ni.mp h with h|h
   ·refine .inl ?_;rw[<-h];refine⟨(env.cells.lookup x).getD 0,?_⟩;show List.lookup x ((x,_)::cs)=_;rw[NK,N5]
   ·exact .inr h
noncomputable def bE(X:Cx)(scope:Scope)(N:List Str)(C:Addr)(s:Shared)(H:Hp)(fp:List Addr)(pn:List (Addr×Obj)):Cx:=
 {X with N:=N,s₀:=s,H₀:=H,env:=compEnvC scope (clOf scope X.env) C X.env,outer:=X.stack,ex:=fp,fn:=fun _=>false,pn:=pn,xe:=fun _ _=>False}
def je(ix:List (Option Nat))(σ:L2.St):L2.St:=ix.map fun i=>i.bind fun i=>(σ[i]?).bind id
noncomputable def vg(wi:TI)(ix:List (Option Nat))(g:TG)(tc:TT)(te:TE):TE:=fun σ H Q=>wi σ H fun J H1=>∀D,H1 D=none->∃W:Nat->Nat->L2.St->Hp->Prop,(∃m,W 0 m (je ix σ) (upd H1 D (.lst [])))/\
 ∀i m σ1 H2,W i m σ1 H2->(J.stop i H2/\Q (.ref D) H2)\/(J.go i H2/\∀x H3,J.yld i H2 x H3->g x σ1 H3 fun σ2 H4=>tc σ2 H4 fun b H5=>if b=true then te σ2 H5 fun v H6=>
  ∃ys,H6 D=some (.lst ys)/\ys.length<sizeLine/\∃m',m'<m/\W (i+1) m' σ2 (upd H6 D (.lst (ys++[v]))) else ∃m',m'<m/\W (i+1) m' σ2 H5)
abbrev Hq:Value->Shared->Prop:=fun _ _=>False
theorem JJ{α:Type}{M:Model}{A:Around}{t:Sem α}{Q Q':α->Shared->Prop}{E:Value->Shared->Prop}{s:Shared}(h:wpAny M A t Q Hq s)(k:∀a s,Q a s->Q' a s):wpAny M A t Q' E s:=NL h k fun _ _ z=>z.elim
theorem pf{prog:Program}{w:World}{A:Around}{R:Result->Shared->Prop}{s:Shared}{elt target iter:Expr}{ifs:List Expr}{scope:Scope}{pos:Pos}{it acc:Value}{env:Env}(I:Nat->Shared->Prop)
  (turn:∀n s,I n s->wpAny (model prog w) A (pyNext it) (fun r s₁=>match r with
   |none=>R (.ok .next) s₁
   |some v=>wpAny (model prog w) A (letOwnedTupleGo target it v) (fun _ s₂=>wpAny (model prog w) A (assign target env v) (fun _ s₃=>
     wpAny (model prog w) A (forIn ifs true fun c r=>if r=true then do let ok <-isTrue c env (eval c env);pure (ForInStep.yield ok) else pure (ForInStep.yield r)) (fun ok s₄=>
      if ok=true then wpAny (model prog w) A (eval elt env) (fun x s₅=>
       wpAny (model prog w) A (call (.builtin "list.append") [acc,x]) (fun _ s₆=>∃m,m<n/\I m s₆) Hq s₅) Hq s₄
      else ∃m,m<n/\I m s₄) Hq s₃) Hq s₂) Hq s₁) Hq s)
  (n:Nat) (h:I n s):codeAny (model prog w) A (.compLoop (.ListComp elt [⟨target,iter,ifs,0⟩] scope pos) 0 it acc env) R s:=by
 refine codeAny_loop rfl I (fun n s hI=>?_) n h;show wpAny _ A ((compTurn (.ListComp elt [⟨target,iter,ifs,0⟩] scope pos) 0 it acc env).onRaise (fun x=>do noteFrame x env;theTreesLotGoes x)) _ _ s;refine wpAny_noted ?_;rw[compTurn_list];refine M3 (Q9 (M3 (JJ (turn n s hI) fun r s₁ h₁=>?_)));cases r with
 |none=>exact M4 h₁
 |some v=>
  refine M3 (JJ h₁ fun _ s₂ h₂=>M3 (JJ h₂ fun _ s₃ h₃=>M3 (JJ h₃ fun ok s₄ h₄=>?_)));cases ok with
  |false=>exact M4 ⟨rfl,h₄⟩
  |true=>exact M3 (M3 (JJ h₄ fun x s₅ h₅=>M3 (JJ h₅ fun _ s₆ h₆=>M4 (M4 ⟨rfl,h₆⟩))))
def Kd(X:Cx)(ifs:List Expr)(t:TT):Prop:=
 ∀(pr:List (Addr×Obj)) (s:Shared) (σ:L2.St) (H:Hp) (Q:Bool->Hp->Prop),Inv X pr σ H s->t σ H Q->
  wpAny (model X.prog X.w) X.A (forIn ifs true fun c r=>if r=true then do let ok <-isTrue c X.env (eval c X.env);pure (ForInStep.yield ok) else pure (ForInStep.yield r)) (TP X pr σ Q) X.xe s
def BB:TT:=fun _ H Q=>Q true H
theorem vh{X:Cx}:Kd X [] BB:=fun _ _ _ H _ I h=>wpAny_tests_nil ⟨H,I,h⟩
def tV(X:Cx)(scope:Scope)(N:List Str)(ix:List (Option Nat)):Bool:=
 N.length==ix.length&&(N.zip ix).all fun y=>match y.2 with
  |none=>true
  |some j=>X.N[j]?==some y.1&&scope.names.lookup y.1==some .free
theorem kz{scope:Scope}{env:Env}{x:Str}(h:scope.names.lookup x=some .free):(relabel scope env).names.lookup x=some .cell\/(relabel scope env).names.lookup x=some .free:=by
 unfold relabel;dsimp only;generalize scope.names=l at h;induction l with
 |nil=>cases h
 |cons y l ih=>
  obtain⟨n,k⟩:=y;rw[NK]at h;rw[Nk];cases hx:x==n with
  |true=>
   rw[hx]at h;have hk:k=.free:=Nw h;subst hk;dsimp only;split
   ·exact .inl (by rw[NK,hx])
   ·exact .inr (by rw[NK,hx])
  |false=>
   rw[hx]at h;dsimp only;split
   ·rw[NK,hx];exact ih h
   ·rw[NK,hx];exact ih h
theorem kA{scope:Scope}{env:Env}{x:Str}(hc:∀y∈scope.names,y.2≠.cell)(h:(relabel scope env).names.lookup x=some .cell\/(relabel scope env).names.lookup x=some .free):(x,NameKind.free)∈scope.names:=by
 unfold relabel at h;dsimp only at h;generalize scope.names=l at h hc;induction l with
 |nil=>rcases h with h|h <;> cases h
 |cons y l ih=>
  obtain⟨n,k⟩:=y;rw[Nk]at h;dsimp only at h;have nk:k≠.cell:=hc (n,k) M7;have Mu:=ih (hc:=fun z hz=>hc z (Nj _ hz));by_cases cnd:(k==NameKind.free&&env.scope.kind==.function&&env.kindOf n==some .cell)=true
  ·rw[Nc cnd,NK]at h;have kf:k=.free:=by
    have:(k==NameKind.free)=true:=by
     simp only[Nf]at cnd;exact cnd.1.1
    simpa using this
   cases hx:x==n with
   |true=>
    have:x=n:=by simpa using hx
    rw[this,kf];exact M7
   |false=>
    rw[hx]at h;exact Nj _ (Mu h)
  ·rw[Ng cnd,NK]at h;cases hx:x==n with
   |true=>
    rw[hx]at h;have:x=n:=by simpa using hx
    rcases h with h|h
    ·exact absurd (Nw h) nk
    ·rw[this,<-Nw h];exact M7
   |false=>
    rw[hx]at h;exact Nj _ (Mu h)
section
variable{X:Cx}{pr:List (Addr×Obj)}{σ:L2.St}{H:Hp}{s:Shared}{scope:Scope}{N:List Str}{ix:List (Option Nat)}{fp:List Addr}
theorem jw(ok:X.Ok)(hf:fu scope X.env=true):∀y∈scope.names,y.2=.free->∃c,X.env.cells.lookup y.1=some c:=fun y hy k=>by
 have:=NA.mp hf y hy;rw[k]at this;simp only[P0,Bool.false_or,Qt,NN]at this;exact ok.has y.1 this
theorem hU(ok:X.Ok)(hf:fu scope X.env=true){x:Str}{c:Addr}(h:(clOf scope X.env).lookup x=some c):X.env.cells.lookup x=some c:=
 eR X.env x c scope.names [] (jw ok hf) (fun z=>nomatch z) h
theorem ph(ok:X.Ok)(hf:fu scope X.env=true){x:Str}(h:(x,NameKind.free)∈scope.names):∃c,(clOf scope X.env).lookup x=some c/\X.env.cells.lookup x=some c:=by
 obtain⟨c,e⟩:=hJ X.env x scope.names [] (.inr h);exact⟨c,e,hU ok hf e⟩
theorem _root_.L2.Inv.block(I:Inv X pr σ H s)(hf:fu scope X.env=true)(hk:scope.kind=.function)(C1:∀y∈scope.names,y.2≠.cell)(Ek:tV X scope N ix=true)(fo:∀b∈fp,oF X pr H b)(fin:∀b∈fp,∃o,s.heap.get? b=some o)
  {h1:Heap}{t1:Nat}{D C:Addr}(hD:D=s.heap.objs.size) (hC:C=s.heap.objs.size+1) (old:∀b o,s.heap.get? b=some o->h1.get? b=some o) {n:Nat}(acc:h1.get? D=some {cls:=.type "list",data:=.seq #[] n})
  {m:Str->Option Value}(ns:h1.Ns C m):Inv (bE X scope N C s H fp (X.pn++pr)) [] (je ix σ) (upd H D (.lst [])) {s with heap:=h1,toks:=t1}:=by
 have Fu:s.heap.objs.size<=C:=by rw[hC];exact OR _
 have freshD:s.heap.objs.size<=D:=by rw[hD];exact M8 _
 have nD:H D=none:=I.hok.fresh freshD;have DC:D≠C:=by rw[hD,hC];exact Nl (Oc _)
 have IK:∀b,H b=none->b≠D->upd H D (.lst []) b=none:=fun b n z=>by rw[aA z];exact n
 have JK:∀b o,s.heap.get? b=some o->b≠D:=fun b o e=>Nl (Nd (M9 e) freshD)
 have Hr:∀b o,s.heap.get? b=some o->b≠C:=fun b o e=>Nl (Nd (M9 e) Fu)
 have cellAt:∀x c,(clOf scope X.env).lookup x=some c->∃v o,s.heap.get? c=some o/\o.data=.cell v:=fun x c e=>by
  obtain⟨v,o,ho,hd⟩:=I.cell x c (hU I.ok hf e);exact⟨v,o,ho,hd⟩
 have okY:(bE X scope N C s H fp (X.pn++pr)).Ok:=by
  refine⟨I.ok.mod,hk,I.ok.glob,I.ok.blt,Fu,fun x y c e1 e2=>?_,fun x hx=>?_,fun x c z _=>?_,I.ok.hd,I.ok.frames,.inl rfl,fun b hb=>?_,I.bs,?_,fun b o e hb=>?_,fun b hb hs=>?_,I.stack,I.stkFree⟩
  ·exact I.ok.inj x y c (hU I.ok hf e1) (hU I.ok hf e2)
  ·obtain⟨c,e,_⟩:=ph I.ok hf (kA C1 hx);exact⟨c,e⟩
  ·exact absurd (show false=true from z) Nb
  ·obtain⟨f0,f1,f2,f3,f4,f5⟩:=fo b hb;refine⟨?_,fun x c e=>f4 x c (hU I.ok hf e)⟩;intro z;have z:b=C:=z;obtain⟨o,ho⟩:=fin b hb;exact Hr b o ho z
  ·exact NF I.ok.bsz I.sz
  ·obtain⟨f0,f1,f2,f3,f4,f5⟩:=fo b hb;rcases f3 with q|q
   ·exact I.ok.noex b o e q
   ·exact absurd (Nd (M9 e) (NF I.ok.bsz q)) (OG _)
  ·obtain⟨f0,f1,f2,_⟩:=fo b hb;exact(Ni.mp (I.stkSub b hs)).elim f1 f2
 refine⟨okY,rfl,I.bare,Un.laid old freshD nD,⟨m,ns,fun i x v e1 e2 e3=>?_⟩,fun x c e=>?_,?_,fun x c e=>?_,fun p hp=>?_,I.hok.laid old freshD ⟨NG _,[],n,.nil,acc⟩,?_⟩
 ·
  have e2:(ix.map fun i=>i.bind fun i=>(σ[i]?).bind id)[i]?=some (some v):=e2;have e1:N[i]?=some x:=e1;unfold tV at Ek;rw[Nf]at Ek;rw[List.getElem?_map]at e2;cases q:ix[i]? with
  |none=>rw[q]at e2;cases e2
  |some o=>
   rw[q]at e2;have e2:(o.bind fun i=>(σ[i]?).bind id)=some v:=Nw e2;cases o with
   |none=>cases e2
   |some j=>
    have e2:(σ[j]?).bind id=some v:=e2;have hσ:σ[j]?=some (some v):=by
     cases w':σ[j]? with
     |none=>rw[w']at e2;cases e2
     |some y=>rw[w']at e2;exact NY some e2
    have hz:(N.zip ix)[i]?=some (x,some j):=by
     rw[List.getElem?_zip_eq_some];exact⟨e1,q⟩
    have hy:=NA.mp Ek.2 _ (NQ hz);simp only[Nf,NN]at hy;have Mv:(x,NameKind.free)∈scope.names:=Oi hy.2;obtain⟨c,c1,c2⟩:=ph I.ok hf Mv;have IL:X.env.kindOf x=some .cell\/X.env.kindOf x=some .free:=by
     have:=NA.mp hf _ Mv;simpa using this
    obtain⟨mo,Mr,Ms⟩:=I.loc;obtain⟨u,r,l⟩:=Ms j x v hy.1 hσ (.inr IL);refine⟨u,r,.inr ⟨kz hy.2,c,c1,?_⟩⟩;rcases l with⟨k1,_⟩|⟨_,c',e',F4⟩
    ·rcases IL with k2|k2 <;> (rw[k1]at k2;cases k2)
    ·rw[c2]at e';cases e';obtain⟨o,ho,hd⟩:=F4;exact⟨o,old c o ho,hd⟩
 ·obtain⟨v,o,ho,hd⟩:=cellAt x c e;exact⟨v,o,old c o ho,hd⟩
 ·exact IK C (I.hok.fresh Fu) (Oo DC)
 ·obtain⟨v,o,ho,hd⟩:=cellAt x c e;exact IK c (I.freeC x c (hU I.ok hf e)) (JK c o ho)
 ·have hp:p∈X.pn++pr:=by
   have:p∈(X.pn++pr)++[]:=hp
   rwa [Nz]at this
  obtain⟨e,nn,ne,nf,d⟩:=I.pin p hp;refine⟨old _ _ e,IK _ nn (JK _ _ e),Hr _ _ e,fun z=>?_,d⟩;exact(Ni.mp (I.stkSub p.1 z)).elim ne nf
 ·unfold tV at Ek;rw[Nf]at Ek;have:N.length=ix.length:=by simpa using Ek.1
  show(ix.map _).length=N.length;rw[M5,this]
theorem _root_.L2.Inv.unblock{C:Addr}{σ1:L2.St}{H1:Hp}{s1:Shared}{h2:Heap}(I:Inv X pr σ H s)(fo:∀b∈fp,oF X pr H b)(hC:s.heap.objs.size<=C)(J:Inv (bE X scope N C s H fp (X.pn++pr)) [] σ1 H1 s1)(hs:Heap.SameBut C s1.heap h2):
  Inv X pr σ H1 {s1 with heap:=h2}:=by
 have Hr:∀b o,s.heap.get? b=some o->b≠C:=fun b o e=>Nl (Nd (M9 e) hC)
 have bb:Un (DS X.stack) fp H H1 s.heap s1.heap:=J.base;have jf:H1 C=none:=J.free;refine I.call' (s':={s1 with heap:=h2}) (ch:=fp) J.os ⟨fun b o e n hb hx=>?_,fun b o e n hb hx=>?_,bb.free,fun b o e hx=>?_,bb.tups,bb.frzs,bb.tbls⟩ (fun b ob e=>?_) J.bare fun b hb=>?_
 ·exact(hs.2 b (Hr b o e)).trans (bb.keep b o e n hb hx)
 ·obtain⟨sl,q⟩:=bb.slot b o e n hb hx;exact⟨sl,(hs.2 b (Hr b o e)).trans q⟩
 ·obtain⟨o',q⟩:=bb.there b o e hx;exact⟨o',(hs.2 b (Hr b o e)).trans q⟩
 ·refine(J.hok b ob e).stay (fun c w' hc q=>(hs.2 c ?_).trans q) (fun _ q=>q) fun _ _ q=>q
  rintro rfl;rcases hc with rfl|hc
  ·rw[jf]at e;cases e
  ·rw[jf]at hc;cases hc
 ·obtain⟨f0,f1,f2,f3,f4,f5⟩:=fo b hb;exact⟨f3,f1,f4,f5⟩
end
section
variable{X:Cx}{scope:Scope}{N:List Str}{ix:List (Option Nat)}{tg iter elt:Expr}{ifs:List Expr}{pos:Pos}{wi:TI}{g:TG}{tc:TT}{te:TE}
theorem jg{pr:List (Addr×Obj)}{σ:L2.St}{H2:Hp}{s2:Shared}{J:It}{fp:List Addr}{it:Addr}{tn:Nat->Heap->Prop}{Q:VK}{RR:Value->Addr->Result->Shared->Prop}{E:Value->Shared->Prop}
  (hc:X.calm=true) (I2:Inv X pr σ H2 s2) (T:Turn X.prog X.w X.K tg J fp it tn) (Cj:tn 0 s2.heap) (f2:∀b∈fp,oF X pr H2 b)
  (hg:∀C s H fp pn,PG (bE X scope N C s H fp pn) tg g) (ht:∀C s H fp pn,Kd (bE X scope N C s H fp pn) ifs tc) (he:∀C s H fp pn,PE (bE X scope N C s H fp pn) elt te)
  (hf:fu scope X.env=true) (hk:scope.kind=.function) (C1:∀y∈scope.names,y.2≠.cell) (Ek:tV X scope N ix=true)
  (q:∀D,H2 D=none->∃W:Nat->Nat->L2.St->Hp->Prop,(∃m,W 0 m (je ix σ) (upd H2 D (.lst [])))/\
   ∀i m σ1 H3,W i m σ1 H3->(J.stop i H3/\Q (.ref D) H3)\/(J.go i H3/\∀x H4,J.yld i H3 x H4->g x σ1 H4 fun σ2 H5=>tc σ2 H5 fun b H6=>if b=true then te σ2 H6 fun v H7=>
    ∃ys,H7 D=some (.lst ys)/\ys.length<sizeLine/\∃m',m'<m/\W (i+1) m' σ2 (upd H7 D (.lst (ys++[v]))) else ∃m',m'<m/\W (i+1) m' σ2 H6))
  (hRR:∀(D C:Addr) (σ1:L2.St) (H1:Hp) (s1:Shared),s2.heap.objs.size<=C->Inv (bE X scope N C s2 H2 fp (X.pn++pr)) [] σ1 H1 s1->Q (.ref D) H1->RR (.ref D) C (.ok .next) s1):
  wpAny (model X.prog X.w) X.A (newList []) (fun acc s₃=>wpAny (model X.prog X.w) X.A (newFunctionEnv scope X.env.globals (clOf scope X.env) [] X.env.qual none .none (some X.env)) (fun Ke s₄=>
   codeAny (model X.prog X.w) X.A (.compStart (.ListComp elt [⟨tg,iter,ifs,0⟩] scope pos) 0 (.ref it) acc {Ke with scope:=relabel scope X.env}) (RR acc Ke.locals) s₄) E s₃) E s2:=by
 refine NM (wpAny_newFunctionEnv C1 (by intro y hy;simp at hy) (fun h₁ hns₁ hsb₁=>?_) hk);dsimp only at hns₁ hsb₁ ⊢;generalize hH2:s2.heap.push {cls:=.type "list",dict:=none,data:=.seq ([]:List Value).toArray}=HH at hns₁ hsb₁ ⊢;have hC:HH.objs.size=s2.heap.objs.size+1:=by rw[<-hH2,OK]
 have hDC:s2.heap.objs.size≠HH.objs.size:=by rw[hC];exact Nl (Oc _)
 have Kf:s2.heap.objs.size<=HH.objs.size:=by rw[hC];exact OR _
 have Hr:∀b o,s2.heap.get? b=some o->b≠HH.objs.size:=fun b o e=>Nl (Nd (M9 e) Kf)
 have old:∀b o,s2.heap.get? b=some o->h₁.get? b=some o:=fun b o e=>hsb₁.extBut b o (Hr b o e) (Heap.get?_push_of_some _ (hH2▸Heap.get?_push_of_some _ e))
 have Hs:h₁.get? s2.heap.objs.size=some {cls:=.type "list",data:=.seq #[] 0}:=hsb₁.extBut _ _ hDC (Heap.get?_push_of_some _ (hH2▸Heap.get?_push_size _ rfl));obtain⟨W,⟨m0,w0⟩,turn⟩:=q s2.heap.objs.size (I2.hok.fresh (M8 _));have fin:∀b∈fp,∃o,s2.heap.get? b=some o:=fun b hb=>let⟨o,e,_⟩:=T.obj 0 _ Cj b hb;⟨o,e⟩
 have Fs:∀{H':Hp},(∀b∈fp,H' b=none)->∀b∈fp,oF (bE X scope N HH.objs.size s2 H2 fp (X.pn++pr)) [] H' b:=fun{H'} hn b hb=>by
  obtain⟨f0,f1,ff,f3,f4,f5⟩:=f2 b hb;refine⟨hn b hb,?_,fun z=>?_,.inl hb,fun x c e=>f4 x c (hU I2.ok hf e),fun p hp=>?_⟩
  ·intro z;have z:b=HH.objs.size:=z;obtain⟨o,ho⟩:=fin b hb;exact Hr b o ho z
  ·exact(Ni.mp (I2.stkSub b z)).elim f1 ff
  ·have hp:p∈X.pn++pr:=by
    have:p∈(X.pn++pr)++[]:=hp
    rwa [Nz]at this
   exact f5 p hp
 have loop:∀s₃:Shared,s₃={s2 with heap:=h₁,toks:=s2.toks+([]:List (Str×Value)).length}->
   codeAny (model X.prog X.w) X.A (.compLoop (.ListComp elt [⟨tg,iter,ifs,0⟩] scope pos) 0 (.ref it) (.ref s2.heap.objs.size) (compEnvC scope (clOf scope X.env) HH.objs.size X.env)) (RR (.ref s2.heap.objs.size) HH.objs.size) s₃:=by
  rintro s₃ rfl;refine pf (fun n s'=>∃i σ' H',Inv (bE X scope N HH.objs.size s2 H2 fp (X.pn++pr)) [] σ' H' s'/\tn i s'.heap/\(∀b∈fp,H' b=none)/\W i n σ' H') ?_ m0
   ⟨0,_,_,I2.block hf hk C1 Ek f2 fin rfl hC old Hs hns₁,T.keep 0 _ _ Cj fun b _ o e=>old b o e,fun b hb=>?_,w0⟩
  ·rintro n s3 ⟨i,σ3,H3,I3,CV,J4,w3⟩;rcases turn i n σ3 H3 w3 with⟨stop,qn⟩|⟨go,step⟩
   ·refine Cs (T.done (bE X scope N HH.objs.size s2 H2 fp (X.pn++pr)) rfl rfl rfl hc i [] s3 σ3 H3 Hq I3 (Fs J4) CV stop) fun r s4 Cz=>?_
    obtain⟨hr,I4⟩:=Cz;subst hr;exact hRR _ _ σ3 H3 s4 Kf I4 qn
   ·refine Cs (T.item (bE X scope N HH.objs.size s2 H2 fp (X.pn++pr)) rfl rfl rfl hc i [] s3 σ3 H3 Hq I3 (Fs J4) CV go) fun r s4 Cz=>?_
    obtain⟨u,hr,h4⟩:=Cz;subst hr;refine Cs h4 fun _ s5 Cz=>?_
    obtain⟨x,H5,I5,r5,y5,En,Lz⟩:=Cz;have LA:=I5.pinned (Fs Lz) (T.obj _ _ En);refine Cs (hg _ _ _ _ _ _ s5 σ3 H5 x u _ LA r5 (step x H5 y5)) fun _ s6 Cz=>?_
    obtain⟨σ6,H6,I6,q6⟩:=Cz;refine Cs (ht _ _ _ _ _ _ s6 σ6 H6 _ I6 q6) fun ok s7 Cz=>?_
    obtain⟨H7,I7,q7⟩:=Cz;have again:∀{H8:Hp}{s8:Shared},Inv (bE X scope N HH.objs.size s2 H2 fp (X.pn++pr)) ([]++kg fp s5.heap) σ6 H8 s8->(∃m',m'<n/\W (i+1) m' σ6 H8)->
      ∃m,m<n/\∃i σ' H',Inv (bE X scope N HH.objs.size s2 H2 fp (X.pn++pr)) [] σ' H' s8/\tn i s8.heap/\(∀b∈fp,H' b=none)/\W i m σ' H':=fun{H8 s8} I8 ⟨m',hm,w8⟩=>by
     refine⟨m',hm,i+1,σ6,H8,I8.unpinned,T.keep _ _ _ En fun b hb o e=>(I8.pin (b,o) (Na _ (Na _ (et hb e)))).1,fun b hb=>?_,w8⟩;obtain⟨o,e,d⟩:=T.obj _ _ En b hb;exact(I8.pin (b,o) (Na _ (Na _ (et hb e)))).2.1
    cases ok with
    |false=>exact again I7 q7
    |true=>
     show wpAny _ _ _ _ _ _;refine Cs (he _ _ _ _ _ _ s7 σ6 H7 _ I7 q7) fun x8 s8 Cz=>?_
     obtain⟨v8,H8,I8,r8,ys,LI,Dz,q8⟩:=Cz;refine Cs (ku _ s8 σ6 H8 (.ref s2.heap.objs.size) [v8] (.ref s2.heap.objs.size) [x8] (fun _ H9=>∃m',m'<n/\W (i+1) m' σ6 H9) I8 rfl (.cons r8 .nil) ⟨_,ys,v8,rfl,rfl,LI,Dz,q8⟩) fun _ s9 Cz=>?_
     obtain⟨_,H9,I9,_,q9⟩:=Cz;exact again I9 q9
  ·rw[aA (fun z=>by
    obtain⟨o,ho⟩:=fin b hb;exact absurd z (Nl (M9 ho)))]
   exact(f2 b hb).1
 exact codeAny_compStart_list (loop _ rfl) (T.self _ 0 _ _ _ (T.keep 0 _ _ Cj fun b _ o e=>old b o e) (loop _ rfl))
theorem vi(ix:List (Option Nat))(N:List Str)(hc:X.calm=true)(hi:PI X tg iter wi)(hg:∀C s H fp pn,PG (bE X scope N C s H fp pn) tg g)(ht:∀C s H fp pn,Kd (bE X scope N C s H fp pn) ifs tc)(he:∀C s H fp pn,PE (bE X scope N C s H fp pn) elt te)
  (hf:fu scope X.env=true:=by rfl) (hk:scope.kind=.function:=by rfl) (C1:∀y∈scope.names,y.2≠.cell:=by decide +kernel) (DK:∀y∈scope.names,y.2=.local->scope.names.lookup y.1=some .local:=by decide +kernel) (Ek:tV X scope N ix=true:=by rfl)
  (hs:∀x,foldedSetIterable iter X.env x=pure x:=by intro _;rfl):PE X (.ListComp elt [⟨tg,iter,ifs,0⟩] scope pos) (vg wi ix g tc te):=by
 intro pr s σ H Q I h;rw[eval_ListComp];have Gv:closureFor scope X.env=pure (clOf scope X.env):=by
  unfold closureFor clOf;have:=eB X.env scope.names [] (jw I.ok hf);simpa using this
 refine P1 (use:=none) rfl hs Gv hk DK (Cs (hi pr s σ H _ I h) fun v s1 h1=>Cs h1 fun K5 s2 h2=>?_);obtain⟨it,fp,tn,J,H2,e,I2,T,Cj,f2,q⟩:=h2;subst e;refine jg (RR:=fun acc C=>compPost (model X.prog X.w) X.A X.xe none (EP X pr σ Q) acc C) (Q:=Q) (iter:=iter) hc I2 T Cj f2 hg ht he hf hk C1 Ek q fun D C σ1 H1 s1 hC J1 q1=>?_
 obtain⟨m,ns,_⟩:=J1.loc;exact⟨m,ns,fun h' LJ=>⟨.ref D,H1,I2.unblock f2 hC J1 LJ,rfl,q1⟩⟩
end
section
variable{X:Cx}{scope:Scope}{N:List Str}{ix:List (Option Nat)}{tg iter elt:Expr}{ifs:List Expr}{pos:Pos}{wi:TI}{g:TG}{tc:TT}{te:TE}
theorem vj{i:Nat}{y:Str}{py Gw:Pos}(ix:List (Option Nat))(N:List Str)(hN:X.N.Nodup)(LK:X.N[i]?=some y)(hy:Loc X.env.scope y)(hc:X.calm=true)(hi:PI X tg iter wi)(hg:∀C s H fp pn,PG (bE X scope N C s H fp pn) tg g)(ht:∀C s H fp pn,Kd (bE X scope N C s H fp pn) ifs tc)
  (he:∀C s H fp pn,PE (bE X scope N C s H fp pn) elt te) (LL:swapsWith (.ListComp elt [⟨tg,iter,ifs,0⟩] scope pos) (some (.Name y py)) Gw.line X.env=pure true:=by rfl)
  (hf:fu scope X.env=true:=by rfl) (hk:scope.kind=.function:=by rfl) (C1:∀y∈scope.names,y.2≠.cell:=by decide +kernel) (DK:∀y∈scope.names,y.2=.local->scope.names.lookup y.1=some .local:=by decide +kernel) (Ek:tV X scope N ix=true:=by rfl)
  (hs:∀x,foldedSetIterable iter X.env x=pure x:=by intro _;rfl) (IE:X.fn y=true\/X.env.scope.names.lookup y=some .local:=by first|exact .inl rfl|exact .inr rfl):
  PS X (.Assign [.Name y py] (.ListComp elt [⟨tg,iter,ifs,0⟩] scope pos) Gw) (fun D σ H=>vg wi ix g tc te σ H fun v H'=>D.nx (σ.set i (some v)) H'):=by
 intro pr s σ H Dd I h;rw[exec_Assign_Name_used _ _ _ _ LL];have Gv:closureFor scope X.env=pure (clOf scope X.env):=by
  unfold closureFor clOf;have:=eB X.env scope.names [] (jw I.ok hf);simpa using this
 refine M3 (Q9 (M3 ?_));show wpAny _ X.A (do let _ <-comprehension (.ListComp elt [⟨tg,iter,ifs,0⟩] scope pos) scope X.env _ (newList []) false (eval iter X.env) (some (assign (.Name y py) X.env))) _ _ s;refine M3 (NL (P1 (use:=some (assign (.Name y py) X.env)) (Q:=fun _ s'=>SP X pr Dd .next s') rfl hs Gv hk DK
  (Cs (hi pr s σ H _ I h) fun v s1 h1=>Cs h1 fun K5 s2 h2=>?_)) (fun _ s' hq=>M4 (M4 hq)) fun _ _ e=>e)
 obtain⟨it,fp,tn,J,H2,e,I2,T,Cj,f2,q⟩:=h2;subst e;refine jg (RR:=fun acc C=>compPost (model X.prog X.w) X.A X.xe (some (assign (.Name y py) X.env)) (fun _ s'=>SP X pr Dd .next s') acc C) (Q:=fun v H'=>Dd.nx (σ.set i (some v)) H') (iter:=iter) hc I2 T Cj f2 hg ht he hf hk C1 Ek q fun D C σ1 H1 s1 hC J1 q1=>?_
 obtain⟨m,ns,_⟩:=id J1.loc;have ns:s1.heap.Ns C m:=ns;have I3:Inv X pr σ H1 s1:=I2.unblock f2 hC J1 (.refl ..);show wpAny _ X.A (assign (.Name y py) X.env (.ref D)) _ _ s1;refine wpAny_assign_Name (kc I3 hN LK hy (v:=.ref D) rfl (fun s4 I4 ⟨a,sb,ha⟩=>?_) IE);have aC:C≠a:=by
  intro z;rcases ha with ha|ha
  ·exact Nl (Nd I2.lt hC) (ha▸z.symm)
  ·obtain⟨v,o,ho,_⟩:=I2.cell y a ha;exact Nl (Nd (M9 ho) hC) z.symm
 refine⟨m,ns.sameBut sb aC,fun h' LJ=>?_⟩;have jf:H1 C=none:=J1.free;have kk:∀b o,b≠C->s4.heap.get? b=some o->h'.get? b=some o:=fun b o hb e=>(LJ.2 b hb).trans e
 refine⟨σ.set i (some (.ref D)),H1,?_,q1⟩;have z:=I4.turned (t':=s4.toks) kk jf (fun z=>Nl (Nd I2.lt hC) z.symm) (.inr (NF I2.sz hC)) (fun x c e z=>by
  obtain⟨v,o,ho,_⟩:=I2.cell x c e;exact Nl (Nd (M9 ho) hC) z) (fun p hp z=>Nl (Nd (M9 (I2.pin p hp).1) hC) z)
 exact z
end
def Itv(val:Nat->V)(n:Nat):It:=⟨fun i _=>i<n,fun i H x H'=>H'=H/\x=val i,fun i _=>i=n⟩
theorem mn{P:Program}{w:World}{K:W.Frag}{tg:Expr}(ty:String)(Hn:["enumerate","zip","dict_itemiterator","dict_reverseitemiterator","odict_iterator","itertools.zip_longest","itertools.pairwise"].contains ty=false)(l:List Nat)(t:Tok)(it:Addr)
  (Wk:∀A:Around,A.handled=none->Walks P w A it [it] [it] (S l).cps.size (SignAt (S l)) (fun i h=>h.IsStrIter it ty (S l) t i))
  (self:∀(A:Around) (i:Nat) (s:Shared) (Q:Value->Shared->Prop) (E:Value->Shared->Prop),s.heap.IsStrIter it ty (S l) t i->Q (.ref it) s->wpAny (model P w) A (pyIter (.ref it)) Q E s):
  Turn P w K tg (Itv (fun i=>.str (S [l.getD i 0])) l.length) [it] it (fun i h=>h.IsStrIter it ty (S l) t i) where
 mem:=by simp
 obj:=fun i h st b hb=>by
  have e:b=it:=by simpa using hb
  subst e;obtain⟨o,e,c,d⟩:=st;exact⟨o,e,fun v z=>by rw[d]at z;cases z⟩
 keep:=fun i h h' st k=>by
  obtain⟨o,e,r⟩:=st;exact⟨o,k it (by simp) o e,r⟩
 item:=by
  intro X hP hw hK hc i pr s σ H E I hf st hg;subst hP hw hK;obtain⟨f0,f1,f2,f3,f4,f5⟩:=hf it (by simp);have hg:i<l.length:=hg;refine(Wk X.A (I.ok.hd hc)).item i s _ _ (by simpa[S] using hg) st fun v h' tk hv E6 kk=>?_
  obtain⟨c,u,K3,rfl⟩:=hv;have I1:Inv X pr σ H {s with heap:=h',toks:=tk}:=I.turned (fun b o hb e=>kk b o (by simpa using hb) e) f0 f1 f3 f4 f5;obtain⟨o,e,cc,d⟩:=id E6;have LM:l.getD i 0=c:=by
   have:l[i]?=some c:=by simpa[S] using K3
   rw[List.getD_eq_getElem?_getD,this];rfl
  refine⟨_,rfl,qW (s:={s with heap:=h',toks:=tk}) e cc d Hn ⟨.str (S [l.getD i 0]),H,I1,⟨u,?_⟩,⟨rfl,rfl⟩,E6,fun b hb=>(hf b hb).1⟩⟩;rw[LM]
 done:=by
  intro X hP hw hK hc i pr s σ H E I hf st hg;subst hP hw hK;obtain⟨f0,f1,f2,f3,f4,f5⟩:=hf it (by simp);have hg:i=l.length:=hg;have hn:(S l).cps.size=i:=by rw[hg];simp[S]
  refine(Wk X.A (I.ok.hd hc)).done s _ _ (by rw[hn];exact st) fun h' tk kk=>⟨rfl,I.turned (fun b o hb e=>kk b o (by simpa using hb) e) f0 f1 f3 f4 f5⟩
 self:=self
def BC(tl:TE):TI:=fun σ H R=>tl σ H fun x H1=>∃l,x=.str (S l)/\R (Itv (fun i=>.str (S [l.getD i 0])) l.length) H1
section
variable{X:Cx}{tg:Expr}
theorem xM{l:Expr}{tl:TE}(hl:PE X l tl):PI X tg l (BC tl):=by
 intro pr s σ H R I h;refine Cs (hl pr s σ H _ I h) fun v s1 Cz=>?_
 obtain⟨x,H1,I1,r1,l,e,q⟩:=Cz;subst e;obtain⟨t,rfl⟩:=r1;cases ha:(S l).cps.all (·< 128)
 ·refine wpAny_pyIter_wide ha ?_;refine⟨s1.heap.objs.size,[s1.heap.objs.size],_,_,H1,rfl,I1.kept (t':=s1.toks) fun b o e=>Heap.get?_push_of_some _ e,
   mn "str_iterator" (by decide) l t _ (fun A hA=>Walks.strWide hA _ _ _) (fun _ _ _ _ _ st h=>wpAny_pyIter_striter_wide st h),⟨_,Heap.get?_push_size _ rfl,rfl,rfl⟩,fun b hb=>?_,q⟩
  have e:b=s1.heap.objs.size:=by simpa using hb
  subst e;exact I1.fpOk (M8 _) (I1.hok.fresh (M8 _))
 ·refine wpAny_pyIter_ascii ha ?_;refine⟨s1.heap.objs.size,[s1.heap.objs.size],_,_,H1,rfl,I1.kept (t':=s1.toks) fun b o e=>Heap.get?_push_of_some _ e,
   mn "str_ascii_iterator" (by decide) l t _ (fun A hA=>Walks.strAscii hA _ _ _) (fun _ _ _ _ _ st h=>wpAny_pyIter_striter_ascii st h),⟨_,Heap.get?_push_size _ rfl,rfl,rfl⟩,fun b hb=>?_,q⟩
  have e:b=s1.heap.objs.size:=by simpa using hb
  subst e;exact I1.fpOk (M8 _) (I1.hok.fresh (M8 _))
theorem rq{pr:List (Addr×Obj)}{s:Shared}{σ:L2.St}{H:Hp}{p:Addr}{xs:List V}{E:Value->Shared->Prop}{R:Value->Shared->Prop}(hc:X.calm=true)(I:Inv X pr σ H s)(h:SqL X.K H p xs\/SqT X.K H p xs)
  (k:∀(it:Addr) (fp:List Addr) (o:Obj) (us:List Value) (Sx:Nat->Heap->Prop),Vals xs us->Walks X.prog X.w X.A.in1 it fp [it] us.length (fun i v=>us[i]?=some v) Sx->Sx 0 (s.heap.push o)->(∀b∈fp,b<(s.heap.push o).objs.size)->it=s.heap.objs.size->R (.ref it) {s with heap:=s.heap.push o}):
  wpAny (model X.prog X.w) X.A.in1 (pyIter (.ref p)) R E s:=by
 have hh:X.A.in1.handled=none:=I.ok.hd hc;rcases h with h|h
 ·obtain⟨us,r,pl,hz⟩:=I.list h;have Dz:p<s.heap.objs.size:=by obtain⟨o,ho,_⟩:=pl.isList;exact M9 ho
  refine OB pl.isList (k s.heap.objs.size [s.heap.objs.size,p] _ us (fun i h=>h.IsListIter s.heap.objs.size p i/\h.IsList p us.toArray) r (by
   have W:=Walks.list (prog:=X.prog) (w:=X.w) hh s.heap.objs.size p (Nl Dz) us.toArray;simpa using W) ⟨⟨_,Heap.get?_push_size _ rfl,rfl,rfl⟩,pl.isList.at fun o e=>Heap.get?_push_of_some _ e⟩ (fun b hb=>?_) rfl)
  rw[OK];rcases Ni.mp hb with rfl|hb
  ·exact Oc _
  ·rw[N0]at hb;rw[hb];exact P2 Dz
 ·obtain⟨us,r,pl,hz⟩:=I.tuple h;have IJ:s.heap.IsTuple p us.toArray:=pl;have Dz:p<s.heap.objs.size:=by obtain⟨o,ho,_⟩:=pl;exact M9 ho
  refine Ot IJ (k s.heap.objs.size [s.heap.objs.size,p] _ us (fun i h=>h.IsTupleIter s.heap.objs.size p i/\h.IsTuple p us.toArray) r (by
   have W:=Walks.tuple (prog:=X.prog) (w:=X.w) hh s.heap.objs.size p (Nl Dz) us.toArray;simpa using W) ⟨⟨_,Heap.get?_push_size _ rfl,rfl,rfl⟩,IJ.at fun o e=>Heap.get?_push_of_some _ e⟩ (fun b hb=>?_) rfl)
  rw[OK];rcases Ni.mp hb with rfl|hb
  ·exact Oc _
  ·rw[N0]at hb;rw[hb];exact P2 Dz
theorem nO{pr:List (Addr×Obj)}{s:Shared}{σ:L2.St}{H:Hp}{o:Obj}{h':Heap}{tk:Nat}(I:Inv X pr σ H s)(kk:∀b ob,b∉[s.heap.objs.size]->(s.heap.push o).get? b=some ob->h'.get? b=some ob):
  Inv X pr σ H {s with heap:=h',toks:=tk}:=I.kept fun b ob e=>kk b ob (fun z=>Nl (M9 e) (by simpa using z)) (Heap.get?_push_of_some _ e)
theorem bc{α:Type}(l:List α)(i:Nat)(d:α)(h:i<l.length):l.getD i d=l[i]:=by
 rw[List.getD_eq_getElem?_getD,List.getElem?_eq_getElem h];rfl
def xN:V->Bool
 | .bl b=>b
 |_=>false
def z6:V->Bool
 | .bl _=>true
 |_=>false
theorem rA{xs:List V}{us:List Value}(r:Vals xs us)(hb:xs.all z6=true):TruthOf X.prog X.w X.A.in1 (fun i v=>us[i]?=some v) (fun i=>xN (xs.getD i .non)):=by
 intro i v s Q E hv q;have hl:=r.length;obtain⟨hi,_⟩:=List.getElem?_eq_some_iff.mp hv;have e1:xs[i]?=some (xs[i]'(by lia)):=List.getElem?_eq_getElem _;obtain⟨u,hu,ru⟩:=r.get e1;rw[hv]at hu;cases hu;have q:Q (xN (xs.getD i .non)) s:=q;rw[ve e1]at q;have bl:=NA.mp hb _ (NQ e1);generalize xs[i]'(by lia)=x at ru q bl;cases x <;> first|(exact absurd (show false=true from bl) Nb)|skip
 cases ru;exact N6 q
theorem pj{xs:List V}(f:V->Bool):(List.range xs.length).all (fun i=>f (xs.getD i .non))=xs.all f:=by
 rw[Nx,NA,NA];constructor
 ·intro h x hx;obtain⟨i,hi,rfl⟩:=List.getElem_of_mem hx;have:=h i (NH.mpr hi)
  rwa [bc _ _ _ hi]at this
 ·intro h i hi;have hi:=NH.mp hi;rw[bc _ _ _ hi];exact h _ (OX hi)
theorem rB(hc:X.calm=true):de X (.builtin "all") (fun vs H Q=>∃p xs,vs=[.ref p]/\(SqL X.K H p xs\/SqT X.K H p xs)/\xs.all z6=true/\Q (.bl (xs.all xN)) H):=by
 intro pr s σ H vs us Q I r h;obtain⟨p,xs,rfl,hp,hb,q⟩:=h;obtain⟨u,rfl,r1⟩:=gK r;cases r1;refine call_all_walk (rq hc I hp fun it fp o ws Sx rv W st hf hit=>⟨it,fp,[it],_,_,Sx,_,rfl,W,st,rA rv hb,fun h' tk kk=>?_⟩);subst hit;refine⟨.bl (xs.all xN),H,nO (s:=s) I kk,?_,q⟩;rw[<-rv.length,pj];rfl
theorem lE{ns:List Int}{us:List Value}(r:Vals (ns.map V.int) us){i:Nat}{v:Value}(h:us[i]?=some v):∃t,v=.int (ns.getD i 0) t:=by
 have hl:=r.length;rw[M5]at hl;obtain⟨hi,_⟩:=List.getElem?_eq_some_iff.mp h;have e1:(ns.map V.int)[i]?=some (.int (ns.getD i 0)):=by
  rw[List.getElem?_map,List.getElem?_eq_getElem (by lia),bc _ _ _ (by lia)];rfl
 obtain⟨u,hu,t,rfl⟩:=r.get e1;rw[h]at hu;exact⟨t,Nw hu⟩
def xO(ns:List Int):Int:=ns.foldl max (ns.headD 0)
def z7(ns:List Int):Int:=ns.foldl min (ns.headD 0)
end
section
variable{prog:Program}{w:World}{A:Around}{R:Result->Shared->Prop}{it:Addr}{fp wr:List Addr}{n:Nat}{Pv:Nat->Value->Prop}{Sx:Nat->Heap->Prop}{kw:List (Str×Value)}
end
section
variable{X:Cx}{e k:Expr}{te tk:TE}{p pos J6:Pos}
def maxD(ns:List Int)(d:Int):Int:=if ns=[] then d else xO ns
end
section
variable{prog:Program}{w:World}{A:Around}{E:Value->Shared->Prop}{s:Shared}
theorem rD{it t:Addr}{i:Nat}{items:Array Value}{x:Value}{Q:Value->Shared->Prop}(hi:s.heap.IsTupleIter it t i)(ht:s.heap.IsTuple t items)(hx:items[i]?=some x)
  (k:∀h',h'.IsTupleIter it t (i+1)->Heap.SameBut it s.heap h'->Q x {s with heap:=h'}):wpAny (model prog w) A (Builtin.SmallTypes.nextOf (.ref it)) Q E s:=by
 obtain⟨o,ho,oc,od⟩:=id hi;obtain⟨q,hq,_,n,qd⟩:=ht;unfold Builtin.SmallTypes.nextOf;refine M3 (wpAny_callSpecial?_slot (name:=Str.ofString "__next__") hi.typeIs Oq (NJ Oq hi.typeIs PD ?_ (Pq _)));show wpAny _ _ (field (.ref it) 0 >>= _) _ _ s;refine M3 (NZ ho od (x:=.ref t) rfl ?_);show wpAny _ _ (if(Value.ref t==Value.none)=true then _ else _) _ _ s;rw[Ng (fun z:(Value.ref t==Value.none)=true=>Nb z)];show wpAny _ _ (field (.ref it) 1 >>= _) _ _ s;refine M3 (NZ ho od (x:=.int i 0) rfl (M3 (Oz hq qd ?_)));simp only[OC,hx];refine M3 (PU ho od (by simp) (M4 ⟨x,rfl,M4 (k _ ⟨_,Heap.get?_update_self _ ho (Obj.isFreed_of_fields (O5 od _)),(Obj.cls_mapFields ..).trans oc,?_⟩ (OZ ..))⟩));rw[O5 od];simp[rawInt]
theorem vk{it t:Addr}{i:Nat}{items:Array Value}{Q:Value->Shared->Prop}(hh:A.handled=none)(hi:s.heap.IsTupleIter it t i)(ht:s.heap.IsTuple t items)(hx:items[i]?=none)
  (k:∀h' e,Heap.ExtBut it s.heap h'->(∃o,h'.get? e=some o/\o.cls=.type "StopIteration")->E (.ref e) {s with heap:=h'}):wpAny (model prog w) A (Builtin.SmallTypes.nextOf (.ref it)) Q E s:=by
 obtain⟨o,ho,oc,od⟩:=id hi;obtain⟨q,hq,_,n,qd⟩:=ht;unfold Builtin.SmallTypes.nextOf;refine M3 (wpAny_callSpecial?_slot (name:=Str.ofString "__next__") hi.typeIs Oq (NJ Oq hi.typeIs PD ?_ (Pq _)));show wpAny _ _ (field (.ref it) 0 >>= _) _ _ s;refine M3 (NZ ho od (x:=.ref t) rfl ?_);show wpAny _ _ (if(Value.ref t==Value.none)=true then _ else _) _ _ s;rw[Ng (fun z:(Value.ref t==Value.none)=true=>Nb z)];show wpAny _ _ (field (.ref it) 1 >>= _) _ _ s;refine M3 (NZ ho od (x:=.int i 0) rfl (M3 (Oz hq qd ?_)));simp only[OC,hx];refine M3 (Rl (M3 (PU ho od (by simp) ?_)));show wpAny _ _ (newExc (.type "StopIteration") [] >>= _) _ _ _;refine M3 ?_;simp only[newExc,newTuple];refine M3 (NM (M3 (m:=firstArgMember _ _) (wpAny_of_eq (a:=Value.none) (by first|rfl|(simp only[firstArgMember];rfl)) (NM ?_ (by size_fits)))) (by size_fits));simp only[raiseNew];refine M3 (wpAny_handled ?_);first
  |rw[show A.in1.handled=none from hh]
  |rw[hh]
 exact M3 (M4 (wpAny_throw (k _ _ (((OZ ..).extBut.push _).push _) ⟨_,Heap.get?_push_size _ rfl,rfl⟩)))
def IsIt(k:Bool)(h:Heap)(it l:Addr)(i:Nat):Prop:=match k with
 |true=>h.IsListIter it l i
 |false=>h.IsTupleIter it l i
def IsSq(k:Bool)(h:Heap)(l:Addr)(xs:Array Value):Prop:=match k with
 |true=>h.IsList l xs
 |false=>h.IsTuple l xs
theorem IsIt.at{k:Bool}{h h':Heap}{it l:Addr}{i:Nat}(x:IsIt k h it l i)(e:∀o,h.get? it=some o->h'.get? it=some o):IsIt k h' it l i:=by
 cases k with
 |true=>obtain⟨o,ho,r⟩:=(show h.IsListIter it l i from x);exact(show h'.IsListIter it l i from⟨o,e o ho,r⟩)
 |false=>obtain⟨o,ho,r⟩:=(show h.IsTupleIter it l i from x);exact(show h'.IsTupleIter it l i from⟨o,e o ho,r⟩)
theorem IsSq.at{k:Bool}{h h':Heap}{l:Addr}{xs:Array Value}(x:IsSq k h l xs)(e:∀o,h.get? l=some o->h'.get? l=some o):IsSq k h' l xs:=by
 cases k with
 |true=>obtain⟨o,ho,r⟩:=(show h.IsList l xs from x);exact(show h'.IsList l xs from⟨o,e o ho,r⟩)
 |false=>obtain⟨o,ho,r⟩:=(show h.IsTuple l xs from x);exact(show h'.IsTuple l xs from⟨o,e o ho,r⟩)
theorem IsIt.obj{k:Bool}{h:Heap}{it l:Addr}{i:Nat}(x:IsIt k h it l i):∃o,h.get? it=some o/\∀v,o.data≠.cell v:=by
 cases k with
 |true=>obtain⟨o,ho,_,d⟩:=(show h.IsListIter it l i from x);exact⟨o,ho,fun v z=>by rw[d]at z;cases z⟩
 |false=>obtain⟨o,ho,_,d⟩:=(show h.IsTupleIter it l i from x);exact⟨o,ho,fun v z=>by rw[d]at z;cases z⟩
theorem IsSq.get{k:Bool}{h:Heap}{l:Addr}{xs:Array Value}(x:IsSq k h l xs):∃o,h.get? l=some o:=by
 cases k with
 |true=>obtain⟨o,ho,_⟩:=(show h.IsList l xs from x);exact⟨o,ho⟩
 |false=>obtain⟨o,ho,_⟩:=(show h.IsTuple l xs from x);exact⟨o,ho⟩
theorem lF{k:Bool}{it l:Addr}{i:Nat}{xs:Array Value}{x:Value}{Q:Value->Shared->Prop}(hi:IsIt k s.heap it l i)(hl:IsSq k s.heap l xs)(hx:xs[i]?=some x)
  (q:∀h',IsIt k h' it l (i+1)->Heap.SameBut it s.heap h'->Q x {s with heap:=h'}):wpAny (model prog w) A (Builtin.SmallTypes.nextOf (.ref it)) Q E s:=by
 cases k with
 |true=>exact wpAny_nextOf_list_item hi hl hx q
 |false=>exact rD hi hl hx q
theorem tW{k:Bool}{it l:Addr}{i:Nat}{xs:Array Value}{Q:Value->Shared->Prop}(hh:A.handled=none)(hi:IsIt k s.heap it l i)(hl:IsSq k s.heap l xs)(hx:xs[i]?=none)
  (q:∀h' e,Heap.ExtBut it s.heap h'->(∃o,h'.get? e=some o/\o.cls=.type "StopIteration")->E (.ref e) {s with heap:=h'}):wpAny (model prog w) A (Builtin.SmallTypes.nextOf (.ref it)) Q E s:=by
 cases k with
 |true=>exact wpAny_nextOf_list_end hh hi hl hx q
 |false=>exact vk hh hi hl hx q
theorem vm{k1 k2:Bool}{z TI TO i1 i2 l1 l2:Addr}{i:Nat}{xs ys:Array Value}{x y a b:Value}{Q:Value->Shared->Prop}(D:ZipApart z TI TO i1 i2 l1 l2)(hz:IsZip s.heap z TI TO .none)(Fv:IsPair s.heap TI (.ref i1) (.ref i2))(F7:IsPair s.heap TO a b)
  (h1:IsIt k1 s.heap i1 l1 i) (h2:IsIt k2 s.heap i2 l2 i) (g1:IsSq k1 s.heap l1 xs) (g2:IsSq k2 s.heap l2 ys) (hx:xs[i]?=some x) (hy:ys[i]?=some y)
  (q:∀h',IsZip h' z TI TO (rawInt s.heap.objs.size)->IsPair h' TO x y->IsIt k1 h' i1 l1 (i+1)->IsIt k2 h' i2 l2 (i+1)->IsPair h' s.heap.objs.size x y->
   (∀c o,c≠z->c≠TO->c≠i1->c≠i2->s.heap.get? c=some o->h'.get? c=some o)->Q (.ref s.heap.objs.size) {s with heap:=h'}):
  wpAny (model prog w) A (Builtin.«zip.__next__» ⟨[.ref z],[]⟩) (fun fin s'=>∃v,fin=.done (.ret v)/\Q v s') E s:=by
 show wpAny _ _ (field (.ref z) 2 >>= _) _ _ _;refine M3 (NZ hz rfl (x:=.bool false) rfl ?_);show wpAny _ _ (field (.ref z) 3 >>= _) _ _ _;refine M3 (NZ hz rfl (x:=.ref TI) rfl (M3 (Oz Fv rfl ?_)));show wpAny _ _ (Builtin.SmallTypes.ownedTupleIsFree (.ref z) >>= _) _ _ _;refine M3 ?_;unfold Builtin.SmallTypes.ownedTupleIsFree;refine M3 (NZ hz rfl (x:=.none) rfl (M4 ?_));rw[Nc (by rfl)];refine M3 (Rl (M3 (NZ hz rfl (x:=.ref TO) rfl (M3 (Ox hz (by simp) fun hA zA sA=>?_)))));have zA:IsZip hA z TI TO .ellipsis:=zA;refine M3 ?_;simp only[List.zipIdx_cons,List.zipIdx_nil,PB,QQ];refine M3 (M3 (Qb ?_));show wpAny _ _ (Builtin.SmallTypes.nextOf (.ref i1) >>= _) _ _ _;refine M3 (lF (h1.at fun o e=>sA.extBut _ _ D.i1z e) (g1.at fun o e=>sA.extBut _ _ D.l1z e) hx fun hB iB sB=>M4 ?_);have tB:IsPair hB TO a b:=sB.extBut _ _ D.TOi1 (sA.extBut _ _ D.TOz F7);refine M3 (Oz tB rfl (M3 (Pn tB fun hC tC sC=>M3 (QV (M4 ?_)))));have tC:IsPair hC TO x b:=tC;refine M3 (M3 (Qb ?_));show wpAny _ _ (Builtin.SmallTypes.nextOf (.ref i2) >>= _) _ _ _;refine M3 (lF (h2.at fun o e=>sC.extBut _ _ D.TOi2.symm (sB.extBut _ _ D.i12.symm (sA.extBut _ _ D.i2z e))) (g2.at fun o e=>sC.extBut _ _ D.l2TO (sB.extBut _ _ D.l2i1 (sA.extBut _ _ D.l2z e))) hy fun hD iD sD=>M4 ?_);have tD:IsPair hD TO x b:=sD.extBut _ _ D.TOi2 tC;refine M3 (Oz tD rfl (M3 (Pn tD fun hE tE sE=>M3 (QV (M4 (M4 ?_))))));have tE:IsPair hE TO x y:=tE;refine M3 (Oz tE rfl (M3 (wpAny_newTuple ?_)));have ez:hE.objs.size=s.heap.objs.size:=by rw[sE.1,sD.1,sC.1,sB.1,sA.1]
 have zE:IsZip hE z TI TO .ellipsis:=sE.extBut _ _ D.TOz.symm (sD.extBut _ _ D.i2z.symm (sC.extBut _ _ D.TOz.symm (sB.extBut _ _ D.i1z.symm zA)));have kE:∀c o,c≠z->c≠TO->c≠i1->c≠i2->s.heap.get? c=some o->hE.get? c=some o:=fun c o c1 c2 c3 c4 e=>sE.extBut _ _ c2 (sD.extBut _ _ c4 (sC.extBut _ _ c2 (sB.extBut _ _ c3 (sA.extBut _ _ c1 e))))
 have i1E:IsIt k1 hE i1 l1 (i+1):=iB.at fun o e=>sE.extBut _ _ D.TOi1.symm (sD.extBut _ _ D.i12 (sC.extBut _ _ D.TOi1.symm e))
 have i2E:IsIt k2 hE i2 l2 (i+1):=iD.at fun o e=>sE.extBut _ _ D.TOi2.symm e
 show wpAny _ _ (Builtin.SmallTypes.ownedTupleHandOut (.ref z) (.ref hE.objs.size) >>= _) _ _ _;refine M3 ?_;unfold Builtin.SmallTypes.ownedTupleHandOut;have zF:IsZip (hE.push {cls:=.type "tuple",data:=.seq #[x,y]}) z TI TO .ellipsis:=Heap.get?_push_of_some _ zE;refine M3 (Ox zF (by simp) fun hG zG sG=>?_);have zG:IsZip hG z TI TO (rawInt hE.objs.size):=zG;refine Ox zG (by simp) fun hK zK sK=>?_
 have zK:IsZip hK z TI TO (rawInt hE.objs.size):=zK;have up:∀c o,c≠z->hE.get? c=some o->hK.get? c=some o:=fun c o c1 e=>sK.extBut _ _ c1 (sG.extBut _ _ c1 (Heap.get?_push_of_some _ e))
 have nz:hE.objs.size≠z:=Rp (M9 zE);have tK:IsPair hK hE.objs.size x y:=sK.extBut _ _ nz (sG.extBut _ _ nz (Heap.get?_push_size _ rfl));rw[ez]at zK tK;refine M4 ⟨_,rfl,?_⟩;show Q (.ref hE.objs.size) _;rw[ez];exact q hK zK (up _ _ D.TOz tE) (i1E.at fun o e=>up _ o D.i1z e) (i2E.at fun o e=>up _ o D.i2z e) tK fun c o c1 c2 c3 c4 e=>up c o c1 (kE c o c1 c2 c3 c4 e)
theorem xP{k1 k2:Bool}{z TI TO i1 i2 l1 l2:Addr}{i:Nat}{xs ys:Array Value}{a b:Value}{Q:Fin->Shared->Prop}(hh:A.handled=none)(D:ZipApart z TI TO i1 i2 l1 l2)(hz:IsZip s.heap z TI TO .none)(Fv:IsPair s.heap TI (.ref i1) (.ref i2))(F7:IsPair s.heap TO a b)
  (h1:IsIt k1 s.heap i1 l1 i) (h2:IsIt k2 s.heap i2 l2 i) (g1:IsSq k1 s.heap l1 xs) (g2:IsSq k2 s.heap l2 ys) (he:xs[i]?=none\/ys[i]?=none)
  (q:∀h' e,(∀c o,c≠z->c≠TO->c≠i1->c≠i2->s.heap.get? c=some o->h'.get? c=some o)->(∃o,h'.get? e=some o/\o.cls=.type "StopIteration")->E (.ref e) {s with heap:=h'}):
  wpAny (model prog w) A (Builtin.«zip.__next__» ⟨[.ref z],[]⟩) Q E s:=by
 show wpAny _ _ (field (.ref z) 2 >>= _) _ _ _;refine M3 (NZ hz rfl (x:=.bool false) rfl ?_);show wpAny _ _ (field (.ref z) 3 >>= _) _ _ _;refine M3 (NZ hz rfl (x:=.ref TI) rfl (M3 (Oz Fv rfl ?_)));show wpAny _ _ (Builtin.SmallTypes.ownedTupleIsFree (.ref z) >>= _) _ _ _;refine M3 ?_;unfold Builtin.SmallTypes.ownedTupleIsFree;refine M3 (NZ hz rfl (x:=.none) rfl (M4 ?_));rw[Nc (by rfl)];refine M3 (Rl (M3 (NZ hz rfl (x:=.ref TO) rfl (M3 (Ox hz (by simp) fun hA zA sA=>?_)))));have zA:IsZip hA z TI TO .ellipsis:=zA;refine M3 ?_;simp only[List.zipIdx_cons,List.zipIdx_nil,PB,QQ];refine M3 (M3 (Qb ?_));show wpAny _ _ (Builtin.SmallTypes.nextOf (.ref i1) >>= _) _ _ _;cases hx:xs[i]? with
 |none=>
  refine M3 (tW hh (h1.at fun o e=>sA.extBut _ _ D.i1z e) (g1.at fun o e=>sA.extBut _ _ D.l1z e) hx fun hB e sB Cz=>?_);obtain⟨oe,ge,ce⟩:=Cz;have zB:IsZip hB z TI TO .ellipsis:=sB _ _ D.i1z.symm zA;have ne:e≠z:=fun x=>by subst x;rw[zB]at ge;cases ge;simp at ce
  exact Ox zB (by simp) fun hC _ sC=>q hC e (fun c o c1 _ c3 _ x=>sC.extBut _ _ c1 (sB _ _ c3 (sA.extBut _ _ c1 x))) ⟨oe,sC.extBut _ _ ne ge,ce⟩
 |some x=>
  have hy:ys[i]?=none:=by
   rcases he with z|z
   ·rw[hx]at z;cases z
   ·exact z
  refine M3 (lF (h1.at fun o e=>sA.extBut _ _ D.i1z e) (g1.at fun o e=>sA.extBut _ _ D.l1z e) hx fun hB iB sB=>M4 ?_);have tB:IsPair hB TO a b:=sB.extBut _ _ D.TOi1 (sA.extBut _ _ D.TOz F7);refine M3 (Oz tB rfl (M3 (Pn tB fun hC tC sC=>M3 (QV (M4 ?_)))));refine M3 (M3 (Qb ?_));show wpAny _ _ (Builtin.SmallTypes.nextOf (.ref i2) >>= _) _ _ _;refine M3 (tW hh (h2.at fun o e=>sC.extBut _ _ D.TOi2.symm (sB.extBut _ _ D.i12.symm (sA.extBut _ _ D.i2z e))) (g2.at fun o e=>sC.extBut _ _ D.l2TO (sB.extBut _ _ D.l2i1 (sA.extBut _ _ D.l2z e))) hy fun hD e sD Cz=>?_);obtain⟨oe,ge,ce⟩:=Cz;have zD:IsZip hD z TI TO .ellipsis:=sD _ _ D.i2z.symm (sC.extBut _ _ D.TOz.symm (sB.extBut _ _ D.i1z.symm zA));have ne:e≠z:=fun x=>by subst x;rw[zD]at ge;cases ge;simp at ce
  exact Ox zD (by simp) fun hF _ sF=>q hF e (fun c o c1 c2 c3 c4 x=>sF.extBut _ _ c1 (sD _ _ c4 (sC.extBut _ _ c2 (sB.extBut _ _ c3 (sA.extBut _ _ c1 x))))) ⟨oe,sF.extBut _ _ ne ge,ce⟩
end
def itObj(k:Bool)(l:Addr):Obj:=match k with
 |true=>{cls:=.type "list_iterator",data:=.fields #[.ref l,.int 0 0]}
 |false=>{cls:=.type "tuple_iterator",data:=.fields #[.ref l,.int 0 0]}
theorem mq(k:Bool)(h:Heap)(l:Addr):IsIt k (h.push (itObj k l)) h.objs.size l 0:=by
 cases k with
 |true=>exact⟨_,Heap.get?_push_size _ rfl,rfl,rfl⟩
 |false=>exact⟨_,Heap.get?_push_size _ rfl,rfl,rfl⟩
abbrev zA(h:Heap)(k1:Bool)(l1:Addr):Heap:=h.push (itObj k1 l1)
abbrev zB(h:Heap)(k1 k2:Bool)(l1 l2:Addr):Heap:=(zA h k1 l1).push (itObj k2 l2)
abbrev zC(h:Heap)(k1 k2:Bool)(l1 l2:Addr):Heap:=(zB h k1 k2 l1 l2).push {cls:=.type "tuple",data:=.seq #[.ref h.objs.size,.ref (zA h k1 l1).objs.size]}
abbrev zD(h:Heap)(k1 k2:Bool)(l1 l2:Addr):Heap:=(zC h k1 k2 l1 l2).push {cls:=.type "tuple",data:=.seq #[.none,.none]}
abbrev zE(h:Heap)(k1 k2:Bool)(l1 l2:Addr):Heap:=(zD h k1 k2 l1 l2).push {cls:=.type "zip",data:=.fields #[.none,.bool false,.bool false,.ref (zB h k1 k2 l1 l2).objs.size,.ref (zC h k1 k2 l1 l2).objs.size]}
set_option maxHeartbeats 8000000 in
theorem xQ(k1 k2:Bool)(l1 l2:Addr)(xs ys:Array Value):
  Meets (Builtin.«zip.__new__» ⟨[.type "zip",.ref l1,.ref l2],[]⟩) (fun _ R s=>IsSq k1 s.heap l1 xs/\IsSq k2 s.heap l2 ys/\R (.ok (.ret (.ref (zD s.heap k1 k2 l1 l2).objs.size))) {s with heap:=zE s.heap k1 k2 l1 l2}):=
 .of_wp fun prog w A R s h=>by
  obtain⟨hp,g,d,tk,os⟩:=s;obtain⟨g1,g2,q⟩:=h;have hsub:=sub_zip;cases k1 with
  |true=>
   have e1:Heap.IsList (Shared.heap ⟨hp,g,d,tk,os⟩) l1 xs:=g1;cases k2 with
   |true=>
    have e2:Heap.IsList (Shared.heap ⟨hp.push {cls:=.type "list_iterator",data:=.fields #[.ref l1,.int 0 0]},g,d,tk,os⟩) l2 ys:=Heap.IsList.push g2 _
    wp_walk using OB e1,OB e2
    exact⟨_,rfl,q⟩
   |false=>
    have e2:Heap.IsTuple (Shared.heap ⟨hp.push {cls:=.type "list_iterator",data:=.fields #[.ref l1,.int 0 0]},g,d,tk,os⟩) l2 ys:=Heap.IsTuple.push g2 _
    wp_walk using OB e1,Ot e2
    exact⟨_,rfl,q⟩
  |false=>
   have e1:Heap.IsTuple (Shared.heap ⟨hp,g,d,tk,os⟩) l1 xs:=g1;cases k2 with
   |true=>
    have e2:Heap.IsList (Shared.heap ⟨hp.push {cls:=.type "tuple_iterator",data:=.fields #[.ref l1,.int 0 0]},g,d,tk,os⟩) l2 ys:=Heap.IsList.push g2 _
    wp_walk using Ot e1,OB e2
    exact⟨_,rfl,q⟩
   |false=>
    have e2:Heap.IsTuple (Shared.heap ⟨hp.push {cls:=.type "tuple_iterator",data:=.fields #[.ref l1,.int 0 0]},g,d,tk,os⟩) l2 ys:=Heap.IsTuple.push g2 _
    wp_walk using Ot e1,Ot e2
    exact⟨_,rfl,q⟩
def ZS(k1 k2:Bool)(z TI TO i1 i2 l1 l2:Addr)(i:Nat)(h:Heap):Prop:=IsZip h z TI TO .none/\IsPair h TI (.ref i1) (.ref i2)/\(∃a b,IsPair h TO a b)/\IsIt k1 h i1 l1 i/\IsIt k2 h i2 l2 i
theorem vn{prog:Program}{w:World}{A:Around}{E:Value->Shared->Prop}{s:Shared}{k1 k2:Bool}{l1 l2:Addr}{xs ys:Array Value}{Q:Value->Shared->Prop}(g1:IsSq k1 s.heap l1 xs)(g2:IsSq k2 s.heap l2 ys)
  (q:∀h',ZS k1 k2 (s.heap.objs.size+4) (s.heap.objs.size+2) (s.heap.objs.size+3) s.heap.objs.size (s.heap.objs.size+1) l1 l2 0 h'->(∀c o,s.heap.get? c=some o->h'.get? c=some o)->Q (.ref (s.heap.objs.size+4)) {s with heap:=h'}):
  wpAny (model prog w) A (call (.type "zip") [.ref l1,.ref l2]) Q E s:=by
 refine callType_new F.called_zip (by decide) (F.typeCall_zip_2 _ _) (F.newCall_zip_2 _ _) (fun obj=>F.args_object_init_3 obj _ _) F.entry_zip_new (xQ k1 k2 l1 l2 xs ys) ⟨g1,g2,?_⟩;have nA:(zA s.heap k1 l1).objs.size=s.heap.objs.size+1:=OK ..;have nB:(zB s.heap k1 k2 l1 l2).objs.size=s.heap.objs.size+2:=by rw[OK,nA]
 have nC:(zC s.heap k1 k2 l1 l2).objs.size=s.heap.objs.size+3:=by rw[OK,nB]
 have nD:(zD s.heap k1 k2 l1 l2).objs.size=s.heap.objs.size+4:=by rw[OK,nC]
 have pu:∀{h:Heap}{o:Obj}{c:Addr}{v:Obj},h.get? c=some v->(h.push o).get? c=some v:=fun e=>Heap.get?_push_of_some _ e
 have gz:(zE s.heap k1 k2 l1 l2).get? (zD s.heap k1 k2 l1 l2).objs.size=some _:=Heap.get?_push_size _ rfl;have go:(zE s.heap k1 k2 l1 l2).get? (zC s.heap k1 k2 l1 l2).objs.size=some _:=pu (Heap.get?_push_size _ rfl);have gi:(zE s.heap k1 k2 l1 l2).get? (zB s.heap k1 k2 l1 l2).objs.size=some _:=pu (pu (Heap.get?_push_size _ rfl));have j2:IsIt k2 (zE s.heap k1 k2 l1 l2) (zA s.heap k1 l1).objs.size l2 0:=(mq k2 (zA s.heap k1 l1) l2).at fun o e=>pu (pu (pu e))
 have j1:IsIt k1 (zE s.heap k1 k2 l1 l2) s.heap.objs.size l1 0:=(mq k1 s.heap l1).at fun o e=>pu (pu (pu (pu e)))
 show _/\_;rw[nB,nC,nD]at gz;rw[nA,nB]at gi;rw[nC]at go;rw[nA]at j2;rw[nD];exact⟨⟨_,gz,rfl⟩,q _ ⟨gz,gi,⟨_,_,go⟩,j1,j2⟩ fun c o x=>pu (pu (pu (pu (pu x))))⟩
noncomputable def LN(K:W.Frag)(k1 k2:Bool)(a b:Addr):It:=
 ⟨fun i H=>∃xs ys x y,(if k1 then SqL K H a xs else SqT K H a xs)/\(if k2 then SqL K H b ys else SqT K H b ys)/\xs[i]?=some x/\ys[i]?=some y,
  fun i H v H'=>∃T,H T=none/\v=.ref T/\∀xs ys x y,(if k1 then SqL K H a xs else SqT K H a xs)->(if k2 then SqL K H b ys else SqT K H b ys)->xs[i]?=some x->ys[i]?=some y->H'=upd H T (.tup [x,y]),
  fun i H=>∃xs ys,(if k1 then SqL K H a xs else SqT K H a xs)/\(if k2 then SqL K H b ys else SqT K H b ys)/\i=min xs.length ys.length⟩
section
variable{X:Cx}{pr:List (Addr×Obj)}{σ:L2.St}{H:Hp}{s:Shared}
theorem nP(I:Inv X pr σ H s){k:Bool}{a:Addr}{xs:List V}(h:if k then SqL X.K H a xs else SqT X.K H a xs):∃us:List Value,Vals xs us/\IsSq k s.heap a us.toArray:=by
 cases k with
 |true=>
  obtain⟨us,r,p,_⟩:=I.list (show SqL X.K H a xs from h);exact⟨us,r,p.isList⟩
 |false=>
  obtain⟨us,r,p,_⟩:=I.tuple (show SqT X.K H a xs from h);exact⟨us,r,(show s.heap.IsTuple a us.toArray from p)⟩
theorem tY(I:Inv X pr σ H s){k:Bool}{a:Addr}{xs ys:List V}(h:if k then SqL X.K H a xs else SqT X.K H a xs)(h':if k then SqL X.K H a ys else SqT X.K H a ys):xs=ys:=by
 cases k with
 |true=>exact I.list_inj (show SqL X.K H a xs from h) (show SqL X.K H a ys from h')
 |false=>exact I.tuple_inj (show SqT X.K H a xs from h) (show SqT X.K H a ys from h')
theorem eJ(I:Inv X pr σ H s){k:Bool}{a b:Addr}{xs:List V}(h:if k then SqL X.K H a xs else SqT X.K H a xs)(f:oF X pr H b):a≠b:=by
 rintro rfl;obtain⟨f0,_,_,f3,_⟩:=f;have nb:∀o,X.K.lookup a=some o->False:=fun o hk=>by
  have e:=I.ok.mod.kin a o hk;rcases f3 with z|z
  ·exact I.ok.noex a o e z
  ·exact absurd (Nd (M9 e) (NF I.ok.bsz z)) (OG _)
 cases k with
 |true=>
  rcases(show SqL X.K H a xs from h) with(h|⟨o,h⟩)|⟨o,Cc,n,hk,_⟩
  ·rw[f0]at h;cases h
  ·rw[f0]at h;cases h
  ·exact nb o hk
 |false=>
  rcases(show SqT X.K H a xs from h) with(h|⟨o,h⟩)|⟨o,Cc,n,hk,_⟩
  ·rw[f0]at h;cases h
  ·rw[f0]at h;cases h
  ·exact nb o hk
end
theorem nx_zip_item{prog:Program}{w:World}{A:Around}{E:Value->Shared->Prop}{s:Shared}{k1 k2:Bool}{z TI TO i1 i2 l1 l2:Addr}{i:Nat}{xs ys:Array Value}{x y:Value}{Q:Option Value->Shared->Prop}(D:ZipApart z TI TO i1 i2 l1 l2)(st:ZS k1 k2 z TI TO i1 i2 l1 l2 i s.heap)
  (g1:IsSq k1 s.heap l1 xs) (g2:IsSq k2 s.heap l2 ys) (hx:xs[i]?=some x) (hy:ys[i]?=some y)
  (q:∀h',IsZip h' z TI TO (rawInt s.heap.objs.size)->IsPair h' TO x y->IsIt k1 h' i1 l1 (i+1)->IsIt k2 h' i2 l2 (i+1)->IsPair h' s.heap.objs.size x y->
   (∀c o,c≠z->c≠TO->c≠i1->c≠i2->s.heap.get? c=some o->h'.get? c=some o)->Q (some (.ref s.heap.objs.size)) {s with heap:=h'}):wpAny (model prog w) A (pyNext (.ref z)) Q E s:=by
 obtain⟨hz,Fv,⟨a,b,F7⟩,h1,h2⟩:=st;have ty:s.TypeIs (.ref z) "zip":=⟨_,hz,rfl⟩
 unfold pyNext;exact M3 (Pr (wpAny_callSpecial?_slot (name:=Str.ofString "__next__") ty PF (NJ PF ty F.entry_zip_next (vm D hz Fv F7 h1 h2 g1 g2 hx hy fun h' a1 a2 a3 a4 a5 a6=>M4 (q h' a1 a2 a3 a4 a5 a6)) (F.args_zip_next_1 _))))
theorem nQ{prog:Program}{w:World}{A:Around}{E:Value->Shared->Prop}{s:Shared}{k1 k2:Bool}{z TI TO i1 i2 l1 l2:Addr}{i:Nat}{xs ys:Array Value}{Q:Option Value->Shared->Prop}(hh:A.handled=none)(D:ZipApart z TI TO i1 i2 l1 l2)(st:ZS k1 k2 z TI TO i1 i2 l1 l2 i s.heap)
  (g1:IsSq k1 s.heap l1 xs) (g2:IsSq k2 s.heap l2 ys) (he:xs[i]?=none\/ys[i]?=none) (q:∀h',(∀c o,c≠z->c≠TO->c≠i1->c≠i2->s.heap.get? c=some o->h'.get? c=some o)->Q none {s with heap:=h'}):wpAny (model prog w) A (pyNext (.ref z)) Q E s:=by
 obtain⟨hz,Fv,⟨a,b,F7⟩,h1,h2⟩:=st;have ty:s.TypeIs (.ref z) "zip":=⟨_,hz,rfl⟩
 unfold pyNext;refine M3 (Pr (wpAny_callSpecial?_slot (name:=Str.ofString "__next__") ty PF (NJ PF ty F.entry_zip_next (xP hh D hz Fv F7 h1 h2 g1 g2 he fun h' e kk ⟨o,ho,oc⟩=>?_) (F.args_zip_next_1 _))));exact M3 (wpAny_isInstance (T:="StopIteration") (b:=true) ⟨o,ho,oc⟩ isSubtype_stop (M4 (q _ kk)))
theorem rE{P:Program}{w:World}{K:W.Frag}{es:List Expr}{kt:Nat}{pt:Pos}(k1 k2:Bool)(a b z TI TO i1 i2:Addr)(ne:z≠TI/\z≠TO/\z≠i1/\z≠i2/\TI≠TO/\TI≠i1/\TI≠i2/\TO≠i1/\TO≠i2/\i1≠i2):
  Turn P w K (.Tuple es kt pt) (LN K k1 k2 a b) [z,TI,TO,i1,i2] z (ZS k1 k2 z TI TO i1 i2 a b) where
 mem:=by simp
 obj:=fun i h st c hc=>by
  obtain⟨hz,Fv,⟨x,y,F7⟩,h1,h2⟩:=st;simp only[Ni,OY,RJ]at hc;rcases hc with rfl|rfl|rfl|rfl|rfl
  ·exact⟨_,hz,fun v q=>by cases q⟩
  ·exact⟨_,Fv,fun v q=>by cases q⟩
  ·exact⟨_,F7,fun v q=>by cases q⟩
  ·exact h1.obj
  ·exact h2.obj
 keep:=fun i h h' st k=>by
  obtain⟨hz,Fv,⟨x,y,F7⟩,h1,h2⟩:=st;exact⟨k z (by simp) _ hz,k TI (by simp) _ Fv,⟨x,y,k TO (by simp) _ F7⟩,h1.at fun o e=>k i1 (by simp) o e,h2.at fun o e=>k i2 (by simp) o e⟩
 item:=by
  intro X hP hw hK hc i pr s σ H E I hf st hg;subst hP hw hK;obtain⟨xs,ys,x,y,s1,s2,hx,hy⟩:=hg;obtain⟨us,r1,q1⟩:=nP I s1;obtain⟨ws,r2,q2⟩:=nP I s2;obtain⟨u,hu,ru⟩:=r1.get hx;obtain⟨v,hv,rv⟩:=r2.get hy;obtain⟨n1,n2,n3,n4,n5,n6,n7,n8,n9,LO⟩:=ne;have f:=fun c hc=>hf c hc
  have D:ZipApart z TI TO i1 i2 a b:=⟨n1.symm,n2.symm,n3.symm,n4.symm,n5,n6,n7,n8,n9,LO,eJ I s1 (f z (by simp)),eJ I s1 (f TO (by simp)),eJ I s1 (f i1 (by simp)),eJ I s1 (f i2 (by simp)),
   eJ I s2 (f z (by simp)),eJ I s2 (f TO (by simp)),eJ I s2 (f i1 (by simp)),eJ I s2 (f i2 (by simp))⟩
  have Fv:=st.2.1;refine nx_zip_item D st q1 q2 (by simpa using hu) (by simpa using hv) fun h' z1 t1 j1 j2 tp kk=>⟨_,rfl,?_⟩
  refine wpAny_letOwnedTupleGo_zip z1 fun h2 z2 sb=>?_
  have nT:H s.heap.objs.size=none:=I.hok.fresh (M8 _);have tT:s.heap.objs.size≠z:=Rp (M9 st.1);have all:∀c o,c≠z->c≠TO->c≠i1->c≠i2->s.heap.get? c=some o->h2.get? c=some o:=fun c o c1 c2 c3 c4 e=>(sb.2 c c1).trans (kk c o c1 c2 c3 c4 e)
  have fz:=f z (by simp);have fo:=f TO (by simp);have f1:=f i1 (by simp);have f2:=f i2 (by simp);have IM:∀c ob,H c=some ob->c≠z/\c≠TO/\c≠i1/\c≠i2:=fun c ob e=>⟨(fun q=>by rw[q,fz.1]at e;cases e),(fun q=>by rw[q,fo.1]at e;cases e),(fun q=>by rw[q,f1.1]at e;cases e),(fun q=>by rw[q,f2.1]at e;cases e)⟩
  refine⟨.ref s.heap.objs.size,upd H s.heap.objs.size (.tup [x,y]),?_,rfl,⟨_,nT,rfl,fun DY ys' x' y' a1 a2 a3 a4=>?_⟩,⟨z2,?_,⟨u,v,(sb.2 TO n2.symm).trans t1⟩,j1.at fun o e=>(sb.2 i1 n3.symm).trans e,j2.at fun o e=>(sb.2 i2 n4.symm).trans e⟩,fun c hc=>?_⟩
  ·have tup2:h2.get? s.heap.objs.size=some {cls:=.type "tuple",data:=.seq #[u,v]}:=(sb.2 _ tT).trans tp;have S0:Inv X pr σ (upd H s.heap.objs.size (.tup [x,y])) {s with heap:=h2,gens:=s.gens,drawn:=s.drawn,toks:=s.toks}:=by
    refine I.step (ch:=[z,TO,i1,i2]) (fun c hc=>?_) (fun c o _ _ nc e _=>all c o (fun q=>nc (by simp[q])) (fun q=>nc (by simp[q])) (fun q=>nc (by simp[q])) (fun q=>nc (by simp[q])) e)
     (fun c o _ _ nc e _=>⟨o.slots,all c o (fun q=>nc (by simp[q])) (fun q=>nc (by simp[q])) (fun q=>nc (by simp[q])) (fun q=>nc (by simp[q])) e⟩) (fun c o _ e n=>by rw[aA (Nl (M9 e))];exact n)
     (fun c o nc e=>⟨o,all c o (fun q=>nc (by simp[q])) (fun q=>nc (by simp[q])) (fun q=>nc (by simp[q])) (fun q=>nc (by simp[q])) e⟩) (fun c l e=>by rw[aA (aI e nT)];exact e) (fun c o u' e=>by rw[aA (aI e nT)];exact e)
     (fun c ps e=>⟨#[],by rw[aA (aI e nT),e];simp⟩) (fun m hm=>?_) (fun c ob e=>?_) I.bare
    ·simp only[Ni,OY,RJ]at hc;rcases hc with rfl|rfl|rfl|rfl
     ·exact⟨fz.2.2.2.1,fz.2.1,fz.2.2.2.2.1,fz.2.2.2.2.2⟩
     ·exact⟨fo.2.2.2.1,fo.2.1,fo.2.2.2.2.1,fo.2.2.2.2.2⟩
     ·exact⟨f1.2.2.2.1,f1.2.1,f1.2.2.2.2.1,f1.2.2.2.2.2⟩
     ·exact⟨f2.2.2.2.1,f2.2.1,f2.2.2.2.2.1,f2.2.2.2.2.2⟩
    ·obtain⟨o,es,ep,ho,r⟩:=hm;exact⟨o,es,ep,all _ o (Oo fz.2.1) (Oo fo.2.1) (Oo f1.2.1) (Oo f2.2.1) ho,r⟩
    ·by_cases ec:c=s.heap.objs.size
     ·subst ec;rw[bg]at e;cases e;exact⟨by simp only[Nq,Qv];rw[NV];decide,[u,v],.cons ru (.cons rv .nil),⟨_,tup2,rfl,⟨0,rfl⟩,rfl⟩⟩
     ·rw[aA ec]at e;refine(I.hok c ob e).stay (fun d w' hd q=>?_) (fun d q=>by rw[aA (aI q nT)];exact q) fun d l q=>by rw[aA (aI q nT)];exact q
      have J2:∃oo,H d=some oo:=by
       rcases hd with rfl|hd
       ·exact⟨_,e⟩
       ·exact⟨_,hd⟩
      obtain⟨oo,LP⟩:=J2;obtain⟨m1,m2,m3,m4⟩:=IM d oo LP;exact all d w' m1 m2 m3 m4 q
   exact S0
  ·have e1:=tY I a1 s1;have e2:=tY I a2 s2;subst e1 e2;rw[hx]at a3;rw[hy]at a4;cases a3;cases a4;rfl
  ·exact(sb.2 TI n1.symm).trans (kk TI _ n1.symm n5 n6 n7 Fv)
  ·have hc0:=(f c hc).1;have cs:c≠s.heap.objs.size:=by
    have:=(fun i h st=>by
     exact(by
      obtain⟨hz,Fv,⟨x,y,F7⟩,h1,h2⟩:=st;simp only[Ni,OY,RJ]at hc;rcases hc with rfl|rfl|rfl|rfl|rfl
      ·exact⟨_,hz⟩
      ·exact⟨_,Fv⟩
      ·exact⟨_,F7⟩
      ·obtain⟨o,e,_⟩:=h1.obj;exact⟨o,e⟩
      ·obtain⟨o,e,_⟩:=h2.obj;exact⟨o,e⟩:∃o,h.get? c=some o):∀i h,ZS k1 k2 z TI TO i1 i2 a b i h->∃o,h.get? c=some o) i s.heap st
    obtain⟨o,e⟩:=this;exact Nl (M9 e)
   rw[aA cs];exact hc0
 done:=by
  intro X hP hw hK hc i pr s σ H E I hf st hg;subst hP hw hK;obtain⟨xs,ys,s1,s2,hi⟩:=hg;obtain⟨us,r1,q1⟩:=nP I s1;obtain⟨ws,r2,q2⟩:=nP I s2;have l1:=r1.length;have l2:=r2.length;obtain⟨n1,n2,n3,n4,n5,n6,n7,n8,n9,LO⟩:=ne;have f:=fun c hc=>hf c hc
  have D:ZipApart z TI TO i1 i2 a b:=⟨n1.symm,n2.symm,n3.symm,n4.symm,n5,n6,n7,n8,n9,LO,eJ I s1 (f z (by simp)),eJ I s1 (f TO (by simp)),eJ I s1 (f i1 (by simp)),eJ I s1 (f i2 (by simp)),
   eJ I s2 (f z (by simp)),eJ I s2 (f TO (by simp)),eJ I s2 (f i1 (by simp)),eJ I s2 (f i2 (by simp))⟩
  have fz:=f z (by simp);have fo:=f TO (by simp);have f1:=f i1 (by simp);have f2:=f i2 (by simp);refine nQ (I.ok.hd hc) D st q1 q2 (by
   rcases Nat.le_total us.length ws.length with q|q
   ·exact .inl (by simp;lia)
   ·exact .inr (by simp;lia)) fun h' kk=>⟨rfl,?_⟩
  have IM:∀c ob,H c=some ob->c≠z/\c≠TO/\c≠i1/\c≠i2:=fun c ob e=>⟨(fun q=>by rw[q,fz.1]at e;cases e),(fun q=>by rw[q,fo.1]at e;cases e),(fun q=>by rw[q,f1.1]at e;cases e),(fun q=>by rw[q,f2.1]at e;cases e)⟩
  have S0:Inv X pr σ H {s with heap:=h',gens:=s.gens,drawn:=s.drawn,toks:=s.toks}:=by
   refine I.step (ch:=[z,TO,i1,i2]) (fun c hc=>?_) (fun c o _ _ nc e _=>kk c o (fun q=>nc (by simp[q])) (fun q=>nc (by simp[q])) (fun q=>nc (by simp[q])) (fun q=>nc (by simp[q])) e)
    (fun c o _ _ nc e _=>⟨o.slots,kk c o (fun q=>nc (by simp[q])) (fun q=>nc (by simp[q])) (fun q=>nc (by simp[q])) (fun q=>nc (by simp[q])) e⟩) (fun c o _ e n=>n)
    (fun c o nc e=>⟨o,kk c o (fun q=>nc (by simp[q])) (fun q=>nc (by simp[q])) (fun q=>nc (by simp[q])) (fun q=>nc (by simp[q])) e⟩) (fun c l e=>e) (fun c o u' e=>e)
    (fun c ps e=>⟨#[],by rw[e];simp⟩) (fun m hm=>?_) (fun c ob e=>?_) I.bare
   ·simp only[Ni,OY,RJ]at hc;rcases hc with rfl|rfl|rfl|rfl
    ·exact⟨fz.2.2.2.1,fz.2.1,fz.2.2.2.2.1,fz.2.2.2.2.2⟩
    ·exact⟨fo.2.2.2.1,fo.2.1,fo.2.2.2.2.1,fo.2.2.2.2.2⟩
    ·exact⟨f1.2.2.2.1,f1.2.1,f1.2.2.2.2.1,f1.2.2.2.2.2⟩
    ·exact⟨f2.2.2.2.1,f2.2.1,f2.2.2.2.2.1,f2.2.2.2.2.2⟩
   ·obtain⟨o,es,ep,ho,r⟩:=hm;exact⟨o,es,ep,kk _ o (Oo fz.2.1) (Oo fo.2.1) (Oo f1.2.1) (Oo f2.2.1) ho,r⟩
   ·refine(I.hok c ob e).stay (fun d w' hd q=>?_) (fun d q=>q) fun d l q=>q
    have J2:∃oo,H d=some oo:=by
     rcases hd with rfl|hd
     ·exact⟨_,e⟩
     ·exact⟨_,hd⟩
    obtain⟨oo,LP⟩:=J2;obtain⟨m1,m2,m3,m4⟩:=IM d oo LP;exact kk d w' m1 m2 m3 m4 q
  exact S0
 self:=fun _ _ _ _ _ st h=>wpAny_pyIter_zip st.1 h
section
variable{X:Cx}{es:List Expr}{kt:Nat}{pt:Pos}
def BD(K:W.Frag)(k1 k2:Bool)(ta:TA):TI:=fun σ H R=>ta σ H fun vs H1=>∃a b xs ys,vs=[.ref a,.ref b]/\(if k1 then SqL K H1 a xs else SqT K H1 a xs)/\(if k2 then SqL K H1 b ys else SqT K H1 b ys)/\R (LN K k1 k2 a b) H1
theorem xR(k1 k2:Bool){e1 e2:Expr}{ta:TA}{p pos:Pos}(hg:Gl X "zip")(hm:X.mg "zip" = none)(ha:PA X [e1,e2] ta)(he:starEach [e1,e2] X.env=(false,eval e1 X.env)::starEach [e2] X.env:=by rfl)(C8:(backTo pos (starEach [e2] X.env)).any (·.1)=false:=by rfl):
  PI X (.Tuple es kt pt) (.Call (.Name "zip" p) [e1,e2] [] pos) (BD X.K k1 k2 ta):=by
 intro pr s σ H R I h;refine OL (ke I hg hm (by decide +kernel:bootBuiltins "zip" = some (.type "zip")) ?_ (by decide) (by decide));refine ON (Cs (ha pos pr s σ H _ I h) fun us s1 ⟨vs,H1,I1,r1,a,b,xs,ys,e,s1',s2',q⟩=>?_) he C8;subst e;obtain⟨u,w',rfl,ra,rb⟩:=oW r1;cases ra;cases rb;obtain⟨us,v1,q1⟩:=nP I1 s1';obtain⟨ws,v2,q2⟩:=nP I1 s2';refine vn q1 q2 fun h' st kk=>?_
 refine wpAny_pyIter_zip st.1 ?_;have fr:∀j,oF X pr H1 (s1.heap.objs.size+j):=fun j=>I1.fpOk (Nat.le_add_right _ _) (I1.hok.fresh (Nat.le_add_right _ _))
 have nn:∀i j:Nat,i≠j->s1.heap.objs.size+i≠s1.heap.objs.size+j:=fun i j h z=>h (Nat.add_left_cancel z)
 refine⟨_,_,_,_,H1,rfl,I1.kept (t':=s1.toks) kk,rE k1 k2 a b (s1.heap.objs.size+4) (s1.heap.objs.size+2) (s1.heap.objs.size+3) (s1.heap.objs.size+0) (s1.heap.objs.size+1)
  ⟨nn 4 2 (by decide),nn 4 3 (by decide),nn 4 0 (by decide),nn 4 1 (by decide),nn 2 3 (by decide),nn 2 0 (by decide),nn 2 1 (by decide),nn 3 0 (by decide),nn 3 1 (by decide),nn 0 1 (by decide)⟩,st,fun c hc=>?_,q⟩
 simp only[Ni,OY,RJ]at hc;rcases hc with rfl|rfl|rfl|rfl|rfl
 ·exact fr 4
 ·exact fr 2
 ·exact fr 3
 ·exact fr 0
 ·exact fr 1
end
end NX
namespace NX
open PySem PySem.W PyProof.Rows
section
variable{n:Nat}{O:KeyOrd}{κ:Nat->O.α}{cmp:Nat->Nat->(Bool->Shared->Prop)->Shared->Prop}{Good:Shared->Prop}
def kk(κ:Nat->O.α)(p:Array Nat)(i:Nat):O.α:=κ (p.getD i 0)
structure POk(n:Nat)(p:Array Nat):Prop where
 perm:p.toList.Perm (List.range n)
theorem POk.size{p:Array Nat}(h:POk n p):p.size=n:=by
 have:=h.perm.length_eq;simpa using this
theorem POk.lt{p:Array Nat}(h:POk n p){i:Nat}(hi:i<n):p.getD i 0<n:=by
 have hs:=h.size;have Hg:i<p.size:=by lia
 have e:p.getD i 0=p[i]:=by simp[Array.getD,Hg]
 rw[e];exact NH.mp (h.perm.mem_iff.mp (Array.getElem_mem_toList Hg))
theorem POk.of{p q:Array Nat}(h:POk n p)(hq:q.Perm p):POk n q:=⟨(Array.perm_iff_toList_perm.mp hq).trans h.perm⟩
def aP(κ:Nat->O.α)(p:Array Nat)(m:Nat):Prop:=∀i j,i<=j->j<m->O.kle (kk κ p i) (kk κ p j)
def dF(κ:Nat->O.α)(p:Array Nat)(m:Nat):Prop:=∀i j,i<=j->j<m->O.kle (kk κ p j) (kk κ p i)
theorem dk{p q:Array Nat}{i j:Nat}(h:p[i]?=q[j]?):p.getD i 0=q.getD j 0:=by
 rw[PH,PH,h]
theorem mr{p:Array Nat}{i j:Nat}(hj:j<=p.size)(k:Nat):kk κ (kas_rev p i j) k=if i<=k/\k<j then kk κ p (i+j-1-k) else kk κ p k:=by
 have e:=getElem?_mirror_all (i:=i) hj k;unfold kk kas_rev;split
 ·rename_i h;rw[Nc h]at e;rw[dk e]
 ·rename_i h;rw[Ng h]at e;rw[dk e]
theorem tZ{p:Array Nat}{src d:Nat}(hs:src<p.size)(hd:d<=src)(k:Nat):kk κ (bubble p src d) k=if k=src-d then kk κ p src else if src-d<k/\k<=src then kk κ p (k-1) else kk κ p k:=by
 have e:=getElem?_bubble hs d hd k;by_cases h:k=src-d
 ·rw[Nc h]at e ⊢;exact NY κ (dk e)
 ·rw[Ng h]at e ⊢;by_cases h2:src-d<k/\k<=src
  ·rw[Nc h2]at e ⊢;exact NY κ (dk e)
  ·rw[Ng h2]at e ⊢;exact NY κ (dk e)
theorem POk.rev{p:Array Nat}(h:POk n p)(i j:Nat):POk n (kas_rev p i j):=h.of (mirror_perm _ _ _ _)
theorem POk.bub{p:Array Nat}(h:POk n p)(i j:Nat):POk n (bubble p i j):=h.of (bubble_perm _ _ _)
theorem nR(p:Array Nat):aP κ p 1:=fun i j a b=>by
 have e:i=j:=by lia
 rw[e];exact Ol _
theorem lG{p:Array Nat}{m:Nat}(h1:1<=m)(h:aP κ p m)(hm:O.kle (kk κ p (m-1)) (kk κ p m)):aP κ p (m+1):=by
 intro i j IP hj;by_cases e:j=m
 ·subst e;by_cases e2:i=j
  ·subst e2;exact Ol _
  ·exact Pg (h i (j-1) (by lia) (by lia)) hm
 ·exact h i j IP (by lia)
theorem dm{p:Array Nat}{m:Nat}(h1:1<=m)(h:dF κ p m)(hm:O.kle (kk κ p m) (kk κ p (m-1))):dF κ p (m+1):=by
 intro i j IP hj;by_cases e:j=m
 ·subst e;by_cases e2:i=j
  ·subst e2;exact Ol _
  ·exact Pg hm (h i (j-1) (by lia) (by lia))
 ·exact h i j IP (by lia)
variable(hc:∀i j,i<n->j<n->∀(Q:Bool->Shared->Prop) s,Good s->(∀s',Good s'->Q (O.blt (κ i) (κ j)) s')->cmp i j Q s)
include hc
theorem pk{p:Array Nat}(hp:POk n p){CS:Nat}(hn:CS<=n){Q:Nat->Shared->Prop}:∀(f m:Nat) (s:Shared),Good s->1<=m->m+f=CS->aP κ p m->
  (∀r s',Good s'->m<=r->r<=CS->aP κ p r->(r<CS->O.klt (kk κ p r) (kk κ p (r-1)))->Q r s')->(kas_asc p f m).kasWp cmp Q s
 | 0,m,s,g,h1,hf,hs,k=>k m s g (M8 _) (by lia) hs (fun z=>by lia)
 |f+1,m,s,g,h1,hf,hs,k=>by
  show cmp (p.getD m 0) (p.getD (m-1) 0) _ s;refine hc _ _ (hp.lt (by lia)) (hp.lt (by lia)) _ s g fun s' g'=>?_
  cases e:O.blt (κ (p.getD m 0)) (κ (p.getD (m-1) 0)) with
  |true=>
   (try dsimp only)
   rw[Nc rfl];exact k m s' g' (M8 _) (by lia) hs fun _=>e
  |false=>
   (try dsimp only)
   rw[Ng Nb];exact pk hp hn f (m+1) s' g' (by lia) (by lia) (lG h1 hs e) fun r s2 g2 a b c d=>k r s2 g2 (by lia) b c d
def vo(κ:Nat->O.α)(p:Array Nat)(m q:Nat):Prop:=∀k,m-(q+1)<=k->k<m->kk κ p k=kk κ p (m-1)
omit hc in
theorem kB{p:Array Nat}{m q:Nat}(hm:m<=p.size)(h:vo κ p m q)(k:Nat):kk κ (kas_rev p (m-(q+1)) m) k=kk κ p k:=by
 rw[mr hm];split
 ·rename_i hk;rw[h _ (by lia) (by lia),h k hk.1 hk.2]
 ·rfl
omit hc in
theorem fY{p p':Array Nat}{m:Nat}(e:∀k,kk κ p' k=kk κ p k)(h:dF κ p m):dF κ p' m:=fun i j a b=>by rw[e,e];exact h i j a b
theorem jx{CS:Nat}(hn:CS<=n){Q:Array Nat×Nat×Nat->Shared->Prop}:∀(f:Nat) (p:Array Nat) (m q:Nat) (s:Shared),POk n p->Good s->1<=m->q+1<=m->m+f=CS->dF κ p m->vo κ p m q->
  (∀p' m' q' s',POk n p'->Good s'->m<=m'->m'<=CS->q'+1<=m'->dF κ p' m'->vo κ p' m' q'->Q (p',m',q') s')->(kas_desc f p m q).kasWp cmp Q s
 | 0,p,m,q,s,hp,g,h1,hq,hf,hs,ha,k=>k p m q s hp g (M8 _) (by lia) hq hs ha
 |f+1,p,m,q,s,hp,g,h1,hq,hf,hs,ha,k=>by
  show cmp (p.getD m 0) (p.getD (m-1) 0) _ s;refine hc _ _ (hp.lt (by lia)) (hp.lt (by lia)) _ s g fun s' g'=>?_
  have hsz:=hp.size;cases e:O.blt (κ (p.getD m 0)) (κ (p.getD (m-1) 0)) with
  |true=>
   (try dsimp only)
   rw[Nc rfl];have le:O.kle (kk κ p m) (kk κ p (m-1)):=O9 e;by_cases h0:q>0
   ·rw[Nc h0];have same:=kB (κ:=κ) (p:=p) (m:=m) (q:=q) (by lia) ha;refine jx hn f _ (m+1) 0 s' (hp.rev _ _) g' (by lia) (by lia) (by lia) (dm h1 (fY same hs) (by rw[same,same];exact le)) ?_ fun p' m' q' s2 a b c d e' f' g2=>k p' m' q' s2 a b (by lia) d e' f' g2
    intro k' a b;have:k'=m:=by lia
    rw[this];rfl
   ·rw[Ng h0];refine jx hn f p (m+1) 0 s' hp g' (by lia) (by lia) (by lia) (dm h1 hs le) ?_ fun p' m' q' s2 a b c d e' f' g2=>k p' m' q' s2 a b (by lia) d e' f' g2
    intro k' a b;have:k'=m:=by lia
    rw[this];rfl
  |false=>
   (try dsimp only)
   rw[Ng Nb];show cmp (p.getD (m-1) 0) (p.getD m 0) _ s';refine hc _ _ (hp.lt (by lia)) (hp.lt (by lia)) _ s' g' fun s2 g2=>?_
   cases e2:O.blt (κ (p.getD (m-1) 0)) (κ (p.getD m 0)) with
   |true=>
    (try dsimp only)
    rw[Nc rfl];exact k p m q s2 hp g2 (M8 _) (by lia) hq hs ha
   |false=>
    (try dsimp only)
    rw[Ng Nb];have eq:kk κ p (m-1)=kk κ p m:=KeyOrd.kle_antisymm (O:=O) e e2;refine jx hn f p (m+1) (q+1) s2 hp g2 (by lia) (by lia) (by lia) (dm h1 hs (by rw[eq];exact Ol _)) ?_ fun p' m' q' s3 a b c d e' f' g3=>k p' m' q' s3 a b (by lia) d e' f' g3
    intro k' a b;show kk κ p k'=kk κ p m;by_cases z:k'=m
    ·rw[z]
    ·rw[ha k' (by lia) (by lia),eq]
omit hc in
theorem nS{p:Array Nat}{m:Nat}(hm:m<=p.size)(h:dF κ p m):aP κ (kas_rev p 0 m) m:=by
 intro i j a b;rw[mr hm,mr hm,Nc (by lia),Nc (by lia)];exact h _ _ (by lia) (by lia)
theorem pq{p:Array Nat}(hp:POk n p){m CS:Nat}(hn:CS<=n)(h1:1<=m)(hm:m<=CS)(hs:dF κ p m){Q:Nat×Array Nat->Shared->Prop}{s:Shared}(g:Good s)
  (k:∀r p' s',POk n p'->Good s'->1<=r->r<=CS->aP κ p' r->Q (r,p') s'):(kas_tail3 m CS p).kasWp cmp Q s:=by
 unfold kas_tail3;rw[KasT.kasWp_bind];have hsz:=hp.size;refine pk hc (hp.rev 0 m) hn (CS-m) m s g h1 (by lia) (nS (by lia) hs) fun r s' g' a b c _=>?_
 exact k r _ s' (hp.rev 0 m) g' (by lia) b c
theorem hV{p:Array Nat}(hp:POk n p){m CS:Nat}(hn:CS<=n)(h1:1<=m)(hm:m+1<=CS)(hs:dF κ p (m+1)){Q:Nat×Array Nat->Shared->Prop}{s:Shared}(g:Good s)
  (k:∀r p' s',POk n p'->Good s'->1<=r->r<=CS->aP κ p' r->Q (r,p') s'):(kas_descPart m CS p).kasWp cmp Q s:=by
 unfold kas_descPart;rw[KasT.kasWp_bind];refine jx hc hn (CS-(m+1)) p (m+1) 0 s hp g (by lia) (by lia) (by lia) hs ?_ fun p' m' q' s' a b c d e f g2=>?_
 ·intro k' a b;have:k'=m:=by lia
  rw[this];rfl
 ·have hsz:=a.size;dsimp only;split
  ·have same:=kB (κ:=κ) (p:=p') (m:=m') (q:=q') (by lia) g2;exact pq hc (a.rev _ _) hn (by lia) d (fY same f) b k
  ·exact pq hc a hn (by lia) d f b k
theorem rF{p:Array Nat}(hp:POk n p){CS:Nat}(hn:CS<=n)(h1:1<=CS){Q:Nat×Array Nat->Shared->Prop}{s:Shared}(g:Good s)
  (k:∀r p' s',POk n p'->Good s'->1<=r->r<=CS->aP κ p' r->Q (r,p') s'):(kas_count CS p).kasWp cmp Q s:=by
 unfold kas_count;rw[KasT.kasWp_bind];have hsz:=hp.size;refine pk hc hp hn (CS-1) 1 s g (M8 _) (by lia) (nR p) fun m s' g' a b c d=>?_
 by_cases e:m=CS
 ·rw[Nc (by simpa using e)];exact k m p s' hp g' (by lia) (by lia) c
 ·rw[Ng (by simpa using e)];have dd:=d (by lia);by_cases h2:m>1
  ·rw[Nc h2];show cmp (p.getD 0 0) (p.getD (m-1) 0) _ s';refine hc _ _ (hp.lt (by lia)) (hp.lt (by lia)) _ s' g' fun s2 g2=>?_
   cases e2:O.blt (κ (p.getD 0 0)) (κ (p.getD (m-1) 0)) with
   |true=>
    (try dsimp only)
    rw[Nc rfl];exact k m p s2 hp g2 (by lia) b c
   |false=>
    (try dsimp only)
    rw[Ng Nb];have eq:∀i,i<m->kk κ p i=kk κ p 0:=fun i hi=>by
     have x1:=c 0 i (by lia) hi;have x2:=c i (m-1) (by lia) (by lia);exact KeyOrd.kle_antisymm (O:=O) (Pg x2 e2) x1
    have same:∀i,kk κ (kas_rev p 0 m) i=kk κ p i:=fun i=>by
     rw[mr (by lia)];split
     ·rw[eq _ (by lia),eq i (by lia)]
     ·rfl
    refine hV hc (hp.rev 0 m) hn (by lia) (by lia) ?_ g2 k;refine fY same (dm (by lia) (fun i j x y=>?_) (O9 dd));rw[eq i (by lia),eq j y];exact Ol _
  ·rw[Ng h2];refine hV hc hp hn (by lia) (by lia) (dm (by lia) (fun i j x y=>?_) (O9 dd)) g' k;have:i=j:=by lia
   rw[this];exact Ol _
theorem jy{p:Array Nat}(hp:POk n p){t:Nat}(ht:t<n)(hs:aP κ p t){Q:Nat->Shared->Prop}:∀(f l r:Nat) (s:Shared),Good s->l<=r->r<=t->r-l<=f->(∀i,i<l->O.kle (kk κ p i) (kk κ p t))->(∀i,r<=i->i<t->O.klt (kk κ p t) (kk κ p i))->
  (∀x s',Good s'->x<=t->(∀i,i<x->O.kle (kk κ p i) (kk κ p t))->(∀i,x<=i->i<t->O.klt (kk κ p t) (kk κ p i))->Q x s')->(kas_place p t f l r).kasWp cmp Q s
 | 0,l,r,s,g,h1,h2,h3,lo,hi,k=>k l s g (by lia) lo fun i a b=>hi i (by lia) b
 |f+1,l,r,s,g,h1,h2,h3,lo,hi,k=>by
  unfold kas_place;by_cases e:l>=r
  ·rw[Nc e];exact k l s g (by lia) lo fun i a b=>hi i (by lia) b
  ·rw[Ng e];show cmp (p.getD t 0) (p.getD ((l+r) / 2) 0) _ s;refine hc _ _ (hp.lt ht) (hp.lt (by lia)) _ s g fun s' g'=>?_
   cases e2:O.blt (κ (p.getD t 0)) (κ (p.getD ((l+r) / 2) 0)) with
   |true=>
    (try dsimp only)
    rw[Nc rfl];refine jy hp ht hs f l ((l+r) / 2) s' g' (by lia) (by lia) (by lia) lo (fun i a b=>?_) k;exact KeyOrd.klt_of_klt_of_kle (O:=O) e2 (hs _ i a b)
   |false=>
    (try dsimp only)
    rw[Ng Nb];refine jy hp ht hs f ((l+r) / 2+1) r s' g' (by lia) (by lia) (by lia) (fun i a=>?_) hi k;exact Pg (O:=O) (hs i ((l+r) / 2) (by lia) (by lia)) e2
theorem t8{Q:Array Nat->Shared->Prop}:∀(f:Nat) (p:Array Nat) (t:Nat) (s:Shared),POk n p->Good s->t+f=n->aP κ p t->(∀p' s',POk n p'->Good s'->aP κ p' n->Q p' s')->(kas_bin f p t).kasWp cmp Q s
 | 0,p,t,s,hp,g,hf,hs,k=>k p s hp g (by rw[show n=t by lia];exact hs)
 |f+1,p,t,s,hp,g,hf,hs,k=>by
  unfold kas_bin;rw[KasT.kasWp_bind];have hsz:=hp.size;refine jy hc hp (by lia) hs t 0 t s g (NG _) (M8 _) (by lia) (fun i a=>by lia) (fun i a b=>by lia) fun x s' g' hx lo hi=>?_
  refine t8 f _ (t+1) s' (hp.bub _ _) g' (by lia) ?_ k;have ex:t-(t-x)=x:=by lia
  intro i j a b;rw[tZ (by lia) (by lia),tZ (by lia) (by lia),ex];have lo':=lo;by_cases i1:i=x
  ·by_cases j1:j=x
   ·rw[Nc i1,Nc j1];exact Ol _
   ·rw[Nc i1,Ng j1,Nc (by lia)];exact O9 (hi (j-1) (by lia) (by lia))
  ·rw[Ng i1];by_cases i2:x<i/\i<=t
   ·rw[Nc i2,Ng (by lia),Nc (by lia)];exact hs (i-1) (j-1) (by lia) (by lia)
   ·rw[Ng i2];by_cases j1:j=x
    ·rw[Nc j1];exact lo i (by lia)
    ·rw[Ng j1];by_cases j2:x<j/\j<=t
     ·rw[Nc j2];exact hs i (j-1) (by lia) (by lia)
     ·rw[Ng j2];exact hs i j a (by lia)
theorem vp(h1:1<=n){Q:Array Nat->Shared->Prop}{s:Shared}(g:Good s)(k:∀p s',POk n p->Good s'->aP κ p n->Q p s'):(kas_sort n).kasWp cmp Q s:=by
 unfold kas_sort;rw[KasT.kasWp_bind];refine rF hc (p:=List.toArray (List.range n)) ⟨by simp⟩ (M8 _) h1 g fun r p' s' hp g' a b c=>?_
 dsimp only;split
 ·have e:max r 1=r:=by lia
  rw[e];exact t8 hc (n-r) p' r s' hp g' (by lia) c k
 ·exact k p' s' hp g' (by rw[show n=r by lia];exact c)
end
end NX
namespace NX
open PySem PySem.W PySem.Spec PyProof.Rows L2
section
variable{prog:Program}{w:World}{A:Around}{E:Value->Shared->Prop}{s:Shared}
theorem mw(n:Nat):POk n (List.toArray (List.range n)):=⟨by simp⟩
theorem fw{O:KeyOrd}{key:Nat->O.α}{kd:SortKind}{a:Addr}{vs:List Value}{n:Nat}{P:PySem.Fin->Shared->Prop}(ho:s.heap.get? a=some (seqObj "list" vs.toArray n))(F8:vs.length<64)
  (Eo:2<=vs.length->∀(h':Heap),(∀b o,b≠a->s.heap.get? b=some o->h'.get? b=some o)->∀Q:SortKind->Shared->Prop,Q kd {s with heap:=h'}->wpAny (model prog w) A (keyKind' vs.toArray) Q E {s with heap:=h'})
  (Gx:∀i j,i<vs.length->j<vs.length->∀(h':Heap),(∀b o,b≠a->s.heap.get? b=some o->h'.get? b=some o)->∀C:Bool->Shared->Prop,C (O.blt (key i) (key j)) {s with heap:=h'}->kas_ask prog w A kd vs i j C {s with heap:=h'})
  (h:∀p h',POk vs.length p->aP key p vs.length->(∃e,h'.get? a=some (seqObj "list" (List.toArray (p.toList.map fun i=>vs.getD i .none)) e))->(∀b o,b≠a->s.heap.get? b=some o->h'.get? b=some o)->P (.done (.ret .none)) {s with heap:=h'}):
  wpAny (model prog w) A (Builtin.«list.sort» ⟨[.ref a],[]⟩) P E s:=by
 rw[list_sort_plain];have la:a<s.heap.objs.size:=M9 ho;have zs:vs.toArray.size=vs.length:=by simp
 refine M3 (listItems_at ho rfl (M3 (listUpdate_at ho rfl ?_ (by rw[zs,NV];lia) (NG _))));obtain⟨e1,h1⟩:∃e1,(s.heap.update a (Obj.mapSeq fun _=>#[])).get? a=some (seqObj "list" #[] e1):=⟨_,get?_update_seq ho (fun _=>#[])⟩
 refine M3 (seqEpoch_at h1 rfl (M3 (wpAny_newTuple (M3 (Rb (Ou ?_))) (by simp only[Pz];rw[NV];lia))));generalize e6:((s.heap.update a (Obj.mapSeq fun _=>#[])).push {cls:=.type "tuple",data:=.seq vs.toArray.toList.toArray}).push {cls:=.type "list",data:=.seq ([]:List Value).toArray}=h6;have k6:∀b o,b≠a->s.heap.get? b=some o->h6.get? b=some o:=fun b o nb e=>by
  rw[<-e6];exact Heap.get?_push_of_some _ (Heap.get?_push_of_some _ ((Heap.get?_update_other _ _ (Oo nb)).trans e))
 have Kg:h6.get? a=some (seqObj "list" #[] e1):=by
  rw[<-e6];exact Heap.get?_push_of_some _ (Heap.get?_push_of_some _ h1)
 dsimp only;have fin:∀(p:Array Nat),POk vs.length p->aP key p vs.length->∀out:Array Value,out=List.toArray (p.toList.map fun i=>vs.getD i .none)->
   P (.done (.ret .none)) {s with heap:=h6.update a (Obj.mapSeq fun _=>out)}:=fun p hp hs out eo=>by
  subst eo;exact h p _ hp hs ⟨_,get?_update_seq Kg _⟩ fun b o nb e=>(Heap.get?_update_other _ _ (Oo nb)).trans (k6 b o nb e)
 have fits:∀{out:Array Value}{p:Array Nat},POk vs.length p->out=List.toArray (p.toList.map fun i=>vs.getD i .none)->out.size<=sizeLine+1:=fun{out p} hp e=>by
  rw[e,M6,M5,hp.perm.length_eq,Nt,NV];lia
 by_cases h2:vs.toArray.size<2
 ·rw[Nc h2,Nc h2];refine M3 (M4 ?_);rw[StateT.run_pure];refine M3 (M4 ?_);dsimp only;have eo:(arrOf (SortSt.mk' general' (vs.toArray.zip vs.toArray) #[] 7 none)).map (·.2)=List.toArray ((List.toArray (List.range vs.length)).toList.map fun i=>vs.getD i .none):=by
   show(vs.toArray.zip vs.toArray).map (·.2)=_;apply Array.toList_inj.mp;simp only[Array.toList_map,Array.toList_zip,Pz];have a1:(vs.zip vs).map (·.2)=vs:=by
    rw[List.map_snd_zip];exact M8 _
   rw[a1];apply Pa;intro i;by_cases hi:i<vs.length
   ·simp[hi]
   ·simp[hi]
  refine M3 (seqEpoch_at Kg rfl (M3 (listUpdate_at Kg rfl ?_ (NG _) (fits (mw _) eo))));simp only[P0,Ow,PL];refine M4 (fin _ (mw _) ?_ _ eo);intro i j x y;have:i=j:=by lia
  rw[this];exact Ol _
 ·rw[Ng h2,Ng h2];have Mw:2<=vs.length:=by lia
  refine M3 (Eo Mw h6 k6 _ ?_);refine M3 (NL (kat_run (ks:=vs) (vs:=vs) (Q:=fun E6 s'=>∃p,POk vs.length p/\aP key p vs.length/\arrOf E6=p.map (kas_item (vs.toArray.zip vs.toArray))/\failedOf E6=none/\s'={s with heap:=h6})
   (G:=fun p s'=>POk vs.length p/\aP key p vs.length/\s'={s with heap:=h6}) rfl Mw F8 (fun p E6 s' hz LQ hf hg=>⟨p,hg.1,hg.2.1,LQ,hf,hg.2.2⟩)
   (vp (n:=vs.length) (O:=O) (κ:=key) (Good:=fun s'=>s'={s with heap:=h6}) (fun i j hi hj Q s' g k=>?_) (by lia) rfl fun p s' hp g hs=>⟨hp,hs,g⟩)) (fun r s' hq=>?_) fun _ _ e=>e)
  ·subst g;exact Gx i j hi hj h6 k6 Q (k _ rfl)
  ·obtain⟨p,hp,hs,LQ,hf,rfl⟩:=hq;have eo:=kat_snds (ks:=vs) (vs:=vs) rfl LQ;refine M3 (seqEpoch_at Kg rfl (M3 (listUpdate_at Kg rfl ?_ (NG _) (fits hp eo))));rw[hf];simp only[P0,Ow,PL];exact M4 (fin p hp hs _ eo)
theorem fZ{O:KeyOrd}{key:Nat->O.α}{kd:SortKind}{l:Addr}{vs:List Value}{Q:Value->Shared->Prop}(hl:s.heap.IsList l vs.toArray)(F8:vs.length<64)
  (Eo:2<=vs.length->∀(A':Around) (E':Value->Shared->Prop) (h':Heap),(∀b o,s.heap.get? b=some o->h'.get? b=some o)->∀Q:SortKind->Shared->Prop,Q kd {s with heap:=h'}->wpAny (model prog w) A' (keyKind' vs.toArray) Q E' {s with heap:=h'})
  (Gx:∀i j,i<vs.length->j<vs.length->∀(h':Heap),(∀b o,s.heap.get? b=some o->h'.get? b=some o)->∀C:Bool->Shared->Prop,C (O.blt (key i) (key j)) {s with heap:=h'}->kas_ask prog w A.in1.in1 kd vs i j C {s with heap:=h'})
  (h:∀p h' e,POk vs.length p->aP key p vs.length->h'.get? (s.heap.objs.size+1)=some (seqObj "list" (List.toArray (p.toList.map fun i=>vs.getD i .none)) e)->(∀b o,s.heap.get? b=some o->h'.get? b=some o)->Q (.ref (s.heap.objs.size+1)) {s with heap:=h'}):
  wpAny (model prog w) A (call (.builtin "sorted") [.ref l]) Q E s:=by
 refine OV kind_sorted plain_sorted entry_sorted (args_sorted1 _) ?_;unfold Builtin.«sorted»;refine M3 (m:=checkCount "sorted" 1 1 _) (M4 (M3 (collect_list hl (M3 (Rb ?_ (by rw[NV];lia))) (by rw[NV];lia))));have zz:((s.heap.push (seqObj "list" #[] 0)).update s.heap.objs.size (Obj.mapSeq (·++vs.toArray))).objs.size=s.heap.objs.size+1:=by rw[Heap.size_update,size_push']
 generalize e5:(s.heap.push (seqObj "list" #[] 0)).update s.heap.objs.size (Obj.mapSeq (·++vs.toArray))=h5 at zz ⊢;have k5:∀b o,s.heap.get? b=some o->(h5.push (seqObj "list" vs.toArray 0)).get? b=some o:=fun b o e=>by
  rw[<-e5];exact Heap.get?_push_of_some _ ((Heap.get?_update_other _ _ (Oo (Nl (M9 e)))).trans (Heap.get?_push_of_some _ e))
 have hL:(h5.push (seqObj "list" vs.toArray 0)).get? (s.heap.objs.size+1)=some (seqObj "list" vs.toArray 0):=by
  rw[<-zz];exact Heap.get?_push_size _ rfl
 have ne:∀b o,s.heap.get? b=some o->b≠s.heap.objs.size+1:=fun b o e=>Nl (P2 (M9 e))
 show wpAny _ _ _ _ _ {s with heap:=h5.push (seqObj "list" vs.toArray 0)};rw[zz];refine M3 (Ou (NJ slot_list_sort ⟨_,hL,rfl⟩ entry_list_sort (fw (key:=key) (kd:=kd) hL F8 (fun h2 h' kk Q' q=>Eo h2 _ _ h' (fun b o e=>kk b o (ne b o e) (k5 b o e)) Q' q)
  (fun i j hi hj h' kk C q=>Gx i j hi hj h' (fun b o e=>kk b o (ne b o e) (k5 b o e)) C q) fun p h' hp hs ⟨e,he⟩ kk=>⟨_,rfl,?_⟩) (args_list_sort _)))
 exact M4 ⟨_,rfl,h p h' e hp hs he fun b o q=>kk b o (ne b o q) (k5 b o q)⟩
end
def intO:KeyOrd where
 α:=Int
 blt a b:=decide (a<b)
 irrefl a:=by simp
 trans a b c h1 h2:=by simp only[Nn] at *;lia
 negTrans a b c h:=by simp only[Nn] at *;lia
 total a b h1 h2:=by simp only[ND] at *;lia
abbrev AX:KeyOrd:=strKind.toKeyOrd
noncomputable def ly:KeyOrd where
 α:=Key
 blt a b:=match a,b with
  | .inl i,.inl j=>decide (i<j)
  | .inr x,.inr y=>decide (x.cps.toList<y.cps.toList)
  | .inl _,.inr _=>true
  | .inr _,.inl _=>false
 irrefl a:=by
  cases a with
  |inl i=>simp
  |inr x=>simpa using List.lt_irrefl x.cps.toList
 trans a b c h1 h2:=by
  cases a <;> cases b <;> cases c <;> simp_all
  ·lia
  ·exact List.lt_trans h1 h2
 negTrans a b c h:=by
  cases a <;> cases b <;> cases c <;> simp_all
  ·lia
  ·rename_i x y z;by_cases q:x.cps.toList<y.cps.toList
   ·exact .inl q
   ·exact .inr (List.lt_of_le_of_lt (Qc.mp q) h)
 total a b h1 h2:=by
  cases a <;> cases b <;> simp_all
  ·lia
  ·rename_i x y;have e:x.cps.toList=y.cps.toList:=List.le_antisymm (by first|exact h2|exact Qc.mp h2) (by first|exact h1|exact Qc.mp h1);rw[<-ky x,<-ky y,e]
def cG:List Key->List Key->Bool
 |[],[]=>false
 |[],_::_=>true
 |_::_,[]=>false
 |a::r,b::t=>if a=b then cG r t else ly.blt a b
theorem eX:∀a:List Key,cG a a=false
 |[]=>rfl
 |a::r=>by
  show(if a=a then cG r r else _)=false;rw[Nc rfl];exact eX r
theorem vq{a b:Key}(h:ly.blt a b=true):a≠b:=by
 rintro rfl;have:=ly.irrefl a;rw[h]at this;cases this
theorem eC:∀a b c:List Key,cG a b=true->cG b c=true->cG a c=true
 |[],[],_,h,_=>by cases h
 |[],_::_,[],_,h=>by cases h
 |[],_::_,_::_,_,_=>rfl
 |_::_,[],_,h,_=>by cases h
 |_::_,_::_,[],_,h=>by cases h
 |a::r,b::t,c::u,h1,h2=>by
  have h1:(if a=b then cG r t else ly.blt a b)=true:=h1;have h2:(if b=c then cG t u else ly.blt b c)=true:=h2;show(if a=c then cG r u else ly.blt a c)=true;by_cases e1:a=b
  ·by_cases e2:b=c
   ·rw[Nc e1]at h1;rw[Nc e2]at h2;rw[Nc (e1.trans e2)];exact eC r t u h1 h2
   ·rw[Ng e2]at h2;rw[e1,Ng e2];exact h2
  ·rw[Ng e1]at h1;by_cases e2:b=c
   ·rw[<-e2,Ng e1];exact h1
   ·rw[Ng e2]at h2;have h3:=ly.trans a b c h1 h2;rw[Ng (vq h3)];exact h3
theorem eD:∀a b:List Key,cG a b=false->cG b a=false->a=b
 |[],[],_,_=>rfl
 |[],_::_,h,_=>by cases h
 |_::_,[],_,h=>by cases h
 |a::r,b::t,h1,h2=>by
  have h1:(if a=b then cG r t else ly.blt a b)=false:=h1;have h2:(if b=a then cG t r else ly.blt b a)=false:=h2;by_cases e:a=b
  ·rw[Nc e]at h1;rw[Nc e.symm]at h2;rw[e,eD r t h1 h2]
  ·rw[Ng e]at h1;rw[Ng (Oo e)]at h2;exact absurd (ly.total a b h1 h2) e
theorem rH(a b c:List Key)(h:cG a c=true):cG a b=true\/cG b c=true:=by
 cases e:cG a b with
 |true=>exact .inl rfl
 |false=>
  refine .inr ?_;cases e2:cG b a with
  |true=>exact eC b a c e2 h
  |false=>
   rw[<-eD a b e e2];exact h
def zj:KeyOrd where
 α:=List Key
 blt:=cG
 irrefl:=eX
 trans:=eC
 negTrans:=rH
 total:=eD
section
variable{O:KeyOrd}
def nU(p:Array Nat)(xs:List V):List V:=p.toList.map fun i=>xs.getD i .non
theorem i7{α:Type}(xs:List α)(d:α):((List.range xs.length).map fun i=>xs.getD i d)=xs:=by
 apply Pa;intro i;by_cases hi:i<xs.length
 ·simp[hi]
 ·simp[hi]
theorem gW{α:Type}{p:Array Nat}{xs:List α}(d:α)(hp:POk xs.length p):(p.toList.map fun i=>xs.getD i d).Perm xs:=by
 have:=hp.perm.map (fun i=>xs.getD i d)
 rwa [i7]at this
theorem eE{α:Type}{p:Array Nat}{xs:List α}(d:α)(key:α->O.α)(hp:POk xs.length p)(hs:aP (O:=O) (fun i=>key (xs.getD i d)) p xs.length):(p.toList.map fun i=>xs.getD i d).Pairwise fun a b=>O.kle (key a) (key b):=by
 rw[List.pairwise_iff_getElem];intro i j hi hj IP;have hsz:=hp.size;have Hg:i<p.size:=by simpa using hi
 have IQ:j<p.size:=by simpa using hj
 have h:=hs i j (Qp IP) (by lia);unfold kk at h;simp only[List.getElem_map,Array.getElem_toList];have e1:p.getD i 0=p[i]:=by simp[Array.getD,Hg]
 have e2:p.getD j 0=p[j]:=by simp[Array.getD,IQ]
 rw[e1,e2]at h;exact h
theorem vals_pick{xs:List V}{us:List Value}(r:Vals xs us):∀l:List Nat,(∀i∈l,i<xs.length)->Vals (l.map fun i=>xs.getD i .non) (l.map fun i=>us.getD i .none)
 |[],_=>.nil
 |i::l,h=>by
  refine .cons ?_ (vals_pick r l fun j hj=>h j (Nj _ hj));have hi:=h i M7;have e1:xs[i]?=some (xs.getD i .non):=by rw[bc _ _ _ hi];exact List.getElem?_eq_getElem hi
  obtain⟨u,hu,ru⟩:=r.get e1;have e2:us.getD i .none=u:=by rw[List.getD_eq_getElem?_getD,hu];rfl
  show L2.RelV (xs.getD i .non) (us.getD i .none);rw[e2];exact ru
theorem gX{xs:List V}{us:List Value}{p:Array Nat}(r:Vals xs us)(hp:POk xs.length p):Vals (nU p xs) (p.toList.map fun i=>us.getD i .none):=
 vals_pick r _ fun i hi=>NH.mp (hp.perm.mem_iff.mp hi)
end
section
variable{X:Cx}
theorem fA{pr:List (Addr×Obj)}{s:Shared}{σ:L2.St}{H:Hp}{h':Heap}{ys:List V}{us:List Value}{e:Nat}{D:Addr}(I:Inv X pr σ H s)(kk:∀b o,s.heap.get? b=some o->h'.get? b=some o)(hD:s.heap.objs.size<=D)
  (ho:h'.get? D=some (seqObj "list" (List.toArray us) e)) (r:Vals ys us) (hz:ys.length<=sizeLine):Inv X pr σ (upd H D (.lst ys)) {s with heap:=h'}:=
 I.laid (t':=s.toks) kk hD ⟨hz,us,e,r,ho⟩
theorem gM(hc:X.calm=true):de X (.builtin "sorted") (fun vs H Q=>∃(p:Addr) (ns:List Int),vs=[.ref p]/\SqL X.K H p (ns.map V.int)/\ns.length<64/\∀(D:Addr) (ms:List Int),H D=none->ms.Perm ns->ms.Pairwise (·<=·)->Q (.ref D) (upd H D (.lst (ms.map V.int)))):=by
 intro pr s σ H vs us Q I r h;obtain⟨p,ns,rfl,hp,F8,q⟩:=h;obtain⟨u,rfl,r1⟩:=gK r;cases r1;obtain⟨ws,rv,pl,hz⟩:=I.list hp;have hl:=rv.length;rw[M5]at hl;have isI:∀v∈ws,∃n t,v=.int n t:=fun v hv=>by
  obtain⟨i,hi⟩:=OS.mp hv;obtain⟨t,e⟩:=lE rv hi;exact⟨_,t,e⟩
 refine fZ (O:=intO) (key:=fun i=>ns.getD i 0) (kd:=oneType') pl.isList (by lia) (fun h2 A' E' h' kk Q' q'=>?_) (fun i j hi hj h' kk C q'=>?_) fun pp h' e D7 hs he kk=>?_
 ·refine kas_kind h2 (T:=.type "int") (fun v hv=>?_) (by decide) (by decide) q';obtain⟨n,t,rfl⟩:=isI v hv;exact fun A Q E s _ q=>O1 (QF s n t) q
 ·unfold kas_ask;have e1:ws[i]?=some (ws.getD i .none):=by rw[bc _ _ _ hi];exact List.getElem?_eq_getElem hi
  have e2:ws[j]?=some (ws.getD j .none):=by rw[bc _ _ _ hj];exact List.getElem?_eq_getElem hj
  obtain⟨t,LR⟩:=lE rv e1;obtain⟨t',LS⟩:=lE rv e2;rw[LR,LS];exact kat_lt_int q'
 ·rw[<-hl]at D7 hs;have IS:POk (ns.map V.int).length pp:=by rw[M5];exact D7
  have eo:nU pp (ns.map V.int)=(pp.toList.map fun i=>ns.getD i 0).map V.int:=by
   unfold nU;rw[Nv];refine Oj fun i hi=>?_
   have hi:=NH.mp (D7.perm.mem_iff.mp hi);show(ns.map V.int).getD i .non=V.int (ns.getD i 0);rw[bc _ _ _ (by rw[M5];exact hi),bc _ _ _ hi];simp
  have hn:H (s.heap.objs.size+1)=none:=I.hok.fresh (OR _);refine⟨.ref (s.heap.objs.size+1),_,fA I kk (OR _) he (gX rv IS) ?_,rfl,?_⟩
  ·show(nU pp (ns.map V.int)).length<=sizeLine;rw[eo,M5,M5,D7.perm.length_eq,Nt,NV];lia
  ·rw[eo];refine q _ _ hn (gW 0 D7) ?_;have:=eE (O:=intO) 0 (fun i:Int=>i) D7 hs;refine this.imp fun{a b} IT=>?_
   have IT:decide (b<a)=false:=IT;have:=Rc IT;lia
theorem lH{ls:List (List Nat)}{us:List Value}(r:Vals (ls.map fun l=>V.str (S l)) us){i:Nat}{v:Value}(h:us[i]?=some v):∃t,v=.str (S (ls.getD i [])) t:=by
 have hl:=r.length;rw[M5]at hl;obtain⟨hi,_⟩:=List.getElem?_eq_some_iff.mp h;have e1:(ls.map fun l=>V.str (S l))[i]?=some (.str (S (ls.getD i []))):=by
  rw[List.getElem?_map,List.getElem?_eq_getElem (by lia),bc _ _ _ (by lia)];rfl
 obtain⟨u,hu,t,rfl⟩:=r.get e1;rw[h]at hu;exact⟨t,Nw hu⟩
theorem gN(hc:X.calm=true):de X (.builtin "sorted") (fun vs H Q=>∃(p:Addr) (ls:List (List Nat)),vs=[.ref p]/\SqL X.K H p (ls.map fun l=>V.str (S l))/\ls.length<64/\∀(D:Addr) (ms:List (List Nat)),H D=none->ms.Perm ls->ms.Pairwise (fun a b=>¬ b<a)->Q (.ref D) (upd H D (.lst (ms.map fun l=>V.str (S l))))):=by
 intro pr s σ H vs us Q I r h;obtain⟨p,ls,rfl,hp,F8,q⟩:=h;obtain⟨u,rfl,r1⟩:=gK r;cases r1;obtain⟨ws,rv,pl,hz⟩:=I.list hp;have hl:=rv.length;rw[M5]at hl;refine fZ (O:=AX) (key:=fun i=>ls.getD i []) (kd:=oneType') pl.isList (by lia) (fun h2 A' E' h' kk Q' q'=>?_) (fun i j hi hj h' kk C q'=>?_) fun pp h' e D7 hs he kk=>?_
 ·refine kas_kind h2 (T:=.type "str") (fun v hv=>?_) (by decide) (by decide) q';obtain⟨i,hi⟩:=OS.mp hv;obtain⟨t,rfl⟩:=lH rv hi;exact fun A Q E s _ q=>O1 (QD s _ t) q
 ·unfold kas_ask;have e1:ws[i]?=some (ws.getD i .none):=by rw[bc _ _ _ hi];exact List.getElem?_eq_getElem hi
  have e2:ws[j]?=some (ws.getD j .none):=by rw[bc _ _ _ hj];exact List.getElem?_eq_getElem hj
  obtain⟨t,LR⟩:=lH rv e1;obtain⟨t',LS⟩:=lH rv e2;rw[LR,LS];refine kas_lt_str ?_;rw[cn,cn];exact q'
 ·rw[<-hl]at D7 hs;have IS:POk (ls.map fun l=>V.str (S l)).length pp:=by rw[M5];exact D7
  have eo:nU pp (ls.map fun l=>V.str (S l))=(pp.toList.map fun i=>ls.getD i []).map fun l=>V.str (S l):=by
   unfold nU;rw[Nv];refine Oj fun i hi=>?_
   have hi:=NH.mp (D7.perm.mem_iff.mp hi);show(ls.map fun l=>V.str (S l)).getD i .non=V.str (S (ls.getD i []));rw[bc _ _ _ (by rw[M5];exact hi),bc _ _ _ hi];simp
  have hn:H (s.heap.objs.size+1)=none:=I.hok.fresh (OR _);refine⟨.ref (s.heap.objs.size+1),_,fA I kk (OR _) he (gX rv IS) ?_,rfl,?_⟩
  ·show(nU pp (ls.map fun l=>V.str (S l))).length<=sizeLine;rw[eo,M5,M5,D7.perm.length_eq,Nt,NV];lia
  ·rw[eo];refine q _ _ hn (gW [] D7) ?_;have:=eE (O:=AX) [] (fun l:List Nat=>l) D7 hs;refine this.imp fun{a b} IT=>?_
   have IT:decide (b<a)=false:=IT;exact Rc IT
end
def kinds(k:List Key):List Bool:=k.map fun x=>x.isLeft
section
variable{prog:Program}{w:World}{A:Around}{s:Shared}
theorem px(a b:Key):LF (kV a) (kV b)=decide (a=b):=by
 cases a <;> cases b <;> (rw[Nx];simp[kV,LF])
theorem gY(a:Key):rj (kV a)=true:=by cases a <;> rfl
theorem xS{a b:Key}{u v:Value}{top:Bool}{Q:Bool->Shared->Prop}(ra:L2.RelV (kV a) u)(rb:L2.RelV (kV b) v)(hk:a.isLeft=b.isLeft)(q:Q (ly.blt a b) s):wpAny (model prog w) A (oneLt' top u v) Q (fun _ _=>False) s:=by
 cases a with
 |inl i=>
  cases b with
  |inr _=>cases hk
  |inl j=>
   obtain⟨t,rfl⟩:=ra;obtain⟨t',rfl⟩:=rb;cases top with
   |true=>exact kat_lt_int (E:=fun _ _=>False) q
   |false=>exact kat_one _ _ (lt_int q)
 |inr x=>
  cases b with
  |inl _=>cases hk
  |inr y=>
   obtain⟨t,rfl⟩:=ra;obtain⟨t',rfl⟩:=rb;cases top with
   |true=>exact oneLt_str q
   |false=>exact kat_one _ _ (lt_str q)
theorem hX{Q:Bool->Shared->Prop}:∀(k1 k2:List Key) (us ws:List Value) (i:Nat),Vals (k1.map kV) us->Vals (k2.map kV) ws->kinds k1=kinds k2->Q (cG k1 k2) s->KatLex prog w A true false Q (us.zip ws) i s
 |[],[],_,_,_,.nil,.nil,_,q=>q
 |[],_::_,_,_,_,_,_,h,_=>by cases h
 |_::_,[],_,_,_,_,_,h,_=>by cases h
 |a::r,b::t,u::us,v::ws,i,.cons ru rus,.cons rv rvs,h,q=>by
  have h1:a.isLeft=b.isLeft:=(Oy h).1;have h2:kinds r=kinds t:=(Oy h).2;have q:Q (if a=b then cG r t else ly.blt a b) s:=q;refine kat_cons (tR (A:=A) (s:=s) ru rv (gY a) (gY b) prog w _ _ ?_);rw[px];by_cases e:a=b
  ·rw[Nc e]at q;rw[Nm e];exact kat_yes (hX r t us ws (i+1) rus rvs h2 q)
  ·rw[Ng e]at q;rw[Nh e];exact kat_no (xS ru rv h1 q)
end
section
variable{X:Cx}{pr:List (Addr×Obj)}{σ:L2.St}{H:Hp}{s:Shared}
theorem kC(I:Inv X pr σ H s){a:Addr}{xs:List V}(h:SqT X.K H a xs):∃(us:List Value) (o:Obj) (n:Nat),Vals xs us/\s.heap.get? a=some o/\o.cls=.type "tuple"/\o.data=.seq us.toArray n:=by
 obtain⟨us,r,pl,_⟩:=I.tuple h;obtain⟨o,ho,oc,n,od⟩:=pl;exact⟨us,o,n,r,ho,oc,od⟩
theorem jz{al:List (Addr×List Key)}{us:List Value}(r:Vals (al.map fun a=>V.ref a.1) us){i:Nat}(h:i<al.length):us.getD i .none=.ref (al.getD i (0,[])).1:=by
 have e1:(al.map fun a=>V.ref a.1)[i]?=some (.ref (al.getD i (0,[])).1):=by
  rw[List.getElem?_map,List.getElem?_eq_getElem h,bc _ _ _ h];rfl
 obtain⟨u,hu,ru⟩:=r.get e1;rw[List.getD_eq_getElem?_getD,hu];exact ru
theorem mx{al:List (Addr×List Key)}{us:List Value}{h':Heap}(I:Inv X pr σ H s)(kk:∀b o,s.heap.get? b=some o->h'.get? b=some o)(top:Bool):
  (r:Vals (al.map fun a=>V.ref a.1) us)->(∀a∈al,SqT X.K H a.1 (a.2.map kV)/\∃t,kinds a.2=top::t)->∃fs:List Value,KatTups h' us fs/\fs.length=al.length/\∀v∈fs,∀M:Model,Looks M h' (typeOf v) (.type (if top then "int" else "str")):=by
 induction al generalizing us with
 |nil=>
  intro r _;cases r;exact⟨[],trivial,rfl,fun v hv=>by cases hv⟩
 |cons a al ih=>
  intro r h;cases r with
  |cons ra rs=>
   cases ra;obtain⟨fs,t1,t2,t3⟩:=ih rs fun b hb=>h b (Nj _ hb)
   obtain⟨ha,kt,hk⟩:=h a M7;obtain⟨ws,o,n,rv,ho,oc,od⟩:=kC I ha;cases e2:a.2 with
   |nil=>rw[e2]at hk;cases hk
   |cons k ks=>
    rw[e2]at rv hk;have Mx:k.isLeft=top:=(Oy hk).1;cases rv with
    | @cons _ f _ fr rf rfs=>
     refine⟨f::fs,KatTups.cons (kk _ _ ho) oc od (by simp) t1,by simp[t2],fun v hv M=>?_⟩;rcases Ni.mp hv with rfl|hv
     ·cases k with
      |inl i=>
       obtain⟨t,rfl⟩:=rf;have:top=true:=Mx.symm;subst this;exact fun A Q E s _ q=>O1 (QF s _ t) q
      |inr x=>
       obtain⟨t,rfl⟩:=rf;have:top=false:=Mx.symm;subst this;exact fun A Q E s _ q=>O1 (QD s _ t) q
     ·exact t3 v hv M
end
section
variable{X:Cx}
theorem gO(hc:X.calm=true):de X (.builtin "sorted") (fun vs H Q=>∃(p:Addr) (al:List (Addr×List Key)) (top:Bool) (t:List Bool),vs=[.ref p]/\SqL X.K H p (al.map fun a=>V.ref a.1)/\(∀a∈al,SqT X.K H a.1 (a.2.map kV)/\kinds a.2=top::t)/\al.length<64/\
  ∀(D:Addr) (ms:List (Addr×List Key)),H D=none->ms.Perm al->ms.Pairwise (fun a b=>cG b.2 a.2=false)->Q (.ref D) (upd H D (.lst (ms.map fun a=>V.ref a.1)))):=by
 intro pr s σ H vs us Q I r h;obtain⟨p,al,top,kt,rfl,hp,FY,F8,q⟩:=h;obtain⟨u,rfl,r1⟩:=gK r;cases r1;obtain⟨ws,rv,pl,hz⟩:=I.list hp;have hl:=rv.length;rw[M5]at hl;refine fZ (O:=zj) (key:=fun i=>(al.getD i (0,[])).2) (kd:=tuples' true) pl.isList (by lia) (fun h2 A' E' h' kk Q' q'=>?_) (fun i j hi hj h' kk C q'=>?_) fun pp h' e D7 hs he kk=>?_
 ·obtain⟨fs,t1,t2,t3⟩:=mx I kk top rv fun a ha=>⟨(FY a ha).1,kt,(FY a ha).2⟩
  refine kat_kind (T:=.type (if top then "int" else "str")) t1 (by lia) (fun v hv=>t3 v hv _) (by simp) ?_;have:((Value.type (if top then "int" else "str")) != Value.type "tuple")=true:=by cases top <;> decide
  rw[this];exact q'
 ·unfold kas_ask;have Hg:i<al.length:=by lia
  have IQ:j<al.length:=by lia
  rw[jz rv Hg,jz rv IQ];have mi:al.getD i (0,[])∈al:=by rw[bc _ _ _ Hg];exact OX _
  have mj:al.getD j (0,[])∈al:=by rw[bc _ _ _ IQ];exact OX _
  obtain⟨u1,o1,n1,r1,g1,_,d1⟩:=kC I (FY _ mi).1;obtain⟨u2,o2,n2,r2,g2,_,d2⟩:=kC I (FY _ mj).1;have ek:kinds (al.getD i (0,[])).2=kinds (al.getD j (0,[])).2:=by rw[(FY _ mi).2,(FY _ mj).2]
  have el:u1.length=u2.length:=by
   have a1:=r1.length;have a2:=r2.length;have a3:=NY List.length ek;simp only[kinds,M5]at a1 a2 a3;lia
  refine kat_lt (kk _ _ g1) d1 (kk _ _ g2) d2 ?_;have ef:decide (u1.toArray.size<u2.toArray.size)=false:=by simp[el]
  rw[ef];exact hX _ _ _ _ 0 r1 r2 ek q'
 ·rw[<-hl]at D7 hs;have IS:POk (al.map fun a=>V.ref a.1).length pp:=by rw[M5];exact D7
  have eo:nU pp (al.map fun a=>V.ref a.1)=(pp.toList.map fun i=>al.getD i (0,[])).map fun a=>V.ref a.1:=by
   unfold nU;rw[Nv];refine Oj fun i hi=>?_
   have hi:=NH.mp (D7.perm.mem_iff.mp hi);show(al.map fun a=>V.ref a.1).getD i .non=V.ref (al.getD i (0,[])).1;rw[bc _ _ _ (by rw[M5];exact hi),bc _ _ _ hi];simp
  have hn:H (s.heap.objs.size+1)=none:=I.hok.fresh (OR _);refine⟨.ref (s.heap.objs.size+1),_,fA I kk (OR _) he (gX rv IS) ?_,rfl,?_⟩
  ·show(nU pp (al.map fun a=>V.ref a.1)).length<=sizeLine;rw[eo,M5,M5,D7.perm.length_eq,Nt,NV];lia
  ·rw[eo];refine q _ _ hn (gW (0,[]) D7) ?_;exact eE (O:=zj) (0,[]) (fun a:Addr×List Key=>a.2) D7 hs
end
end NX
namespace L2
open PySem PySem.Spec PyProof.Rows
section
variable{κ:Type}[DecidableEq κ]
def kF(kvs:List (κ×V))(k:κ):Option V:=(kvs.find? fun kv=>decide (kv.1=k)).map (·.2)
def i8(kvs:List (κ×V))(k:κ)(v:V):List (κ×V):=
 if(kvs.any fun kv=>decide (kv.1=k))=true then kvs.map (fun kv=>if kv.1=k then(kv.1,v) else kv) else kvs++[(k,v)]
theorem jA{p:κ×V}{r:List (κ×V)}{k:κ}(e:p.1=k):kF (p::r) k=some p.2:=by simp[kF,List.find?_cons,e]
theorem jB{p:κ×V}{r:List (κ×V)}{k:κ}(e:¬ p.1=k):kF (p::r) k=kF r k:=by simp[kF,List.find?_cons,e]
theorem my(k:κ):∀kvs:List (κ×V),(kvs.any fun kv=>decide (kv.1=k))=(kF kvs k).isSome
 |[]=>rfl
 |p::r=>by
  rw[Rf];by_cases e:p.1=k
  ·simp only[jA e,Nm e,Bool.true_or,Option.isSome_some]
  ·rw[jB e,Nh e,Bool.false_or];exact my k r
theorem hZ(kvs:List (κ×V))(k:κ)(v:V):(i8 kvs k v).length<=kvs.length+1:=by
 unfold i8;split
 ·rw[M5];lia
 ·rw[NC,Nq,Qv];lia
theorem RelO.isSome_eq{o:Option V}{u:Option Value}(r:RelO o u):o.isSome=u.isSome:=by
 cases o with
 |none=>cases u with
  |none=>rfl
  |some _=>exact(show False from r).elim
 |some _=>cases u with
  |none=>exact(show False from r).elim
  |some _=>rfl
theorem KV.val{kvs:List (κ×V)}{vs:List (κ×Value)}(r:KV kvs vs)(k:κ):RelO (kF kvs k) (valueAt vs k):=by
 unfold KV at r;induction r with
 |nil=>exact True.intro
 | @cons p q ps qs h t ih=>
  obtain⟨h1,h2⟩:=h;by_cases e:p.1=k
  ·have e':q.1=k:=h1.symm.trans e;have b:valueAt (q::qs) k=some q.2:=by simp[valueAt,List.find?_cons,e']
   rw[jA e,b];exact h2
  ·have e':¬ q.1=k:=fun z=>e (h1.trans z)
   have b:valueAt (q::qs) k=valueAt qs k:=by simp[valueAt,List.find?_cons,e']
   rw[jB e,b];exact ih
theorem KV.any{kvs:List (κ×V)}{vs:List (κ×Value)}(r:KV kvs vs)(k:κ):(kvs.any fun kv=>decide (kv.1=k))=vs.any fun kv=>decide (kv.1=k):=by
 unfold KV at r;induction r with
 |nil=>rfl
 |cons h t ih=>rw[Rf,Rf,ih,h.1]
theorem KV.repl{kvs:List (κ×V)}{vs:List (κ×Value)}(r:KV kvs vs)(k:κ){y:V}{u:Value}(ry:RelV y u):
  KV (kvs.map fun kv=>if kv.1=k then(kv.1,y) else kv) (vs.map fun kv=>if kv.1=k then(kv.1,u) else kv):=by
 unfold KV at r ⊢;induction r with
 |nil=>exact .nil
 | @cons p q ps qs h t ih=>
  rw[Nk,Nk];refine .cons ?_ ih;obtain⟨h1,h2⟩:=h;by_cases e:p.1=k
  ·rw[Nc e,Nc (h1.symm.trans e)];exact⟨h1,ry⟩
  ·rw[Ng e,Ng (fun z=>e (h1.trans z))];exact⟨h1,h2⟩
theorem KV.put{kvs:List (κ×V)}{vs:List (κ×Value)}(r:KV kvs vs)(k:κ){y:V}{u:Value}(ry:RelV y u):KV (i8 kvs k y) (stored vs k u):=by
 unfold i8 stored;rw[r.any k];by_cases e:(vs.any fun kv=>decide (kv.1=k))=true
 ·rw[Nc e,Nc e];exact r.repl k ry
 ·rw[Ng e,Ng e];exact Paired.snoc r ⟨rfl,ry⟩
theorem KV.length{kvs:List (κ×V)}{vs:List (κ×Value)}(r:KV kvs vs):kvs.length=vs.length:=Pp r
end
theorem kV_is{P:Program}{w:World}{k:Key}{u:Value}(r:RelV (kV k) u):(mixKind P w).is k u=true:=by
 cases k with
 |inl i=>obtain⟨t,e⟩:=(show ∃t,u=Value.int i t from r);subst e;exact lz P w i t
 |inr x=>obtain⟨t,e⟩:=(show ∃t,u=Value.str x t from r);subst e;exact lA P w x t
theorem kG{P:Program}{w:World}:∀{ks:List Key}{us:List Value},Vals (ks.map kV) us->ItemsAre (mixKind P w) ks us
 |[],_,r=>by rw[OP]at r;cases r;exact .nil
 |k::ks,_,r=>by
  rw[Nk]at r;cases r with
  |cons h t=>exact .cons (kV_is h) (kG t)
abbrev KT(H:Hp):List (List Key×V)->List (List Key×Addr×Value)->Prop:=Paired fun p q=>p.1=q.1/\H q.2.1=some (.tup (p.1.map kV))/\RelV p.2 q.2.2
theorem KT.val{H:Hp}{kvs:List (List Key×V)}{xs:List (List Key×Addr×Value)}(r:KT H kvs xs)(k:List Key):RelO (kF kvs k) ((atKey xs k).map (·.2)):=by
 induction r with
 |nil=>exact True.intro
 | @cons p q ps qs h t ih=>
  obtain⟨h1,_,h2⟩:=h;by_cases e:p.1=k
  ·have e':q.1=k:=h1.symm.trans e;have b:atKey (q::qs) k=some q.2:=by simp[atKey,List.find?_cons,e']
   rw[jA e,b];exact h2
  ·have e':¬ q.1=k:=fun z=>e (h1.trans z)
   have b:atKey (q::qs) k=atKey qs k:=by simp[atKey,List.find?_cons,e']
   rw[jB e,b];exact ih
theorem KT.repl{H:Hp}{kvs:List (List Key×V)}{xs:List (List Key×Addr×Value)}(r:KT H kvs xs)(k:List Key){y:V}{u:Value}(ry:RelV y u):
  KT H (kvs.map fun kv=>if kv.1=k then(kv.1,y) else kv) (xs.map (putAt k u)):=by
 induction r with
 |nil=>exact .nil
 | @cons p q ps qs h t ih=>
  rw[Nk,Nk];refine .cons ?_ ih;obtain⟨h1,h2,h3⟩:=h;unfold putAt;by_cases e:p.1=k
  ·rw[Nc e,Nc (h1.symm.trans e)];exact⟨h1,h2,ry⟩
  ·rw[Ng e,Ng (fun z=>e (h1.trans z))];exact⟨h1,h2,h3⟩
theorem KT.put{H:Hp}{kvs:List (List Key×V)}{xs:List (List Key×Addr×Value)}(r:KT H kvs xs)(k:List Key){b:Addr}{y:V}{u:Value}(hb:H b=some (.tup (k.map kV)))(ry:RelV y u):
  KT H (i8 kvs k y) (storedH xs k b u):=by
 have e:(kvs.any fun kv=>decide (kv.1=k))=(atKey xs k).isSome:=by
  rw[my,(r.val k).isSome_eq,P4]
 unfold i8 storedH;rw[e];by_cases q:(atKey xs k).isSome=true
 ·rw[Nc q,Nc q];exact r.repl k ry
 ·rw[Ng q,Ng q];exact Paired.snoc r ⟨rfl,hb,ry⟩
theorem KT.keeps{H H':Hp}{kvs:List (List Key×V)}{xs:List (List Key×Addr×Value)}(r:KT H kvs xs)(ht:∀b ys,H b=some (.tup ys)->H' b=some (.tup ys)):KT H' kvs xs:=
 Paired.mapP r fun _ _ z=>⟨z.1,ht _ _ z.2.1,z.2.2⟩
section
variable{P:Program}{w:World}{H:Hp}{h:Heap}{a:Addr}
theorem xT{u:HO}(ok:HOk P w H h)(e:Rd H a u):ObjOk P w H h a u:=e.ok ok
theorem pA{kvs:List (Key×V)}(ok:HOk P w H h)(e:Rd H a (.dK kvs)):kvs.length<=sizeLine/\(a==sysModules)=false/\∃vs,KV kvs vs/\h.DictOf (mixKind P w) a vs:=
 show ObjOk P w H h a (.dK kvs) from xT ok e
theorem z8{kvs:List (Key×V)}(ok:HOk P w H h)(e:H a=some (.dK kvs)):kvs.length<=sizeLine/\(a==sysModules)=false/\∃vs,KV kvs vs/\h.DictOf (mixKind P w) a vs:=pA ok (.inl e)
theorem jh{ks:List Key}(ok:HOk P w H h)(e:H a=some (.tup (ks.map kV))):(tupleKind (mixKind P w)).is h ks a:=by
 obtain⟨_,Cc,r,o,h1,h2,⟨n,h3⟩,_⟩:=(show ObjOk P w H h a (.tup (ks.map kV)) from ok a _ e)
 exact⟨o,Cc.toArray,n,h1,h2,h3,by simpa using kG r⟩
theorem pB{kvs:List (List Key×V)}(ok:HOk P w H h)(e:Rd H a (.dT kvs)):kvs.length<=sizeLine/\(a==sysModules)=false/\
  ∃xs,KT H kvs xs/\h.DictOfH (tupleKind (mixKind P w)) a xs:=by
 obtain⟨z,y,xs,r,o,es,ep,h1,h2,h3,h4,h5⟩:=(show ObjOk P w H h a (.dT kvs) from xT ok e)
 refine⟨z,y,xs,r,o,es,ep,h1,h2,h3,h4,fun x hx=>?_,h5⟩;have all:∀{l:List (List Key×V)}{m:List (List Key×Addr×Value)},KT H l m->∀x∈m,(tupleKind (mixKind P w)).is h x.1 x.2.1:=by
  intro l m q;induction q with
  |nil=>intro x hx;exact nomatch hx
  | @cons p q ps qs hq t ih=>
   intro x hx;rcases Ni.mp hx with e|hx
   ·subst e;exact jh ok (by rw[<-hq.1];exact hq.2.1)
   ·exact ih x hx
 exact all r x hx
theorem xU{kvs:List (List Key×V)}(ok:HOk P w H h)(e:H a=some (.dT kvs)):kvs.length<=sizeLine/\(a==sysModules)=false/\
  ∃xs,KT H kvs xs/\h.DictOfH (tupleKind (mixKind P w)) a xs:=pB ok (.inl e)
end
def DGet(H:Hp)(a:Addr)(y:V)(r:Option V):Prop:=
 (∃kvs k,Rd H a (.dK kvs)/\y=kV k/\r=kF kvs k)\/∃kvs k b,Rd H a (.dT kvs)/\y=.ref b/\H b=some (.tup (k.map kV))/\r=kF kvs k
def DPut(H:Hp)(a:Addr)(y v:V)(H':Hp):Prop:=
 (∃kvs k,H a=some (.dK kvs)/\y=kV k/\kvs.length<sizeLine/\H'=upd H a (.dK (i8 kvs k v)))\/
 ∃kvs k b,H a=some (.dT kvs)/\y=.ref b/\H b=some (.tup (k.map kV))/\kvs.length<sizeLine/\H'=upd H a (.dT (i8 kvs k v))
theorem DGet.k{H:Hp}{a:Addr}{kvs:List (Key×V)}{k:Key}(e:H a=some (.dK kvs)):DGet H a (kV k) (kF kvs k):=.inl ⟨kvs,k,.inl e,rfl,rfl⟩
theorem DGet.t{H:Hp}{a b:Addr}{kvs:List (List Key×V)}{k:List Key}(e:H a=some (.dT kvs))(eb:H b=some (.tup (k.map kV))):DGet H a (.ref b) (kF kvs k):=.inr ⟨kvs,k,b,.inl e,rfl,eb,rfl⟩
theorem DPut.k{H:Hp}{a:Addr}{kvs:List (Key×V)}{k:Key}{v:V}(e:H a=some (.dK kvs))(hl:kvs.length<sizeLine):DPut H a (kV k) v (upd H a (.dK (i8 kvs k v))):=.inl ⟨kvs,k,e,rfl,hl,rfl⟩
theorem DPut.t{H:Hp}{a b:Addr}{kvs:List (List Key×V)}{k:List Key}{v:V}(e:H a=some (.dT kvs))(eb:H b=some (.tup (k.map kV)))(hl:kvs.length<sizeLine):
  DPut H a (.ref b) v (upd H a (.dT (i8 kvs k v))):=.inr ⟨kvs,k,b,e,rfl,eb,hl,rfl⟩
section
variable{X:Cx}{pr:List (Addr×Obj)}{σ:St}{H:Hp}{s:Shared}{a:Addr}{y v:V}{u r:Value}{o:Option V}{A:Around}{E:Value->Shared->Prop}
theorem Inv.big(I:Inv X pr σ H s):sysModules<s.heap.objs.size:=by
 have h:mainGlobals<s.heap.objs.size:=(I.mod.glob.keeps I.bk).lt;exact Nat.lt_trans (by decide) h
theorem pC{Q:Value->Shared->Prop}(hu:A.units+1<cLine)(I:Inv X pr σ H s)(g:DGet H a y (some v))(ry:RelV y u)(h:∀w' s',Inv X pr σ H s'->RelV v w'->Q w' s'):
  wpAny (model X.prog X.w) A (getItem (.ref a) u) Q E s:=by
 rcases g with⟨kvs,k,e,ey,l⟩|⟨kvs,k,b,e,ey,eb,l⟩
 ·subst ey;obtain⟨z,hd,vs,rel,dd⟩:=pA I.hok e;obtain⟨w',hw,F6⟩:=RelO.some_of (v:=v) (o:=valueAt vs k) (by rw[l];exact rel.val k);exact wpAny_getItem_of (kV_is ry) dd.mapOf hw (h w' _ (I.tok _) F6)
 ·subst ey;cases(show u=Value.ref b from ry);obtain⟨z,hd,xs,rel,dd⟩:=pB I.hok e;obtain⟨w',hw,F6⟩:=RelO.some_of (v:=v) (o:=(atKey xs k).map (·.2)) (by rw[l];exact rel.val k);obtain⟨p,hp,LU⟩:=Nr.mp hw;refine wpAny_getItem_heap (O6 hu) (jh I.hok eb) dd hp ?_;rw[LU];exact h w' _ (I.tok _) F6
theorem BF{Q:Value->Shared->Prop}(hu:A.units+1<cLine)(I:Inv X pr σ H s)(g:DGet H a y o)(ry:RelV y u)(h:∀s',Inv X pr σ H s'->Q (.bool o.isSome) s'):
  wpAny (model X.prog X.w) A (compareOp .In u (.ref a)) Q E s:=by
 rcases g with⟨kvs,k,e,ey,l⟩|⟨kvs,k,b,e,ey,eb,l⟩
 ·subst ey;obtain⟨z,hd,vs,rel,dd⟩:=pA I.hok e;refine wpAny_in_of (kV_is ry) hd dd.mapOf ?_;rw[<-(rel.val k).isSome_eq,<-l];exact h _ (I.tok _)
 ·subst ey;cases(show u=Value.ref b from ry);obtain⟨z,hd,xs,rel,dd⟩:=pB I.hok e;refine wpAny_in_heap (O6 hu) (jh I.hok eb) hd dd ?_;have q:=(rel.val k).isSome_eq;rw[P4]at q;rw[<-q,<-l];exact h _ (I.tok _)
theorem vy{Q:Value->Shared->Prop}(hu:A.units+1<cLine)(I:Inv X pr σ H s)(g:DGet H a y o)(ry:RelV y u)(h:∀s',Inv X pr σ H s'->Q (.bool (!o.isSome)) s'):
  wpAny (model X.prog X.w) A (compareOp .NotIn u (.ref a)) Q E s:=by
 rcases g with⟨kvs,k,e,ey,l⟩|⟨kvs,k,b,e,ey,eb,l⟩
 ·subst ey;obtain⟨z,hd,vs,rel,dd⟩:=pA I.hok e;refine wpAny_notIn_of (kV_is ry) hd dd.mapOf ?_;rw[<-(rel.val k).isSome_eq,<-l];exact h _ (I.tok _)
 ·subst ey;cases(show u=Value.ref b from ry);obtain⟨z,hd,xs,rel,dd⟩:=pB I.hok e;refine wpAny_notIn_heap (O6 hu) (jh I.hok eb) hd dd ?_;have q:=(rel.val k).isSome_eq;rw[P4]at q;rw[<-q,<-l];exact h _ (I.tok _)
theorem lI{h':Heap}{t':Nat}{ob:HO}(I:Inv X pr σ H s)(mu:J0 (H a))(hs:Heap.SameBut a s.heap h')(he:∃q,h'.get? a=some q)(new:ObjOk X.prog X.w (upd H a ob) h' a ob):
  Inv X pr σ (upd H a ob) {s with heap:=h',toks:=t'}:=
 I.write (x:=a) (e:=a) mu (.inl rfl) (fun b q hb z=>(hs.2 b hb).trans z) he new
theorem xV{P:Program}{w:World}{H':Hp}{h':Heap}{kvs:List (Key×V)}{vs:List (Key×Value)}(z:kvs.length<=sizeLine)(hd:(a==sysModules)=false)(rel:KV kvs vs)(dd:h'.DictOf (mixKind P w) a vs):
  ObjOk P w H' h' a (.dK kvs):=⟨z,hd,vs,rel,dd⟩
theorem pD{H':Hp}{Q:Unit->Shared->Prop}(hu:A.units+1<cLine)(I:Inv X pr σ H s)(g:DPut H a y v H')(ry:RelV y u)(rv:RelV v r)(h:∀s',Inv X pr σ H' s'->Q () s'):
  wpAny (model X.prog X.w) A (setItem (.ref a) u r) Q E s:=by
 rcases g with⟨kvs,k,e,ey,l,eH⟩|⟨kvs,k,b,e,ey,eb,l,eH⟩
 ·subst ey eH;obtain⟨z,hd,vs,rel,dd⟩:=z8 I.hok e;have hz:vs.length<=sizeLine:=by rw[<-rel.length];exact z
  have hl:(i8 kvs k v).length<=sizeLine:=by have:=hZ kvs k v;lia
  refine wpAny_setItem_pairs (hsz:=hz) (kV_is ry) dd fun h' Iv hs=>h _ ?_
  have he:∃q,h'.get? a=some q:=let⟨q,_,_,hq,_⟩:=Iv;⟨q,hq⟩
  exact lI I (by rw[e];exact True.intro) hs he (xV hl hd (rel.put k rv) Iv)
 ·subst ey eH;cases(show u=Value.ref b from ry);obtain⟨z,hd,xs,rel,dd⟩:=xU I.hok e;have hz:xs.length<=sizeLine:=by rw[<-Pp rel];exact z
  have hl:(i8 kvs k v).length<=sizeLine:=by have:=hZ kvs k v;lia
  refine wpAny_setItem_heap (hsz:=hz) (O6 hu) (jh I.hok eb) dd fun h' Iv hs=>h _ ?_
  obtain⟨q,es,ep,hq,h2,h3,h4,_,h5⟩:=Iv;refine lI I (by rw[e];exact True.intro) hs ⟨q,hq⟩ ⟨hl,hd,_,(rel.put k eb rv).keeps fun c ys ec=>?_,q,es,ep,hq,h2,h3,h4,h5⟩;rw[aA (w5 ec e (fun z=>nomatch z))];exact ec
end
section
variable{X:Cx}{pr:List (Addr×Obj)}{σ:St}{H:Hp}{s:Shared}{a:Addr}{kvs:List (Key×V)}{k:Key}{u:Value}{A:Around}{E:Value->Shared->Prop}
end
def NoSl(i:Expr):Prop:=∀ov iv,subscripted i false ov iv=operate [ov,iv] (getItem ov iv)
theorem vz{prog:Program}{w:World}{A:Around}{E:Value->Shared->Prop}{s:Shared}{env:Env}{value slice:Expr}{pos:Pos}{T id:String}{Q:Value->Shared->Prop}
  (hl:typeLookup (.type T) "__getitem__" = pure (some (.builtin id))) (hs:NoSl slice)
  (h:wpAny (model prog w) A (eval value env) (fun o s₁=>wpAny (model prog w) A (eval slice env) (fun i s₂=>s₂.TypeIs o T/\wpAny (model prog w) A (getItem o i) Q E s₂) E s₁) E s):
  wpAny (model prog w) A (eval (.Subscript value slice pos) env) Q E s:=by
 refine Subscript_ (NL h (fun o s₁ h₁=>NL h₁ (fun i s₂ h₂=>?_) fun _ _ x=>x) fun _ _ x=>x);obtain⟨hT,h₂⟩:=h₂;unfold subscriptTail;refine M3 ?_;rw[getitemInPython_of_ne hT.not_modules];refine M3 (wpAny_specialOf hT hl ?_);have fin:wpAny (model prog w) A (subscripted slice false o i) (fun r s₃=>wpAny (model prog w) A (letTemporaryGo value o r >>= fun _=>pure r) Q E s₃) E s₂:=by
  rw[hs o i];exact wpAny_operating (NL h₂ (fun r s₃ h₃=>M3 (wpAny_letTemporaryGo (M4 h₃))) fun _ _ x=>x)
 first
  |exact M4 (M3 fin)
  |exact M3 (M4 (M3 fin))
  |exact M3 fin
theorem lJ{X:Cx}{pr:List (Addr×Obj)}{σ:St}{H:Hp}{s:Shared}{a:Addr}{y:V}{o:Option V}(I:Inv X pr σ H s)(g:DGet H a y o):s.TypeIs (.ref a) "dict":=by
 rcases g with⟨kvs,k,e,_,_⟩|⟨kvs,k,b,e,_,_,_⟩
 ·obtain⟨_,_,vs,_,dd⟩:=pA I.hok e;exact dd.typeIs
 ·obtain⟨_,_,xs,_,dd⟩:=pB I.hok e;exact dd.typeIs
def z9(td ty:TE):TE:=fun σ H Q=>td σ H fun x H1=>ty σ H1 fun y H2=>∃a v,x=.ref a/\DGet H2 a y (some v)/\Q v H2
def Aa(td ty tv:TE):TS:=fun D σ H=>tv σ H fun v H1=>td σ H1 fun x H2=>ty σ H2 fun y H3=>∃a H4,x=.ref a/\DPut H3 a y v H4/\D.nx σ H4
section
variable{X:Cx}{o i e value:Expr}{pos pos' E7:Pos}{td ty tv:TE}
theorem vA(hu:X.A.units+1<cLine)(ho:PE X o td)(hi:PE X i ty)(hs:NoSl i):PE X (.Subscript o i pos) (z9 td ty):=by
 intro pr s σ H Q I h;refine vz PySem.F.slot_dict_getitem.lookup hs (Cs (ho pr s σ H _ I h) fun u s1 ⟨x,H1,I1,rx,q1⟩=>Cs (hi pr s1 σ H1 _ I1 q1) fun iv s2 Cz=>?_);obtain⟨y,H2,I2,ry,a,v,ex,g,q2⟩:=Cz;subst ex;obtain rfl:u=Value.ref a:=rx;exact⟨lJ I2 g,pC hu I2 g ry fun w' s3 I3 F6=>⟨v,H2,I3,F6,q2⟩⟩
theorem vB(hu:X.A.units+1<cLine)(ho:PE X o td)(hi:PE X i ty)(hv:PE X value tv)(hs:swapsWith value (some (.Subscript o i pos')) pos.line X.env=pure false):
  PS X (.Assign [.Subscript o i pos'] value pos) (Aa td ty tv):=by
 intro pr s σ H D I h;refine wpAny_Assign_Subscript (Cs (hv pr s σ H _ I h) fun r s1 ⟨v,H1,I1,rv,q1⟩=>Cs (ho pr s1 σ H1 _ I1 q1) fun u s2 ⟨x,H2,I2,rx,q2⟩=>Cs (hi pr s2 σ H2 _ I2 q2) fun iv s3 ⟨y,H3,I3,ry,a,H4,ex,g,q3⟩=>?_) hs;subst ex;obtain rfl:u=Value.ref a:=rx;exact pD hu I3 g ry rv fun s4 I4=>⟨σ,H4,I4,q3⟩
end
theorem dt_empty{P:Program}{w:World}{H:Hp}(h:Heap)(hb:sysModules<h.objs.size):ObjOk P w H (h.push {cls:=.type "dict",data:=.dict #[]}) h.objs.size (.dT []):=
 ⟨NG _,NU.mpr (Oo (Nl hb)),[],.nil,_,#[],0,Heap.get?_push_size _ rfl,⟨rfl,rfl,rfl⟩,rfl,rfl,OW⟩
section
variable{X:Cx}{pos:Pos}
end
def tPairs:List (TE×TE)->St->Hp->(List (V×V)->Hp->Prop)->Prop
 |[],_,H,Q=>Q [] H
 |(tk,tv)::r,σ,H,Q=>tk σ H fun x H1=>tv σ H1 fun y H2=>tPairs r σ H2 fun ps H3=>Q ((x,y)::ps) H3
abbrev VV:List (V×V)->List (Value×Value)->Prop:=Paired fun p q=>RelV p.1 q.1/\RelV p.2 q.2
def LV(X:Cx)(pos:Pos)(keys:List (Option Expr))(values:List Expr)(Lc:List (TE×TE)):Prop:=
 ∀(pr:List (Addr×Obj)) (s:Shared) (σ:St) (H:Hp) (Q:List (V×V)->Hp->Prop),Inv X pr σ H s->tPairs Lc σ H Q->
  wpAny (model X.prog X.w) X.A (evalPairs (pairTrees keys values X.env pos)) (fun vs s'=>∃ps H',Inv X pr σ H' s'/\VV ps vs/\Q ps H') X.xe s
theorem vC{X:Cx}{pos:Pos}:LV X pos [] [] []:=fun pr s σ H Q I h=>pairTrees_nil_walk ⟨[],H,I,.nil,h⟩
theorem rJ{X:Cx}{pos:Pos}{k v:Expr}{ks:List (Option Expr)}{vs:List Expr}{tk tv:TE}{Lc:List (TE×TE)}(hk:PE X k tk)(hv:PE X v tv)(hr:LV X pos ks vs Lc):
  LV X pos (some k::ks) (v::vs) ((tk,tv)::Lc):=fun pr s σ H Q I h=>
 pairTrees_cons_walk (Cs (hk pr s σ H _ I h) fun u s1 ⟨x,H1,I1,rx,q1⟩=>Cs (hv pr s1 σ H1 _ I1 q1) fun w2 s2 ⟨y,H2,I2,ry,q2⟩=>
  Cs (hr pr s2 σ H2 _ I2 q2) fun ws s3 ⟨ps,H3,I3,rel,q3⟩=>⟨(x,y)::ps,H3,I3,.cons ⟨rx,ry⟩ rel,q3⟩)
section
variable{X:Cx}{pr:List (Addr×Obj)}{σ:St}{H:Hp}{s:Shared}{a:Addr}{y d:V}{u r:Value}{o:Option V}{A:Around}{E:Value->Shared->Prop}
end
section
variable{X:Cx}{o e f:Expr}{apos Cu:Pos}{td ty tx:TE}
end
section
variable{X:Cx}{pr:List (Addr×Obj)}{σ:St}{H:Hp}{s:Shared}{a:Addr}{kvs:List (Key×V)}{A:Around}{E:Value->Shared->Prop}
end
section
variable{X:Cx}{pr:List (Addr×Obj)}{σ:St}{H:Hp}{s:Shared}{a:Addr}{y:V}{u:Value}{A:Around}{E:Value->Shared->Prop}
end
section
variable{κ:Type}[DecidableEq κ]
end
end L2
namespace NX
open PySem PySem.Spec PyProof.Rows L2
def RawD(h:Heap)(d:Addr)(es:Array DictEntry)(ep:Nat):Prop:=∃o,h.get? d=some o/\o.ExactDict/\o.data=.dict es ep
theorem RawD.at{h h':Heap}{d:Addr}{es:Array DictEntry}{ep:Nat}(x:RawD h d es ep)(e:∀o,h.get? d=some o->h'.get? d=some o):RawD h' d es ep:=by
 obtain⟨o,g,r⟩:=x;exact⟨o,e o g,r⟩
section
variable{prog:Program}{w:World}{A:Around}{E:Value->Shared->Prop}{s:Shared}{d it:Addr}{es:Array DictEntry}{ep i:Nat}
theorem gZ(x:RawD s.heap d es ep):s.TypeIs (.ref d) "dict":=by
 obtain⟨o,g,ex,_⟩:=x;exact⟨o,g,ex.1⟩
theorem rK{Q:Value->Shared->Prop}(nm:(d==sysModules)=false)(x:RawD s.heap d es ep)
  (q:Q (.ref s.heap.objs.size) {s with heap:=s.heap.push {cls:=.type "dict_keyiterator",data:=.fields #[.ref d,.int 0 0,.int es.size 0,.int ep 0]}}):wpAny (model prog w) A (pyIter (.ref d)) Q E s:=by
 have ty:=gZ x;obtain⟨o,g,ex,dat⟩:=x;refine wpAny_pyIter_slot ty F.slot_dict_iter (NJ F.slot_dict_iter ty F.entry_dict_iter (M3 ?_) (F.args_dict_iter_1 _));refine M3 (wpAny_notOrdered_dict ty (M4 ?_));show wpAny _ _ (Builtin.Dict.showsAll d >>= fun _=>_) _ _ s;have ns:Builtin.Dict.showsAll d=pure ():=by
  unfold Builtin.Dict.showsAll;rw[nm];rfl
 rw[ns];refine M3 (M4 (M3 (Pb g dat (M3 (Qw g dat (M3 (NM (M4 ⟨_,rfl,"dict_keyiterator",_,⟨_,Heap.get?_push_size _ rfl,rfl⟩,F.slot_dict_keyiterator_next.lookup,?_⟩))))))));exact q
theorem rL{Q:Option Value->Shared->Prop}{e:DictEntry}(hit:s.heap.IsKeyIter it d i es.size ep)(x:RawD s.heap d es ep)(hx:es[i]?=some e)
  (q:∀h',h'.IsKeyIter it d (i+1) es.size ep->Heap.SameBut it s.heap h'->Q (some e.key) {s with heap:=h'}):wpAny (model prog w) A (pyNext (.ref it)) Q E s:=by
 have ti:=hit.typeIs;obtain⟨o,g,oc,od⟩:=hit;obtain⟨ob,gd,_,dat⟩:=x;have Dz:i<es.size:=(Array.getElem?_eq_some_iff.mp hx).1;unfold pyNext;refine M3 (Pr (wpAny_callSpecial?_slot (name:=Str.ofString "__next__") ti Oe (NJ Oe ti Ph
  (M3 (M4 (M3 (M3 ?_)))) (Pe _))))
 refine M3 (Od ti (M4 (M3 (wpAny_fieldsOf g od ?_))));have F3:Builtin.Dict_items.ownsTuple "dict_keyiterator" = false:=by decide
 simp only[F3,Ow,PL];show wpAny _ _ (if(Value.ref d==Value.none)=true then _ else _) _ _ s;have nz:¬ ((Value.ref d==Value.none)=true):=Nb;rw[Ng nz];refine M3 (M4 (M3 (Pb gd dat ?_)));rw[Ng (by simp)];refine M3 (M4 (M3 (Qw gd dat ?_)));rw[Ng (by simp)];refine M4 ?_;simp only[Ng (show ¬ ((i:Int)<0) by lia),OC,hx];refine M3 (M3 (Od ti (M4 (M3 (wpAny_isOneOf_keyiter ti ?_)))));show wpAny _ _ (setField (.ref it) 1 (rawInt ((i:Int)+1)) >>= fun _=>_) _ _ s;refine M3 (PU g od (by simp) ?_);have nx:(s.heap.update it (Obj.mapFields fun y=>y.setIfInBounds 1 (rawInt ((i:Int)+1)))).IsKeyIter it d (i+1) es.size ep:=
  ⟨_,Heap.get?_update_self _ g (Obj.isFreed_of_fields (O5 od _)),(Obj.cls_mapFields ..).trans oc,(O5 od _).trans (by simp[rawInt])⟩
 refine M3 (Ou (M3 (wpAny_isOneOf_keyiter (s:={s with heap:=s.heap.update it (Obj.mapFields fun y=>y.setIfInBounds 1 (rawInt ((i:Int)+1)))}) nx.typeIs ?_)));show wpAny _ _ (pure e.key) _ _ _;exact M4 (M4 ⟨_,rfl,M4 (q _ nx (OZ ..))⟩)
theorem vD{Q:Option Value->Shared->Prop}(hh:A.handled=none)(hit:s.heap.IsKeyIter it d i es.size ep)(x:RawD s.heap d es ep)(hx:es[i]?=none)
  (q:∀h',Heap.ExtBut it s.heap h'->Q none {s with heap:=h'}):wpAny (model prog w) A (pyNext (.ref it)) Q E s:=by
 have ti:=hit.typeIs;obtain⟨o,g,oc,od⟩:=hit;obtain⟨ob,gd,_,dat⟩:=x;unfold pyNext;refine M3 (Pr (wpAny_callSpecial?_slot (name:=Str.ofString "__next__") ti Oe (NJ Oe ti Ph
  (M3 (M4 (M3 (M3 ?_)))) (Pe _))))
 refine M3 (Od ti (M4 (M3 (wpAny_fieldsOf g od ?_))));have F3:Builtin.Dict_items.ownsTuple "dict_keyiterator" = false:=by decide
 simp only[F3,Ow,PL];show wpAny _ _ (if(Value.ref d==Value.none)=true then _ else _) _ _ s;have nz:¬ ((Value.ref d==Value.none)=true):=Nb;rw[Ng nz];refine M3 (M4 (M3 (Pb gd dat ?_)));rw[Ng (by simp)];refine M3 (M4 (M3 (Qw gd dat ?_)));rw[Ng (by simp)];refine M4 ?_;simp only[Ng (show ¬ ((i:Int)<0) by lia),OC,hx];refine M3 (M3 (Od ti (M4 ?_)));show wpAny _ _ (setField (.ref it) 0 .none >>= fun _=>_) _ _ s;refine M3 (PU g od (by simp) ?_);show wpAny _ _ (newExc (.type "StopIteration") [] >>= fun _=>_) _ _ _;refine M3 ?_;simp only[newExc,newTuple];refine M3 (NM (M3 (m:=firstArgMember _ _) (wpAny_of_eq (a:=Value.none) (by first|rfl|(simp only[firstArgMember];rfl)) (NM ?_ (by size_fits)))) (by size_fits));simp only[raiseNew];refine M3 (wpAny_handled ?_);rw[show A.in1.handled=none from hh];refine M3 (M4 (wpAny_throw ?_));refine M3 (wpAny_isInstance (b:=true) (T:="StopIteration") ⟨_,Heap.get?_push_size _ rfl,rfl⟩ isSubtype_stop ?_);exact M4 (q _ (((OZ ..).extBut.push _).push _))
theorem pE(hh:A.handled=none)(I:Addr)(ne:d≠I):Walks prog w A I [I,d] [I] es.size (fun i v=>∃e,es[i]?=some e/\v=e.key) (fun i h=>h.IsKeyIter I d i es.size ep/\RawD h d es ep) where
 sub:=fun b hb=>by
  rw[N0]at hb;rw[hb];exact M7
 frame:=fun _ _ _ st hk=>⟨st.1.at fun o e=>hk I M7 o e,st.2.at fun o e=>hk d (Nj _ M7) o e⟩
 item:=fun i s Q E hi st hQ=>by
  refine rL st.1 st.2 (Array.getElem?_eq_getElem hi) fun h' it' sb=>?_
  exact hQ _ h' s.toks ⟨_,Array.getElem?_eq_getElem hi,rfl⟩ ⟨it',st.2.at fun o e=>sb.extBut d o ne e⟩ fun b o hb e=>sb.extBut b o (fun z=>hb (by rw[z];exact M7)) e
 done:=fun s Q E st hQ=>vD hh st.1 st.2 (Array.getElem?_eq_none (M8 _)) fun h' ext=>hQ h' s.toks fun b o hb e=>ext b o (fun z=>hb (by rw[z];exact M7)) e
 self:=fun _ _ _ _ st hQ=>wpAny_pyIter_keyiter st.1 hQ
theorem vE(nm:(d==sysModules)=false):PySem.W.KdlSrc prog w "dict" d d es.size (fun i v=>∃e,es[i]?=some e/\v=e.key) (fun h=>RawD h d es ep) where
 type:=fun _ x=>gZ x
 there:=fun _ x=>by
  obtain⟨o,g,_⟩:=x;exact⟨M9 g,M9 g⟩
 keep:=fun _ _ x hk=>x.at fun o e=>hk d (.inl rfl) o e
 notList:=by decide
 notTuple:=by decide
 hint:=fun _ _ _ _ x q=>PySem.W.kdl_hint_dict (gZ x) q
 iter:=fun _ s hh x=>⟨_,_,(fun _ _ q=>rK nm x q),pE hh _ (by obtain⟨o,g,_⟩:=x;exact Nl (M9 g)),⟨⟨_,Heap.get?_push_size _ rfl,rfl,rfl⟩,x.at fun o e=>Heap.get?_push_of_some _ e⟩⟩
end
end NX
namespace NX
open PySem PySem.W PySem.Spec PyProof.Rows L2
section
variable{prog:Program}{w:World}{A:Around}{E:Value->Shared->Prop}{s:Shared}
theorem nV{O:KeyOrd}{key:Nat->O.α}{kd:SortKind}{l:Addr}{vs:List Value}{Q:Value->Shared->Prop}
  (hcol:∀Q':List Value->Shared->Prop,(∀h' tk,(∀b o,s.heap.get? b=some o->h'.get? b=some o)->Q' vs {s with heap:=h',toks:=tk})->wpAny (model prog w) A.in1 (collect (.ref l)) Q' E s) (F8:vs.length<64)
  (Eo:2<=vs.length->∀(A':Around) (E':Value->Shared->Prop) (s':Shared),(∀b o,s.heap.get? b=some o->s'.heap.get? b=some o)->∀Q:SortKind->Shared->Prop,Q kd s'->wpAny (model prog w) A' (keyKind' vs.toArray) Q E' s')
  (Gx:∀i j,i<vs.length->j<vs.length->∀s':Shared,(∀b o,s.heap.get? b=some o->s'.heap.get? b=some o)->∀C:Bool->Shared->Prop,C (O.blt (key i) (key j)) s'->kas_ask prog w A.in1.in1 kd vs i j C s')
  (h:∀(p:Array Nat) (h5 h':Heap) (tk e:Nat),POk vs.length p->aP key p vs.length->(∀b o,s.heap.get? b=some o->h5.get? b=some o)->(∀b o,h5.get? b=some o->h'.get? b=some o)->h'.get? h5.objs.size=some (seqObj "list" (List.toArray (p.toList.map fun i=>vs.getD i .none)) e)->Q (.ref h5.objs.size) {s with heap:=h',toks:=tk}):
  wpAny (model prog w) A (call (.builtin "sorted") [.ref l]) Q E s:=by
 refine OV kind_sorted plain_sorted entry_sorted (args_sorted1 _) ?_;unfold Builtin.«sorted»;refine M3 (m:=checkCount "sorted" 1 1 _) (M4 (M3 (hcol _ fun h5 tk k5=>?_)));refine M3 (Rb ?_ (by rw[NV];lia));have k6:∀b o,s.heap.get? b=some o->(h5.push (seqObj "list" vs.toArray 0)).get? b=some o:=fun b o e=>Heap.get?_push_of_some _ (k5 b o e)
 have hL:(h5.push (seqObj "list" vs.toArray 0)).get? h5.objs.size=some (seqObj "list" vs.toArray 0):=Heap.get?_push_size _ rfl;have My:∀b o,s.heap.get? b=some o->b<h5.objs.size:=fun b o e=>M9 (k5 b o e)
 show wpAny _ _ _ _ _ {s with heap:=h5.push (seqObj "list" vs.toArray 0),toks:=tk};refine M3 (Ou (NJ slot_list_sort ⟨_,hL,rfl⟩ entry_list_sort (fw (key:=key) (kd:=kd) hL F8 (fun h2 h' kk Q' q=>Eo h2 _ _ _ (fun b o e=>kk b o (Nl (My b o e)) (k6 b o e)) Q' q)
  (fun i j hi hj h' kk C q=>Gx i j hi hj _ (fun b o e=>kk b o (Nl (My b o e)) (k6 b o e)) C q) fun p h' hp hs ⟨e,he⟩ kk=>⟨_,rfl,?_⟩) (args_list_sort _)))
 exact M4 ⟨_,rfl,h p h5 h' tk e hp hs k5 (fun b o q=>kk b o (Nl (M9 q)) (Heap.get?_push_of_some _ q)) he⟩
end
section
variable{X:Cx}{pr:List (Addr×Obj)}{σ:L2.St}{H:Hp}{s:Shared}
theorem vF{H:Hp}{kvs:List (List Key×V)}{xs:List (List Key×Addr×Value)}(r:KT H kvs xs):xs.map (·.1)=kvs.map (·.1):=by
 induction r with
 |nil=>rfl
 |cons hq _ ih=>rw[Nk,Nk,ih,hq.1]
theorem Ab{H:Hp}{kvs:List (List Key×V)}{xs:List (List Key×Addr×Value)}(r:KT H kvs xs):∀y∈xs,H y.2.1=some (.tup (y.1.map kV)):=by
 induction r with
 |nil=>exact fun y hy=>nomatch hy
 |cons hq _ ih=>
  intro y hy;rcases Ni.mp hy with rfl|hy
  ·rw[<-hq.1];exact hq.2.1
  ·exact ih y hy
theorem vG(I:Inv X pr σ H s){a:Addr}{kvs:List (List Key×V)}(h:Rd H a (.dT kvs)):(a==sysModules)=false/\∃(al:List (Addr×List Key)) (es:Array DictEntry) (ep:Nat),
  RawD s.heap a es ep/\es.toList.map (·.key)=al.map (fun x=>Value.ref x.1)/\al.map (·.2)=kvs.map (·.1)/\∀x∈al,H x.1=some (.tup (x.2.map kV)):=by
 obtain⟨_,nm,xs,r,o,es,ep,h1,h2,h3,h4,_⟩:=h.ok I.hok;refine⟨nm,xs.map fun x=>(x.2.1,x.1),es,ep,⟨o,h1,h2,h3⟩,?_,?_,?_⟩
 ·rw[h4,Nv,Nv];rfl
 ·rw[Nv];exact vF r
 ·intro x hx;obtain⟨y,hy,rfl⟩:=Of.mp hx;exact Ab r y hy
theorem i9(hc:X.calm=true):de X (.builtin "sorted") (fun vs H Q=>∃(p:Addr) (kvs:List (List Key×V)) (top:Bool) (t:List Bool),vs=[.ref p]/\Rd H p (.dT kvs)/\(∀kv∈kvs,kinds kv.1=top::t)/\kvs.length<64/\
  ∀(D:Addr) (ms:List (Addr×List Key)),H D=none->(∀a∈ms,H a.1=some (.tup (a.2.map kV)))->(ms.map (·.2)).Perm (kvs.map (·.1))->ms.Pairwise (fun a b=>cG b.2 a.2=false)->Q (.ref D) (upd H D (.lst (ms.map fun a=>V.ref a.1)))):=by
 intro pr s σ H vs us Q I r h;obtain⟨p,kvs,top,kt,rfl,hp,hk,F8,q⟩:=h;obtain⟨u,rfl,r1⟩:=gK r;cases r1;obtain⟨nm,al,es,ep,raw,Gy,Ld,IU⟩:=vG I hp;have Gs:al.length=kvs.length:=by
  have:=NY List.length Ld;simpa using this
 have FY:∀a∈al,SqT X.K H a.1 (a.2.map kV)/\kinds a.2=top::kt:=fun a ha=>by
  refine⟨SqT.of (IU a ha),?_⟩;have:a.2∈kvs.map (·.1):=by rw[<-Ld];exact Of.mpr ⟨a,ha,rfl⟩
  obtain⟨kv,Fb,e⟩:=Of.mp this;rw[<-e];exact hk kv Fb
 have rv:Vals (al.map fun a=>V.ref a.1) (al.map fun a=>Value.ref a.1):=by
  clear Gy Ld IU Gs FY;induction al with
  |nil=>exact .nil
  |cons a al ih=>exact .cons rfl ih
 have hl:(al.map fun a=>Value.ref a.1).length=al.length:=M5 ..;refine nV (O:=zj) (key:=fun i=>(al.getD i (0,[])).2) (kd:=tuples' true) (vs:=al.map fun a=>Value.ref a.1) (fun Q' hq=>?_) (by lia) (fun h2 A' E' s' kk Q' q'=>?_) (fun i j hi hj s' kk C q'=>?_) fun pp h5 h' tk e D7 hs k5 k' he=>?_
 ·refine kdu_collect (vE nm) (I.ok.hd hc) raw (by have:=NY List.length Gy;simp only[M5,N7]at this;rw[NV];lia) fun h' tk acc kk Hs=>?_
  have ea:acc.toList=al.map fun a=>Value.ref a.1:=by
   rw[<-Gy];apply Pa;intro j;rw[List.getElem?_map,Array.getElem?_toList,Array.getElem?_toList];cases hj:acc[j]? with
   |none=>
    have:es[j]?=none:=by
     rw[Array.getElem?_eq_none_iff]at hj ⊢;rw[<-Hs.1];exact hj
    rw[this];rfl
   |some v=>
    obtain⟨en,h1,h2⟩:=Hs.2 j v hj;rw[h1,h2];rfl
  have:=hq h' tk kk;rw[<-ea]at this;exact this
 ·obtain⟨fs,t1,t2,t3⟩:=mx (h':=s'.heap) I kk top rv fun a ha=>⟨(FY a ha).1,kt,(FY a ha).2⟩
  refine kat_kind (T:=.type (if top then "int" else "str")) t1 (by lia) (fun v hv=>t3 v hv _) (by simp) ?_;have:((Value.type (if top then "int" else "str")) != Value.type "tuple")=true:=by cases top <;> decide
  rw[this];exact q'
 ·unfold kas_ask;have Hg:i<al.length:=by lia
  have IQ:j<al.length:=by lia
  rw[jz rv Hg,jz rv IQ];have mi:al.getD i (0,[])∈al:=by rw[bc _ _ _ Hg];exact OX _
  have mj:al.getD j (0,[])∈al:=by rw[bc _ _ _ IQ];exact OX _
  obtain⟨u1,o1,n1,r1,g1,_,d1⟩:=kC I (FY _ mi).1;obtain⟨u2,o2,n2,r2,g2,_,d2⟩:=kC I (FY _ mj).1;have ek:kinds (al.getD i (0,[])).2=kinds (al.getD j (0,[])).2:=by rw[(FY _ mi).2,(FY _ mj).2]
  have el:u1.length=u2.length:=by
   have a1:=r1.length;have a2:=r2.length;have a3:=NY List.length ek;simp only[kinds,M5]at a1 a2 a3;lia
  refine kat_lt (kk _ _ g1) d1 (kk _ _ g2) d2 ?_;have ef:decide (u1.toArray.size<u2.toArray.size)=false:=by simp[el]
  rw[ef];exact hX _ _ _ _ 0 r1 r2 ek q'
 ·rw[hl]at D7 hs;have IS:POk (al.map fun a=>V.ref a.1).length pp:=by rw[M5];exact D7
  have eo:nU pp (al.map fun a=>V.ref a.1)=(pp.toList.map fun i=>al.getD i (0,[])).map fun a=>V.ref a.1:=by
   unfold nU;rw[Nv];refine Oj fun i hi=>?_
   have hi:=NH.mp (D7.perm.mem_iff.mp hi);show(al.map fun a=>V.ref a.1).getD i .non=V.ref (al.getD i (0,[])).1;rw[bc _ _ _ (by rw[M5];exact hi),bc _ _ _ hi];simp
  have I5:Inv X pr σ H {s with heap:=h5,toks:=tk}:=I.kept k5;have hn:H h5.objs.size=none:=I5.hok.fresh (M8 _);refine⟨.ref h5.objs.size,_,fA (s:={s with heap:=h5,toks:=tk}) I5 k' (M8 _) he (gX rv IS) ?_,rfl,?_⟩
  ·show(nU pp (al.map fun a=>V.ref a.1)).length<=sizeLine;rw[eo,M5,M5,D7.perm.length_eq,Nt,NV];lia
  ·rw[eo];have pm:=gW (0,[]) D7;refine q _ _ hn (fun a ha=>IU a (pm.mem_iff.mp ha)) ?_ ?_
   ·rw[<-Ld];exact pm.map _
   ·exact eE (O:=zj) (0,[]) (fun a:Addr×List Key=>a.2) D7 hs
end
end NX
namespace NX
open PySem PySem.Spec PyProof.Rows L2
section
open PySem.SeqAt
open PySem.AutoSeq1 (wpAny_loadPart')
open PySem.MeetsSeq PySem.MeetsSeq2 PySem.MeetsSeq3
theorem mz{A:Around}{s:Shared}{a c:Key}{u v:Value}(ra:RelV (kV a) u)(rc:RelV (kV c) v):EqAt A s u v (decide (a=c)):=by
 have h:=tR (A:=A) (s:=s) ra rc (gY a) (gY c);rw[px]at h;exact h
theorem rM{prog:Program}{w:World}{A:Around}{E:Value->Shared->Prop}{s:Shared}{Q:Value->Shared->Prop}{a c:Key}{u v:Value}(ra:RelV (kV a) u)(rc:RelV (kV c) v)(hk:a.isLeft=c.isLeft)(h:Q (.bool (ly.blt a c)) s):
  wpAny (model prog w) A (richCompare .Lt u v) Q E s:=by
 cases a with
 |inl i=>
  cases c with
  |inr _=>cases hk
  |inl j=>
   obtain⟨t,rfl⟩:=ra;obtain⟨t',rfl⟩:=rc;exact(PyProof.Rows.lt_int h:wpAny (model prog w) A (compareOp .Lt (.int i t) (.int j t')) Q E s)
 |inr x=>
  cases c with
  |inl _=>cases hk
  |inr y=>
   obtain⟨t,rfl⟩:=ra;obtain⟨t',rfl⟩:=rc;exact(PyProof.Rows.lt_str h:wpAny (model prog w) A (compareOp .Lt (.str x t) (.str y t')) Q E s)
theorem rN{prog:Program}{w:World}{A:Around}{E:Value->Shared->Prop}{s:Shared}{Q:Value->Shared->Prop}{a c:Key}{u v:Value}(ra:RelV (kV a) u)(rc:RelV (kV c) v)(hk:a.isLeft=c.isLeft)(h:Q (.bool (!ly.blt a c)) s):
  wpAny (model prog w) A (richCompare .GtE u v) Q E s:=by
 cases a with
 |inl i=>
  cases c with
  |inr _=>cases hk
  |inl j=>
   obtain⟨t,rfl⟩:=ra;obtain⟨t',rfl⟩:=rc;refine(PyProof.Rows.ge_int ?_:wpAny (model prog w) A (compareOp .GtE (.int i t) (.int j t')) Q E s);have e:(!ly.blt (.inl i) (.inl j))=decide (j<=i):=by
    show(!decide (i<j))=decide (j<=i);rw[Nx];simp
   rw[e]at h;exact h
 |inr x=>
  cases c with
  |inl _=>cases hk
  |inr y=>
   obtain⟨t,rfl⟩:=ra;obtain⟨t',rfl⟩:=rc;exact(PySem.P.ge_str h:wpAny (model prog w) A (compareOp .GtE (.str x t) (.str y t')) Q E s)
theorem kH(a c:Key)(r t:List Key):cG (a::r) (c::t)=if a=c then cG r t else ly.blt a c:=rfl
theorem jC(l b:Addr)(items C2:Array Value)(n n2:Nat)(dd FR:Option Addr)(sl FU:Array (Option Value))(ks js:List Key)(hi:Vals (ks.map kV) items.toList)(hj:Vals (js.map kV) C2.toList)(hk:kinds ks=kinds js):
  Meets (Builtin.«tuple.__lt__» ⟨[.ref l,.ref b],[]⟩)
   (fun _ R s=>s.heap.get? l=some {cls:=.type "tuple",dict:=dd,data:=.seq items n,slots:=sl}/\s.heap.get? b=some {cls:=.type "tuple",dict:=FR,data:=.seq C2 n2,slots:=FU}/\R (.ok (.ret (.bool (cG ks js)))) s):=
 .of_wp fun prog w A R s h=>by
  obtain⟨hp,g,d,tk,os⟩:=s;obtain⟨hl,hb,h⟩:=h;have f2:=P5;have z1:items.size=ks.length:=by have:=hi.length;simp at this;lia
  have z2:C2.size=js.length:=by have:=hj.length;simp at this;lia
  have z3:ks.length=js.length:=by have:=NY List.length hk;simpa[kinds] using this
  wp_walk using wpAny_loadPart' hl,wpAny_loadPart' hb,Qg _ (fun cj b s'=>b.1=none/\s'=⟨hp,g,d,tk,os⟩/\∃(vs ws:List Value) (D5 D8:List Key),cj=vs.zip ws/\
   Vals (D5.map kV) vs/\Vals (D8.map kV) ws/\kinds D5=kinds D8/\R (.ok (.ret (.bool (cG D5 D8)))) ⟨hp,g,d,tk,os⟩) _
  case turn=>
   rintro⟨y,x⟩ cj b s' ⟨IV,rfl,vs,ws,D5,D8,hz,Ht,IW,Fw,hR⟩;cases D5 with
   |nil=>
    cases Ht;rw[P6]at hz;cases hz
   |cons a D5=>
    cases D8 with
    |nil=>cases Fw
    |cons c D8=>
     cases Ht with
     | @cons _ va _ JL ra hvi'=>
      cases IW with
      | @cons _ vc _ JM rc hwi'=>
       rw[N1]at hz;injection hz with hyx hrest;injection hyx with hy hx;subst hy hx;have LX:a.isLeft=c.isLeft:=(Oy Fw).1;have Hu:kinds D5=kinds D8:=(Oy Fw).2;rw[kH]at hR;have he:=mz (A:=A.in1) (s:=⟨hp,g,d,tk,os⟩) ra rc;refine M3 (he prog w _ _ ?_);by_cases hac:a=c
       ·rw[Nc hac]at hR;rw[Nm hac]
        wp_walk
        exact⟨rfl,rfl,_,_,_,_,hrest,hvi',hwi',Hu,hR⟩
       ·rw[Ng hac]at hR;rw[Nh hac];have LY:=fun E Q=>rM (prog:=prog) (w:=w) (A:=A.in1) (E:=E) (s:=⟨hp,g,d,tk,os⟩) (Q:=Q) ra rc LX
        wp_walk using LY
        exact⟨_,rfl,by simpa using hR⟩
  case fin=>
   rintro⟨b1,b2⟩ s' ⟨IV,rfl,vs,ws,D5,D8,hz,Ht,IW,Fw,hR⟩;simp only at IV;subst IV;have hv:cG D5 D8=decide (items.size<C2.size):=by
    cases D5 with
    |nil=>
     cases D8 with
     |nil=>exact(Nh (by lia)).symm
     |cons c D8=>cases Fw
    |cons a D5=>
     cases D8 with
     |nil=>cases Fw
     |cons c D8=>
      cases Ht;cases IW;rw[N1]at hz;cases hz
   rw[hv]at hR
   wp_walk
   exact⟨_,rfl,by simpa[Builtin.Tuple.tupleCompareSizes] using hR⟩
  case h=>
   exact⟨rfl,rfl,items.toList,C2.toList,ks,js,rfl,hi,hj,hk,h⟩
theorem jD(l b:Addr)(items C2:Array Value)(n n2:Nat)(dd FR:Option Addr)(sl FU:Array (Option Value))(ks js:List Key)(hi:Vals (ks.map kV) items.toList)(hj:Vals (js.map kV) C2.toList)(hk:kinds ks=kinds js):
  Meets (Builtin.«tuple.__ge__» ⟨[.ref l,.ref b],[]⟩)
   (fun _ R s=>s.heap.get? l=some {cls:=.type "tuple",dict:=dd,data:=.seq items n,slots:=sl}/\s.heap.get? b=some {cls:=.type "tuple",dict:=FR,data:=.seq C2 n2,slots:=FU}/\R (.ok (.ret (.bool (!cG ks js)))) s):=
 .of_wp fun prog w A R s h=>by
  obtain⟨hp,g,d,tk,os⟩:=s;obtain⟨hl,hb,h⟩:=h;have f2:=P5;have z1:items.size=ks.length:=by have:=hi.length;simp at this;lia
  have z2:C2.size=js.length:=by have:=hj.length;simp at this;lia
  have z3:ks.length=js.length:=by have:=NY List.length hk;simpa[kinds] using this
  wp_walk using wpAny_loadPart' hl,wpAny_loadPart' hb,Qg _ (fun cj b s'=>b.1=none/\s'=⟨hp,g,d,tk,os⟩/\∃(vs ws:List Value) (D5 D8:List Key),cj=vs.zip ws/\
   Vals (D5.map kV) vs/\Vals (D8.map kV) ws/\kinds D5=kinds D8/\R (.ok (.ret (.bool (!cG D5 D8)))) ⟨hp,g,d,tk,os⟩) _
  case turn=>
   rintro⟨y,x⟩ cj b s' ⟨IV,rfl,vs,ws,D5,D8,hz,Ht,IW,Fw,hR⟩;cases D5 with
   |nil=>
    cases Ht;rw[P6]at hz;cases hz
   |cons a D5=>
    cases D8 with
    |nil=>cases Fw
    |cons c D8=>
     cases Ht with
     | @cons _ va _ JL ra hvi'=>
      cases IW with
      | @cons _ vc _ JM rc hwi'=>
       rw[N1]at hz;injection hz with hyx hrest;injection hyx with hy hx;subst hy hx;have LX:a.isLeft=c.isLeft:=(Oy Fw).1;have Hu:kinds D5=kinds D8:=(Oy Fw).2;rw[kH]at hR;have he:=mz (A:=A.in1) (s:=⟨hp,g,d,tk,os⟩) ra rc;refine M3 (he prog w _ _ ?_);by_cases hac:a=c
       ·rw[Nc hac]at hR;rw[Nm hac]
        wp_walk
        exact⟨rfl,rfl,_,_,_,_,hrest,hvi',hwi',Hu,hR⟩
       ·rw[Ng hac]at hR;rw[Nh hac];have LY:=fun E Q=>rN (prog:=prog) (w:=w) (A:=A.in1) (E:=E) (s:=⟨hp,g,d,tk,os⟩) (Q:=Q) ra rc LX
        wp_walk using LY
        exact⟨_,rfl,by simpa using hR⟩
  case fin=>
   rintro⟨b1,b2⟩ s' ⟨IV,rfl,vs,ws,D5,D8,hz,Ht,IW,Fw,hR⟩;simp only at IV;subst IV;have hv:(!cG D5 D8)=decide (C2.size<=items.size):=by
    cases D5 with
    |nil=>
     cases D8 with
     |nil=>exact(Nm (by lia)).symm
     |cons c D8=>cases Fw
    |cons a D5=>
     cases D8 with
     |nil=>cases Fw
     |cons c D8=>
      cases Ht;cases IW;rw[N1]at hz;cases hz
   rw[hv]at hR
   wp_walk
   exact⟨_,rfl,by simpa[Builtin.Tuple.tupleCompareSizes] using hR⟩
  case h=>
   exact⟨rfl,rfl,items.toList,C2.toList,ks,js,rfl,hi,hj,hk,h⟩
end
section
variable{X:Cx}
def AY(K:W.Frag)(neg:Bool):R2:=fun x y H Q=>∃a b ks js,x=.ref a/\y=.ref b/\SqT K H a (ks.map kV)/\SqT K H b (js.map kV)/\kinds ks=kinds js/\Q (.bl (if neg then !cG ks js else cG ks js)) H
theorem xW(hu:X.A.units<cLine):CM X (compareOp .Lt) (AY X.K false):=by
 intro pr s σ H x y v u Q I rx ry h;obtain⟨a,b,ks,js,rfl,rfl,ha,hb,hk,q⟩:=h;cases rx;cases ry;obtain⟨Cc,r1,p1,_⟩:=I.tuple ha;obtain⟨Ft,r2,p2,_⟩:=I.tuple hb;obtain⟨⟨cls,dd,data,sl⟩,ho,hc,n,hd⟩:=id p1;obtain⟨⟨Hl,FR,data2,FU⟩,DJ,E9,n2,hd2⟩:=id p2;simp only at hc hd E9 hd2;subst hc hd E9 hd2;exact richCompare_meets_room (op:=.Lt) ⟨_,ho,rfl⟩ ⟨_,DJ,rfl⟩ PySem.F.slot_tuple_lt PySem.F.entry_tuple_lt (PySem.F.args_tuple_lt_2 _ _) (jC a b _ _ n n2 dd FR sl FU ks js (by simpa using r1) (by simpa using r2) hk)
  ⟨ho,DJ,show Value.bool (cG ks js)≠Value.notImplemented/\EP X pr σ Q (.bool (cG ks js)) s from⟨(fun x=>nomatch x),⟨.bl (cG ks js),H,I,rfl,q⟩⟩⟩ hu
theorem xX(hu:X.A.units<cLine):CM X (compareOp .GtE) (AY X.K true):=by
 intro pr s σ H x y v u Q I rx ry h;obtain⟨a,b,ks,js,rfl,rfl,ha,hb,hk,q⟩:=h;cases rx;cases ry;obtain⟨Cc,r1,p1,_⟩:=I.tuple ha;obtain⟨Ft,r2,p2,_⟩:=I.tuple hb;obtain⟨⟨cls,dd,data,sl⟩,ho,hc,n,hd⟩:=id p1;obtain⟨⟨Hl,FR,data2,FU⟩,DJ,E9,n2,hd2⟩:=id p2;simp only at hc hd E9 hd2;subst hc hd E9 hd2;exact richCompare_meets_room (op:=.GtE) ⟨_,ho,rfl⟩ ⟨_,DJ,rfl⟩ PySem.F.slot_tuple_ge PySem.F.entry_tuple_ge (PySem.F.args_tuple_ge_2 _ _) (jD a b _ _ n n2 dd FR sl FU ks js (by simpa using r1) (by simpa using r2) hk)
  ⟨ho,DJ,show Value.bool (!cG ks js)≠Value.notImplemented/\EP X pr σ Q (.bool (!cG ks js)) s from⟨(fun x=>nomatch x),⟨.bl (!cG ks js),H,I,rfl,q⟩⟩⟩ hu
end
section
variable{prog:Program}{w:World}{A:Around}{E:Value->Shared->Prop}{s:Shared}
end
def tDisp1T(tk tv:TE):TE:=fun σ H Q=>∀p,H p=none->tk σ (upd H p (.dT [])) fun x H1=>tv σ H1 fun y H2=>H2 p=some (.dT [])/\∃(ks:List Key) (b:Addr),x=.ref b/\H2 b=some (.tup (ks.map kV))/\Q (.ref p) (upd H2 p (.dT [(ks,y)]))
theorem pF{X:Cx}{pos:Pos}{k v:Expr}{tk tv:TE}(hu:X.A.units+1<cLine)(hk:PE X k tk)(hv:PE X v tv):PE X (.Dict [some k] [v] pos) (tDisp1T tk tv):=by
 intro pr s σ H Q I q;have hn:=I.hok.fresh (M8 s.heap.objs.size);have I1:=I.laid (a:=s.heap.objs.size) (o:=.dT []) (h':=s.heap.push {cls:=.type "dict",data:=.dict #[]}) (t':=s.toks) (fun _ _ q=>Heap.get?_push_of_some _ q) (M8 _) (dt_empty s.heap I.big);have hl:(pairTrees [some k] [v] X.env pos).length=1:=pairTrees_length [some k] [v] X.env pos rfl rfl;rw[arm_eval_Dict,zip_pairTrees [some k] [v] X.env pos rfl rfl,dictDisplay_pairs _ (fun z=>by rw[z]at hl;cases hl) (by rw[hl];decide)];refine M3 (Q9 (M3 ?_));unfold subDict;refine M3 (wpAny_alloc (M3 (Ou ?_)));rw[Nc (by rw[hl];decide)];refine M3 ?_;refine Cs (rJ (pos:=pos) hk hv (vC (X:=X)) pr _ σ _ (fun ps H2=>match ps with
  |[(x,y)]=>H2 s.heap.objs.size=some (.dT [])/\∃(ks:List Key) (b:Addr),x=.ref b/\H2 b=some (.tup (ks.map kV))/\Q (.ref s.heap.objs.size) (upd H2 s.heap.objs.size (.dT [(ks,y)]))
  |_=>False) I1 (q _ hn)) fun vs s2 hh=>?_
 obtain⟨ps,H2,I2,rel,q2⟩:=hh;match ps,rel,q2 with
 |[(x,y)],rel,⟨e,ks,b,ex,eb,q3⟩=>
  cases rel with
  | @cons p0 q0 as bs h0 t0=>
   cases t0;obtain⟨u,r⟩:=q0;obtain⟨rx,ry⟩:=h0;subst ex;cases(show u=Value.ref b from rx);obtain⟨z,hd,xs,rl,dd⟩:=xU I2.hok e;cases rl;refine Ou ?_;refine M3 ?_;rw[PB];refine M3 (M3 (wpAny_dictSet_heap (hsz:=NG _) (knd:=tupleKind (mixKind X.prog X.w)) (Q8 (OR _) hu) (jh I2.hok eb) dd fun h' Iv hs=>M4 ?_));dsimp only;rw[QQ];refine M4 (M4 (M4 (M4 ⟨.ref s.heap.objs.size,_,?_,rfl,q3⟩)));obtain⟨q,es,ep,hq,h2,h3,h4,_,h5⟩:=Iv;refine lI I2 (by rw[e];exact True.intro) hs ⟨q,hq⟩ ⟨by rw[NV];exact(by decide:1<=16777216),hd,_,(KT.put (kvs:=[]) (xs:=[]) .nil ks eb ry).keeps fun c ys ec=>?_,q,es,ep,hq,h2,h3,h4,h5⟩;rw[aA (w5 ec e (fun z=>nomatch z))];exact ec
section
variable{X:Cx}{pr:List (Addr×Obj)}{σ:L2.St}{H:Hp}{s:Shared}{scope:Scope}{N:List Str}{ix:List (Option Nat)}{fp:List Addr}
end
section
variable{X:Cx}{scope:Scope}{N:List Str}{ix:List (Option Nat)}{tg iter elt:Expr}{ifs:List Expr}{pos:Pos}{wi:TI}{g:TG}{tc:TT}{te:TE}
end
theorem ook_get{P:Program}{w:World}{H:Hp}{h:Heap}{a:Addr}{o:HO}(x:ObjOk P w H h a o):∃u,h.get? a=some u:=by
 cases o with
 |lst xs=>obtain⟨_,_,_,_,e⟩:=x;exact⟨_,e⟩
 |tup xs=>obtain⟨_,_,_,_,e,_⟩:=x;exact⟨_,e⟩
 |dK kvs=>obtain⟨_,_,_,_,_,_,_,e,_⟩:=x;exact⟨_,e⟩
 |dT kvs=>obtain⟨_,_,_,_,_,_,_,e,_⟩:=x;exact⟨_,e⟩
 |set S n=>obtain⟨_,_,_,_,e,_⟩:=x;exact⟨_,e⟩
 |ins C dx fs=>obtain⟨_,_,_,e,_⟩:=x;exact⟨_,e⟩
 |own y=>exact x
 |xd fs=>obtain⟨_,⟨_,_,_,e,_⟩,_⟩:=x;exact⟨_,e⟩
 |rng lo hi=>obtain⟨_,_,_,e⟩:=x;exact⟨_,e⟩
 |frz ob u=>obtain⟨e,_⟩:=x;exact⟨_,e⟩
 |tbl ps=>exact⟨_,x⟩
 |met f y=>exact⟨_,x⟩
 |ext φ=>obtain⟨_,e,_⟩:=x;exact e
def IX(mg:Str->Option Value)(base:Heap)(x:Str)(C:Addr):Prop:=∃B newId initId bm,ExcBaseFacts B newId initId bm/\OwnCls x C bm newId mg base
theorem xY{K:W.Frag}{h:Heap}{mg:Str->Option Value}{x:Str}{C:Addr}{mB:List Value}{nw:String}(X:K.In h)(G:h.Ns mainGlobals mg)(e:PySem.W.nsIn K mainGlobals x=some (some (.ref C)))(q:PySem.W.excIn K C mB nw=true):OwnCls x C mB nw mg h:=by
 refine⟨NT X G e,?_⟩;unfold PySem.W.excIn at q;split at q
 ·rename_i zd cd sl ho;split at q
  ·rename_i C' mro z0 z1 z2 z3 z4 z5 hm hs;rw[Nf,Nf,Nf,Nf,Nf]at q;obtain⟨⟨⟨⟨⟨q1,q2⟩,q3⟩,q4⟩,q5⟩,q6⟩:=q;have d1:=NN.mp q1;have d2:=NN.mp q2;have d6:=NN.mp q6;have d3:cd.hasDel=false:=by revert q3;cases cd.hasDel <;> decide
   clear q1 q2 q3 q6;subst d1;subst d2;cases cd;dsimp only at hm d3 q5 d6;subst hm;subst d3;have ez:sl = #[z0,z1,z2,z3,some (.builtin z4),z5]:=by
    cases sl;dsimp only at hs;rw[hs]
   subst ez;exact⟨_,_,_,_,_,_,_,_,_,_,_,_,_,_,_,_,_,X _ _ ho,.of_isNs (PySem.W.isNs_of_in X q5),PySem.W.nsMap_none_of_in X q5 d6,PySem.W.tail_of_in X q4⟩
  ·cases q
 ·cases q
noncomputable def JN(P:Program)(w:World)(base:Heap)(C:Addr):F5:=fun outer H s E e s'=>
 ∃(a t:Addr) (B:Heap) (H':Hp),e=.ref a/\s'.os=s.os/\AllBare s'.gens/\Un (DS outer) [] H H' s.heap s'.heap/\HOk P w H' s'.heap/\Heap.FlyingW B outer a (.ref C) (.ref t) s'.heap/\
  (∀b u,s'.heap.get? b=some u->(H' b≠none\/∃o,s.heap.get? b=some o)->b∉DS outer->B.get? b=some u)/\E (.ref C) none H'
def Acc(X:Cx)(C:Addr)(Ww:Hp->Prop):Prop:=∀(pr:List (Addr×Obj)) (σ:L2.St) (H:Hp) (s:Shared) (h':Heap) (a:Addr) (args:List Value),Inv X pr σ H s->Ww H->Heap.MadeExcOf s.heap h' a (.ref C) args->X.xe (.ref a) {s with heap:=h'}
theorem xZ{P:Program}{w:World}{K:W.Frag}{mg:Str->Option Value}{base:Heap}{N:List Str}{qual:Str}{scope:Scope}{f C:Addr}{cd:Value}{A:Around}{outer:List Env}{s:Shared}{H:Hp}{E:XK}:
  Acc (oY (JN P w base C) P w K mg base N qual scope f cd A outer s H E) C (fun H'=>E (.ref C) none H'):=by
 intro pr σ H1 s1 h' a args I hW hm;have hfs:∀b,b∈DS (envOfC qual scope s.heap.objs.size f cd::outer)->b∈s.heap.objs.size::DS outer:=I.stkSub;have nl:∀b o,s.heap.get? b=some o->b∉DS outer->b∉DS (envOfC qual scope s.heap.objs.size f cd::outer):=fun b o e n z=>by
  rcases Ni.mp (hfs b z) with r|r
  ·exact absurd (M9 e) (by rw[r];exact OG _)
  ·exact n r
 have nt:∀b,H1 b≠none->b∉DS (envOfC qual scope s.heap.objs.size f cd::outer):=fun b n z=>n (I.stkFree b z)
 refine wpAny_leaves_madeW (base:=PySem.W.hideAll s1.heap (DS (envOfC qual scope s.heap.objs.size f cd::outer))) (L:=s.heap.objs.size) I.ok.frames rfl (fun b o q=>Q4 _ q) (PySem.W.funFrames_hide I.stack fun env he b hb=>PK.mpr ⟨env,he,hb⟩) hm fun h2 t Iw _ _ sm=>?_
 have k:∀b u,s1.heap.get? b=some u->b∉DS (envOfC qual scope s.heap.objs.size f cd::outer)->h2.get? b=some u:=fun b u q n=>Iw.1 b u (Px _ q n)
 have sl:∀b u,s1.heap.get? b=some u->b∈DS outer->∃z,h2.get? b=some {u with slots:=z}:=fun b u q n=>by
  obtain⟨_,o,ho,hd⟩:=I.funs.mem n;rw[q]at ho;cases ho;exact sm b u (hm.keeps b u q) hd
 have there:∀b o,s.heap.get? b=some o->∃o',s1.heap.get? b=some o':=fun b o q=>I.base.there b o q (fun z=>nomatch z)
 refine⟨a,t,_,H1,rfl,I.os,I.bare,⟨fun b o q n hb hx=>k b o (I.base.keep b o q n hb hx) (nl b o q hb),fun b o q n hb hx=>?_,I.base.free,fun b o q hx=>?_,I.base.tups,I.base.frzs,I.base.tbls⟩,fun b o e=>?_,Iw,fun b u q hb n=>?_,hW⟩
 ·obtain⟨z,e⟩:=I.base.slot b o q n hb hx;obtain⟨z',e'⟩:=sl b _ e hb;exact⟨z',e'⟩
 ·obtain⟨o',e⟩:=there b o q;by_cases hb:b∈DS outer
  ·obtain⟨z,e'⟩:=sl b o' e hb;exact⟨_,e'⟩
  ·exact⟨o',k b o' e (nl b o q hb)⟩
 ·refine(I.hok b o e).stay (fun c u hc q=>k c u q (nt c ?_)) (fun _ q=>q) fun _ _ q=>q
  rcases hc with rfl|hc
  ·rw[e];exact fun z=>nomatch z
  ·rw[hc];exact fun z=>nomatch z
 ·have h1:∃u0,s1.heap.get? b=some u0/\b∉DS (envOfC qual scope s.heap.objs.size f cd::outer):=by
   rcases hb with hb|⟨o,ho⟩
   ·cases hq:H1 b with
    |none=>exact absurd hq hb
    |some ho=>
     obtain⟨u0,e0⟩:=ook_get (I.hok b ho hq);exact⟨u0,e0,nt b hb⟩
   ·obtain⟨o',e⟩:=there b o ho;exact⟨o',e,nl b o ho n⟩
  obtain⟨u0,e0,n0⟩:=h1;have:=k b u0 e0 n0;rw[show h2.get? b=some u from q]at this;cases this;exact Px _ e0 n0
def PX(X:Cx)(st:List Stmt)(t:L2.St->Hp->Prop):Prop:=
 ∀(pr:List (Addr×Obj)) (s:Shared) (σ:L2.St) (H:Hp),Inv X pr σ H s->t σ H->wpAny (model X.prog X.w) X.A (execs st X.env) (fun _ _=>False) X.xe s
section
variable{X:Cx}{st:Stmt}{cj:List Stmt}{t:TS}{u u':L2.St->Hp->Prop}{e:Expr}{es:List Expr}{x:Str}{C:Addr}{Ww:Hp->Prop}{np Cu pos:Pos}
theorem rO{ta:TA}(O:IX X.mg X.base x C)(acc:Acc X C Ww)(hc:X.calm=true)(hg:Gl X x)(ha:PA X (e::es) ta)(C9:(x==("__debug__" : Str))=false:=by decide)
  (he:starEach (e::es) X.env=(false,eval e X.env)::starEach es X.env:=by rfl) (C8:(backTo Cu (starEach es X.env)).any (·.1)=false:=by rfl):
  PX X (.Raise (some (.Call (.Name x np) (e::es) [] Cu)) none pos::cj) (fun σ H=>ta σ H fun vs H1=>vs.length<=sizeLine/\Ww H1):=by
 intro pr s σ H I h;obtain⟨B,nw,ini,bm,FB,O⟩:=O;obtain⟨tl,N,nm,q,bs,hdct,sn,sub,ab,col,dd,k0,k1,k2,k3,k5,mN,hC,hN,Mz,T⟩:=O.obj;refine OJ (wpAny_Raise_call_subT (C:=C) (nm:=nm) (q:=q) (N:=N) (bs:=bs) (bm:=tl) (hdct:=hdct) (sn:=sn) (sub:=sub) (ab:=ab) (col:=col) (dd:=dd) (k0:=k0) (k1:=k1) (k2:=k2) (k3:=k3) (k5:=k5) FB (mN:=mN) (T.hasType FB.hasBase) (I.ok.hd hc) (by rw[he];show(false||(backTo Cu (starEach es X.env)).any (·.1))=false;rw[C8];rfl) Mz (g6 I hg O.bound ⟨rfl,?_⟩ C9));have z:=ha Cu pr s σ H _ I h;rw[he]at z ⊢;exact Pm (NL z (fun us s2 ⟨vs,H1,I1,r,hl,hw⟩=>⟨rfl,by rw[<-r.length];exact hl,I1.bk _ _ hC,hN.keeps I1.bk,T.keeps I1.bk,fun h' a hm=>acc pr σ H1 s2 h' a us I1 hw hm⟩) fun _ _ y=>y)
theorem vH(h1:PS X st t)(h2:PX X cj u):PX X (st::cj) (fun σ H=>t {nx:=u,rt:=fun _ _=>False} σ H):=by
 intro pr s σ H I h;refine OJ (Cs (h1 pr s σ H _ I h) fun f s1 q=>?_);cases f with
 |next=>
  obtain⟨σ',H',I',q⟩:=q;exact h2 pr s1 σ' H' I' q
 |ret v=>obtain⟨_,_,_,_,_,q⟩:=q;exact q
 |brk=>obtain⟨_,_,_,q⟩:=q;exact q
 |cont=>obtain⟨_,_,_,q⟩:=q;exact q
theorem Ac{c:Expr}{a b:List Stmt}{tc:TT}(hc:PT X c tc)(ha:PX X a u):PX X (.If c a b pos::cj) (fun σ H=>tc σ H fun bb H1=>bb=true/\u σ H1):=by
 intro pr s σ H I h;refine OJ (wpAny_If (Cs (hc pr s σ H _ I h) fun d s1 Cz=>?_));obtain⟨H1,I1,e,q⟩:=Cz;subst e;exact NL (ha pr s1 σ H1 I1 q) (fun _ _ z=>z.elim) fun _ _ z=>z
theorem pG(h:PX X cj u)(k:∀σ H,u' σ H->u σ H):PX X cj u':=fun pr s σ H I z=>h pr s σ H I (k σ H z)
theorem x3(h:PX X cj u):PSs X cj (fun _ σ H=>u σ H):=fun pr s σ H _ I z=>NL (h pr s σ H I z) (fun _ _ z=>z.elim) fun _ _ z=>z
theorem x4(h:PS X.nox st t):PS X st t:=fun pr s σ H D I hw=>NL (h pr s σ H D (I.wish _) hw) (fun _ _ q=>q.unwish) fun _ _ z=>False.elim z
theorem x5{t:TA}(h:PA X.nox es t):PA X es t:=fun p pr s σ H Q I hw=>NL (h p pr s σ H Q (I.wish _) hw) (fun _ _ ⟨v,H',I',r,q⟩=>⟨v,H',I'.unwish,r,q⟩) fun _ _ z=>False.elim z
end
def CtX(P:Program)(w:World)(K:W.Frag)(mg:Str->Option Value)(base:Heap)(x:Str)(k:Nat)(C:Addr)(sp:Sp):Prop:=
 ∃f fd ps,FnOk P w K mg base (JN P w base C) k f fd ps sp/\mg x=some (.ref f)/\PySem.W.keepIn K (.ref f)=true/\Binds K fd ps []
theorem vI{P:Program}{w:World}{K:W.Frag}{mg:Str->Option Value}{base:Heap}{x qual:Str}{st:Stmt}{f C:Addr}{fd:FuncData}{N ps:List Str}{k:Nat}{sp:Sp}(F:Fun K x qual st f fd)(S:FnScope N ps (defScope st))(len:∀vs H Q E,sp vs H Q E->vs.length=ps.length)
  (E8:∀(CB:Value) (A:Around) (outer:List Env) (s:Shared) (H:Hp) (vs:List V) (Q:VK) (E:XK),Room k (A.deeper (envOfC qual (defScope st) s.heap.objs.size f CB))->sp vs H Q E->
   ∃t,PX (oY (JN P w base C) P w K mg base N qual (defScope st) f CB A outer s H E) (bY st) t/\t (gL N vs) H):FnOk P w K mg base (JN P w base C) (k+1) f fd ps sp:=by
 obtain⟨oc,od,kV,doc,pm,an,CB,ct,Gr,rfl,lk,Fq⟩:=F.ex;refine xy lk Fq S len fun A outer s H vs Q E hr Hf=>?_
 obtain⟨t,h,q⟩:=E8 CB A outer s H vs Q E hr Hf;exact⟨_,x3 h,q⟩
def XP(X:Cx)(pr:List (Addr×Obj))(σ:L2.St)(C:Addr)(Ww:Hp->Prop)(e:Value)(s':Shared):Prop:=∃(s1:Shared) (H1:Hp),Inv X pr σ H1 s1/\JN X.prog X.w X.base C X.stack H1 s1 (fun _ _ H'=>Ww H') e s'
abbrev TX:=L2.St->Hp->(Hp->Prop)->Prop
def LZ(X:Cx)(e:Expr)(C:Addr)(t:TX):Prop:=∀(pr:List (Addr×Obj)) (s:Shared) (σ:L2.St) (H:Hp) (Ww:Hp->Prop),Inv X pr σ H s->t σ H Ww->wpAny (model X.prog X.w) X.A (eval e X.env) (fun _ _=>False) (XP X pr σ C Ww) s
def L1(X:Cx)(st:List Stmt)(C:Addr)(t:TX):Prop:=∀(pr:List (Addr×Obj)) (s:Shared) (σ:L2.St) (H:Hp) (Ww:Hp->Prop),Inv X pr σ H s->t σ H Ww->wpAny (model X.prog X.w) X.A (execs st X.env) (fun _ _=>False) (XP X pr σ C Ww) s
section
variable{X:Cx}{st:Stmt}{cj:List Stmt}{tx:TX}{e a b:Expr}{es:List Expr}{x:Str}{C:Addr}{k:Nat}{sp:Sp}{p pos:Pos}
theorem rP{t:TA}(c:CtX X.prog X.w X.K X.mg X.base x k C sp)(hr:Room k X.A)(hg:Gl X x)(ha:PA X.nox (e::es) t)(C9:(x==("__debug__" : Str))=false:=by decide)
  (he:starEach (e::es) X.env=(false,eval e X.env)::starEach es X.env:=by rfl) (C8:(backTo pos (starEach es X.env)).any (·.1)=false:=by rfl):
  LZ X (.Call (.Name x p) (e::es) [] pos) C (fun σ H Ww=>t σ H fun vs H1=>sp vs H1 (fun _ _=>False) fun _ _ H'=>Ww H'):=by
 intro pr s σ H Ww I h;obtain⟨f,fd,ps,F,m,kp,b⟩:=c;refine OL (g6 I hg m ?_ C9);refine Q5 (h₀:=X.base) I.ok.mod.kin kp (NL (ha pos pr s σ H _ (I.wish _) h) (fun us s1 ⟨vs,H1,I1,r,q⟩=>⟨I1.kIn,?_⟩) fun _ _ z=>z.elim) he C8;have I1:=I1.unwish;have hl:us.length=ps.length:=by rw[<-r.length];exact F.len _ _ _ _ q
 have hb:BindsTo s1 fd ⟨us,[]⟩ (ps.zip us):=by
  have:=b s1 us I1.kIn (by rw[Nz];exact hl);rw[Nz]at this;exact this
 refine wpAny_call (Qr (F.run X.A X.stack s1 H1 ⟨us,[]⟩ us vs _ _ hr I1.env0 hb r q) fun r s' hq=>?_);cases r with
 |error e=>exact⟨s1,H1,I1,hq⟩
 |ok fl=>
  cases fl with
  |ret u=>obtain⟨_,_,_,_,_,_,_,z⟩:=hq;exact z.elim
  |next=>exact False.elim hq
  |brk=>exact False.elim hq
  |cont=>exact False.elim hq
theorem rQ(h:LZ X e C tx)(hs:swapsWith e none pos.line X.env=pure false:=by rfl):L1 X (.Expr e pos::cj) C tx:=fun pr s σ H Ww I z=>
 OJ (wpAny_Expr_any (NL (h pr s σ H Ww I z) (fun _ _ z=>z.elim) fun _ _ z=>z) I.quiet hs)
end
abbrev handX(X:Cx)(a:Addr):Cx:={X with A:=X.A.mark (some (.ref a)),calm:=false,xe:=fun _ _=>False}
theorem rR{X:Cx}{pr:List (Addr×Obj)}{σ:L2.St}{H:Hp}{s:Shared}(I:Inv X pr σ H s)(a:Addr):Inv (handX X a) pr σ H s:=
 ⟨⟨I.ok.mod,I.ok.kind,I.ok.glob,I.ok.blt,I.ok.above,I.ok.inj,I.ok.has,I.ok.cab,(fun z=>nomatch z),I.ok.frames,I.ok.stk,I.ok.exf,I.ok.bs,I.ok.bsz,I.ok.noex,I.ok.exfs,I.ok.funs,I.ok.frf⟩,I.os,I.bare,I.base,I.loc,I.cell,I.free,I.freeC,I.pin,I.hok,I.len⟩
open PySem.Builtin.ObjectAttr PySem.Builtin.Getset_descriptor
def ExAt(x D:Addr)(h:Heap):Prop:=∃o vs,h.get? x=some o/\o.cls=.ref D/\o.data=.fields vs
structure Asks(K:W.Frag)(D:Addr):Prop where
 ga:PySem.W.findIn K (.ref D) "__getattribute__" = some (some (.builtin "BaseException.__getattribute__"))
 gn:PySem.W.findIn K (.ref D) "__getattr__" = some none
 hc:PySem.W.hasDictIn K D=true
 fi:PySem.W.findIn K (.ref D) "__class__" = some (some (.builtin "object.__class__"))
 sp:PySem.W.specialIn K (.builtin "object.__class__") "__get__" = some (some (.builtin "getset_descriptor.__get__"))
 tk:PySem.W.takesIn K (.builtin "object.__class__")=some true
 mo:PySem.W.mroIn K D (.type "object")=some true
 mb:PySem.W.mroIn K D (.type "BaseException")=some true
theorem Asks.cls{K:W.Frag}{D:Addr}(k:Asks K D):∃cd,PySem.W.clsIn K D=some cd:=by
 obtain⟨cd,e,_⟩:=PySem.W.any_some k.hc;exact⟨cd,e⟩
section
variable{prog:Program}{w:World}{A:Around}{E:Value->Shared->Prop}{s:Shared}{K:W.Frag}{x D:Addr}
theorem ExAt.ty{M:Model}{h:Heap}(I:ExAt x D h):PySem.W.Looks M h (typeOf (.ref x)) (.ref D):=by
 obtain⟨o,vs,e,c,_⟩:=I;exact c▸(PySem.W.Looks.ld e).andThen .now
theorem rS{M:Model}{h:Heap}(k:Asks K D)(X:K.In h):PySem.W.Looks M h (find (.ref x) (.ref D) "__class__") (.bind (.builtin "getset_descriptor.__get__") (.builtin "object.__class__")):=by
 have T:=PySem.W.looks_takesIn (M:=M) X k.tk;have T':PySem.W.Looks M h (dataDescriptor? (some (.builtin "object.__class__")) (some (.builtin "getset_descriptor.__get__"))) (some (.builtin "getset_descriptor.__get__",.builtin "object.__class__")):=T.andThen .now;exact(Po X k.fi).andThen ((show PySem.W.Looks M h (getOf (some (.builtin "object.__class__"))) (some (.builtin "getset_descriptor.__get__")) from PySem.W.looks_specialIn X k.sp).andThen (T'.andThen (PySem.W.Looks.tag .now)))
theorem vJ{R:Result->Shared->Prop}{tp:Value}(k:Asks K D)(X:K.In s.heap)(I:ExAt x D s.heap)(h:R (.ok (.ret (.ref D))) s):
  codeAny (model prog w) A (.call (.builtin "getset_descriptor.__get__") ⟨[.builtin "object.__class__",.ref x,tp],[]⟩) R s:=by
 obtain⟨hp,gs,dr,tt,oo⟩:=s;have Ty:=I.ty (M:=model prog w);have Mo:=QZ (M:=model prog w) X k.mo;refine codeAny_call_builtin PySem.W.KF.slot_gs.plain PySem.W.KF.entry_gs (PySem.W.KF.slot_gs.check _ _ _ _ _ _ _ _ PySem.W.KF.type_class (PySem.W.KF.args_gs _ _ _) ?_);unfold Builtin.«getset_descriptor.__get__» descrGet;rw[PySem.W.dga_obj];refine M3 (M4 ?_);unfold descrGetter descrCheckInstance descrNameAndClass isInstance;simp only[PySem.W.KF.owner_class];repeat lk
 refine⟨Code.quiet_builtin _ (by decide +kernel),codeAny_builtin PySem.W.KF.entry_class ?_⟩;unfold Builtin.«object.__class__» shownTypeOf;repeat lk
 exact h
theorem pH{tk:Tok}{Q:PySem.Fin->Shared->Prop}(k:Asks K D)(X:K.In s.heap)(I:ExAt x D s.heap)(h:Q (.done (.ret (.ref D))) s):
  wpAny (model prog w) A (Builtin.«object.__getattribute__» ⟨[.ref x,.str "__class__" tk],[]⟩) Q E s:=by
 obtain⟨hp,gs,dr,tt,oo⟩:=s;have Ty:=I.ty (M:=model prog w);have Fd:=rS (M:=model prog w) (x:=x) k X;unfold Builtin.«object.__getattribute__»;repeat (any_goals (first|assumption|with_reducible refine Ty.at ?_|with_reducible refine Fd.at ?_|wp_step))
 refine vJ k X I ?_;repeat (any_goals (first|assumption|wp_step))
theorem pI{M:Model}{nv:Value}{Q:Unit->Shared->Prop}(k:Asks K D)(X:K.In s.heap)(I:ExAt x D s.heap)(h:Q () s):wpAny M A (checkBuiltinCall "BaseException.__getattribute__" ⟨[.ref x,nv],[]⟩) Q E s:=by
 obtain⟨hp,gs,dr,tt,oo⟩:=s;have z1:builtinKind "BaseException.__getattribute__" = some .slot:=by decide +kernel
 have z2:splitId "BaseException.__getattribute__" = some ("BaseException","__getattribute__"):=by decide +kernel
 have z3:=F.args_bexc_ga (.ref x) nv;have Ty:=I.ty (M:=M);have Mb:=QZ (M:=M) X k.mb;simp only[checkBuiltinCall,z1,z2];refine M3 ?_;unfold isInstance;repeat (any_goals (first|assumption|with_reducible refine Ty.at ?_|with_reducible refine Mb.at ?_|wp_step))
theorem x6{tk:Tok}{fill ex:Bool}{Q:Value->Shared->Prop}(k:Asks K D)(X:K.In s.heap)(I:ExAt x D s.heap)(h:Q (.ref D) s):wpAny (model prog w) A (getAttrBy (.ref x) (.str "__class__" tk) fill ex) Q E s:=by
 obtain⟨hp,gs,dr,tt,oo⟩:=s;have Ty:=I.ty (M:=model prog w);have G1:=Po (M:=model prog w) X k.ga;have G2:=Po (M:=model prog w) X k.gn;have z0:(ex&&onTheHeap (Value.builtin "BaseException.__getattribute__"))=false:=by cases ex <;> rfl
 have z2:(Value.builtin "BaseException.__getattribute__" == Value.builtin "object.__getattribute__")=false:=by decide +kernel
 have z1:(onTheHeap (Value.ref D)&&Value.builtin "BaseException.__getattribute__" == Value.builtin "object.__getattribute__")=false:=by rw[z2];rfl
 have z3:=F.attr_ValueError.ga.bind (.ref x);repeat (any_goals (first|assumption|with_reducible refine Ty.at ?_|with_reducible refine G1.at ?_|with_reducible refine G2.at ?_|wp_step))
 refine codeAny_call_builtin F.attr_ValueError.ga.plain F.entry_bexc_ga (pI k X I (pH k X I ?_));repeat (any_goals (first|assumption|wp_step))
theorem pJ(k:Asks K D)(X:K.In s.heap)(I:ExAt x D s.heap){Q:Option Value->Shared->Prop}(h:Q (some (.ref D)) {s with toks:=s.toks+1}):wpAny (model prog w) A (getAttr? (.ref x) "__class__") Q E s:=by
 unfold getAttr? getAttrBy?;refine M3 (wpAny_mkText (M3 (Pr (x6 (s:={s with toks:=s.toks+1}) k X I (M4 h)))))
theorem lK(k:Asks K D):PySem.W.KitX K (.ref x) (.ref D) (ExAt x D) where
 ty:=fun _ _ _ I=>I.ty
 it:=fun M h X _=>by
  obtain⟨cd,e⟩:=k.cls;unfold PySem.W.clsIn at e;split at e
  ·rename_i ho;intro A' Q' E' s' kk q;unfold isType loadHead;exact M3 (wpAny_loadPart (kk _ _ (X _ _ ho)) (M4 q))
  ·cases e
 ne:=fun h tp dd Cc n sl X L3=>by
  obtain⟨cd,e⟩:=k.cls;refine Bool.eq_false_iff.mpr fun q=>?_
  cases Value.ref.inj (NN.mp q);unfold PySem.W.clsIn at e;split at e
  ·rename_i ho;cases(X _ _ ho).symm.trans L3
  ·cases e
 ca:=fun X I h=>pJ k X I h
end
abbrev asX(X:Cx)(a:Addr)(o:Obj):Cx:={X with A:=X.A.mark (some (.ref a)),calm:=false,xe:=fun _ _=>False,pn:=(a,o)::X.pn}
section
variable{X:Cx}{pr:List (Addr×Obj)}{σ:L2.St}{H:Hp}{s:Shared}{a:Addr}{o:Obj}
theorem x9(I:Inv X pr σ H s)(h1:s.heap.get? a=some o)(h2:H a=none)(h3:a≠X.env.locals)(h4:a∉X.fs)(h5:∀v,o.data≠.cell v):Inv (asX X a o) pr σ H s:=
 ⟨⟨I.ok.mod,I.ok.kind,I.ok.glob,I.ok.blt,I.ok.above,I.ok.inj,I.ok.has,I.ok.cab,(fun z=>nomatch z),I.ok.frames,I.ok.stk,I.ok.exf,I.ok.bs,I.ok.bsz,I.ok.noex,I.ok.exfs,I.ok.funs,I.ok.frf⟩,I.os,I.bare,I.base,I.loc,I.cell,I.free,I.freeC,fun p hp=>by
  rcases Ni.mp (show p∈(a,o)::(X.pn++pr) from hp) with rfl|hp
  ·exact⟨h1,h2,h3,h4,h5⟩
  ·exact I.pin p hp,I.hok,I.len⟩
theorem rT(ok:X.Ok)(I:Inv (asX X a o) pr σ H s):Inv X pr σ H s:=⟨ok,I.os,I.bare,I.base,I.loc,I.cell,I.free,I.freeC,fun p hp=>I.pin p (Nj _ hp),I.hok,I.len⟩
theorem rU{i:Nat}{x:Str}{m:Str->Option Value}{v:Option Value}{h':Heap}{t':Nat}(I:Inv X pr σ H s)(hN:X.N.Nodup)(hi:X.N[i]?=some x)(hm:s.heap.Ns X.env.locals m)
  (hn:h'.Ns X.env.locals (fun y=>if y=x then v else m y)) (hs:Heap.SameBut X.env.locals s.heap h'):Inv X pr (σ.set i none) H {s with heap:=h',toks:=t'}:=by
 have L4:∀b o,X.s₀.heap.get? b=some o->b≠X.env.locals:=fun b o e=>Nl (Nd (M9 e) I.ok.above)
 have hl:i<σ.length:=by rw[I.len];exact(List.getElem?_eq_some_iff.mp hi).1
 refine⟨I.ok,I.os,I.bare,⟨fun b o e n hb hx=>?_,fun b o e n hb hx=>?_,I.base.free,fun b o e hx=>?_,I.base.tups,I.base.frzs,I.base.tbls⟩,⟨_,hn,fun j y v' e1 e2 e3=>?_⟩,fun y c e=>?_,I.free,I.freeC,fun p hp=>?_,fun b ob e=>?_,by rw[OD];exact I.len⟩
 ·rw[hs.2 b (L4 b o e)];exact I.base.keep b o e n hb hx
 ·rw[hs.2 b (L4 b o e)];exact I.base.slot b o e n hb hx
 ·rw[hs.2 b (L4 b o e)];exact I.base.there b o e hx
 ·have hj:j≠i:=fun z=>by
   subst z;rw[List.getElem?_set_self hl]at e2;cases e2
  rw[List.getElem?_set_ne (Oo hj)]at e2;obtain⟨m',hm',hl'⟩:=I.loc;obtain⟨u',r',q⟩:=hl' j y v' e1 e2 e3;refine⟨u',r',?_⟩;rcases q with⟨kk,e⟩|⟨kk,c,e,z⟩
  ·refine .inl ⟨kk,?_⟩;have ne:y≠x:=fun e=>hj (jq hN e1 (e▸hi))
   dsimp only;rw[Ng ne];obtain⟨o1,L5,MA,a1,b1,c1,d1⟩:=hm;obtain⟨o2,JO,MB,a2,b2,c2,d2⟩:=hm';rw[a1]at a2;cases a2;rw[b1]at b2;cases b2;rw[<-d1 y,d2 y];exact e
  ·exact .inr ⟨kk,c,e,z.sameBut hs (I.cne y c e)⟩
 ·obtain⟨w',z⟩:=I.cell y c e;exact⟨w',z.sameBut hs (I.cne y c e)⟩
 ·obtain⟨e,n,ne,nf,d⟩:=I.pin p hp;exact⟨(hs.2 p.1 ne).trans e,n,ne,nf,d⟩
 ·refine(I.hok b ob e).stay (fun c w' hc q=>(hs.2 c ?_).trans q) (fun _ q=>q) fun _ _ q=>q
  rintro rfl;rcases hc with rfl|hc
  ·rw[I.free]at e;cases e
  ·rw[I.free]at hc;cases hc
end
def goneE(i:Nat)(D:Ends):Ends:={nx:=fun σ H=>D.nx (σ.set i none) H,rt:=D.rt,bk:=fun σ H=>D.bk (σ.set i none) H,ct:=fun σ H=>D.ct (σ.set i none) H}
theorem rV{X:Cx}{body Fc:List Stmt}{b0:Stmt}{x n:Str}{i:Nat}{C:Addr}{np Hv pos:Pos}{t:TS}{th:Addr->TS}{tx:TX}(O:IX X.mg X.base x C)(hg:Gl X x)(hn:PSs X.nox body t)(hx:L1 X body C tx)
  (hh:∀a o vs,o.cls=.ref C->o.data=.fields vs->PSs (asX X a o) (b0::Fc) (th a)) (hN:X.N.Nodup) (hi:X.N[i]?=some n) (hl:X.env.kindOf n=some .local) (Le:X.env.scope.names.lookup n=some .local)
  (hs:X.stack=X.env::X.outer:=by rfl) (hf:X.env.frame=some X.env.locals:=by rfl) (C9:(x==("__debug__" : Str))=false:=by decide):
  PS X (.Try body [.ExceptHandler (some (.Name x np)) (some n) (b0::Fc) Hv] [] [] pos) (fun D σ H=>t D σ H\/tx σ H fun H'=>∀a,th a (goneE i D) (σ.set i (some (.ref a))) H'):=by
 intro pr s σ H D I h;rcases h with h|h
 ·refine wpAny_Try_except (NL (hn pr s σ H D (I.wish _) h) (fun f s1 q=>?_) fun _ _ z=>z.elim);have q:=q.unwish;cases f with
  |next=>exact O3 q
  |ret v=>exact q
  |brk=>exact q
  |cont=>exact q
 refine wpAny_Try_except (NL (hx pr s σ H _ I h) (fun _ _ z=>z.elim) fun e s1 z=>?_);obtain⟨s0,H1,I1,a,tt,B,H',rfl,Hm,hgen,un,hok,Iw,Fx,hW⟩:=z;have nt:∀b,H' b≠none->b∉DS X.stack:=fun b n z=>by
  obtain⟨_,o,ho,_⟩:=I1.stack.mem z;exact n (un.free b o ho (I1.stkFree b z) fun z=>nomatch z)
 have key:∀h6:Heap,Heap.FlyingW B X.stack a (.ref C) (.ref tt) h6->s1.heap.UpToSlots h6->Inv X pr σ H' {s1 with heap:=h6}:=fun h6 f6 sm=>by
  have sl:∀b u,s1.heap.get? b=some u->b∈DS X.stack->∃z,h6.get? b=some {u with slots:=z}:=fun b u q n=>by
   obtain⟨_,o,ho,hd⟩:=Iw.2.2.1.mem n;rw[q]at ho;cases ho;exact sm b u q hd
  refine I1.call' (ch:=[]) Hm ⟨fun b o q n hb hx=>?_,fun b o q n hb hx=>?_,un.free,fun b o q hx=>?_,un.tups,un.frzs,un.tbls⟩ (fun b o e=>?_) hgen fun b z=>nomatch z
  ·have:=un.keep b o q n hb hx;exact f6.1 b o (Fx b o this (.inr ⟨o,q⟩) hb)
  ·obtain⟨z,e⟩:=un.slot b o q n hb hx;obtain⟨z',e'⟩:=sl b _ e hb;exact⟨z',e'⟩
  ·obtain⟨o',e⟩:=un.there b o q hx;by_cases hb:b∈DS X.stack
   ·obtain⟨z,e'⟩:=sl b o' e hb;exact⟨_,e'⟩
   ·exact⟨o',f6.1 b o' (Fx b o' e (.inr ⟨o,q⟩) hb)⟩
  ·refine(hok b o e).stay (fun c u hc q=>?_) (fun _ q=>q) fun _ _ q=>q
   have hc:H' c≠none:=by
    rcases hc with rfl|hc
    ·rw[e];exact fun z=>nomatch z
    ·rw[hc];exact fun z=>nomatch z
   exact f6.1 c u (Fx c u q (.inl hc) (nt c hc))
 have L6:a∉DS X.stack:=fun z=>by
  obtain⟨_,o,ho,hd⟩:=Iw.2.2.1.mem z;obtain⟨_,_,_,oe,vs,T,oT,ts,he,_,hv,_⟩:=Iw;rw[he]at ho;cases ho;exact hd vs hv
 have naH:H' a=none:=by
  cases hq:H' a with
  |none=>rfl
  |some u=>
   exfalso;obtain⟨ob,e⟩:=ook_get (hok a u hq);have:=Fx a ob e (.inl (by rw[hq];exact fun z=>nomatch z)) L6;rw[Iw.2.1]at this;cases this
 have naL:a≠X.env.locals:=fun z=>L6 (by
  unfold DS;rw[hs,OH,hf,z];exact M7)
 have naF:a∉X.fs:=fun z=>L6 (by
  have z:a∈X.outer.filterMap (·.frame):=z;unfold DS;rw[hs,OH,hf];exact Nj _ z)
 have fl:Heap.FlyingW B (X.env::X.outer) a (.ref C) (.ref tt) s1.heap:=by rw[<-hs];exact Iw
 refine wpAny_looks_onW (by rw[<-hs];exact I1.ok.frames) hf fl fun h4 Kh sm4=>?_
 refine wpAny_landsW Kh fun h5 IY sm5=>?_
 have Ki:=sm4.trans sm5;have I5:=rR (key h5 (by rw[hs];exact IY) Ki) a;obtain⟨ob,IZ,hobc⟩:=IY.there;refine wpAny_handleBy_cons (codeAny_handlers_test (g6 I5 hg (show(handX X a).mg x=some (.ref C) from by obtain⟨_,_,_,_,_,O⟩:=O;exact O.bound) ?_ C9)) (by intro q;cases q);obtain⟨_,_,_,bm,FB,O⟩:=O;obtain⟨tl,N,nm,q,bs,hdct,sn,sub,ab,col,dd,k0,k1,k2,k3,k5,mN,hC,hNN,Mz,T⟩:=O.obj;refine wpAny_excMatches_sub_self (I5.bk _ _ hC) IZ hobc (T.hasType FB.hasBase) (codeAny_handlers_suite_as ?_);refine lands_againW IY fun h6 Kj sm6=>?_
 have I6:=key h6 (by rw[hs];exact Kj) (Ki.trans sm6);obtain⟨_,_,_,oe,vs,_,_,_,he,LM,hv,_⟩:=id Kj;have I7:=x9 (a:=a) (o:=oe) I6 he naH naL naF fun v z=>by rw[hv]at z;cases z
 refine jr (X:=asX X a oe) (x:=n) (i:=i) (v:=.ref a) I7 hN hi (.inl Le) rfl (fun s2 I2=>?_) (.inr Le);refine NL (hh a oe vs LM.1 hv pr s2 _ H' (goneE i D) I2 (hW a)) (fun f s3 q=>?_) fun _ _ z=>z.elim
 have go:∀{σ':L2.St}{I0:Hp},Inv (asX X a oe) pr σ' I0 s3->∀{Q:Unit->Shared->Prop}{A':Around}{E':Value->Shared->Prop},(∀s4,Inv X pr (σ'.set i none) I0 s4->Q () s4)->wpAny (model X.prog X.w) A' (do bindName X.env n .none;unbindBehindTheSuite X.env n Hv) Q E' s3:=fun{σ' I0} I8 {Q A' E'} kk=>by
  have I9:=rT I6.ok I8;obtain⟨m,hm,_⟩:=id I9.loc;exact wpAny_nameGoes_keeps hl hm (by rw[I9.ok.kind];rfl) fun h' v Lx sb=>kk _ (rU I9 hN hi hm Lx sb)
 cases f with
 |next=>obtain⟨σ',I0,I8,q⟩:=q;exact go I8 fun s4 I9=>⟨_,_,I9,q⟩
 |brk=>obtain⟨σ',I0,I8,q⟩:=q;exact go I8 fun s4 I9=>⟨_,_,I9,q⟩
 |cont=>obtain⟨σ',I0,I8,q⟩:=q;exact go I8 fun s4 I9=>⟨_,_,I9,q⟩
 |ret u=>obtain⟨v,σ',I0,I8,r,q⟩:=q;exact go I8 fun s4 I9=>⟨v,_,_,I9,r,q⟩
end NX
namespace NX
open PySem PySem.W PySem.Spec PyProof.Rows L2
section
variable{prog:Program}{w:World}{A:Around}{E:Value->Shared->Prop}{s:Shared}
end
section
variable{X:Cx}
end
end NX
namespace PV
open PySem L2 NX
inductive D where
 |non|bl (b:Bool)|int (i:Int)|str (l:List Nat)|tup (ds:List D)|lst (ds:List D)|dct (tk:Bool) (ks vs:List D)
inductive O where
 |f|l (c:O)|t (cs:List O)|d|pin (p:Addr) (c:O)
abbrev R:=O×D
abbrev Env:=List (Option R)
inductive Res(α:Type) where
 |ok (a:α)|exc (c:List Nat)|bad
def kD:Key->D
 | .inl i=>.int i
 | .inr x=>.str x.cps.toList
def isM:HO->Bool
 | .lst _=>true
 | .dK _=>true
 | .dT _=>true
 |_=>false
def isT:HO->Bool
 | .tup _=>true
 | .frz _ (.tup _)=>true
 |_=>false
def rW:Key->Prop
 | .inl _=>True
 | .inr x=>x.cps.toList.length<=sizeLine
def DictO(o:HO)(tk:Bool)(ks:List D)(xs:List V):Prop:=match tk with
 |true=>∃kvs:List (List Key×V),o=.dT kvs/\ks=kvs.map (fun kv=>D.tup (kv.1.map kD))/\xs=kvs.map (·.2)/\∀kv∈kvs,∀k∈kv.1,rW k
 |false=>∃kvs:List (Key×V),o=.dK kvs/\ks=kvs.map (fun kv=>kD kv.1)/\xs=kvs.map (·.2)/\∀kv∈kvs,rW kv.1
mutual
noncomputable def Rep(K:W.Frag)(G:Hp):D->V->Prop
 | .non,v=>v=.non
 | .bl b,v=>v=.bl b
 | .int i,v=>v=.int i
 | .str l,v=>v=.str (S l)/\l.length<=sizeLine
 | .tup ds,v=>∃p xs,v=.ref p/\G p=some (.tup xs)/\Reps K G ds xs
 | .lst ds,v=>∃p xs,v=.ref p/\SqL K G p xs/\Reps K G ds xs
 | .dct tk ks vs,v=>∃p xs o,v=.ref p/\Rd G p o/\DictO o tk ks xs/\Reps K G vs xs
noncomputable def Reps(K:W.Frag)(G:Hp):List D->List V->Prop
 |[],xs=>xs=[]
 |d::ds,xs=>∃y ys,xs=y::ys/\Rep K G d y/\Reps K G ds ys
end
def AllO(P:D->V->List Addr->Prop):List D->List V->List Addr->Prop
 |[],xs,fp=>xs=[]/\fp=[]
 |d::ds,xs,fp=>∃y ys a b,xs=y::ys/\fp=a++b/\P d y a/\AllO P ds ys b
mutual
noncomputable def RepO(K:W.Frag)(G H:Hp):O->D->V->List Addr->Prop
 | .f,d,v,fp=>Rep K G d v/\fp=[]
 | .l c,.lst ds,v,fp=>∃p xs Cg,v=.ref p/\H p=some (.lst xs)/\fp=p::Cg/\AllO (RepO K G H c) ds xs Cg
 | .t cs,.tup ds,v,fp=>∃p xs,v=.ref p/\G p=some (.tup xs)/\RepT K G H cs ds xs fp
 | .d,.dct tk ks vs,v,fp=>∃p xs o,v=.ref p/\H p=some o/\DictO o tk ks xs/\fp=[p]/\Reps K G vs xs
 | .pin p c,d,v,fp=>v=.ref p/\RepO K G H c d v fp
 |_,_,_,_=>False
noncomputable def RepT(K:W.Frag)(G H:Hp):List O->List D->List V->List Addr->Prop
 |[],[],xs,fp=>xs=[]/\fp=[]
 |c::cs,d::ds,xs,fp=>∃y ys a b,xs=y::ys/\fp=a++b/\RepO K G H c d y a/\RepT K G H cs ds ys b
 |_,_,_,_=>False
end
section
variable{K:W.Frag}{G G' H H':Hp}
theorem Rd.mono{p:Addr}{u:HO}(h:Same G G')(r:Rd G p u):Rd G' p u:=by
 rcases r with r|⟨o,r⟩
 ·exact .inl (h _ _ r)
 ·exact .inr ⟨o,h _ _ r⟩
theorem eF{p:Addr}{xs:List V}(h:Same G G')(r:SqL K G p xs):SqL K G' p xs:=r.elim (fun r=>.inl (Rd.mono h r)) .inr
theorem br{p:Addr}{xs:List V}(h:Same G G')(r:SqT K G p xs):SqT K G' p xs:=r.elim (fun r=>.inl (Rd.mono h r)) .inr
mutual
theorem Rep.mono(h:Same G G'):∀{d:D}{v:V},Rep K G d v->Rep K G' d v
 | .non,_,r=>by simpa only[Rep] using r
 | .bl _,_,r=>by simpa only[Rep] using r
 | .int _,_,r=>by simpa only[Rep] using r
 | .str _,_,r=>by simpa only[Rep] using r
 | .tup ds,_,r=>by
  simp only[Rep]at r ⊢;obtain⟨p,xs,e,q,rs⟩:=r;exact⟨p,xs,e,h _ _ q,Reps.mono h rs⟩
 | .lst ds,_,r=>by
  simp only[Rep]at r ⊢;obtain⟨p,xs,e,q,rs⟩:=r;exact⟨p,xs,e,eF h q,Reps.mono h rs⟩
 | .dct tk ks vs,_,r=>by
  simp only[Rep]at r ⊢;obtain⟨p,xs,o,e,q,dd,rs⟩:=r;exact⟨p,xs,o,e,Rd.mono h q,dd,Reps.mono h rs⟩
theorem Reps.mono(h:Same G G'):∀{ds:List D}{xs:List V},Reps K G ds xs->Reps K G' ds xs
 |[],_,r=>by simpa only[Reps] using r
 |d::ds,_,r=>by
  simp only[Reps]at r ⊢;obtain⟨y,ys,e,r1,r2⟩:=r;exact⟨y,ys,e,Rep.mono h r1,Reps.mono h r2⟩
end
theorem AllO.imp{P P':D->V->List Addr->Prop}:∀{ds:List D}{xs:List V}{fp:List Addr},(∀d v a,(∀p∈a,p∈fp)->P d v a->P' d v a)->AllO P ds xs fp->AllO P' ds xs fp
 |[],_,_,_,r=>r
 |d::ds,xs,fp,h,r=>by
  obtain⟨y,ys,a,b,e1,e2,p,q⟩:=r;subst e2;exact⟨y,ys,a,b,e1,rfl,h _ _ _ (fun p hp=>Np _ hp) p,AllO.imp (fun d v c hc=>h d v c fun p hp=>Na _ (hc p hp)) q⟩
mutual
theorem RepO.step(h:Same G G'):∀{o:O}{d:D}{v:V}{fp:List Addr},(∀p∈fp,H' p=H p)->RepO K G H o d v fp->RepO K G' H' o d v fp
 | .f,d,v,fp,hk,r=>by
  simp only[RepO]at r ⊢;exact⟨Rep.mono h r.1,r.2⟩
 | .pin p c,d,v,fp,hk,r=>by
  simp only[RepO]at r ⊢;exact⟨r.1,RepO.step h hk r.2⟩
 | .l c,.lst ds,v,fp,hk,r=>by
  simp only[RepO]at r ⊢;obtain⟨p,xs,Cg,e,q,e2,a⟩:=r;subst e2;exact⟨p,xs,Cg,e,(hk p M7).trans q,rfl,AllO.imp (fun d v c hc=>RepO.step h fun z hz=>hk z (Nj _ (hc z hz))) a⟩
 | .t cs,.tup ds,v,fp,hk,r=>by
  simp only[RepO]at r ⊢;obtain⟨p,xs,e,q,a⟩:=r;exact⟨p,xs,e,h _ _ q,RepT.step h hk a⟩
 | .d,.dct tk ks vs,v,fp,hk,r=>by
  simp only[RepO]at r ⊢;obtain⟨p,xs,o,e,q,dd,e2,rs⟩:=r;subst e2;exact⟨p,xs,o,e,(hk p M7).trans q,dd,rfl,Reps.mono h rs⟩
 | .l _,.non,_,_,_,r | .l _,.bl _,_,_,_,r | .l _,.int _,_,_,_,r | .l _,.str _,_,_,_,r | .l _,.tup _,_,_,_,r | .l _,.dct _ _ _,_,_,_,r=>by simp only[RepO]at r
 | .t _,.non,_,_,_,r | .t _,.bl _,_,_,_,r | .t _,.int _,_,_,_,r | .t _,.str _,_,_,_,r | .t _,.lst _,_,_,_,r | .t _,.dct _ _ _,_,_,_,r=>by simp only[RepO]at r
 | .d,.non,_,_,_,r | .d,.bl _,_,_,_,r | .d,.int _,_,_,_,r | .d,.str _,_,_,_,r | .d,.tup _,_,_,_,r | .d,.lst _,_,_,_,r=>by simp only[RepO]at r
theorem RepT.step(h:Same G G'):∀{cs:List O}{ds:List D}{xs:List V}{fp:List Addr},(∀p∈fp,H' p=H p)->RepT K G H cs ds xs fp->RepT K G' H' cs ds xs fp
 |[],[],_,_,_,r=>by simpa only[RepT] using r
 |c::cs,d::ds,xs,fp,hk,r=>by
  simp only[RepT]at r ⊢;obtain⟨y,ys,a,b,e1,e2,r1,r2⟩:=r;subst e2;exact⟨y,ys,a,b,e1,rfl,RepO.step h (fun p hp=>hk p (Np _ hp)) r1,RepT.step h (fun p hp=>hk p (Na _ hp)) r2⟩
 |[],_::_,_,_,_,r=>by simp only[RepT]at r
 |_::_,[],_,_,_,r=>by simp only[RepT]at r
end
theorem AllO.frozen{P:D->V->List Addr->Prop}:∀{ds:List D}{xs:List V}{fp:List Addr},(∀d v a,(∀p∈a,p∈fp)->P d v a->Rep K G' d v)->AllO P ds xs fp->Reps K G' ds xs
 |[],_,_,_,r=>by simp only[Reps];exact r.1
 |d::ds,xs,fp,h,r=>by
  obtain⟨y,ys,a,b,e1,e2,p,q⟩:=r;subst e2;simp only[Reps];exact⟨y,ys,e1,h _ _ _ (fun p hp=>Np _ hp) p,AllO.frozen (fun d v c hc=>h d v c fun p hp=>Na _ (hc p hp)) q⟩
mutual
theorem RepO.frozen(h:Same G G'):∀{o:O}{d:D}{v:V}{fp:List Addr},(∀p∈fp,∀u,H p=some u->G' p=some u)->RepO K G H o d v fp->Rep K G' d v
 | .f,d,v,fp,hk,r=>by
  simp only[RepO]at r;exact Rep.mono h r.1
 | .pin p c,d,v,fp,hk,r=>by
  simp only[RepO]at r;exact RepO.frozen h hk r.2
 | .l c,.lst ds,v,fp,hk,r=>by
  simp only[RepO]at r;simp only[Rep];obtain⟨p,xs,Cg,e,q,e2,a⟩:=r;subst e2;exact⟨p,xs,e,SqL.of (hk p M7 _ q),AllO.frozen (fun d v c hc=>RepO.frozen h fun z hz=>hk z (Nj _ (hc z hz))) a⟩
 | .t cs,.tup ds,v,fp,hk,r=>by
  simp only[RepO]at r;simp only[Rep];obtain⟨p,xs,e,q,a⟩:=r;exact⟨p,xs,e,h _ _ q,RepT.frozen h hk a⟩
 | .d,.dct tk ks vs,v,fp,hk,r=>by
  simp only[RepO]at r;simp only[Rep];obtain⟨p,xs,o,e,q,dd,e2,rs⟩:=r;subst e2;exact⟨p,xs,o,e,.inl (hk p M7 _ q),dd,Reps.mono h rs⟩
 | .l _,.non,_,_,_,r | .l _,.bl _,_,_,_,r | .l _,.int _,_,_,_,r | .l _,.str _,_,_,_,r | .l _,.tup _,_,_,_,r | .l _,.dct _ _ _,_,_,_,r=>by simp only[RepO]at r
 | .t _,.non,_,_,_,r | .t _,.bl _,_,_,_,r | .t _,.int _,_,_,_,r | .t _,.str _,_,_,_,r | .t _,.lst _,_,_,_,r | .t _,.dct _ _ _,_,_,_,r=>by simp only[RepO]at r
 | .d,.non,_,_,_,r | .d,.bl _,_,_,_,r | .d,.int _,_,_,_,r | .d,.str _,_,_,_,r | .d,.tup _,_,_,_,r | .d,.lst _,_,_,_,r=>by simp only[RepO]at r
theorem RepT.frozen(h:Same G G'):∀{cs:List O}{ds:List D}{xs:List V}{fp:List Addr},(∀p∈fp,∀u,H p=some u->G' p=some u)->RepT K G H cs ds xs fp->Reps K G' ds xs
 |[],[],_,_,_,r=>by simp only[RepT]at r;simp only[Reps];exact r.1
 |c::cs,d::ds,xs,fp,hk,r=>by
  simp only[RepT]at r;simp only[Reps];obtain⟨y,ys,a,b,e1,e2,r1,r2⟩:=r;subst e2;exact⟨y,ys,e1,RepO.frozen h (fun p hp=>hk p (Np _ hp)) r1,RepT.frozen h (fun p hp=>hk p (Na _ hp)) r2⟩
 |[],_::_,_,_,_,r=>by simp only[RepT]at r
 |_::_,[],_,_,_,r=>by simp only[RepT]at r
end
theorem AllO.live{P:D->V->List Addr->Prop}:∀{ds:List D}{xs:List V}{fp:List Addr},(∀d v a,P d v a->∀p∈a,∃u,H p=some u)->AllO P ds xs fp->∀p∈fp,∃u,H p=some u
 |[],_,_,_,r=>by rw[r.2];intro p hp;cases hp
 |d::ds,xs,fp,h,r=>by
  obtain⟨y,ys,a,b,e1,e2,p,q⟩:=r;subst e2;intro z hz;rcases Ny.mp hz with hz|hz
  ·exact h _ _ _ p z hz
  ·exact AllO.live h q z hz
mutual
theorem RepO.live:∀{o:O}{d:D}{v:V}{fp:List Addr},RepO K G H o d v fp->∀p∈fp,∃u,H p=some u
 | .f,d,v,fp,r=>by
  simp only[RepO]at r;rw[r.2];intro p hp;cases hp
 | .pin p c,d,v,fp,r=>by
  simp only[RepO]at r;exact RepO.live r.2
 | .l c,.lst ds,v,fp,r=>by
  simp only[RepO]at r;obtain⟨p,xs,Cg,e,q,e2,a⟩:=r;subst e2;intro z hz;rcases Ni.mp hz with rfl|hz
  ·exact⟨_,q⟩
  ·exact AllO.live (fun d v a=>RepO.live) a z hz
 | .t cs,.tup ds,v,fp,r=>by
  simp only[RepO]at r;obtain⟨p,xs,e,q,a⟩:=r;exact RepT.live a
 | .d,.dct tk ks vs,v,fp,r=>by
  simp only[RepO]at r;obtain⟨p,xs,o,e,q,dd,e2,rs⟩:=r;subst e2;intro z hz;rw[N0]at hz;exact⟨_,hz▸q⟩
 | .l _,.non,_,_,r | .l _,.bl _,_,_,r | .l _,.int _,_,_,r | .l _,.str _,_,_,r | .l _,.tup _,_,_,r | .l _,.dct _ _ _,_,_,r=>by simp only[RepO]at r
 | .t _,.non,_,_,r | .t _,.bl _,_,_,r | .t _,.int _,_,_,r | .t _,.str _,_,_,r | .t _,.lst _,_,_,r | .t _,.dct _ _ _,_,_,r=>by simp only[RepO]at r
 | .d,.non,_,_,r | .d,.bl _,_,_,r | .d,.int _,_,_,r | .d,.str _,_,_,r | .d,.tup _,_,_,r | .d,.lst _,_,_,r=>by simp only[RepO]at r
theorem RepT.live:∀{cs:List O}{ds:List D}{xs:List V}{fp:List Addr},RepT K G H cs ds xs fp->∀p∈fp,∃u,H p=some u
 |[],[],_,_,r=>by
  simp only[RepT]at r;rw[r.2];intro p hp;cases hp
 |c::cs,d::ds,xs,fp,r=>by
  simp only[RepT]at r;obtain⟨y,ys,a,b,e1,e2,r1,r2⟩:=r;subst e2;intro z hz;rcases Ny.mp hz with hz|hz
  ·exact RepO.live r1 z hz
  ·exact RepT.live r2 z hz
 |[],_::_,_,_,r=>by simp only[RepT]at r
 |_::_,[],_,_,r=>by simp only[RepT]at r
end
theorem DictO.isM{o:HO}{tk:Bool}{ks:List D}{xs:List V}(h:DictO o tk ks xs):PV.isM o=true:=by
 cases tk with
 |true=>
  obtain⟨kvs,e,_⟩:=h;rw[e];rfl
 |false=>
  obtain⟨kvs,e,_⟩:=h;rw[e];rfl
theorem AllO.mut{P:D->V->List Addr->Prop}:∀{ds:List D}{xs:List V}{fp:List Addr},(∀d v a,P d v a->∀p∈a,∃u,H p=some u/\isM u=true)->AllO P ds xs fp->∀p∈fp,∃u,H p=some u/\isM u=true
 |[],_,_,_,r=>by rw[r.2];intro p hp;cases hp
 |d::ds,xs,fp,h,r=>by
  obtain⟨y,ys,a,b,e1,e2,p,q⟩:=r;subst e2;intro z hz;rcases Ny.mp hz with hz|hz
  ·exact h _ _ _ p z hz
  ·exact AllO.mut h q z hz
mutual
theorem RepO.mut:∀{o:O}{d:D}{v:V}{fp:List Addr},RepO K G H o d v fp->∀p∈fp,∃u,H p=some u/\isM u=true
 | .f,d,v,fp,r=>by
  simp only[RepO]at r;rw[r.2];intro p hp;cases hp
 | .pin p c,d,v,fp,r=>by
  simp only[RepO]at r;exact RepO.mut r.2
 | .l c,.lst ds,v,fp,r=>by
  simp only[RepO]at r;obtain⟨p,xs,Cg,e,q,e2,a⟩:=r;subst e2;intro z hz;rcases Ni.mp hz with rfl|hz
  ·exact⟨_,q,rfl⟩
  ·exact AllO.mut (fun d v a=>RepO.mut) a z hz
 | .t cs,.tup ds,v,fp,r=>by
  simp only[RepO]at r;obtain⟨p,xs,e,q,a⟩:=r;exact RepT.mut a
 | .d,.dct tk ks vs,v,fp,r=>by
  simp only[RepO]at r;obtain⟨p,xs,o,e,q,dd,e2,rs⟩:=r;subst e2;intro z hz;rw[N0]at hz;exact⟨_,hz▸q,dd.isM⟩
 | .l _,.non,_,_,r | .l _,.bl _,_,_,r | .l _,.int _,_,_,r | .l _,.str _,_,_,r | .l _,.tup _,_,_,r | .l _,.dct _ _ _,_,_,r=>by simp only[RepO]at r
 | .t _,.non,_,_,r | .t _,.bl _,_,_,r | .t _,.int _,_,_,r | .t _,.str _,_,_,r | .t _,.lst _,_,_,r | .t _,.dct _ _ _,_,_,r=>by simp only[RepO]at r
 | .d,.non,_,_,r | .d,.bl _,_,_,r | .d,.int _,_,_,r | .d,.str _,_,_,r | .d,.tup _,_,_,r | .d,.lst _,_,_,r=>by simp only[RepO]at r
theorem RepT.mut:∀{cs:List O}{ds:List D}{xs:List V}{fp:List Addr},RepT K G H cs ds xs fp->∀p∈fp,∃u,H p=some u/\isM u=true
 |[],[],_,_,r=>by
  simp only[RepT]at r;rw[r.2];intro p hp;cases hp
 |c::cs,d::ds,xs,fp,r=>by
  simp only[RepT]at r;obtain⟨y,ys,a,b,e1,e2,r1,r2⟩:=r;subst e2;intro z hz;rcases Ny.mp hz with hz|hz
  ·exact RepO.mut r1 z hz
  ·exact RepT.mut r2 z hz
 |[],_::_,_,_,r=>by simp only[RepT]at r
 |_::_,[],_,_,r=>by simp only[RepT]at r
end
noncomputable def RepE(K:W.Frag)(G H:Hp):Env->List (Option V)->List Addr->Prop
 |[],vs,fp=>vs=[]/\fp=[]
 |e::es,vs,fp=>∃y ys,vs=y::ys/\match e with
  |none=>RepE K G H es ys fp
  |some r=>∃v a b,y=some v/\fp=a++b/\RepO K G H r.1 r.2 v a/\RepE K G H es ys b
theorem RepE.step(h:Same G G'):∀{es:Env}{vs:List (Option V)}{fp:List Addr},(∀p∈fp,H' p=H p)->RepE K G H es vs fp->RepE K G' H' es vs fp
 |[],_,_,_,r=>r
 |none::es,vs,fp,hk,r=>by
  obtain⟨y,ys,e,r⟩:=r;exact⟨y,ys,e,RepE.step h hk r⟩
 |some r::es,vs,fp,hk,q=>by
  obtain⟨y,ys,e,v,a,b,e1,e2,r1,r2⟩:=q;subst e2;exact⟨y,ys,e,v,a,b,e1,rfl,RepO.step h (fun p hp=>hk p (Np _ hp)) r1,RepE.step h (fun p hp=>hk p (Na _ hp)) r2⟩
theorem RepE.live:∀{es:Env}{vs:List (Option V)}{fp:List Addr},RepE K G H es vs fp->∀p∈fp,∃u,H p=some u
 |[],_,_,r=>by
  rw[r.2];intro p hp;cases hp
 |none::es,vs,fp,r=>by
  obtain⟨y,ys,e,r⟩:=r;exact RepE.live r
 |some r::es,vs,fp,q=>by
  obtain⟨y,ys,e,v,a,b,e1,e2,r1,r2⟩:=q;subst e2;intro z hz;rcases Ny.mp hz with hz|hz
  ·exact r1.live z hz
  ·exact RepE.live r2 z hz
theorem RepE.mut:∀{es:Env}{vs:List (Option V)}{fp:List Addr},RepE K G H es vs fp->∀p∈fp,∃u,H p=some u/\isM u=true
 |[],_,_,r=>by
  rw[r.2];intro p hp;cases hp
 |none::es,vs,fp,r=>by
  obtain⟨y,ys,e,r⟩:=r;exact RepE.mut r
 |some r::es,vs,fp,q=>by
  obtain⟨y,ys,e,v,a,b,e1,e2,r1,r2⟩:=q;subst e2;intro z hz;rcases Ny.mp hz with hz|hz
  ·exact r1.mut z hz
  ·exact RepE.mut r2 z hz
theorem RepE.length:∀{es:Env}{vs:List (Option V)}{fp:List Addr},RepE K G H es vs fp->vs.length=es.length
 |[],_,_,r=>by rw[r.1];rfl
 |none::es,vs,fp,r=>by
  obtain⟨y,ys,e,r⟩:=r;rw[e,Nq,Nq,RepE.length r]
 |some r::es,vs,fp,q=>by
  obtain⟨y,ys,e,v,a,b,e1,e2,r1,r2⟩:=q;rw[e,Nq,Nq,RepE.length r2]
theorem RepE.take:∀{es:Env}{vs:List (Option V)}{fp:List Addr}{i:Nat}{r:R},RepE K G H es vs fp->es[i]?=some (some r)->
  ∃v a b,vs[i]?=some (some v)/\RepO K G H r.1 r.2 v a/\RepE K G H (es.set i none) vs b/\fp.Perm (a++b)
 |[],_,_,_,_,_,e=>by simp at e
 |none::es,vs,fp,0,r,q,e=>by simp at e
 |some r'::es,vs,fp,0,r,q,e=>by
  obtain⟨y,ys,e0,v,a,b,e1,e2,r1,r2⟩:=q;simp at e;subst e;subst e0;subst e1;exact⟨v,a,b,rfl,r1,⟨some v,ys,rfl,r2⟩,by rw[e2]⟩
 |none::es,vs,fp,i+1,r,q,e=>by
  obtain⟨y,ys,e0,q⟩:=q;obtain⟨v,a,b,g1,g2,g3,g4⟩:=RepE.take q (i:=i) (r:=r) (by simpa using e);subst e0;exact⟨v,a,b,by simpa using g1,g2,⟨y,ys,rfl,g3⟩,g4⟩
 |some r'::es,vs,fp,i+1,r,q,e=>by
  obtain⟨y,ys,e0,v',a',b',e1,e2,r1,r2⟩:=q;obtain⟨v,a,b,g1,g2,g3,g4⟩:=RepE.take r2 (i:=i) (r:=r) (by simpa using e);subst e0;refine⟨v,a,a'++b,by simpa using g1,g2,⟨y,ys,rfl,v',a',b,e1,rfl,r1,g3⟩,?_⟩;rw[e2];refine(Qy a' g4).trans ?_;rw[<-Oa,<-Oa];exact Qn b Qz
theorem RepE.put:∀{es:Env}{vs:List (Option V)}{b:List Addr}{i:Nat}{r:R}{v:V}{a:List Addr},RepE K G H es vs b->es[i]?=some none->RepO K G H r.1 r.2 v a->
  ∃fp,RepE K G H (es.set i (some r)) (vs.set i (some v)) fp/\fp.Perm (a++b)
 |[],_,_,_,_,_,_,_,e,_=>by simp at e
 |none::es,vs,b,0,r,v,a,q,e,ro=>by
  obtain⟨y,ys,e0,q⟩:=q;subst e0;exact⟨a++b,⟨some v,ys,rfl,v,a,b,rfl,rfl,ro,q⟩,.refl _⟩
 |some r'::es,vs,b,0,r,v,a,q,e,ro=>by simp at e
 |none::es,vs,b,i+1,r,v,a,q,e,ro=>by
  obtain⟨y,ys,e0,q⟩:=q;obtain⟨fp,g1,g2⟩:=RepE.put q (i:=i) (r:=r) (by simpa using e) ro;subst e0;exact⟨fp,⟨y,_,rfl,g1⟩,g2⟩
 |some r'::es,vs,b,i+1,r,v,a,q,e,ro=>by
  obtain⟨y,ys,e0,v',a',b',e1,e2,r1,r2⟩:=q;obtain⟨fp,g1,g2⟩:=RepE.put r2 (i:=i) (r:=r) (by simpa using e) ro;subst e0;refine⟨a'++fp,⟨y,_,rfl,v',a',fp,e1,rfl,r1,g1⟩,?_⟩;rw[e2];refine(Qy a' g2).trans ?_;rw[<-Oa,<-Oa];exact Qn b' Qz
theorem RepE.any:∀{es:Env}{vs:List (Option V)}{fp:List Addr}{i:Nat}{y:Option V},RepE K G H es vs fp->(es[i]?=some none\/es.length<=i)->RepE K G H es (vs.set i y) fp
 |[],_,_,_,_,q,_=>by
  rw[q.1,q.2];exact⟨rfl,rfl⟩
 |none::es,vs,fp,0,y,q,e=>by
  obtain⟨y',ys,e0,q⟩:=q;subst e0;exact⟨y,ys,rfl,q⟩
 |some r'::es,vs,fp,0,y,q,e=>by simp at e
 |none::es,vs,fp,i+1,y,q,e=>by
  obtain⟨y',ys,e0,q⟩:=q;subst e0;exact⟨y',ys.set i y,rfl,RepE.any q (by simpa using e)⟩
 |some r'::es,vs,fp,i+1,y,q,e=>by
  obtain⟨y',ys,e0,v',a',b',e1,e2,r1,r2⟩:=q;subst e0;exact⟨y',ys.set i y,rfl,v',a',b',e1,e2,r1,RepE.any r2 (by simpa using e)⟩
structure Rel(K:W.Frag)(G H:Hp)(es:Env)(vs:List (Option V))(fp:List Addr):Prop where
 rep:RepE K G H es vs fp
 nd:fp.Nodup
 gn:∀p∈fp,G p=none
 gh:Same G H
structure Step(G H:Hp)(fp:List Addr)(G' H':Hp)(Cg:List Addr):Prop where
 gg:Same G G'
 keep:∀q u,H q=some u->q∉fp->H' q=some u
 fpn:∀q∈Cg,q∈fp\/H q=none
 gnew:∀q u,G' q=some u->G q=some u\/q∈fp\/H q=none\/isT u=true/\H q=some u
 there:∀q u,H q=some u->∃u',H' q=some u'
theorem Step.refl{fp:List Addr}:Step G H fp G H fp:=⟨.refl _,fun _ _ h _=>h,fun _ h=>.inl h,fun _ _ h=>.inl h,fun _ u h=>⟨u,h⟩⟩
theorem Step.trans{G1 H1 G2 H2:Hp}{fp Cy C0:List Addr}(a:Step G H fp G1 H1 Cy)(b:Step G1 H1 Cy G2 H2 C0):Step G H fp G2 H2 C0:=by
 refine⟨a.gg.trans b.gg,fun q u h n=>?_,fun q hq=>?_,fun q u hq=>?_,fun q u h=>?_⟩
 ·refine b.keep q u (a.keep q u h n) fun hq=>?_
  rcases a.fpn q hq with z|z
  ·exact n z
  ·rw[z]at h;cases h
 ·rcases b.fpn q hq with z|z
  ·exact a.fpn q z
  ·cases e:H q with
   |none=>exact .inr rfl
   |some u=>
    obtain⟨u',e'⟩:=a.there q u e;rw[z]at e';cases e'
 ·rcases b.gnew q u hq with z|z|z|⟨t,z⟩
  ·exact a.gnew q u z
  ·exact .inr ((a.fpn q z).imp_right .inl)
  ·cases e:H q with
   |none=>exact .inr (.inr (.inl rfl))
   |some u=>
    obtain⟨u',e'⟩:=a.there q u e;rw[z]at e';cases e'
  ·cases e:H q with
   |none=>exact .inr (.inr (.inl rfl))
   |some u2=>
    by_cases hf:q∈fp
    ·exact .inr (.inl hf)
    ·rw[a.keep q u2 e hf]at z;cases z;exact .inr (.inr (.inr ⟨t,rfl⟩))
 ·obtain⟨u',h'⟩:=a.there q u h;exact b.there q u' h'
theorem Step.wide{fp fq Cg MC:List Addr}(a:Step G H fp G' H' Cg)(h:∀q∈fp,q∈fq)(h':∀q∈MC,q∈Cg\/q∈fq):Step G H fq G' H' MC:=
 ⟨a.gg,fun q u e n=>a.keep q u e fun z=>n (h q z),fun q hq=>(h' q hq).elim (fun z=>(a.fpn q z).imp_left (h q)) .inl,fun q u e=>(a.gnew q u e).imp_right (Or.imp_left (h q)),a.there⟩
theorem Rel.perm{es:Env}{vs:List (Option V)}{fp fq:List Addr}(r:RepE K G H es vs fq)(nd:fp.Nodup)(gn:∀p∈fp,G p=none)(gh:Same G H)(h:fp.Perm fq):Rel K G H es vs fq:=
 ⟨r,h.nodup_iff.mp nd,fun p hp=>gn p (h.mem_iff.mpr hp),gh⟩
theorem Rel.frame{r:R}{v:V}{es:Env}{vs:List (Option V)}{fp:List Addr}(q:Rel K G H (some r::es) (some v::vs) fp):
  ∃a b,fp=a++b/\RepO K G H r.1 r.2 v a/\Rel K G H es vs b/\∀(G' H':Hp) (ID:Env) (JL:List (Option V)) (b':List Addr),Step G H b G' H' b'->Rel K G' H' ID JL b'->
   Rel K G' H' (some r::ID) (some v::JL) (a++b')/\Step G H (a++b) G' H' (a++b'):=by
 obtain⟨y,ys,e,v',a,b,e1,e2,r1,r2⟩:=q.rep;cases e;cases e1;subst e2;have nd:=NO.mp q.nd;refine⟨a,b,rfl,r1,⟨r2,nd.2.1,fun p hp=>q.gn p (Na _ hp),q.gh⟩,fun G' H' ID JL b' st k=>?_⟩;have nb:∀p∈a,p∉b:=fun p hp hb=>nd.2.2 p hp p hb rfl
 have same:∀p∈a,H' p=H p:=fun p hp=>by
  obtain⟨u,hu⟩:=r1.live p hp;rw[hu];exact st.keep p u hu (nb p hp)
 refine⟨⟨⟨some v,JL,rfl,v,a,b',rfl,rfl,r1.step st.gg same,k.rep⟩,?_,fun p hp=>?_,k.gh⟩,st.wide (fun p hp=>Na _ hp) fun p hp=>?_⟩
 ·rw[NO];refine⟨nd.1,k.nd,fun p hp z hz e=>?_⟩;subst e;obtain⟨u,hu⟩:=r1.live p hp;rcases st.fpn p hz with z|z
  ·exact nb p hp z
  ·rw[z]at hu;cases hu
 ·rcases Ny.mp hp with hp|hp
  ·cases e:G' p with
   |none=>rfl
   |some u=>
    exfalso;obtain⟨u',hu⟩:=r1.live p hp;rcases st.gnew p u e with z|z|z|⟨t,z⟩
    ·rw[q.gn p (Np _ hp)]at z;cases z
    ·exact nb p hp z
    ·rw[z]at hu;cases hu
    ·obtain⟨u2,h2,hm⟩:=r1.mut p hp;rw[z]at h2;cases h2;cases u with
     |tup _=>cases hm
     |frz _ _=>cases hm
     |_=>cases t
  ·exact k.gn p hp
 ·rcases Ny.mp hp with hp|hp
  ·exact .inr (Np _ hp)
  ·exact .inl hp
theorem Rel.freeze{r:R}{v:V}{es:Env}{vs:List (Option V)}{fp:List Addr}(q:Rel K G H (some r::es) (some v::vs) fp):
  ∃G' b,Rep K G' r.2 v/\Rel K G' H es vs b/\Step G H fp G' H b:=by
 obtain⟨y,ys,e,v',a,b,e1,e2,r1,r2⟩:=q.rep;cases e;cases e1;subst e2;have nd:=NO.mp q.nd;have nb:∀p∈a,p∉b:=fun p hp hb=>nd.2.2 p hp p hb rfl
 have hg:Same G (fun p=>if p∈a then H p else G p):=fun p u e=>by
  show(if p∈a then H p else G p)=some u;by_cases hp:p∈a
  ·rw[Nc hp];exact q.gh p u e
  ·rw[Ng hp];exact e
 refine⟨fun p=>if p∈a then H p else G p,b,r1.frozen hg fun p hp u e=>?_,⟨r2.step hg fun _ _=>rfl,nd.2.1,fun p hp=>?_,fun p u e=>?_⟩,⟨hg,fun _ _ e _=>e,fun p hp=>.inl (Na _ hp),fun p u e=>?_,fun _ u e=>⟨u,e⟩⟩⟩
 ·show(if p∈a then H p else G p)=some u;rw[Nc hp];exact e
 ·show(if p∈a then H p else G p)=none;rw[Ng (fun z=>nb p z hp)];exact q.gn p (Na _ hp)
 ·have e:(if p∈a then H p else G p)=some u:=e;by_cases hp:p∈a
  ·rw[Nc hp]at e;exact e
  ·rw[Ng hp]at e;exact q.gh p u e
 ·have e:(if p∈a then H p else G p)=some u:=e;by_cases hp:p∈a
  ·exact .inr (.inl (Np _ hp))
  ·rw[Ng hp]at e;exact .inl e
end
section
variable{K:W.Frag}{G G' H H':Hp}{es:Env}{vs:List (Option V)}{fp:List Addr}
theorem mC:∀{ds:List D}{xs:List V}{fp:List Addr},AllO (RepO K G H .f) ds xs fp<->Reps K G ds xs/\fp=[]
 |[],xs,fp=>by simp only[AllO,Reps]
 |d::ds,xs,fp=>by
  simp only[AllO,Reps,RepO];constructor
  ·rintro⟨y,ys,a,b,e1,e2,⟨r,e3⟩,q⟩;obtain⟨q1,q2⟩:=mC.mp q;subst e3;subst q2;exact⟨⟨y,ys,e1,r,q1⟩,e2⟩
  ·rintro⟨⟨y,ys,e1,r,q1⟩,e⟩;exact⟨y,ys,[],[],e1,e,⟨r,rfl⟩,mC.mpr ⟨q1,rfl⟩⟩
theorem h8{d:D}{v:V}{a:List Addr}:RepO K G H .f d v a<->Rep K G d v/\a=[]:=by simp only[RepO]
theorem jE{ds:List D}{v:V}{a:List Addr}:RepO K G H (.l .f) (.lst ds) v a<->∃p xs,v=.ref p/\H p=some (.lst xs)/\a=[p]/\Reps K G ds xs:=by
 rw[RepO];constructor
 ·rintro⟨p,xs,b,e,q,e2,r⟩;obtain⟨r',eb⟩:=mC.mp r;subst eb;exact⟨p,xs,e,q,e2,r'⟩
 ·rintro⟨p,xs,e,q,e2,r⟩;exact⟨p,xs,[],e,q,e2,mC.mpr ⟨r,rfl⟩⟩
theorem Reps.length:∀{ds:List D}{xs:List V},Reps K G ds xs->xs.length=ds.length
 |[],xs,r=>by simp only[Reps]at r;rw[r];rfl
 |d::ds,xs,r=>by
  simp only[Reps]at r;obtain⟨y,ys,e,_,q⟩:=r;rw[e,Nq,Nq,Reps.length q]
theorem Reps.get:∀{ds:List D}{xs:List V}{i:Nat}{d:D},Reps K G ds xs->ds[i]?=some d->∃v,xs[i]?=some v/\Rep K G d v
 |[],_,_,_,_,e=>by simp at e
 |d'::ds,xs,0,d,r,e=>by
  simp only[Reps]at r;obtain⟨y,ys,e1,q,_⟩:=r;simp at e;subst e;exact⟨y,by rw[e1];rfl,q⟩
 |d'::ds,xs,i+1,d,r,e=>by
  simp only[Reps]at r;obtain⟨y,ys,e1,_,q⟩:=r;obtain⟨v,a,b⟩:=Reps.get q (i:=i) (d:=d) (by simpa using e);exact⟨v,by rw[e1];simpa using a,b⟩
theorem Reps.app:∀{ds es:List D}{xs ys:List V},Reps K G ds xs->Reps K G es ys->Reps K G (ds++es) (xs++ys)
 |[],_,_,_,r,q=>by simp only[Reps]at r;rw[r];exact q
 |d::ds,es,xs,ys,r,q=>by
  simp only[Reps]at r;obtain⟨z,zs,e,r1,r2⟩:=r;rw[e];simp only[List.cons_append,Reps];exact⟨z,_,rfl,r1,r2.app q⟩
theorem Reps.one{d:D}{v:V}(r:Rep K G d v):Reps K G [d] [v]:=by
 simp only[Reps];exact⟨v,[],rfl,r,rfl⟩
theorem Reps.nil:Reps K G [] []:=by simp only[Reps]
theorem Reps.cons{d:D}{v:V}{ds:List D}{xs:List V}(r:Rep K G d v)(q:Reps K G ds xs):Reps K G (d::ds) (v::xs):=by
 simp only[Reps];exact⟨v,xs,rfl,r,q⟩
theorem Reps.cons_iff{d:D}{v:V}{ds:List D}{xs:List V}:Reps K G (d::ds) (v::xs)<->Rep K G d v/\Reps K G ds xs:=by
 simp only[Reps];constructor
 ·rintro⟨y,ys,e,r,q⟩;cases e;exact⟨r,q⟩
 ·rintro⟨r,q⟩;exact⟨v,xs,rfl,r,q⟩
theorem Reps.take:∀{ds:List D}{xs:List V}(n:Nat),Reps K G ds xs->Reps K G (ds.take n) (xs.take n)
 |_,_,0,_=>by rw[List.take_zero,List.take_zero];exact Reps.nil
 |[],xs,n+1,r=>by simp only[Reps]at r;rw[r];exact Reps.nil
 |d::ds,xs,n+1,r=>by
  simp only[Reps]at r;obtain⟨y,ys,e,r1,r2⟩:=r;rw[e,Q0,Q0];exact .cons r1 (r2.take n)
theorem Reps.drop:∀{ds:List D}{xs:List V}(n:Nat),Reps K G ds xs->Reps K G (ds.drop n) (xs.drop n)
 |_,_,0,r=>r
 |[],xs,n+1,r=>by simp only[Reps]at r;rw[r];exact Reps.nil
 |d::ds,xs,n+1,r=>by
  simp only[Reps]at r;obtain⟨y,ys,e,r1,r2⟩:=r;rw[e,Q1,Q1];exact r2.drop n
theorem Reps.set:∀{ds:List D}{xs:List V}(n:Nat) {d:D}{v:V},Reps K G ds xs->Rep K G d v->Reps K G (ds.set n d) (xs.set n v)
 |[],xs,n,d,v,r,q=>by simp only[Reps]at r;rw[r];exact Reps.nil
 |d'::ds,xs,0,d,v,r,q=>by
  simp only[Reps]at r;obtain⟨y,ys,e,r1,r2⟩:=r;rw[e];exact .cons q r2
 |d'::ds,xs,n+1,d,v,r,q=>by
  simp only[Reps]at r;obtain⟨y,ys,e,r1,r2⟩:=r;rw[e];exact .cons r1 (r2.set n q)
theorem Step.cut{fq:List Addr}(h:∀q∈fq,q∈fp):Step G H fp G H fq:=⟨.refl _,fun _ _ e _=>e,fun q hq=>.inl (h q hq),fun _ _ e=>.inl e,fun _ u e=>⟨u,e⟩⟩
theorem Rel.drop{r:R}{y:Option V}(q:Rel K G H (some r::es) (y::vs) fp):∃b,Rel K G H es vs b/\Step G H fp G H b:=by
 obtain⟨y,ys,e,v',a,b,e1,e2,r1,r2⟩:=q.rep;cases e;cases e1;subst e2;have nd:=NO.mp q.nd;exact⟨b,⟨r2,nd.2.1,fun p hp=>q.gn p (Na _ hp),q.gh⟩,Step.cut fun p hp=>Na _ hp⟩
theorem Rel.top{r:R}{v:V}(q:Rel K G H (some r::es) (some v::vs) fp):Rep K H r.2 v:=by
 obtain⟨y,ys,e,v',a,b,e1,e2,r1,r2⟩:=q.rep;cases e;cases e1;exact r1.frozen q.gh fun p hp u e=>e
theorem Rel.out{i:Nat}{r:R}(q:Rel K G H es vs fp)(e:es[i]?=some (some r)):∃v fq,vs[i]?=some (some v)/\Rel K G H (some r::es.set i none) (some v::vs) fq/\Step G H fp G H fq/\Step G H fq G H fp:=by
 obtain⟨v,a,b,e1,r1,r2,pm⟩:=q.rep.take e;exact⟨v,a++b,e1,Rel.perm ⟨some v,vs,rfl,v,a,b,rfl,rfl,r1,r2⟩ q.nd q.gn q.gh pm,Step.cut fun p hp=>pm.mem_iff.mpr hp,Step.cut fun p hp=>pm.mem_iff.mp hp⟩
theorem Rel.view{i:Nat}{r:R}(q:Rel K G H es vs fp)(e:es[i]?=some (some r)):∃v,vs[i]?=some (some v)/\Rep K H r.2 v:=by
 obtain⟨v,fq,e1,r1,_⟩:=q.out e;exact⟨v,e1,r1.top⟩
theorem jF{α:Type}{l:List α}{i:Nat}{x:α}(h:l[i]?=some x):l.set i x=l:=by
 apply Pa;intro j;by_cases e:i=j
 ·subst e;rw[List.getElem?_set_self (List.getElem?_eq_some_iff.mp h).1,h]
 ·rw[List.getElem?_set_ne e]
theorem Rel.store{i:Nat}{r:R}{v:V}(q:Rel K G H (some r::es) (some v::vs) fp)(hi:i<es.length):∃fq,Rel K G H (es.set i (some r)) (vs.set i (some v)) fq/\Step G H fp G H fq:=by
 obtain⟨y,ys,e,v',a,b,e1,e2,r1,r2⟩:=q.rep;cases e;cases e1;subst e2;obtain⟨c,hc⟩:∃c,es[i]?=some c:=⟨_,List.getElem?_eq_getElem hi⟩
 have nd:=NO.mp q.nd;have key:∃b',RepE K G H (es.set i none) vs b'/\(∀p∈b',p∈b)/\b'.Nodup:=by
  cases c with
  |none=>exact⟨b,by rw[jF hc];exact r2,fun _ h=>h,nd.2.1⟩
  |some r'=>
   obtain⟨v2,a2,b2,_,_,g,pm⟩:=r2.take hc;refine⟨b2,g,fun p hp=>pm.mem_iff.mpr (Na _ hp),?_⟩;exact(NO.mp (pm.nodup_iff.mp nd.2.1)).2.1
 obtain⟨b',g,sub,ndb⟩:=key;obtain⟨fq,g2,pm⟩:=g.put (i:=i) (r:=r) (v:=v) (by rw[List.getElem?_set_self hi]) r1;rw[QA]at g2;have Kk:(a++b').Nodup:=by
  rw[NO];exact⟨nd.1,ndb,fun p hp z hz=>nd.2.2 p hp z (sub z hz)⟩
 refine⟨fq,Rel.perm g2 Kk (fun p hp=>?_) q.gh pm.symm,Step.cut fun p hp=>?_⟩
 ·refine q.gn p ?_;rcases Ny.mp hp with hp|hp
  ·exact Np _ hp
  ·exact Na _ (sub p hp)
 ·rcases Ny.mp (pm.mem_iff.mp hp) with hp|hp
  ·exact Np _ hp
  ·exact Na _ (sub p hp)
theorem Rel.back{i:Nat}{r:R}{v:V}(q:Rel K G H (some r::es) (some v::vs) fp)(hi:i<es.length)(hv:vs[i]?=some (some v)):∃fq,Rel K G H (es.set i (some r)) vs fq/\Step G H fp G H fq:=by
 obtain⟨fq,g,st⟩:=q.store hi;rw[jF hv]at g;exact⟨fq,g,st⟩
theorem Rel.any{i:Nat}{y:Option V}(q:Rel K G H es vs fp)(h:es[i]?=some none\/es.length<=i):Rel K G H es (vs.set i y) fp:=⟨q.rep.any h,q.nd,q.gn,q.gh⟩
theorem Rel.freezeAt{i:Nat}{r:R}(q:Rel K G H es vs fp)(e:es[i]?=some (some r)):∃v G' fq,vs[i]?=some (some v)/\Rep K G' r.2 v/\Rel K G' H (es.set i (some (.f,r.2))) vs fq/\Step G H fp G' H fq:=by
 obtain⟨v,fq,ev,g,st,_⟩:=q.out e;obtain⟨G',b,rv,g2,Cj⟩:=g.freeze;have g3:Rel K G' H (some (.f,r.2)::es.set i none) (some v::vs) b:=by
  refine⟨⟨some v,vs,rfl,v,[],b,rfl,rfl,?_,g2.rep⟩,g2.nd,g2.gn,g2.gh⟩;exact h8.mpr ⟨rv,rfl⟩
 obtain⟨fz,g4,D6⟩:=g3.back (i:=i) (by rw[OD];exact(List.getElem?_eq_some_iff.mp e).1) ev;rw[QA]at g4;exact⟨v,G',fz,ev,rv,g4,st.trans (Cj.trans D6)⟩
theorem Rel.push{d:D}{v:V}(q:Rel K G H es vs fp)(r:Rep K G d v):Rel K G H (some (.f,d)::es) (some v::vs) fp:=by
 refine⟨⟨some v,vs,rfl,v,[],fp,rfl,rfl,?_,q.rep⟩,q.nd,q.gn,q.gh⟩;exact h8.mpr ⟨r,rfl⟩
theorem Rel.newF{p:Addr}{u:HO}(q:Rel K G H es vs fp)(hp:H p=none):Rel K (upd G p u) (upd H p u) es vs fp/\Step G H fp (upd G p u) (upd H p u) fp:=by
 have gp:G p=none:=by
  cases e:G p with
  |none=>rfl
  |some o=>rw[q.gh p o e]at hp;cases hp
 have np:p∉fp:=fun z=>by
  obtain⟨u,e⟩:=q.rep.live p z;rw[hp]at e;cases e
 have sg:Same G (upd G p u):=fun b o e=>by rw[aA (aI e gp)];exact e
 have sh:Same H (upd H p u):=fun b o e=>by rw[aA (aI e hp)];exact e
 refine⟨⟨q.rep.step sg fun z hz=>aA fun e=>np (e▸hz),q.nd,fun z hz=>?_,fun b o e=>?_⟩,⟨sg,fun b o e _=>sh b o e,fun _ h=>.inl h,fun b o e=>?_,fun b o e=>⟨o,sh b o e⟩⟩⟩
 ·have:z≠p:=fun e=>np (e▸hz)
  rw[aA this];exact q.gn z hz
 ·by_cases hb:b=p
  ·subst hb;rw[bg]at e ⊢;exact e
  ·rw[aA hb]at e ⊢;exact q.gh b o e
 ·by_cases hb:b=p
  ·subst hb;exact .inr (.inr (.inl hp))
  ·rw[aA hb]at e;exact .inl e
theorem Rel.newL{p:Addr}{ds:List D}{xs:List V}(q:Rel K G H es vs fp)(hp:H p=none)(r:Reps K G ds xs):
  Rel K G (upd H p (.lst xs)) (some (.l .f,.lst ds)::es) (some (.ref p)::vs) (p::fp)/\Step G H fp G (upd H p (.lst xs)) (p::fp):=by
 have gp:G p=none:=by
  cases e:G p with
  |none=>rfl
  |some o=>rw[q.gh p o e]at hp;cases hp
 have np:p∉fp:=fun z=>by
  obtain⟨u,e⟩:=q.rep.live p z;rw[hp]at e;cases e
 have sh:Same H (upd H p (.lst xs)):=fun b o e=>by rw[aA (aI e hp)];exact e
 refine⟨⟨⟨some (.ref p),vs,rfl,.ref p,[p],fp,rfl,rfl,jE.mpr ⟨p,xs,rfl,bg,rfl,r⟩,q.rep.step (.refl _) fun z hz=>aA fun e=>np (e▸hz)⟩,Oh.mpr ⟨np,q.nd⟩,fun z hz=>?_,fun b o e=>?_⟩,
  ⟨.refl _,fun b o e _=>sh b o e,fun b hb=>?_,fun b o e=>.inl e,fun b o e=>⟨o,sh b o e⟩⟩⟩
 ·rcases Ni.mp hz with rfl|hz
  ·exact gp
  ·exact q.gn z hz
 ·exact sh b o (q.gh b o e)
 ·rcases Ni.mp hb with rfl|hb
  ·exact .inr hp
  ·exact .inl hb
theorem Rel.chg{i:Nat}{ds ds':List D}(q:Rel K G H es vs fp)(e:es[i]?=some (some (.l .f,.lst ds))):∃p xs,vs[i]?=some (some (.ref p))/\H p=some (.lst xs)/\Reps K G ds xs/\
  ∀DY,Reps K G ds' DY->∃fq,Rel K G (upd H p (.lst DY)) (es.set i (some (.l .f,.lst ds'))) vs fq/\Step G H fp G (upd H p (.lst DY)) fq:=by
 obtain⟨v,fq,ev,g,st,E6⟩:=q.out e;obtain⟨y,ys,e0,v',a,b,e1,e2,r1,r2⟩:=g.rep;cases e0;cases e1;obtain⟨p,xs,e3,hp,e4,rs⟩:=jE.mp r1;subst e3;subst e4;subst e2;have nd:=Oh.mp (show(p::b).Nodup from g.nd);refine⟨p,xs,ev,hp,rs,fun DY Ee=>?_⟩;have g2:Rel K G (upd H p (.lst DY)) (some (.l .f,.lst ds')::es.set i none) (some (.ref p)::vs) (p::b):=by
  refine⟨⟨some (.ref p),vs,rfl,.ref p,[p],b,rfl,rfl,jE.mpr ⟨p,DY,rfl,bg,rfl,Ee⟩,r2.step (.refl _) fun z hz=>aA fun e=>nd.1 (e▸hz)⟩,g.nd,g.gn,fun z o ez=>?_⟩;have:z≠p:=fun w=>by
   subst w;rw[g.gn z M7]at ez;cases ez
  rw[aA this];exact g.gh z o ez
 have L7:Step G H (p::b) G (upd H p (.lst DY)) (p::b):=by
  refine⟨.refl _,fun z o ez nz=>?_,fun z hz=>.inl hz,fun z o ez=>.inl ez,fun z o ez=>?_⟩
  ·have:z≠p:=fun w=>nz (by rw[w];exact M7)
   rw[aA this];exact ez
  ·by_cases w:z=p
   ·subst w;exact⟨_,bg⟩
   ·exact⟨o,by rw[aA w];exact ez⟩
 obtain⟨fz,g3,CV⟩:=g2.back (i:=i) (by rw[OD];exact(List.getElem?_eq_some_iff.mp e).1) ev;rw[QA]at g3;exact⟨fz,g3,st.trans (L7.trans CV)⟩
end
mutual
noncomputable def df:D->Bool
 | .tup ds=>flatDs ds
 | .lst _=>false
 | .dct _ _ _=>false
 |_=>true
noncomputable def flatDs:List D->Bool
 |[]=>true
 |d::ds=>df d&&flatDs ds
end
mutual
noncomputable def bT:O->D->Bool
 | .f,d=>df d
 | .l c,.lst ds=>ds.all (bT c)
 | .t cs,.tup ds=>mD cs ds
 | .d,.dct _ _ vs=>flatDs vs
 | .pin _ c,d=>bT c d
 |_,_=>false
noncomputable def mD:List O->List D->Bool
 |[],[]=>true
 |c::cs,d::ds=>bT c d&&mD cs ds
 |_,_=>false
end
def frz:Option R->Option R:=Option.map fun r=>(.f,r.2)
theorem dn:∀ds,flatDs ds=ds.all df
 |[]=>rfl
 |d::ds=>by rw[flatDs,Pt,dn ds]
section
variable{K:W.Frag}{G G' G2 G3 H H' H2:Hp}{es:Env}{vs:List (Option V)}{fp:List Addr}
mutual
theorem Rep.flat(h:∀p u,isT u=true->G2 p=some u->G3 p=some u):∀{d:D}{v:V},df d=true->Rep K G2 d v->Rep K G3 d v
 | .non,_,_,r=>by simpa only[Rep] using r
 | .bl _,_,_,r=>by simpa only[Rep] using r
 | .int _,_,_,r=>by simpa only[Rep] using r
 | .str _,_,_,r=>by simpa only[Rep] using r
 | .tup ds,_,e,r=>by
  simp only[Rep]at r ⊢;simp only[df]at e;obtain⟨p,xs,ev,q,rs⟩:=r;exact⟨p,xs,ev,h _ _ rfl q,Reps.flat h e rs⟩
 | .lst ds,_,e,r=>by simp only[df]at e;cases e
 | .dct _ _ _,_,e,r=>by simp only[df]at e;cases e
theorem Reps.flat(h:∀p u,isT u=true->G2 p=some u->G3 p=some u):∀{ds:List D}{xs:List V},flatDs ds=true->Reps K G2 ds xs->Reps K G3 ds xs
 |[],_,_,r=>by simpa only[Reps] using r
 |d::ds,_,e,r=>by
  simp only[Reps]at r ⊢;simp only[flatDs,Nf]at e;obtain⟨y,ys,ev,r1,r2⟩:=r;exact⟨y,ys,ev,Rep.flat h e.1 r1,Reps.flat h e.2 r2⟩
end
theorem AllO.clean{P P':D->V->List Addr->Prop}{c:D->Bool}:∀{ds:List D}{xs:List V}{fp:List Addr},(∀d v a,c d=true->P d v a->P' d v a)->ds.all c=true->AllO P ds xs fp->AllO P' ds xs fp
 |[],_,_,_,_,r=>r
 |d::ds,xs,fp,h,e,r=>by
  obtain⟨y,ys,a,b,e1,e2,p,q⟩:=r;rw[Pt,Nf]at e;exact⟨y,ys,a,b,e1,e2,h _ _ _ e.1 p,AllO.clean h e.2 q⟩
mutual
theorem RepO.clean(h:∀p u,isT u=true->G2 p=some u->G3 p=some u):∀{o:O}{d:D}{v:V}{fp:List Addr},bT o d=true->RepO K G2 H o d v fp->RepO K G3 H o d v fp
 | .f,d,v,fp,e,r=>by
  simp only[RepO]at r ⊢;simp only[bT]at e;exact⟨r.1.flat h e,r.2⟩
 | .pin p c,d,v,fp,e,r=>by
  simp only[RepO]at r ⊢;simp only[bT]at e;exact⟨r.1,RepO.clean h e r.2⟩
 | .l c,.lst ds,v,fp,e,r=>by
  rw[RepO]at r ⊢;rw[bT]at e;obtain⟨p,xs,Cg,ev,q,e2,a⟩:=r;exact⟨p,xs,Cg,ev,q,e2,AllO.clean (fun d v a=>RepO.clean h) e a⟩
 | .t cs,.tup ds,v,fp,e,r=>by
  rw[RepO]at r ⊢;rw[bT]at e;obtain⟨p,xs,ev,q,a⟩:=r;exact⟨p,xs,ev,h _ _ rfl q,RepT.clean h e a⟩
 | .d,.dct tk ks vs,v,fp,e,r=>by
  rw[RepO]at r ⊢;rw[bT]at e;obtain⟨p,xs,o,ev,q,dd,e2,rs⟩:=r;exact⟨p,xs,o,ev,q,dd,e2,rs.flat h e⟩
 | .l _,.non,_,_,_,r | .l _,.bl _,_,_,_,r | .l _,.int _,_,_,_,r | .l _,.str _,_,_,_,r | .l _,.tup _,_,_,_,r | .l _,.dct _ _ _,_,_,_,r=>by simp only[RepO]at r
 | .t _,.non,_,_,_,r | .t _,.bl _,_,_,_,r | .t _,.int _,_,_,_,r | .t _,.str _,_,_,_,r | .t _,.lst _,_,_,_,r | .t _,.dct _ _ _,_,_,_,r=>by simp only[RepO]at r
 | .d,.non,_,_,_,r | .d,.bl _,_,_,_,r | .d,.int _,_,_,_,r | .d,.str _,_,_,_,r | .d,.tup _,_,_,_,r | .d,.lst _,_,_,_,r=>by simp only[RepO]at r
theorem RepT.clean(h:∀p u,isT u=true->G2 p=some u->G3 p=some u):∀{cs:List O}{ds:List D}{xs:List V}{fp:List Addr},mD cs ds=true->RepT K G2 H cs ds xs fp->RepT K G3 H cs ds xs fp
 |[],[],_,_,_,r=>by simpa only[RepT] using r
 |c::cs,d::ds,xs,fp,e,r=>by
  rw[RepT]at r ⊢;rw[mD,Nf]at e;obtain⟨y,ys,a,b,e1,e2,r1,r2⟩:=r;exact⟨y,ys,a,b,e1,e2,RepO.clean h e.1 r1,RepT.clean h e.2 r2⟩
 |[],_::_,_,_,_,r=>by simp only[RepT]at r
 |_::_,[],_,_,_,r=>by simp only[RepT]at r
end
theorem RepE.frz(h:Same G G'):∀{es:Env}{vs:List (Option V)}{fp:List Addr},(∀p∈fp,∀u,H p=some u->G' p=some u)->RepE K G H es vs fp->RepE K G' H' (es.map PV.frz) vs []
 |[],_,_,_,r=>⟨r.1,rfl⟩
 |none::es,vs,fp,hk,r=>by
  obtain⟨y,ys,e,r⟩:=r;exact⟨y,ys,e,RepE.frz h hk r⟩
 |some r::es,vs,fp,hk,q=>by
  obtain⟨y,ys,e,v,a,b,e1,e2,r1,r2⟩:=q;subst e2;exact⟨y,ys,e,v,[],[],e1,rfl,h8.mpr ⟨r1.frozen h (fun p hp=>hk p (Np _ hp)),rfl⟩,RepE.frz h (fun p hp=>hk p (Na _ hp)) r2⟩
theorem RepE.rep(h:Same G G'):∀{es:Env}{vs:List (Option V)}{fp:List Addr}{i:Nat}{r:R}{v:V},(∀p∈fp,∀u,H p=some u->G' p=some u)->RepE K G H es vs fp->es[i]?=some (some r)->vs[i]?=some (some v)->Rep K G' r.2 v:=fun{es vs fp i r v} hk q e ev=>by
 obtain⟨v',a,b,e1,r1,_,pm⟩:=q.take e;rw[ev]at e1;cases e1;exact r1.frozen h fun p hp=>hk p (pm.mem_iff.mpr (Np _ hp))
theorem Rel.lend(q:Rel K G H es vs fp):∃G1,Same G G1/\Same G1 H/\(∀(i:Nat) (r:R) (v:V),es[i]?=some (some r)->vs[i]?=some (some v)->Rep K G1 r.2 v)/\
  RepE K G1 H (es.map PV.frz) vs []/\
  ∀(H2 G2:Hp) (C0:List Addr) (r:R) (v:V),Step G1 H [] G2 H2 C0->Rel K G2 H2 [some r] [some v] C0->
   (bT r.1 r.2=true->∃G3 EO,Step G H fp G3 H2 EO/\Rel K G3 H2 (some r::es) (some v::vs) EO)/\
   ∃G3 EO,Step G H fp G3 H2 EO/\Rel K G3 H2 (some r::es.map PV.frz) (some v::vs) EO:=by
 have hg:Same G (fun p=>if p∈fp then H p else G p):=fun p u e=>by
  show(if p∈fp then H p else G p)=some u;by_cases hp:p∈fp
  ·rw[Nc hp];exact q.gh p u e
  ·rw[Ng hp];exact e
 have hh:Same (fun p=>if p∈fp then H p else G p) H:=fun p u e=>by
  have e:(if p∈fp then H p else G p)=some u:=e;by_cases hp:p∈fp
  ·rw[Nc hp]at e;exact e
  ·rw[Ng hp]at e;exact q.gh p u e
 have hk:∀p∈fp,∀u,H p=some u->(fun p=>if p∈fp then H p else G p) p=some u:=fun p hp u e=>by
  show(if p∈fp then H p else G p)=some u;rw[Nc hp];exact e
 refine⟨fun p=>if p∈fp then H p else G p,hg,hh,fun i r v e ev=>q.rep.rep hg hk e ev,q.rep.frz hg hk,fun H2 G2 C0 r v st k=>?_⟩;obtain⟨y,ys,e0,v',a,b,e1,e2,r1,r2⟩:=k.rep;cases e0;cases e1;obtain⟨_,e3⟩:=r2;subst e3;rw[Nz]at e2;subst e2;have fresh:∀p∈C0,H p=none:=fun p hp=>by
  rcases st.fpn p hp with z|z
  ·cases z
  ·exact z
 have kept:∀p∈fp,H2 p=H p:=fun p hp=>by
  obtain⟨u,hu⟩:=q.rep.live p hp;rw[hu];exact st.keep p u hu (by simp)
 refine⟨fun cl=>?_,⟨G2,C0,⟨hg.trans st.gg,fun p u e n=>st.keep p u e (by simp),fun p hp=>.inr (fresh p hp),fun p u e=>?_,st.there⟩,?_⟩⟩
 ·have apart:∀p∈C0,p∉fp:=fun p hp hf=>by
   obtain⟨u,hu⟩:=q.rep.live p hf;rw[fresh p hp]at hu;cases hu
  have g3:Same G (fun p=>if p∈fp then none else G2 p):=fun p u e=>by
   show(if p∈fp then none else G2 p)=some u;rw[Ng (fun z=>by rw[q.gn p z]at e;cases e)];exact st.gg p u (hg p u e)
  refine⟨fun p=>if p∈fp then none else G2 p,C0++fp,⟨g3,fun p u e n=>st.keep p u e (by simp),fun p hp=>?_,fun p u e=>?_,st.there⟩,⟨⟨some v,vs,rfl,v,C0,fp,rfl,rfl,r1.clean (fun p u t e=>?_) cl,q.rep.step g3 kept⟩,?_,fun p hp=>?_,fun p u e=>?_⟩⟩
  ·rcases Ny.mp hp with hp|hp
   ·exact .inr (fresh p hp)
   ·exact .inl hp
  ·have e:(if p∈fp then none else G2 p)=some u:=e;by_cases hp:p∈fp
   ·rw[Nc hp]at e;cases e
   ·rw[Ng hp]at e;rcases st.gnew p u e with z|z|z
    ·have z:(if p∈fp then H p else G p)=some u:=z;rw[Ng hp]at z;exact .inl z
    ·cases z
    ·exact .inr (.inr z)
  ·show(if p∈fp then none else G2 p)=some u;by_cases hp:p∈fp
   ·exfalso;obtain⟨u',hu,hm⟩:=q.rep.mut p hp;have:=st.gg p u' (hk p hp u' hu);rw[e]at this;cases this;cases u with
    |lst _=>cases t
    |dK _=>cases t
    |dT _=>cases t
    |_=>cases hm
   ·rw[Ng hp];exact e
  ·rw[NO];exact⟨k.nd,q.nd,fun p hp z hz e=>apart p hp (e▸hz)⟩
  ·show(if p∈fp then none else G2 p)=none;by_cases hf:p∈fp
   ·rw[Nc hf]
   ·rw[Ng hf];rcases Ny.mp hp with hp|hp
    ·exact k.gn p hp
    ·exact absurd hp hf
  ·have e:(if p∈fp then none else G2 p)=some u:=e;by_cases hp:p∈fp
   ·rw[Nc hp]at e;cases e
   ·rw[Ng hp]at e;exact k.gh p u e
 ·rcases st.gnew p u e with z|z|z
  ·have z:(if p∈fp then H p else G p)=some u:=z;by_cases hp:p∈fp
   ·exact .inr (.inl hp)
   ·rw[Ng hp]at z;exact .inl z
  ·cases z
  ·exact .inr (.inr z)
 ·refine⟨⟨some v,vs,rfl,v,C0,[],rfl,(Nz _).symm,r1,q.rep.frz (hg.trans st.gg) fun p hp u e=>st.gg p u (hk p hp u e)⟩,k.nd,k.gn,k.gh⟩
end
end PV
namespace PV
open PySem PySem.Spec PyProof.Rows L2 NX
def Res.bind{α β:Type}:Res α->(α->Res β)->Res β
 | .ok a,f=>f a
 | .exc c,_=>.exc c
 | .bad,_=>.bad
inductive BindOk{α β:Type}(x:Res α)(f:α->Res β)(b:β):Prop
 |mk (a:α) (h:x=.ok a) (k:f a=.ok b):BindOk x f b
theorem ag{α β:Type}{x:Res α}{f:α->Res β}{b:β}(h:x.bind f=.ok b):BindOk x f b:=by
 cases x with
 |ok a=>exact⟨a,rfl,h⟩
 |exc c=>cases h
 |bad=>cases h
inductive Opd where
 |val (d:D)|var (i:Nat)
def OpdOk(K:W.Frag)(G:Hp)(σ:L2.St):Opd->V->Prop
 | .val d,v=>Rep K G d v
 | .var i,v=>σ[i]?=some (some v)
theorem OpdOk.mono{K:W.Frag}{G G':Hp}{σ:L2.St}{o:Opd}{v:V}(h:Same G G')(r:OpdOk K G σ o v):OpdOk K G' σ o v:=by
 cases o with
 |val d=>exact Rep.mono h r
 |var i=>exact r
def kI(K:W.Frag)(G:Hp)(σ:L2.St):List Opd->List V->Prop
 |[],vs=>vs=[]
 |o::os,vs=>∃y ys,vs=y::ys/\OpdOk K G σ o y/\kI K G σ os ys
def t9:O->Bool
 | .f=>true
 | .l .f=>true
 | .d=>true
 | .pin _ .f=>true
 | .pin _ (.l .f)=>true
 | .pin _ .d=>true
 |_=>false
def DA(env:PV.Env):Opd->Res D
 | .val d=>.ok d
 | .var i=>match env[i]? with
  |some (some r)=>if t9 r.1 then .ok r.2 else .bad
  |_=>.bad
def nW(env:PV.Env):Opd->Res D
 | .val d=>.ok d
 | .var i=>match env[i]? with
  |some (some r)=>.ok r.2
  |_=>.bad
def mE(env:PV.Env):List Opd->Res (List D)
 |[]=>.ok []
 |o::os=>(DA env o).bind fun d=>(mE env os).bind fun ds=>.ok (d::ds)
def ja(env:PV.Env):List Opd->Res (List D)
 |[]=>.ok []
 |o::os=>(nW env o).bind fun d=>(ja env os).bind fun ds=>.ok (d::ds)
def Vw(K:W.Frag)(G H:Hp):D->V->Prop
 | .lst ds,v=>∃p xs,v=.ref p/\SqL K H p xs/\Reps K G ds xs
 | .dct tk ks vs,v=>∃p xs o,v=.ref p/\Rd H p o/\DictO o tk ks xs/\Reps K G vs xs
 |d,v=>Rep K G d v
def JP(K:W.Frag)(G H:Hp):List D->List V->Prop
 |[],vs=>vs=[]
 |d::ds,vs=>∃y ys,vs=y::ys/\Vw K G H d y/\JP K G H ds ys
section
variable{K:W.Frag}{G G' H H':Hp}{es:PV.Env}{σ:L2.St}{fp:List Addr}
theorem Vw.of{d:D}{v:V}(gh:Same G H)(r:Rep K G d v):Vw K G H d v:=by
 cases d with
 |lst ds=>
  rw[Rep]at r;obtain⟨p,xs,e,q,rs⟩:=r;exact⟨p,xs,e,eF gh q,rs⟩
 |dct tk ks vs=>
  rw[Rep]at r;obtain⟨p,xs,o,e,q,dd,rs⟩:=r;exact⟨p,xs,o,e,PV.Rd.mono gh q,dd,rs⟩
 |_=>exact r
theorem Vw.rep{d:D}{v:V}(gh:Same G H)(r:Vw K G H d v):Rep K H d v:=by
 cases d with
 |lst ds=>
  obtain⟨p,xs,e,q,rs⟩:=r;rw[Rep];exact⟨p,xs,e,q,rs.mono gh⟩
 |dct tk ks vs=>
  obtain⟨p,xs,o,e,q,dd,rs⟩:=r;rw[Rep];exact⟨p,xs,o,e,q,dd,rs.mono gh⟩
 |non=>exact Rep.mono gh r
 |bl b=>exact Rep.mono gh r
 |int i=>exact Rep.mono gh r
 |str l=>exact Rep.mono gh r
 |tup ds=>exact Rep.mono gh r
theorem RepO.vw0{o:O}{d:D}{v:V}{a:List Addr}(gh:Same G H)(hs:o=.f\/o=.l .f\/o=.d)(r:RepO K G H o d v a):Vw K G H d v:=by
 rcases hs with rfl|rfl|rfl
 ·exact Vw.of gh (h8.mp r).1
 ·cases d with
  |lst ds=>
   obtain⟨p,xs,e,q,_,rs⟩:=jE.mp r;exact⟨p,xs,e,SqL.of q,rs⟩
  |_=>simp only[RepO]at r
 ·cases d with
  |dct tk ks vs=>
   rw[RepO]at r;obtain⟨p,xs,o,e,q,dd,_,rs⟩:=r;exact⟨p,xs,o,e,.inl q,dd,rs⟩
  |_=>simp only[RepO]at r
theorem RepO.vw{o:O}{d:D}{v:V}{a:List Addr}(gh:Same G H)(hs:t9 o=true)(r:RepO K G H o d v a):Vw K G H d v:=by
 unfold t9 at hs;split at hs
 ·exact r.vw0 gh (.inl rfl)
 ·exact r.vw0 gh (.inr (.inl rfl))
 ·exact r.vw0 gh (.inr (.inr rfl))
 ·rw[RepO]at r;exact r.2.vw0 gh (.inl rfl)
 ·rw[RepO]at r;exact r.2.vw0 gh (.inr (.inl rfl))
 ·rw[RepO]at r;exact r.2.vw0 gh (.inr (.inr rfl))
 ·cases hs
theorem Rel.vw{o:Opd}{v:V}{d:D}(q:Rel K G H es σ fp)(k:OpdOk K G σ o v)(e:DA es o=.ok d):Vw K G H d v:=by
 cases o with
 |val d'=>
  cases e;exact Vw.of q.gh k
 |var i=>
  unfold DA at e;dsimp only at e;split at e
  ·rename_i r hr;split at e
   ·rename_i hs;cases e;obtain⟨v',a,b,ev,r1,_⟩:=q.rep.take hr;have k:σ[i]?=some (some v):=k;rw[k]at ev;cases ev;exact r1.vw q.gh hs
   ·cases e
  ·cases e
theorem Rel.vwA{o:Opd}{v:V}{d:D}(q:Rel K G H es σ fp)(k:OpdOk K G σ o v)(e:nW es o=.ok d):Rep K H d v:=by
 cases o with
 |val d'=>
  cases e;exact Rep.mono q.gh k
 |var i=>
  unfold nW at e;dsimp only at e;split at e
  ·rename_i r hr;cases e;obtain⟨v',ev,r1⟩:=q.view hr;have k:σ[i]?=some (some v):=k;rw[k]at ev;cases ev;exact r1
  ·cases e
theorem Rel.vws(q:Rel K G H es σ fp):∀{os:List Opd}{vs:List V}{ds:List D},kI K G σ os vs->mE es os=.ok ds->JP K G H ds vs
 |[],_,_,k,e=>by
  cases e;exact k
 |o::os,_,_,⟨y,ys,e0,k1,k2⟩,e=>by
  unfold mE at e;obtain⟨d,e1,e⟩:=ag e;obtain⟨ds,e2,e⟩:=ag e;cases e;exact⟨y,ys,e0,q.vw k1 e1,Rel.vws q k2 e2⟩
theorem h9{G1:Hp}(gg:Same G G1)(ht:∀(i:Nat) (r:R) (v:V),es[i]?=some (some r)->σ[i]?=some (some v)->Rep K G1 r.2 v):∀{os:List Opd}{vs:List V}{ds:List D},kI K G σ os vs->ja es os=.ok ds->Reps K G1 ds vs
 |[],_,_,k,e=>by
  cases e;have k:_=_:=k;rw[k];exact Reps.nil
 |o::os,_,_,⟨y,ys,e0,k1,k2⟩,e=>by
  unfold ja at e;obtain⟨d,e1,e⟩:=ag e;obtain⟨ds,e2,e⟩:=ag e;cases e;rw[e0];refine .cons ?_ (h9 gg ht k2 e2);cases o with
  |val d'=>
   cases e1;exact Rep.mono gg k1
  |var i=>
   unfold nW at e1;dsimp only at e1;split at e1
   ·rename_i r hr;cases e1;exact ht i r y hr k1
   ·cases e1
end
abbrev FX:=PV.Env->Res (R×PV.Env)
abbrev FO:=PV.Env->Res (Opd×PV.Env)
abbrev DB:=PV.Env->Res (List Opd×PV.Env)
abbrev FT:=PV.Env->Res (Bool×PV.Env)
inductive Out where
 |nx (env:PV.Env)|rt (r:R)|bk (env:PV.Env)|ct (env:PV.Env)
abbrev FS:=PV.Env->Res Out
inductive tQ(K:W.Frag)(f:FX)(σ:L2.St)(H:Hp)(Q:VK):Prop
 |mk:∀G env fp r env',Rel K G H env σ fp->f env=.ok (r,env')->(∀v H' G' Cg,Step G H fp G' H' Cg->Rel K G' H' (some r::env') (some v::σ) Cg->Q v H')->tQ K f σ H Q
inductive tO(K:W.Frag)(f:FO)(σ:L2.St)(H:Hp)(Q:VK):Prop
 |mk:∀G env fp o env',Rel K G H env σ fp->f env=.ok (o,env')->(∀v H' G' Cg,Step G H fp G' H' Cg->Rel K G' H' env' σ Cg->OpdOk K G' σ o v->Q v H')->tO K f σ H Q
inductive tOs(K:W.Frag)(f:DB)(σ:L2.St)(H:Hp)(Q:List V->Hp->Prop):Prop
 |mk:∀G env fp o env',Rel K G H env σ fp->f env=.ok (o,env')->(∀v H' G' Cg,Step G H fp G' H' Cg->Rel K G' H' env' σ Cg->kI K G' σ o v->Q v H')->tOs K f σ H Q
inductive tQT(K:W.Frag)(f:FT)(σ:L2.St)(H:Hp)(Q:Bool->Hp->Prop):Prop
 |mk:∀G env fp b env',Rel K G H env σ fp->f env=.ok (b,env')->(∀H' G' Cg,Step G H fp G' H' Cg->Rel K G' H' env' σ Cg->Q b H')->tQT K f σ H Q
inductive Mode where
 |plain|mut
def BG(md:Mode)(K:W.Frag)(G H:Hp)(r:R)(v:V)(fp:List Addr):Prop:=match md with
 | .plain=>Rel K G H [some r] [some v] fp
 | .mut=>∃o d p c d0,r=(.t [o,.pin p c],.tup [d,d0])/\Rel K G H [some (o,d),some (.pin p c,d0)] [some v,some (.ref p)] fp
noncomputable def OutOk{md:Mode}(K:W.Frag)(G H:Hp)(fp:List Addr)(Dd:Ends):Res Out->Prop
 | .ok (.nx env')=>∀σ' H' G' Cg,Step G H fp G' H' Cg->Rel K G' H' env' σ' Cg->Dd.nx σ' H'
 | .ok (.bk env')=>∀σ' H' G' Cg,Step G H fp G' H' Cg->Rel K G' H' env' σ' Cg->Dd.bk σ' H'
 | .ok (.ct env')=>∀σ' H' G' Cg,Step G H fp G' H' Cg->Rel K G' H' env' σ' Cg->Dd.ct σ' H'
 | .ok (.rt r)=>∀v H' G' Cg,Step G H fp G' H' Cg->BG md K G' H' r v Cg->Dd.rt v H'
 |_=>False
inductive tQS{md:Mode}(K:W.Frag)(g:FS)(Dd:Ends)(σ:L2.St)(H:Hp):Prop
 |mk:∀G env fp,Rel K G H env σ fp->OutOk (md:=md) K G H fp Dd (g env)->tQS (md:=md) K g Dd σ H
def QE(X:Cx)(e:Expr)(f:FX):Prop:=PE X e (tQ X.K f)
def QO(X:Cx)(e:Expr)(f:FO):Prop:=PE X e (tO X.K f)
def Gk(X:Cx)(es:List Expr)(f:DB):Prop:=PA X es (tOs X.K f)
def QT(X:Cx)(e:Expr)(f:FT):Prop:=PT X e (tQT X.K f)
def QW(X:Cx)(e:Expr)(f:FT):Prop:=PW X e (tQT X.K f)
def QS{md:Mode}(X:Cx)(st:Stmt)(g:FS):Prop:=PS X st (tQS (md:=md) X.K g)
def Gz{md:Mode}(X:Cx)(st:List Stmt)(g:FS):Prop:=PSs X st (tQS (md:=md) X.K g)
theorem ba{X:Cx}{e:Expr}{t t':TE}(h:PE X e t)(k:∀σ H Q,t' σ H Q->t σ H Q):PE X e t':=fun pr s σ H Q I w=>h pr s σ H Q I (k σ H Q w)
theorem kJ{X:Cx}{e:Expr}{t t':TT}(h:PT X e t)(k:∀σ H Q,t' σ H Q->t σ H Q):PT X e t':=fun pr s σ H Q I w=>h pr s σ H Q I (k σ H Q w)
theorem ua{X:Cx}{e:Expr}{t t':TT}(h:PW X e t)(k:∀σ H Q,t' σ H Q->t σ H Q):PW X e t':=fun wh pr s σ H Q I w=>h wh pr s σ H Q I (k σ H Q w)
theorem ji{X:Cx}{e:List Expr}{t t':TA}(h:PA X e t)(k:∀σ H Q,t' σ H Q->t σ H Q):PA X e t':=fun pos pr s σ H Q I w=>h pos pr s σ H Q I (k σ H Q w)
theorem dQ{X:Cx}{e:Stmt}{t t':TS}(h:PS X e t)(k:∀D σ H,t' D σ H->t D σ H):PS X e t':=fun pr s σ H D I w=>h pr s σ H D I (k D σ H w)
theorem lM{X:Cx}{e:List Stmt}{t t':TS}(h:PSs X e t)(k:∀D σ H,t' D σ H->t D σ H):PSs X e t':=fun pr s σ H D I w=>h pr s σ H D I (k D σ H w)
theorem OutOk.imp{md:Mode}{K:W.Frag}{G H G1 H1:Hp}{fp Cy:List Addr}{Dd Kl:Ends}{r:Res Out}(st:Step G H fp G1 H1 Cy)(h:OutOk (md:=md) K G H fp Dd r)(n:∀σ H,Dd.nx σ H->Kl.nx σ H)(b:∀σ H,Dd.bk σ H->Kl.bk σ H)(c:∀σ H,Dd.ct σ H->Kl.ct σ H)(t:∀v H,Dd.rt v H->Kl.rt v H):OutOk (md:=md) K G1 H1 Cy Kl r:=by
 match r,h with
 | .ok (.nx env'),h=>exact fun σ' H' G' Cg s q=>n _ _ (h σ' H' G' Cg (st.trans s) q)
 | .ok (.bk env'),h=>exact fun σ' H' G' Cg s q=>b _ _ (h σ' H' G' Cg (st.trans s) q)
 | .ok (.ct env'),h=>exact fun σ' H' G' Cg s q=>c _ _ (h σ' H' G' Cg (st.trans s) q)
 | .ok (.rt r),h=>exact fun v H' G' Cg s q=>t _ _ (h v H' G' Cg (st.trans s) q)
theorem OutOk.after{md:Mode}{K:W.Frag}{G H G1 H1:Hp}{fp Cy:List Addr}{Dd:Ends}{r:Res Out}(st:Step G H fp G1 H1 Cy)(h:OutOk (md:=md) K G H fp Dd r):OutOk (md:=md) K G1 H1 Cy Dd r:=h.imp st (fun _ _ z=>z) (fun _ _ z=>z) (fun _ _ z=>z) fun _ _ z=>z
def aB(d:D):FX:=fun env=>.ok ((.f,d),env)
def fz:O->O
 | .pin p .f=>.pin p .f
 |_=>.f
def aV(i:Nat):FX:=fun env=>match env[i]? with
 |some (some r)=>.ok ((.f,r.2),env.set i (some (fz r.1,r.2)))
 |_=>.bad
def pK(i:Nat):FX:=fun env=>match env[i]? with
 |some (some r)=>.ok (r,env.set i none)
 |_=>.bad
def aq(f:FX):FO:=fun env=>(f env).bind fun p=>.ok (.val p.1.2,p.2)
def ao(i:Nat):FO:=fun env=>match env[i]? with
 |some (some _)=>.ok (.var i,env)
 |_=>.bad
def aF:DB:=fun env=>.ok ([],env)
def ai(f:FO)(g:DB):DB:=fun env=>(f env).bind fun p=>(g p.2).bind fun q=>.ok (p.1::q.1,q.2)
section
variable{X:Cx}
theorem kK{e:Expr}{v:V}{d:D}(h:PE X e (tC v))(r:∀G,Rep X.K G d v):QE X e (aB d):=ba h fun σ H Q Cm=>by
 obtain⟨G,env,fp,rr,env',rel,e,k⟩:=Cm;cases e;exact k v H G fp .refl (rel.push (r G))
theorem ak{i j pos}:QE X (.Constant (.int i) j pos) (aB (.int i)):=kK w9 fun G=>by rw[Rep]
theorem f7{i j pos}:QE X (.Constant (.bool i) j pos) (aB (.bl i)):=kK zr fun G=>by rw[Rep]
theorem ia{j pos}:QE X (.Constant .none j pos) (aB .non):=kK xa fun G=>by rw[Rep]
theorem dR{x j pos}{l:List Nat}(h:x=S l)(hl:l.length<=1000):QE X (.Constant (.str x) j pos) (aB (.str l)):=kK xb fun G=>by
 rw[Rep,h];exact⟨rfl,by rw[line_eq];lia⟩
theorem pL{x:Str}{p:Pos}{n:Int}(h:Gi X.mg x n)(hg:Gl X x)(hd:(x==("__debug__" : Str))=false:=by decide):QE X (.Name x p) (aB (.int n)):=kK (zZ h hg hd) fun G=>by rw[Rep]
theorem aD{i:Nat}{e:Expr}(h:PE X e (nH i)):QE X e (aV i):=ba h fun σ H Q Cm=>by
 obtain⟨G,env,fp,rr,env',rel,e,k⟩:=Cm;unfold aV at e;split at e
 ·rename_i r hr;cases e;by_cases hf:fz r.1=.f
  ·obtain⟨v,G',fq,ev,rv,CD,st⟩:=rel.freezeAt hr;rw[hf]at k;exact⟨v,ev,k v H G' fq st (CD.push rv)⟩
  ·have hp:∃p,r.1=.pin p .f:=by
    unfold fz at hf;split at hf
    ·rename_i p hp;exact⟨p,hp⟩
    ·exact absurd rfl hf
   obtain⟨p,hp⟩:=hp;obtain⟨v,a,b,ev,r1,_,_⟩:=rel.rep.take hr;rw[hp,RepO]at r1;have es:env.set i (some (fz r.1,r.2))=env:=by
    refine jF ?_;rw[hr,hp];show some (some r)=some (some (.pin p .f,r.2));rw[<-hp]
   rw[es]at k;exact⟨v,ev,k v H G fp .refl (rel.push (h8.mp r1.2).1)⟩
 ·cases e
theorem pM{i:Nat}{e:Expr}(h:PE X e (nH i)):QE X e (pK i):=ba h fun σ H Q Cm=>by
 obtain⟨G,env,fp,rr,env',rel,e,k⟩:=Cm;unfold pK at e;split at e
 ·rename_i r hr;cases e;obtain⟨v,fq,ev,CD,st,_⟩:=rel.out hr;exact⟨v,ev,k v H G fq st CD⟩
 ·cases e
theorem aa{e:Expr}{f:FX}(h:QE X e f):QO X e (aq f):=ba h fun σ H Q Cm=>by
 obtain⟨G,env,fp,o,env',rel,e,k⟩:=Cm;obtain⟨⟨r,B9⟩,e1,e⟩:=ag e;cases e;refine⟨G,env,fp,r,B9,rel,e1,fun v H' G' Cg st CD=>?_⟩;obtain⟨G2,b,rv,Ca,Cj⟩:=CD.freeze;exact k v H' G2 b (st.trans Cj) Ca rv
theorem ae{i:Nat}{e:Expr}(h:PE X e (nH i)):QO X e (ao i):=ba h fun σ H Q Cm=>by
 obtain⟨G,env,fp,o,env',rel,e,k⟩:=Cm;unfold ao at e;split at e
 ·rename_i r hr;cases e;obtain⟨v,ev,_⟩:=rel.view hr;exact⟨v,ev,k v H G fp .refl rel ev⟩
 ·cases e
theorem au:Gk X [] aF:=ji g7 fun σ H Q Cm=>by
 obtain⟨G,env,fp,o,env',rel,e,k⟩:=Cm;cases e;exact k [] H G fp .refl rel rfl
theorem af{e:Expr}{es:List Expr}{f:FO}{g:DB}(h:QO X e f)(hs:Gk X es g)(Hk:starEach (e::es) X.env=(false,eval e X.env)::starEach es X.env:=by rfl):Gk X (e::es) (ai f g):=
 ji (cJ h hs Hk) fun σ H Q Cm=>by
  obtain⟨G,env,fp,o,env',rel,e,k⟩:=Cm;obtain⟨⟨o1,B9⟩,e1,e⟩:=ag e;obtain⟨⟨os,Cn⟩,e2,e⟩:=ag e;cases e;exact⟨G,env,fp,o1,B9,rel,e1,fun v H1 G1 Cy Cr Cd DT=>⟨G1,B9,Cy,os,Cn,Cd,e2,fun vs H2 G2 C0 Cj Ca FZ=>k _ H2 G2 C0 (Cr.trans Cj) Ca ⟨v,vs,rfl,DT.mono Cj.gg,FZ⟩⟩⟩
def aE(g:D->D->Res R)(fa fb:FO):FX:=fun env=>(fa env).bind fun p=>(fb p.2).bind fun q=>(DA q.2 p.1).bind fun a=>(DA q.2 q.1).bind fun b=>(g a b).bind fun r=>.ok (r,q.2)
def bV(g:D->D->Res R)(fa fb:FO):FX:=fun env=>(fa env).bind fun p=>(fb p.2).bind fun q=>(nW q.2 p.1).bind fun a=>(nW q.2 q.1).bind fun b=>(g a b).bind fun r=>.ok (r,q.2)
structure Goes(K:W.Frag)(H:Hp)(G:Hp)(fp:List Addr)(es:PV.Env)(vs:L2.St)(r:R)(Q:VK):Prop where
 rel:Rel K G H es vs fp
 iY:∀v H' G' Cg,Step G H fp G' H' Cg->Rel K G' H' (some r::es) (some v::vs) Cg->Q v H'
inductive rG(K:W.Frag)(g:D->D->Res R)(x:V)(y:V)(H:Hp)(Q:VK):Prop
 |mk:∀G fp es vs a b r,Goes K H G fp es vs r Q->Vw K G H a x->Vw K G H b y->g a b=.ok r->rG K g x y H Q
inductive rGA(K:W.Frag)(g:D->D->Res R)(x:V)(y:V)(H:Hp)(Q:VK):Prop
 |mk:∀G fp es vs a b r,Goes K H G fp es vs r Q->Rep K H a x->Rep K H b y->g a b=.ok r->rGA K g x y H Q
variable{a b c:Expr}{fa fb fc:FO}{pos:Pos}{g g':D->D->Res R}
theorem mF{σ:L2.St}{H:Hp}{Q:VK}(h:tQ X.K (aE g fa fb) σ H Q):JH (rG X.K g) (tO X.K fa) (tO X.K fb) σ H Q:=by
 obtain⟨G,env,fp,r,env',rel,e,k⟩:=h;obtain⟨⟨oa,e1⟩,ha,e⟩:=ag e;obtain⟨⟨ob,e2⟩,hb,e⟩:=ag e;obtain⟨da,Hw,e⟩:=ag e;obtain⟨db,C9,e⟩:=ag e;obtain⟨r',hr,e⟩:=ag e;cases e;exact⟨G,env,fp,oa,e1,rel,ha,fun x H1 G1 Cy Cr Cd DT=>⟨G1,e1,Cy,ob,e2,Cd,hb,fun y H2 G2 C0 Cj Ca FZ=>
  ⟨G2,C0,e2,σ,da,db,r,⟨Ca,fun v H' G' Cg st CD=>k v H' G' Cg (Cr.trans (Cj.trans st)) CD⟩,Ca.vw (DT.mono Cj.gg) Hw,Ca.vw FZ C9,hr⟩⟩⟩
theorem pN{σ:L2.St}{H:Hp}{Q:VK}(h:tQ X.K (bV g fa fb) σ H Q):JH (rGA X.K g) (tO X.K fa) (tO X.K fb) σ H Q:=by
 obtain⟨G,env,fp,r,env',rel,e,k⟩:=h;obtain⟨⟨oa,e1⟩,ha,e⟩:=ag e;obtain⟨⟨ob,e2⟩,hb,e⟩:=ag e;obtain⟨da,Hw,e⟩:=ag e;obtain⟨db,C9,e⟩:=ag e;obtain⟨r',hr,e⟩:=ag e;cases e;exact⟨G,env,fp,oa,e1,rel,ha,fun x H1 G1 Cy Cr Cd DT=>⟨G1,e1,Cy,ob,e2,Cd,hb,fun y H2 G2 C0 Cj Ca FZ=>
  ⟨G2,C0,e2,σ,da,db,r,⟨Ca,fun v H' G' Cg st CD=>k v H' G' Cg (Cr.trans (Cj.trans st)) CD⟩,Ca.vwA (DT.mono Cj.gg) Hw,Ca.vwA FZ C9,hr⟩⟩⟩
theorem bh{op:Operator}(ho:CM X (binaryOp op) (rG X.K g))(ha:QO X a fa)(hb:QO X b fb):QE X (.BinOp a op b pos) (aE g fa fb):=ba (zM ho ha hb) fun _ _ _=>mF
theorem ub{op:CmpOp}(ho:CM X (compareOp op) (rG X.K g))(ha:QO X a fa)(hb:QO X b fb)(hm:behindInMarks op b=false):QE X (.Compare a [op] [b] pos) (aE g fa fb):=ba (oU ho ha hb hm) fun _ _ _=>mF
theorem lN{op:CmpOp}(ho:CM X (compareOp op) (rGA X.K g))(ha:QO X a fa)(hb:QO X b fb)(hm:behindInMarks op b=false):QE X (.Compare a [op] [b] pos) (bV g fa fb):=ba (oU ho ha hb hm) fun _ _ _=>pN
def CF(f:FX):FT:=fun env=>(f env).bind fun p=>match p.1.2 with
 | .bl k=>.ok (k,p.2)
 |_=>.bad
theorem rX{f:FX}{σ:L2.St}{H:Hp}{Q:Bool->Hp->Prop}(h:tQT X.K (CF f) σ H Q):tQ X.K f σ H fun x H'=>∃k,x=.bl k/\Q k H':=by
 obtain⟨G,env,fp,k,env',rel,e,q⟩:=h;obtain⟨⟨⟨o,d⟩,B9⟩,e1,e⟩:=ag e;dsimp only at e;split at e
 ·cases e;refine⟨G,env,fp,_,_,rel,e1,fun v H' G' Cg st CD=>?_⟩;have hv:=CD.top;rw[show((o,D.bl k):R).2=D.bl k from rfl,Rep]at hv;obtain⟨b,Ca,Cj⟩:=CD.drop;exact⟨k,hv,q H' G' b (st.trans Cj) Ca⟩
 ·cases e
theorem cz{e:Expr}{f:FX}(h:QE X e f)(he:∀whole,isTrue e X.env whole=(do let v <-whole;standAt e.pos;holding [v] (truthy v)):=by intro _;rfl):QT X e (CF f):=kJ (xc h he) fun _ _ _=>rX
theorem fB{op:CmpOp}(ho:CM X (compareOp op) (rG X.K g))(ha:QO X a fa)(hb:QO X b fb)(hm:behindInMarks op b=false):QT X (.Compare a [op] [b] pos) (CF (aE g fa fb)):=
 kJ (oV ho ha hb hm) fun _ _ _ h=>mF (rX h)
theorem bQ{op:CmpOp}(ho:CM X (compareOp op) (rGA X.K g))(ha:QO X a fa)(hb:QO X b fb)(hm:behindInMarks op b=false):QT X (.Compare a [op] [b] pos) (CF (bV g fa fb)):=
 kJ (oV ho ha hb hm) fun _ _ _ h=>pN (rX h)
def ya(f g:FT):FT:=fun env=>(f env).bind fun p=>if p.1 then g p.2 else .ok (false,p.2)
def ER(f g:FT):FT:=fun env=>(f env).bind fun p=>if p.1 then .ok (true,p.2) else g p.2
def ib(f:FT):FT:=fun env=>(f env).bind fun p=>.ok (!p.1,p.2)
variable{ga gb:FT}{cj:List Expr}
theorem pO(h:QT X a ga):QW X (.BoolOp .And [a] pos) ga:=uL h
theorem fC(h:QT X a ga):QW X (.BoolOp .Or [a] pos) ga:=xf h
theorem uc(h:QT X a ga)(h2:QW X (.BoolOp .And (b::cj) pos) gb):QW X (.BoolOp .And (a::b::cj) pos) (ya ga gb):=ua (xg h h2) fun σ H Q Cm=>by
 obtain⟨G,env,fp,k,env',rel,e,q⟩:=Cm;obtain⟨⟨k1,B9⟩,e1,e⟩:=ag e;refine⟨G,env,fp,k1,B9,rel,e1,fun H1 G1 Cy Cr Cd=>?_⟩;dsimp only at e;cases k1 with
 |true=>exact⟨G1,B9,Cy,k,env',Cd,e,fun H2 G2 C0 Cj Ca=>q H2 G2 C0 (Cr.trans Cj) Ca⟩
 |false=>
  cases e;exact q H1 G1 Cy Cr Cd
theorem gP(h:QT X a ga)(h2:QW X (.BoolOp .Or (b::cj) pos) gb):QW X (.BoolOp .Or (a::b::cj) pos) (ER ga gb):=ua (zt h h2) fun σ H Q Cm=>by
 obtain⟨G,env,fp,k,env',rel,e,q⟩:=Cm;obtain⟨⟨k1,B9⟩,e1,e⟩:=ag e;refine⟨G,env,fp,k1,B9,rel,e1,fun H1 G1 Cy Cr Cd=>?_⟩;dsimp only at e;cases k1 with
 |false=>exact⟨G1,B9,Cy,k,env',Cd,e,fun H2 G2 C0 Cj Ca=>q H2 G2 C0 (Cr.trans Cj) Ca⟩
 |true=>
  cases e;exact q H1 G1 Cy Cr Cd
theorem QW.qt{e:Expr}{f:FT}(h:QW X e f):QT X e f:=h.pt
theorem cA(h:QT X a ga):QT X (.UnaryOp .Not a pos) (ib ga):=kJ (xh h) fun σ H Q Cm=>by
 obtain⟨G,env,fp,k,env',rel,e,q⟩:=Cm;obtain⟨⟨k1,B9⟩,e1,e⟩:=ag e;cases e;exact⟨G,env,fp,k1,B9,rel,e1,fun H1 G1 Cy Cr Cd=>q H1 G1 Cy Cr Cd⟩
def rY(f g:FX):FX:=fun env=>(f env).bind fun p=>match p.1.2 with
 | .bl true=>g p.2
 | .bl false=>.ok ((.f,.bl false),p.2)
 |_=>.bad
def eOr(f g:FX):FX:=fun env=>(f env).bind fun p=>match p.1.2 with
 | .bl true=>.ok ((.f,.bl true),p.2)
 | .bl false=>g p.2
 |_=>.bad
def Ad(f:FX):FX:=fun env=>(f env).bind fun p=>match p.1.2 with
 | .bl k=>.ok ((.f,.bl (!k)),p.2)
 |_=>.bad
def eIf(c:FT)(f g:FX):FX:=fun env=>(c env).bind fun p=>if p.1 then f p.2 else g p.2
variable{ea eb:FX}
theorem mG{op}(h:QE X a ea):QE X (.BoolOp op [a] pos) ea:=tH h
theorem bw{K:W.Frag}{G:Hp}(k:Bool):Rep K G (.bl k) (.bl k):=by rw[Rep]
theorem bL{K:W.Frag}{G:Hp}(k:Int):Rep K G (.int k) (.int k):=by rw[Rep]
theorem jG{K:W.Frag}{G:Hp}:Rep K G .non .non:=by rw[Rep]
theorem eY{K:W.Frag}{G:Hp}{l:List Nat}(h:l.length<=sizeLine):Rep K G (.str l) (.str (S l)):=by
 rw[Rep];exact⟨rfl,h⟩
theorem bO{K:W.Frag}{G:Hp}{k:Bool}{v:V}(h:Rep K G (.bl k) v):v=.bl k:=by rw[Rep]at h;exact h
theorem bj{K:W.Frag}{G:Hp}{k:Int}{v:V}(h:Rep K G (.int k) v):v=.int k:=by rw[Rep]at h;exact h
theorem bI{K:W.Frag}{G:Hp}{v:V}(h:Rep K G .non v):v=.non:=by rw[Rep]at h;exact h
theorem aR{K:W.Frag}{G:Hp}{l:List Nat}{v:V}(h:Rep K G (.str l) v):v=.str (S l)/\l.length<=sizeLine:=by rw[Rep]at h;exact h
inductive OfT(K:W.Frag)(G:Hp)(l:List D)(v:V):Prop
 |mk (p:Addr) (xs:List V) (e:v=.ref p) (q:SqT K G p xs) (r:Reps K G l xs):OfT K G l v
inductive OfL(K:W.Frag)(G:Hp)(l:List D)(v:V):Prop
 |mk (p:Addr) (xs:List V) (e:v=.ref p) (q:SqL K G p xs) (r:Reps K G l xs):OfL K G l v
theorem aQ{K:W.Frag}{G:Hp}{l:List D}{v:V}(h:Rep K G (.tup l) v):OfT K G l v:=by
 rw[Rep]at h;obtain⟨p,xs,e,q,r⟩:=h;exact⟨p,xs,e,SqT.of q,r⟩
theorem pP{K:W.Frag}{G:Hp}{l:List D}{v:V}(h:Rep K G (.tup l) v):∃p xs,v=.ref p/\G p=some (.tup xs)/\Reps K G l xs:=by rw[Rep]at h;exact h
theorem aW{K:W.Frag}{G:Hp}{l:List D}{v:V}(h:Rep K G (.lst l) v):OfL K G l v:=by
 rw[Rep]at h;obtain⟨p,xs,e,q,r⟩:=h;exact⟨p,xs,e,q,r⟩
theorem bq{K:W.Frag}{G H:Hp}{k:Int}{v:V}(h:Vw K G H (.int k) v):v=.int k:=bj (K:=K) (G:=G) h
theorem cU{K:W.Frag}{G H:Hp}{l:List Nat}{v:V}(h:Vw K G H (.str l) v):v=.str (S l)/\l.length<=sizeLine:=aR (K:=K) (G:=G) h
theorem eS{K:W.Frag}{G H:Hp}{l:List D}{v:V}(h:Vw K G H (.tup l) v):OfT K G l v:=aQ (K:=K) (G:=G) h
theorem mH(h:QE X a ea)(h2:QE X (.BoolOp .And (b::cj) pos) eb):QE X (.BoolOp .And (a::b::cj) pos) (rY ea eb):=ba (tI h h2) fun σ H Q Cm=>by
 obtain⟨G,env,fp,r,env',rel,e,q⟩:=Cm;obtain⟨⟨⟨o,d⟩,B9⟩,e1,e⟩:=ag e;refine⟨G,env,fp,_,B9,rel,e1,fun v H1 G1 Cy Cr Cd=>?_⟩;have hv:=Cd.top;obtain⟨b',Ca,Cj⟩:=Cd.drop;dsimp only at e hv;split at e
 ·exact⟨true,bO hv,wM ⟨G1,B9,b',r,env',Ca,e,fun v H2 G2 C0 CV CI=>q v H2 G2 C0 (Cr.trans (Cj.trans CV)) CI⟩⟩
 ·cases e;exact⟨false,bO hv,iteF (q _ H1 G1 b' (Cr.trans Cj) (Ca.push (bw _)))⟩
 ·cases e
theorem yb(h:QE X a ea):QE X (.UnaryOp .Not a pos) (Ad ea):=ba (tJ h) fun σ H Q Cm=>by
 obtain⟨G,env,fp,r,env',rel,e,q⟩:=Cm;obtain⟨⟨⟨o,d⟩,B9⟩,e1,e⟩:=ag e;refine⟨G,env,fp,_,B9,rel,e1,fun v H1 G1 Cy Cr Cd=>?_⟩;have hv:=Cd.top;obtain⟨b',Ca,Cj⟩:=Cd.drop;dsimp only at e hv;split at e
 ·cases e;exact⟨_,bO hv,q _ H1 G1 b' (Cr.trans Cj) (Ca.push (bw _))⟩
 ·cases e
noncomputable def kM(g g':D->D->Res R)(fa fb fc:FO):FX:=fun env=>(fa env).bind fun p=>(fb p.2).bind fun q=>(DA q.2 p.1).bind fun a=>(DA q.2 q.1).bind fun b=>(g a b).bind fun r=>match r with
 |(.f,.bl true)=>(fc q.2).bind fun t=>(DA t.2 q.1).bind fun b=>(DA t.2 t.1).bind fun c=>(g' b c).bind fun r=>.ok (r,t.2)
 |(.f,.bl false)=>.ok ((.f,.bl false),q.2)
 |_=>.bad
theorem rZ{σ:L2.St}{H:Hp}{Q:VK}(h:tQ X.K (kM g g' fa fb fc) σ H Q):tM (rG X.K g) (rG X.K g') (tO X.K fa) (tO X.K fb) (tO X.K fc) σ H Q:=by
 obtain⟨G,env,fp,r,env',rel,e,k⟩:=h;obtain⟨⟨oa,e1⟩,ha,e⟩:=ag e;obtain⟨⟨ob,e2⟩,hb,e⟩:=ag e;obtain⟨da,Hw,e⟩:=ag e;obtain⟨db,C9,e⟩:=ag e;obtain⟨r',hr,e⟩:=ag e;refine⟨G,env,fp,oa,e1,rel,ha,fun x H1 G1 Cy Cr Cd DT=>⟨G1,e1,Cy,ob,e2,Cd,hb,fun y H2 G2 C0 Cj Ca FZ=>
  ⟨G2,C0,e2,σ,da,db,r',⟨Ca,fun v H3 G3 EO CV CI=>?_⟩,Ca.vw (DT.mono Cj.gg) Hw,Ca.vw FZ C9,hr⟩⟩⟩
 have hv:=CI.top;obtain⟨b3,Dq,D6⟩:=CI.drop;split at e
 ·refine⟨true,bO hv,wM ?_⟩;obtain⟨⟨oc,e3⟩,hc,e⟩:=ag e;obtain⟨db',hdb',e⟩:=ag e;obtain⟨dc,hdc,e⟩:=ag e;obtain⟨r2,hr2,e⟩:=ag e;cases e;exact⟨G3,e2,b3,oc,e3,Dq,hc,fun z H5 G5 Ja En DL ok5=>⟨G5,Ja,e3,σ,db',dc,r,⟨DL,fun v H' G' Cg st CD=>k v H' G' Cg (Cr.trans (Cj.trans (CV.trans (D6.trans (En.trans st))))) CD⟩,
   DL.vw ((FZ.mono CV.gg).mono En.gg) hdb',DL.vw ok5 hdc,hr2⟩⟩
 ·cases e;exact⟨false,bO hv,iteF (k _ H3 G3 b3 (Cr.trans (Cj.trans (CV.trans D6))) (Dq.push (bw _)))⟩
 ·cases e
theorem r6{op He:CmpOp}(ho:CM X (compareOp op) (rG X.K g))(F4:CM X (compareOp He) (rG X.K g'))(ha:QO X a fa)(hb:QO X b fb)(hc:QO X c fc)(hm:lastMarks [op,He] [b,c]=false:=by with_unfolding_all rfl):
  QT X (.Compare a [op,He] [b,c] pos) (CF (kM g g' fa fb fc)):=kJ (qY ho F4 ha hb hc hm) fun _ _ _ h=>rZ (rX h)
inductive rC(K:W.Frag)(g:List D->Res R)(xs:List V)(H:Hp)(Q:VK):Prop
 |mk:∀G fp es vs ds r,Goes K H G fp es vs r Q->JP K G H ds xs->g ds=.ok r->rC K g xs H Q
def bW(g:List D->Res R)(fs:DB):FX:=fun env=>(fs env).bind fun p=>(mE p.2 p.1).bind fun ds=>(g ds).bind fun r=>.ok (r,p.2)
theorem pQ{gg:List D->Res R}{fs:DB}{σ:L2.St}{H:Hp}{Q:VK}(h:tQ X.K (bW gg fs) σ H Q):LC (rC X.K gg) (tOs X.K fs) σ H Q:=by
 obtain⟨G,env,fp,r,env',rel,e,k⟩:=h;obtain⟨⟨os,e1⟩,ha,e⟩:=ag e;obtain⟨ds,hd,e⟩:=ag e;obtain⟨r',hr,e⟩:=ag e;cases e;exact⟨G,env,fp,os,e1,rel,ha,fun vs H1 G1 Cy Cr Cd DT=>⟨G1,Cy,e1,σ,ds,r,⟨Cd,fun v H' G' Cg st CD=>k v H' G' Cg (Cr.trans st) CD⟩,Cd.vws DT hd,hr⟩⟩
variable{x:Str}{p:Pos}{e:Expr}{es:List Expr}{gg:List D->Res R}{fs:DB}{id T:String}
theorem a9(hc:de X (.builtin id) (rC X.K gg))(hg:Gl X x)(hm:X.mg x=none)(hv:bootBuiltins x=some (.builtin id))(ha:Gk X (e::es) fs)(hn:x≠"__name__":=by decide)(C9:(x==("__debug__" : Str))=false:=by decide)
  (he:starEach (e::es) X.env=(false,eval e X.env)::starEach es X.env:=by rfl) (C8:(backTo pos (starEach es X.env)).any (·.1)=false:=by rfl):QE X (.Call (.Name x p) (e::es) [] pos) (bW gg fs):=
 ba (fm hc hg hm hv ha hn C9 he C8) fun _ _ _=>pQ
theorem ic(hc:de X (.type T) (rC X.K gg))(hg:Gl X x)(hm:X.mg x=none)(hv:bootBuiltins x=some (.type T))(ha:Gk X (e::es) fs)(hn:x≠"__name__":=by decide)(C9:(x==("__debug__" : Str))=false:=by decide)
  (he:starEach (e::es) X.env=(false,eval e X.env)::starEach es X.env:=by rfl) (C8:(backTo pos (starEach es X.env)).any (·.1)=false:=by rfl):QE X (.Call (.Name x p) (e::es) [] pos) (bW gg fs):=
 ba (o3 hc hg hm hv ha hn C9 he C8) fun _ _ _=>pQ
inductive spF(K:W.Frag)(F:List D->Res R)(vs:List V)(H:Hp)(Q:VK)(zz:XK):Prop
 |mk:∀G ds r,Same G H->Reps K G ds vs->F ds=.ok r->(∀v H' G' Cg,Step G H [] G' H' Cg->Rel K G' H' [some r] [some v] Cg->Q v H')->spF K F vs H Q zz
def dj(F:List D->Res R)(fs:DB):FX:=fun env=>(fs env).bind fun p=>(ja p.2 p.1).bind fun ds=>(F ds).bind fun r=>.ok (r,if bT r.1 r.2 then p.2 else p.2.map frz)
theorem bo{F:List D->Res R}{k:Nat}(C:Ct X.prog X.w X.K X.mg X.base x k (spF X.K F))(hr:Room k X.A)(hg:Gl X x)(ha:Gk X (e::es) fs)(C9:(x==("__debug__" : Str))=false:=by decide)
  (he:starEach (e::es) X.env=(false,eval e X.env)::starEach es X.env:=by rfl) (C8:(backTo pos (starEach es X.env)).any (·.1)=false:=by rfl):QE X (.Call (.Name x p) (e::es) [] pos) (dj F fs):=
 ba (zY C hr hg ha C9 he C8) fun σ H Q Cm=>by
  obtain⟨G,env,fp,r,env',rel,e,k⟩:=Cm;obtain⟨⟨os,e1⟩,ha,e⟩:=ag e;obtain⟨ds,hd,e⟩:=ag e;obtain⟨r',hr,e⟩:=ag e;refine⟨G,env,fp,os,e1,rel,ha,fun vs H1 G1 Cy Cr Cd DT=>?_⟩;show spF X.K F (vs++[]) H1 Q _;rw[Nz];obtain⟨G2,Km,Ko,EG,_,Fe⟩:=Cd.lend;refine⟨G2,ds,r',Ko,h9 Km EG DT hd,hr,fun v H' G' Cg st CD=>?_⟩;obtain⟨k1,k2⟩:=Fe H' G' Cg r' v st CD;by_cases hc:bT r'.1 r'.2=true
  ·rw[Nc hc]at e;cases e;obtain⟨G3,EO,CV,CI⟩:=k1 hc;exact k v H' G3 EO (Cr.trans CV) CI
  ·rw[Ng hc]at e;cases e;obtain⟨G3,EO,CV,CI⟩:=k2;exact k v H' G3 EO (Cr.trans CV) CI
end
def sSeq(g1 g2:FS):FS:=fun env=>(g1 env).bind fun o=>match o with
 | .nx e=>g2 e
 |o=>.ok o
def bX:FS:=fun env=>.ok (.nx env)
def ud:FS:=fun _=>.bad
def cw(i:Nat)(f:FX):FS:=fun env=>(f env).bind fun p=>if i<p.2.length then .ok (.nx (p.2.set i (some p.1))) else .bad
def jH(f:FX):FS:=fun env=>(f env).bind fun p=>.ok (.nx p.2)
def cV(f:FX):FS:=fun env=>(f env).bind fun p=>.ok (.rt p.1)
def DE(c:FT)(g h:FS):FS:=fun env=>(c env).bind fun p=>if p.1 then g p.2 else h p.2
section
variable{md:Mode}{X:Cx}{st:Stmt}{Hh:List Stmt}{g h:FS}{f:FX}{c:FT}{pos:Pos}{e:Expr}
theorem aX:Gz (md:=md) X [] bX:=lM oM fun D σ H ⟨G,env,fp,rel,k⟩=>k σ H G fp .refl rel
theorem ax(a:QS (md:=md) X st g):Gz (md:=md) X [st] g:=uM a
theorem ah(a:QS (md:=md) X st g)(b:Gz (md:=md) X Hh h):Gz (md:=md) X (st::Hh) (sSeq g h):=lM (mf a b) fun D σ H Cm=>by
 obtain⟨G,env,fp,rel,k⟩:=Cm;refine⟨G,env,fp,rel,?_⟩;have k:OutOk X.K G H fp D ((g env).bind fun o=>match o with | .nx e=>h e|o=>.ok o):=k;match q:g env,k with
 | .ok (.nx B9),k=>exact fun σ1 H1 G1 Cy Cr Cd=>⟨G1,B9,Cy,Cd,OutOk.after Cr k⟩
 | .ok (.bk B9),k=>exact k
 | .ok (.ct B9),k=>exact k
 | .ok (.rt r),k=>exact k
theorem r9:QS (md:=md) X st ud:=dQ qT fun D σ H ⟨G,env,fp,rel,k⟩=>k
theorem pR{K:W.Frag}{G H:Hp}{fp:List Addr}{D:Ends}{i:Nat}{env:PV.Env}{σ:L2.St}(rel:Rel K G H env σ fp)(k:OutOk (md:=md) K G H fp D (cw i f env)):tQ K f σ H fun v H'=>D.nx (σ.set i (some v)) H':=by
 unfold cw at k;match q:f env,k with
 | .ok (r,B9),k=>
  have k:OutOk K G H fp D (if i<B9.length then .ok (.nx (B9.set i (some r))) else .bad):=k;by_cases hi:i<B9.length
  ·rw[Nc hi]at k;refine⟨G,env,fp,r,B9,rel,q,fun v H1 G1 Cy Cr Cd=>?_⟩;obtain⟨fq,Ca,Cj⟩:=Cd.store hi;exact k _ H1 G1 fq (Cr.trans Cj) Ca
  ·rw[Ng hi]at k;exact k.elim
theorem aH{i:Nat}{x:Str}{pos':Pos}(hN:X.N.Nodup)(hi:X.N[i]?=some x)(hx:Loc X.env.scope x)(he:QE X e f)(hs:swapsWith e (some (.Name x pos')) pos.line X.env=pure false:=by rfl)(hf:X.fn x=true\/X.env.scope.names.lookup x=some .local:=by first|exact .inl rfl|exact .inr rfl|assumption):
  QS (md:=md) X (.Assign [.Name x pos'] e pos) (cw i f):=dQ (tL (i:=i) hN hi hx he hs hf) fun D σ H ⟨G,env,fp,rel,k⟩=>pR rel k
theorem f9(he:QE X e f)(hs:swapsWith e none pos.line X.env=pure false:=by rfl):QS (md:=md) X (.Expr e pos) (jH f):=dQ (uN he hs) fun D σ H Cm=>by
 obtain⟨G,env,fp,rel,k⟩:=Cm;unfold jH at k;match q:f env,k with
 | .ok (r,B9),k=>
  refine⟨G,env,fp,r,B9,rel,q,fun v H1 G1 Cy Cr Cd=>?_⟩;obtain⟨b,Ca,Cj⟩:=Cd.drop;exact k _ H1 G1 b (Cr.trans Cj) Ca
theorem Rel.only{K:W.Frag}{G H:Hp}{r:R}{v:V}{es:PV.Env}{vs:L2.St}{fp:List Addr}(q:Rel K G H (some r::es) (some v::vs) fp):∃a,Rel K G H [some r] [some v] a/\Step G H fp G H a:=by
 obtain⟨y,ys,e,v',a,b,e1,e2,r1,r2⟩:=q.rep;cases e;cases e1;subst e2;have nd:=NO.mp q.nd;exact⟨a,⟨⟨some v,[],rfl,v,a,[],rfl,(Nz _).symm,r1,rfl,rfl⟩,nd.1,fun p hp=>q.gn p (Np _ hp),q.gh⟩,Step.cut fun p hp=>Np _ hp⟩
theorem aO(he:QE X e f):QS (md:=.plain) X (.Return (some e) pos) (cV f):=dQ (xi he) fun D σ H Cm=>by
 obtain⟨G,env,fp,rel,k⟩:=Cm;unfold cV at k;match q:f env,k with
 | .ok (r,B9),k=>
  refine⟨G,env,fp,r,B9,rel,q,fun v H1 G1 Cy Cr Cd=>?_⟩;obtain⟨b,Ca,Cj⟩:=Cd.only;exact k _ H1 G1 b (Cr.trans Cj) Ca
theorem Rel.nilF{K:W.Frag}{G H:Hp}{es:PV.Env}{vs:L2.St}{fp:List Addr}(q:Rel K G H es vs fp):Rel K G H [] [] []:=⟨⟨rfl,rfl⟩,OW,(fun _ h=>nomatch h),q.gh⟩
theorem cK{a b:List Stmt}{ct:Expr}(hc:QT X ct c)(ha:Gz (md:=md) X a g)(hb:Gz (md:=md) X b h):QS (md:=md) X (.If ct a b pos) (DE c g h):=dQ (zy hc ha hb) fun D σ H Cm=>by
 obtain⟨G,env,fp,rel,k⟩:=Cm;unfold DE at k;match q:c env,k with
 | .ok (true,B9),k=>exact⟨G,env,fp,true,B9,rel,q,fun H1 G1 Cy Cr Cd=>wM ⟨G1,B9,Cy,Cd,OutOk.after Cr k⟩⟩
 | .ok (false,B9),k=>exact⟨G,env,fp,false,B9,rel,q,fun H1 G1 Cy Cr Cd=>iteF ⟨G1,B9,Cy,Cd,OutOk.after Cr k⟩⟩
def cB(c:FT)(g:FS):Nat->FS
 | 0,_=>.bad
 |n+1,env=>(c env).bind fun p=>if p.1 then(g p.2).bind fun o=>match o with
  | .nx e=>cB c g n e
  | .ct e=>cB c g n e
  | .bk e=>.ok (.nx e)
  | .rt r=>.ok (.rt r)
  else .ok (.nx p.2)
theorem jI{ct:Expr}{body:List Stmt}(n:Nat)(hp:PassesOwn (model X.prog X.w) X.A X.env X.xe)(hc:QT X ct c)(hb:Gz (md:=md) X body g):QS (md:=md) X (.While ct body [] pos) (cB c g n):=
 dQ (qV hp hc hb) fun D σ H Cm=>by
  obtain⟨G,env,fp,rel,k⟩:=Cm;refine⟨fun m σ' H'=>∃G' env' Cg,Rel X.K G' H' env' σ' Cg/\OutOk X.K G' H' Cg D (cB c g m env'),⟨n,G,env,fp,rel,k⟩,?_⟩;rintro m σ1 H1 ⟨G1,B9,Cy,Cd,k1⟩;cases m with
  |zero=>exact k1.elim
  |succ m=>
   unfold cB at k1;match q:c B9,k1 with
   | .ok (false,Cn),k1=>exact⟨G1,B9,Cy,false,Cn,Cd,q,fun H2 G2 C0 Cj Ca=>iteF (k1 _ H2 G2 C0 Cj Ca)⟩
   | .ok (true,Cn),k1=>
    refine⟨G1,B9,Cy,true,Cn,Cd,q,fun H2 G2 C0 Cj Ca=>wM ?_⟩;refine⟨fun σ' H'=>∃G' env' Cg,Rel X.K G' H' env' σ' Cg/\OutOk X.K G' H' Cg D (cB c g m env'),fun σ' H' z=>⟨m,Oc _,z⟩,G2,Cn,C0,Ca,?_⟩;have k2:OutOk X.K G1 H1 Cy D ((g Cn).bind fun o=>match o with | .nx e=>cB c g m e | .ct e=>cB c g m e | .bk e=>.ok (.nx e) | .rt r=>.ok (.rt r)):=k1;match q2:g Cn,k2 with
    | .ok (.nx e),k2=>exact fun σ' H' G' Cg st rel=>⟨G',e,Cg,rel,OutOk.after (Cj.trans st) k2⟩
    | .ok (.ct e),k2=>exact fun σ' H' G' Cg st rel=>⟨G',e,Cg,rel,OutOk.after (Cj.trans st) k2⟩
    | .ok (.bk e),k2=>exact fun σ' H' G' Cg st rel=>k2 σ' H' G' Cg (Cj.trans st) rel
    | .ok (.rt r),k2=>exact fun v H' G' Cg st rel=>k2 v H' G' Cg (Cj.trans st) rel
def Walk(K:W.Frag)(G:Hp)(J:It)(ds:List D):Prop:=∀G' H' es vs fp,Same G G'->Rel K G' H' es vs fp->∀i:Nat,
 (∀d,ds[i]?=some d->J.go i H'/\∀x H2,J.yld i H' x H2->∃G2,Rep K G2 d x/\Rel K G2 H2 es vs fp/\Step G' H' fp G2 H2 fp)/\(i=ds.length->J.stop i H')
abbrev FI:=PV.Env->Res (List D×PV.Env)
inductive tQI(K:W.Frag)(f:FI)(σ:L2.St)(H:Hp)(R:It->Hp->Prop):Prop
 |mk:∀G env fp ds env',Rel K G H env σ fp->f env=.ok (ds,env')->(∀J H' G' Cg,Step G H fp G' H' Cg->Rel K G' H' env' σ Cg->Walk K G' J ds->R J H')->tQI K f σ H R
def QI(X:Cx)(tg e:Expr)(f:FI):Prop:=PI X tg e (tQI X.K f)
theorem ie{X:Cx}{tg e:Expr}{t t':TI}(h:PI X tg e t)(k:∀σ H R,t' σ H R->t σ H R):PI X tg e t':=fun pr s σ H R I w=>h pr s σ H R I (k σ H R w)
abbrev FG:=D->PV.Env->Res PV.Env
inductive tQG(K:W.Frag)(a:FG)(v:V)(σ:L2.St)(H:Hp)(Q:L2.St->Hp->Prop):Prop
 |mk:∀G env fp d env',Rel K G H env σ fp->Rep K G d v->a d env=.ok env'->(∀σ' G' Cg,Step G H fp G' H Cg->Rel K G' H env' σ' Cg->Q σ' H)->tQG K a v σ H Q
def QG(X:Cx)(tg:Expr)(a:FG):Prop:=PG X tg (tQG X.K a)
def aM(i:Nat):FG:=fun d env=>if i<env.length then .ok (env.set i (some (.f,d))) else .bad
theorem ue{X:Cx}{tg:Expr}{t t':TG}(h:PG X tg t)(k:∀v σ H Q,t' v σ H Q->t v σ H Q):PG X tg t':=fun pr s σ H v u Q I r w=>h pr s σ H v u Q I r (k v σ H Q w)
theorem pS{X:Cx}{tg:List Expr}{t t':Iq}(h:IF X tg t)(k:∀v σ H Q,t' v σ H Q->t v σ H Q):IF X tg t':=fun pr s σ H v u Q I r w=>h pr s σ H v u Q I r (k v σ H Q w)
theorem aY{i:Nat}{x:Str}(hN:X.N.Nodup)(hi:X.N[i]?=some x)(hx:Loc X.env.scope x)(hf:X.fn x=true\/X.env.scope.names.lookup x=some .local:=by first|exact .inl rfl|exact .inr rfl|assumption):QG X (.Name x pos) (aM i):=
 ue (uO (i:=i) hN hi hx hf) fun v σ H Q Cm=>by
  obtain⟨G,env,fp,d,env',rel,r,e,k⟩:=Cm;unfold aM at e;split at e
  ·rename_i hl;cases e;obtain⟨fq,Ca,Cj⟩:=(rel.push r).store hl;exact k _ G fq Cj Ca
  ·cases e
abbrev Hx:=List D->PV.Env->Res PV.Env
inductive tQGs(K:W.Frag)(a:Hx)(vs:List V)(σ:L2.St)(H:Hp)(Q:L2.St->Hp->Prop):Prop
 |mk:∀G env fp ds env',Rel K G H env σ fp->Reps K G ds vs->a ds env=.ok env'->(∀σ' G' Cg,Step G H fp G' H Cg->Rel K G' H env' σ' Cg->Q σ' H)->tQGs K a vs σ H Q
def Lf(X:Cx)(tg:List Expr)(a:Hx):Prop:=IF X tg (tQGs X.K a)
def gc:Hx:=fun ds env=>match ds with
 |[]=>.ok env
 |_=>.bad
def aZ(a:FG)(b:Hx):Hx:=fun ds env=>match ds with
 |d::ds=>(a d env).bind fun e=>b ds e
 |_=>.bad
theorem ig:Lf X [] gc:=pS uP fun vs σ H Q Cm=>by
 obtain⟨G,env,fp,ds,env',rel,r,e,k⟩:=Cm;cases ds with
 |nil=>
  cases e;rw[Reps]at r;exact⟨r,k σ G fp .refl rel⟩
 |cons d ds=>cases e
theorem bP{tg:Expr}{F9:List Expr}{a:FG}{b:Hx}(h1:QG X tg a)(h2:Lf X F9 b)(hs:(assignEach (tg::F9) X.env).map (·.2)=assign tg X.env::(assignEach F9 X.env).map (·.2):=by rfl):Lf X (tg::F9) (aZ a b):=
 pS (qU h1 h2 hs) fun vs σ H Q Cm=>by
  obtain⟨G,env,fp,ds,env',rel,r,e,k⟩:=Cm;cases ds with
  |nil=>cases e
  |cons d ds=>
   rw[Reps]at r;obtain⟨y,ys,ev,r1,r2⟩:=r;obtain⟨B9,e1,e2⟩:=ag e;exact⟨y,ys,ev,G,env,fp,d,B9,rel,r1,e1,fun σ1 G1 Cy Cr Cd=>⟨G1,B9,Cy,ds,env',Cd,r2.mono Cr.gg,e2,fun σ2 G2 C0 Cj Ca=>k σ2 G2 C0 (Cr.trans Cj) Ca⟩⟩
def lO(n:Nat)(a:Hx):FG:=fun d env=>match d with
 | .tup ds=>if ds.length=n then a ds env else .bad
 |_=>.bad
theorem kN{F9:List Expr}{k n:Nat}{a:Hx}(hc:X.calm=true)(h:Lf X F9 a)(hn:(assignEach F9 X.env).length=n:=by rfl)(Hk:(assignEach F9 X.env).findIdx? (·.1)=none:=by rfl):QG X (.Tuple F9 k pos) (lO n a):=
 ue (xl hc h hn Hk) fun v σ H Q Cm=>by
  obtain⟨G,env,fp,d,env',rel,r,e,k⟩:=Cm;unfold lO at e;split at e
  ·rename_i ds;split at e
   ·rename_i hl;obtain⟨p,xs,ev,sq,rs⟩:=aQ r;exact⟨p,xs,ev,br rel.gh sq,rs.length.trans hl,G,env,fp,ds,env',rel,rs,e,k⟩
   ·cases e
  ·cases e
def i4(a:FG)(g:FS):List D->FS
 |[],env=>.ok (.nx env)
 |d::ds,env=>(a d env).bind fun e=>(g e).bind fun o=>match o with
  | .nx e=>i4 a g ds e
  | .ct e=>i4 a g ds e
  | .bk e=>.ok (.nx e)
  | .rt r=>.ok (.rt r)
def qN(f:FI)(a:FG)(g:FS):FS:=fun env=>(f env).bind fun p=>i4 a g p.1 p.2
theorem ij{tg iter:Expr}{body:List Stmt}{fi:FI}{a:FG}(hp:PassesOwn (model X.prog X.w) X.A X.env X.xe)(hc:X.calm=true)(hi:QI X tg iter fi)(hg:QG X tg a)(hb:Gz (md:=md) X body g)(hs:∀x,foldedSetIterable iter X.env x=pure x:=by intro _;rfl):QS (md:=md) X (.For tg iter body [] pos) (qN fi a g):=
 dQ (xo hp hc hi hg hb hs) fun D σ H Cm=>by
  obtain⟨G,env,fp,rel,k⟩:=Cm;unfold qN at k;match q:fi env,k with
  | .ok (ds,B9),k=>
   refine⟨G,env,fp,ds,B9,rel,q,fun J H1 G1 Cy Cr Cd wk=>?_⟩;have k:OutOk X.K G H fp D (i4 a g ds B9):=k;refine⟨fun i m σ' H'=>m=ds.length-i/\i<=ds.length/\∃G' env' Cg,Same G1 G'/\Rel X.K G' H' env' σ' Cg/\OutOk X.K G' H' Cg D (i4 a g (ds.drop i) env'),⟨_,rfl,NG _,G1,B9,Cy,.refl _,Cd,OutOk.after Cr k⟩,?_⟩;rintro i m σ2 H2 ⟨rfl,hi,G2,Cn,C0,gg,Ca,k2⟩;obtain⟨w1,w2⟩:=wk G2 H2 _ _ _ gg Ca i;by_cases Dz:i<ds.length
   ·have hd:ds[i]?=some ds[i]:=List.getElem?_eq_getElem Dz;obtain⟨go,yl⟩:=w1 _ hd;rw[PY Dz]at k2;refine .inr ⟨go,fun σ' H'=>∃G' env' Cg,Same G1 G'/\Rel X.K G' H' env' σ' Cg/\OutOk X.K G' H' Cg D (i4 a g (ds.drop (i+1)) env'),fun σ' H' z=>⟨ds.length-(i+1),by lia,rfl,Dz,z⟩,fun x H3 y=>?_⟩;obtain⟨G3,rx,CI,CV⟩:=yl x H3 y;unfold i4 at k2;match q3:a ds[i] Cn,k2 with
    | .ok Ef,k2=>
     refine⟨G3,Cn,C0,ds[i],Ef,CI,rx,q3,fun σ4 G4 fp4 D6 Dq=>⟨G4,Ef,fp4,Dq,?_⟩⟩;have k3:OutOk X.K G2 H2 C0 D ((g Ef).bind fun o=>match o with | .nx e=>i4 a g (ds.drop (i+1)) e | .ct e=>i4 a g (ds.drop (i+1)) e | .bk e=>.ok (.nx e) | .rt r=>.ok (.rt r)):=k2;match q4:g Ef,k3 with
     | .ok (.nx e),k3=>exact fun σ' H' G' Cg st rel=>⟨G',e,Cg,gg.trans (CV.gg.trans (D6.gg.trans st.gg)),rel,OutOk.after (CV.trans (D6.trans st)) k3⟩
     | .ok (.ct e),k3=>exact fun σ' H' G' Cg st rel=>⟨G',e,Cg,gg.trans (CV.gg.trans (D6.gg.trans st.gg)),rel,OutOk.after (CV.trans (D6.trans st)) k3⟩
     | .ok (.bk e),k3=>exact fun σ' H' G' Cg st rel=>k3 σ' H' G' Cg (CV.trans (D6.trans st)) rel
     | .ok (.rt r),k3=>exact fun v H' G' Cg st rel=>k3 v H' G' Cg (CV.trans (D6.trans st)) rel
   ·have e:i=ds.length:=by lia
    subst e;rw[List.drop_length]at k2;exact .inl ⟨w2 rfl,k2 σ2 H2 G2 C0 .refl Ca⟩
def yc(f:FX):FI:=fun env=>(f env).bind fun p=>match p.1.2 with
 | .lst ds=>.ok (ds,p.2)
 |_=>.bad
def kO(f:FX):FI:=fun env=>(f env).bind fun p=>match p.1.2 with
 | .tup ds=>.ok (ds,p.2)
 |_=>.bad
variable{tg l:Expr}
theorem kP{K:W.Frag}{G:Hp}{a:Addr}{xs:List V}{ds:List D}(sq:SqL K G a xs)(rs:Reps K G ds xs):Walk K G (JG K a) ds:=by
 intro G' H' es vs fp gg rel i;have DG:SqL K H' a xs:=eF rel.gh (eF gg sq);refine⟨fun d hd=>?_,fun e=>⟨xs,DG,by rw[rs.length];lia⟩⟩;obtain⟨x,hx,rx⟩:=rs.get hd;refine⟨⟨xs,x,DG,hx⟩,fun y H2 ⟨e,hy⟩=>?_⟩;subst e;have:=hy xs DG;rw[hx]at this;cases this;exact⟨G',Rep.mono gg rx,rel,.refl⟩
theorem sd{K:W.Frag}{G:Hp}{a:Addr}{xs:List V}{ds:List D}(sq:SqT K G a xs)(rs:Reps K G ds xs):Walk K G (Ly K a) ds:=by
 intro G' H' es vs fp gg rel i;have DG:SqT K H' a xs:=br rel.gh (br gg sq);refine⟨fun d hd=>?_,fun e=>⟨xs,DG,by rw[rs.length];lia⟩⟩;obtain⟨x,hx,rx⟩:=rs.get hd;refine⟨⟨xs,x,DG,hx⟩,fun y H2 ⟨e,hy⟩=>?_⟩;subst e;have:=hy xs DG;rw[hx]at this;cases this;exact⟨G',Rep.mono gg rx,rel,.refl⟩
theorem vK(h:QE X l f):QI X tg l (yc f):=ie (oO h) fun σ H R Cm=>by
 obtain⟨G,env,fp,ds,env',rel,e,k⟩:=Cm;obtain⟨⟨⟨o,d⟩,B9⟩,e1,e⟩:=ag e;dsimp only at e;split at e
 ·cases e;refine⟨G,env,fp,_,_,rel,e1,fun v H1 G1 Cy Cr Cd=>?_⟩;obtain⟨G2,b,rv,Ca,Cj⟩:=Cd.freeze;obtain⟨p,xs,ev,sq,rs⟩:=aW rv;exact⟨p,ev,⟨xs,eF Ca.gh sq⟩,k _ H1 G2 b (Cr.trans Cj) Ca (kP sq rs)⟩
 ·cases e
theorem pT(h:QE X l f):QI X tg l (kO f):=ie (xn h) fun σ H R Cm=>by
 obtain⟨G,env,fp,ds,env',rel,e,k⟩:=Cm;obtain⟨⟨⟨o,d⟩,B9⟩,e1,e⟩:=ag e;dsimp only at e;split at e
 ·cases e;refine⟨G,env,fp,_,_,rel,e1,fun v H1 G1 Cy Cr Cd=>?_⟩;obtain⟨G2,b,rv,Ca,Cj⟩:=Cd.freeze;obtain⟨p,xs,ev,sq,rs⟩:=aQ rv;exact⟨p,ev,⟨xs,br Ca.gh sq⟩,k _ H1 G2 b (Cr.trans Cj) Ca (sd sq rs)⟩
 ·cases e
def kQ(f:FX):FI:=fun env=>(f env).bind fun p=>match p.1.2 with
 | .str l=>.ok (l.map fun c=>.str [c],p.2)
 |_=>.bad
theorem pU(h:QE X l f):QI X tg l (kQ f):=ie (xM h) fun σ H R Cm=>by
 obtain⟨G,env,fp,ds,env',rel,e,k⟩:=Cm;obtain⟨⟨⟨o,d⟩,B9⟩,e1,e⟩:=ag e;dsimp only at e;split at e
 ·rename_i cs;cases e;refine⟨G,env,fp,_,_,rel,e1,fun v H1 G1 Cy Cr Cd=>?_⟩;obtain⟨G2,b,rv,Ca,Cj⟩:=Cd.freeze;obtain⟨ev,hl⟩:=aR rv;refine⟨cs,ev,k _ H1 G2 b (Cr.trans Cj) Ca fun G' H' es vs Cg gg CD i=>⟨fun d hd=>?_,fun e=>?_⟩⟩
  ·rw[List.getElem?_map]at hd;cases hc:cs[i]? with
   |none=>rw[hc]at hd;cases hd
   |some c=>
    rw[hc]at hd;cases hd;refine⟨(List.getElem?_eq_some_iff.mp hc).1,fun x H2 ⟨e1,e2⟩=>?_⟩;subst e1;refine⟨G',?_,CD,.refl⟩;rw[e2];show Rep X.K G' (.str [c]) (.str (S [cs.getD i 0]));rw[List.getD_eq_getElem?_getD,hc];exact eY (by rw[line_eq];simp)
  ·rw[M5]at e;exact e
 ·cases e
def eZ(f:FO):FI:=fun env=>(f env).bind fun p=>(DA p.2 p.1).bind fun d=>match d with
 | .int j=>if -4611686018427387904<=j/\j<4611686018427387904 then .ok ((List.range j.toNat).map fun(k:Nat)=>D.int (k:Int),p.2) else .bad
 |_=>.bad
theorem nX{K:W.Frag}{G:Hp}(lo:Int)(n:Nat):Walk K G (K6 lo n) ((List.range n).map fun(k:Nat)=>D.int (lo+(k:Int))):=by
 intro G' H' es vs fp gg rel i;refine⟨fun d hd=>?_,fun e=>?_⟩
 ·rw[List.getElem?_map]at hd;cases hc:(List.range n)[i]? with
  |none=>rw[hc]at hd;cases hd
  |some c=>
   rw[hc]at hd;cases hd;obtain⟨h1,h2⟩:=List.getElem?_eq_some_iff.mp hc;rw[Nt]at h1;rw[PM]at h2;subst h2;refine⟨h1,fun x H2 ⟨e1,e2⟩=>?_⟩;subst e1;exact⟨G',by rw[e2];exact bL _,rel,.refl⟩
 ·rw[M5,Nt]at e;exact Nat.le_of_eq e.symm
theorem ik{a:Expr}{fa:FO}{p pos:Pos}(hg:Gl X "range")(hm:X.mg "range" = none)(ha:QO X a fa)(hs:starEach [a] X.env=[(false,eval a X.env)]:=by rfl):QI X tg (.Call (.Name "range" p) [a] [] pos) (eZ fa):=
 ie (oP hg hm (af ha au hs) hs) fun σ H R Cm=>by
  obtain⟨G,env,fp,ds,env',rel,e,k⟩:=Cm;obtain⟨⟨o,B9⟩,e1,e⟩:=ag e;obtain⟨d,e2,e⟩:=ag e;dsimp only at e;split at e
  ·rename_i j;split at e
   ·rename_i hj;cases e;refine⟨G,env,fp,[o],_,rel,by show(fa env).bind _=_;rw[e1];rfl,fun vs H1 G1 Cy Cr Cd DT=>?_⟩;obtain⟨y,ys,ev,k1,k2⟩:=DT;have k2:ys=[]:=k2;subst k2;have hv:=bq (Cd.vw k1 e2);subst hv;refine⟨j,ev,by lia,by lia,k _ H1 G1 Cy Cr Cd ?_⟩;have w:=nX (K:=X.K) (G:=G1) 0 j.toNat
    simpa using w
   ·cases e
  ·cases e
noncomputable def Ae(fs:DB):FI:=fun env=>(fs env).bind fun p=>(mE p.2 p.1).bind fun d=>match d with
 |[.int i,.int j]=>if(-4611686018427387904<=i/\i<4611686018427387904)/\-4611686018427387904<=j/\j<4611686018427387904 then .ok ((List.range (j-i).toNat).map fun(k:Nat)=>D.int (i+(k:Int)),p.2) else .bad
 |_=>.bad
def gf(k:Bool):D->Res (List D)
 | .lst ds=>if k then .ok ds else .bad
 | .tup ds=>if k then .bad else .ok ds
 |_=>.bad
def nY(k1 k2:Bool)(fs:DB):FI:=fun env=>(fs env).bind fun p=>match p.1 with
 |[.val d1,.val d2]=>(gf k1 d1).bind fun a=>(gf k2 d2).bind fun b=>.ok ((a.zip b).map fun z=>D.tup [z.1,z.2],p.2)
 |_=>.bad
theorem mI{K:W.Frag}{G:Hp}{k:Bool}{d:D}{ds:List D}{v:V}(e:gf k d=.ok ds)(r:Rep K G d v):∃p xs,v=.ref p/\(if k then SqL K G p xs else SqT K G p xs)/\Reps K G ds xs:=by
 cases d with
 |lst es=>
  cases k with
  |true=>
   cases e;obtain⟨p,xs,e1,q,rs⟩:=aW r;exact⟨p,xs,e1,q,rs⟩
  |false=>cases e
 |tup es=>
  cases k with
  |true=>cases e
  |false=>
   cases e;obtain⟨p,xs,e1,q,rs⟩:=aQ r;exact⟨p,xs,e1,q,rs⟩
 |_=>cases e
theorem jJ{K:W.Frag}{G G':Hp}{k:Bool}{p:Addr}{xs:List V}(h:Same G G')(r:if k then SqL K G p xs else SqT K G p xs):if k then SqL K G' p xs else SqT K G' p xs:=by
 cases k with
 |true=>exact eF h r
 |false=>exact br h r
theorem se{K:W.Frag}{G:Hp}{k1 k2:Bool}{p1 p2:Addr}{xs ys:List V}{as bs:List D}(s1:if k1 then SqL K G p1 xs else SqT K G p1 xs)(s2:if k2 then SqL K G p2 ys else SqT K G p2 ys)(r1:Reps K G as xs)(r2:Reps K G bs ys):
  Walk K G (LN K k1 k2 p1 p2) ((as.zip bs).map fun z=>D.tup [z.1,z.2]):=by
 intro G' H' es vs fp gg rel i;have g1:=jJ (gg.trans rel.gh) s1;have g2:=jJ (gg.trans rel.gh) s2;refine⟨fun d hd=>?_,fun e=>⟨xs,ys,g1,g2,?_⟩⟩
 ·rw[List.getElem?_map]at hd;cases hz:(as.zip bs)[i]? with
  |none=>rw[hz]at hd;cases hd
  |some z=>
   rw[hz]at hd;cases hd;obtain⟨h1,h2⟩:=List.getElem?_zip_eq_some.mp hz;obtain⟨x,hx,rx⟩:=r1.get h1;obtain⟨y,hy,ry⟩:=r2.get h2;refine⟨⟨xs,ys,x,y,g1,g2,hx,hy⟩,fun v H2 ⟨T,hT,ev,hh⟩=>?_⟩;have e2:=hh xs ys x y g1 g2 hx hy;subst e2;obtain⟨Ca,Cj⟩:=rel.newF (u:=.tup [x,y]) hT;refine⟨_,?_,Ca,Cj⟩;rw[Rep];exact⟨T,[x,y],ev,bg,.cons (Rep.mono (gg.trans Cj.gg) rx) (.one (Rep.mono (gg.trans Cj.gg) ry))⟩
 ·rw[M5,O7]at e;rw[r1.length,r2.length];exact e
theorem mJ(k1 k2:Bool){F9:List Expr}{kt:Nat}{pt:Pos}{e1 e2:Expr}{fs:DB}{p pos:Pos}(hg:Gl X "zip")(hm:X.mg "zip" = none)(ha:Gk X [e1,e2] fs)(he:starEach [e1,e2] X.env=(false,eval e1 X.env)::starEach [e2] X.env:=by rfl)(C8:(backTo pos (starEach [e2] X.env)).any (·.1)=false:=by rfl):
  QI X (.Tuple F9 kt pt) (.Call (.Name "zip" p) [e1,e2] [] pos) (nY k1 k2 fs):=
 ie (xR k1 k2 hg hm ha he C8) fun σ H R Cm=>by
  obtain⟨G,env,fp,ds,env',rel,e,k⟩:=Cm;obtain⟨⟨o,B9⟩,e1,e⟩:=ag e;dsimp only at e;split at e
  ·rename_i d1 d2;obtain⟨a,ea,e⟩:=ag e;obtain⟨b,eb,e⟩:=ag e;cases e;refine⟨G,env,fp,_,_,rel,e1,fun vs H1 G1 Cy Cr Cd DT=>?_⟩;obtain⟨y,ys,ev,v1,z,zs,ev2,v2,e3⟩:=DT;have e3:zs=[]:=e3;subst e3;obtain⟨p1,xs1,MA,q1,r1⟩:=mI ea v1;obtain⟨p2,JQ,MB,q2,r2⟩:=mI eb v2;subst MA;subst MB;subst ev2;exact⟨p1,p2,xs1,JQ,ev,jJ Cd.gh q1,jJ Cd.gh q2,k _ H1 G1 Cy Cr Cd (se q1 q2 r1 r2)⟩
  ·cases e
end
def fBody(np nn:Nat)(g:FS):List D->Res R:=fun ds=>if ds.length=np then(g (ds.map (fun d=>some (O.f,d))++List.replicate nn none)).bind fun o=>match o with
 | .rt r=>.ok r
 | .nx _=>.ok (.f,.non)
 |_=>.bad
 else .bad
theorem fD{K:W.Frag}{G H:Hp}(n:Nat):∀{ds:List D}{vs:List V},Reps K G ds vs->RepE K G H (ds.map (fun d=>some (O.f,d))++List.replicate n none) (vs.map some++List.replicate n none) []
 |[],vs,r=>by
  rw[Reps]at r;subst r;show RepE K G H (List.replicate n none) (List.replicate n none) [];induction n with
  |zero=>exact⟨rfl,rfl⟩
  |succ n ih=>exact⟨none,_,rfl,ih⟩
 |d::ds,vs,r=>by
  rw[Reps]at r;obtain⟨y,ys,e,r1,r2⟩:=r;subst e;exact⟨some y,_,rfl,y,[],[],rfl,rfl,h8.mpr ⟨r1,rfl⟩,fD n r2⟩
theorem eK{P:Program}{w:World}{K:W.Frag}{mg:Str->Option Value}{base:Heap}{x:Str}{st:Stmt}{N ps:List Str}{k:Nat}{g:FS}(Df:Def K mg x st)(sc:FnScope N ps (defScope st))
  (hb:∀(kV doc pm:Value) (an:Option Addr) (CB ct:Value) (us:List Value),us.length=ps.length->bindArgs (PySem.W.fnOf x x (dE st) (bY st) (defScope st) .none kV doc pm an CB ct) ⟨us,[]⟩=pure (ps.zip us))
  (body:∀(f:Addr) (CB:Value) (A:Around) (outer:List PySem.Env) (s:Shared) (H:Hp) (E:XK),Room k (A.deeper (envOfC x (defScope st) s.heap.objs.size f CB))->Gz (md:=.plain) (oY Gu P w K mg base N x (defScope st) f CB A outer s H E).nox (bY st) g):
  Ct P w K mg base x (k+1) (spF K (fBody ps.length (N.length-ps.length) g)):=by
 obtain⟨f,fd,F,m⟩:=Df;refine⟨f,fd,ps,F.ok sc (fun vs H Q E h=>?_) (fun CB A outer s H vs Q E hr h=>?_),m,F.kp,F.binds hb⟩
 ·obtain⟨G,ds,r,_,rs,e,_⟩:=h;unfold fBody at e;split at e
  ·rename_i hl;rw[rs.length,hl]
  ·cases e
 ·obtain⟨G,ds,r,gh,rs,e,q⟩:=h;unfold fBody at e;split at e
  ·rename_i hl;refine⟨_,body f CB A outer s H E hr,G,ds.map (fun d=>some (O.f,d))++List.replicate (N.length-ps.length) none,[],⟨?_,OW,(fun _ h=>nomatch h),gh⟩,?_⟩
   ·have:=fD (K:=K) (G:=G) (H:=H) (N.length-ps.length) rs;unfold L2.gL;rw[rs.length,hl];exact this
   ·obtain⟨o,eo,e⟩:=ag e;rw[eo];cases o with
    |rt r'=>
     cases e;exact fun v H' G' Cg st rel=>q v H' G' Cg st rel
    |nx env'=>
     cases e;exact fun σ' H' G' Cg st rel=>q .non H' G' [] (st.trans (Step.cut fun _ h=>nomatch h)) (rel.nilF.push jG)
    |bk env'=>cases e
    |ct env'=>cases e
  ·cases e
def cM(ix:List (Option Nat))(env:PV.Env):PV.Env:=ix.map fun j=>j.bind fun j=>match env[j]? with
 |some (some r)=>some (O.f,r.2)
 |_=>none
def i5:FT:=fun env=>.ok (true,env)
def dq(a:FG)(c:FT)(f:FX):List D->PV.Env->Res (List D)
 |[],_=>.ok []
 |d::ds,env=>(a d env).bind fun e=>(c e).bind fun p=>if p.1 then(f p.2).bind fun q=>(dq a c f ds q.2).bind fun rs=>.ok (q.1.2::rs) else dq a c f ds p.2
def fE(fi:FI)(ix:List (Option Nat))(a:FG)(c:FT)(f:FX):FX:=fun env=>(fi env).bind fun p=>(dq a c f p.1 (cM ix p.2)).bind fun ds=>if ds.length<=sizeLine then .ok ((.l .f,.lst ds),if flatDs ds then p.2 else p.2.map frz) else .bad
theorem jK:∀ds,ds.all (bT .f)=flatDs ds
 |[]=>rfl
 |d::ds=>by rw[Pt,flatDs,jK ds,bT]
theorem dS{K:W.Frag}{G1 H:Hp}{es:PV.Env}{σ:L2.St}(ht:∀(i:Nat) (r:R) (v:V),es[i]?=some (some r)->σ[i]?=some (some v)->Rep K G1 r.2 v)(hv:∀(i:Nat) (r:R),es[i]?=some (some r)->∃v,σ[i]?=some (some v)):
  ∀ix:List (Option Nat),RepE K G1 H (cM ix es) (je ix σ) []
 |[]=>⟨rfl,rfl⟩
 |none::ix=>⟨none,_,rfl,dS ht hv ix⟩
 |some j::ix=>by
  show RepE K G1 H ((match es[j]? with|some (some r)=>some (O.f,r.2)|_=>none)::cM ix es) ((σ[j]?).bind id::je ix σ) [];cases e:es[j]? with
  |none=>exact⟨_,_,rfl,dS ht hv ix⟩
  |some r=>
   cases r with
   |none=>exact⟨_,_,rfl,dS ht hv ix⟩
   |some r=>
    obtain⟨v,ev⟩:=hv j r e;refine⟨_,_,rfl,v,[],[],?_,rfl,h8.mpr ⟨ht j r v e ev,rfl⟩,dS ht hv ix⟩;rw[ev];rfl
section
variable{md:Mode}{X:Cx}{scope:Scope}{N:List Str}{tg iter elt:Expr}{ifs:List Expr}{pos:Pos}{fi:FI}{a:FG}{c:FT}{f:FX}
def L8(X:Cx)(ifs:List Expr)(c:FT):Prop:=Kd X ifs (tQT X.K c)
theorem dG:L8 X [] i5:=fun pr s σ H Q I Cm=>by
 obtain⟨G,env,fp,b,env',rel,e,k⟩:=Cm;cases e;exact vh pr s σ H Q I (k H G fp .refl rel)
end
section
variable{X:Cx}
inductive rCatS(K:W.Frag)(x:V)(y:V)(H:Hp)(Q:VK):Prop
 |mk:∀l b xs zs,x=.ref l->y=.ref b->SqL K H l xs->SqL K H b zs->xs.length+zs.length<=sizeLine->(∀p,H p=none->Q (.ref p) (upd H p (.lst (xs++zs))))->rCatS K x y H Q
theorem vL:CM X (binaryOp .Add) (rCatS X.K):=by
 intro pr s σ H x y v u Q I rx ry h;obtain⟨l,b,xs,zs,rfl,rfl,hH,hB,hz,q⟩:=h;cases rx;cases ry;obtain⟨Cc,r1,p1,_⟩:=I.list hH;obtain⟨Ft,r2,p2,_⟩:=I.list hB;have l1:=r1.length;have l2:=r2.length;obtain⟨⟨cls,dd,data,sl⟩,ho,hc,n,hd⟩:=id p1.isList;obtain⟨⟨Hl,FR,data2,FU⟩,DJ,E9,n2,hd2⟩:=id p2.isList;simp only at hc hd E9 hd2;subst hc hd E9 hd2;have e:Cc.toArray++Ft.toArray=(Cc++Ft).toArray:=by simp
 refine Qs ⟨_,ho,rfl⟩ ⟨_,DJ,rfl⟩ noFill_list_add seq_list_add PySem.F.slot_list_add PySem.F.entry_list_add (PySem.F.args_list_add_2 _ _) (list_addW l b Cc.toArray Ft.toArray n n2 dd FR sl FU (by rw[M6,M6];lia)) ⟨ho,DJ,?_⟩;rw[e];exact⟨.ref _,_,I.lnew (t':=s.toks) (r1.append r2) (by rw[NC];lia),rfl,q _ I.fresh⟩
end
noncomputable def addD:D->D->Res R
 | .int i,.int j=>.ok (.f,.int (i+j))
 | .str a,.str b=>if a.length+b.length<=sizeLine then .ok (.f,.str (a++b)) else .bad
 | .lst a,.lst b=>if a.length+b.length<=sizeLine then .ok (.l .f,.lst (a++b)) else .bad
 | .tup a,.tup b=>if a≠[]/\a.length+b.length<=sizeLine then .ok (.f,.tup (a++b)) else .bad
 |_,_=>.bad
section
variable{X:Cx}
theorem jL{K:W.Frag}{G H:Hp}{fp:List Addr}{es:PV.Env}{vs:L2.St}{ds:List D}{xs:List V}{p:Addr}(rel:Rel K G H es vs fp)(hp:H p=none)(r:Reps K G ds xs):
  ∃G',Rel K G' (upd H p (.tup xs)) (some (.f,.tup ds)::es) (some (.ref p)::vs) fp/\Step G H fp G' (upd H p (.tup xs)) fp:=by
 obtain⟨Ca,Cj⟩:=rel.newF (u:=.tup xs) hp;refine⟨_,Ca.push ?_,Cj⟩;rw[Rep];exact⟨p,xs,rfl,bg,r.mono Cj.gg⟩
theorem yd:CM X (binaryOp .Add) (rG X.K addD):=by
 rintro pr s σ H x y v u Q I rx ry ⟨G,fp,es,vs,a,b,r,⟨rel,k⟩,va,vb,e⟩;unfold addD at e;split at e
 ·rename_i i j;cases e;cases bq va;cases bq vb;exact xp pr s σ H _ _ v u Q I rx ry ⟨i,j,rfl,rfl,k _ H G fp .refl (rel.push (bL _))⟩
 ·rename_i i j;split at e
  ·rename_i hl;cases e;obtain⟨e1,h1⟩:=cU va;obtain⟨e2,h2⟩:=cU vb;subst e1;subst e2;refine nK pr s σ H _ _ v u Q I rx ry ⟨_,_,rfl,rfl,by rw[i6,i6];exact hl,?_⟩;rw[zX];exact k _ H G fp .refl (rel.push (eY (by rw[NC];exact hl)))
  ·cases e
 ·rename_i i j;split at e
  ·rename_i hl;cases e;obtain⟨p,xs,e1,h1,r1⟩:=va;obtain⟨p2,JQ,e2,h2,r2⟩:=vb;subst e1;subst e2;refine vL pr s σ H _ _ v u Q I rx ry ⟨p,p2,xs,JQ,rfl,rfl,h1,h2,by rw[r1.length,r2.length];exact hl,fun q hq=>?_⟩;obtain⟨Ca,Cj⟩:=rel.newL hq (r1.app r2);exact k _ _ G _ Cj Ca
  ·cases e
 ·rename_i i j;split at e
  ·rename_i hl;cases e;obtain⟨p,xs,e1,h1,r1⟩:=eS va;obtain⟨p2,JQ,e2,h2,r2⟩:=eS vb;subst e1;subst e2;have hx:xs≠[]:=fun z=>hl.1 (NR (by rw[<-r1.length,z];rfl))
   refine uW pr s σ H _ _ v u Q I rx ry ⟨p,p2,xs,JQ,rfl,rfl,br rel.gh h1,br rel.gh h2,hx,by rw[r1.length,r2.length];exact hl.2,fun z=>?_,fun z q hq=>?_⟩
   ·have:j=[]:=NR (by rw[<-r2.length,z];rfl);subst this;rw[Nz]at k;exact k _ H G fp .refl (rel.push va)
   ·obtain⟨G',Ca,Cj⟩:=jL rel hq (r1.app r2);exact k _ _ G' _ Cj Ca
  ·cases e
 ·cases e
def vM:D->D->Res R
 | .int i,.int j=>.ok (.f,.int (i-j))
 |_,_=>.bad
theorem pV:CM X (binaryOp .Sub) (rG X.K vM):=by
 rintro pr s σ H x y v u Q I rx ry ⟨G,fp,es,vs,a,b,r,⟨rel,k⟩,va,vb,e⟩;unfold vM at e;split at e
 ·rename_i i j;cases e;cases bq va;cases bq vb;exact xq pr s σ H _ _ v u Q I rx ry ⟨i,j,rfl,rfl,k _ H G fp .refl (rel.push (bL _))⟩
 ·cases e
def cC(i:Int):Bool:=decide (-(2 ^ 64)<i/\i<2 ^ 64)
def Af:D->D->Res R
 | .int i,.int j=>if cC i||cC j then .ok (.f,.int (i*j)) else .bad
 |_,_=>.bad
theorem ye:CM X (binaryOp .Mult) (rG X.K Af):=by
 rintro pr s σ H x y v u Q I rx ry ⟨G,fp,es,vs,a,b,r,⟨rel,k⟩,va,vb,e⟩;unfold Af at e;split at e
 ·rename_i i j;split at e
  ·rename_i hc;cases e;cases bq va;cases bq vb;have hc:CMul i j:=by
    rw[Qt]at hc;exact hc.imp OE OE
   exact xr pr s σ H _ _ v u Q I rx ry ⟨i,j,rfl,rfl,hc,k _ H G fp .refl (rel.push (bL _))⟩
  ·cases e
 ·cases e
def og:D->D->Res R
 | .int i,.int j=>if 0<j/\j<1073741824 then .ok (.f,.int (i / j)) else .bad
 |_,_=>.bad
theorem pW:CM X (binaryOp .FloorDiv) (rG X.K og):=by
 rintro pr s σ H x y v u Q I rx ry ⟨G,fp,es,vs,a,b,r,⟨rel,k⟩,va,vb,e⟩;unfold og at e;split at e
 ·rename_i i j;split at e
  ·rename_i hc;cases e;cases bq va;cases bq vb;exact uQ pr s σ H _ _ v u Q I rx ry ⟨i,j,rfl,rfl,hc,k _ H G fp .refl (rel.push (bL _))⟩
  ·cases e
 ·cases e
def jj:D->D->Res R
 | .int i,.int j=>if 0<j then .ok (.f,.int (i%j)) else .bad
 |_,_=>.bad
theorem cW:CM X (binaryOp .Mod) (rG X.K jj):=by
 rintro pr s σ H x y v u Q I rx ry ⟨G,fp,es,vs,a,b,r,⟨rel,k⟩,va,vb,e⟩;unfold jj at e;split at e
 ·rename_i i j;split at e
  ·rename_i hc;cases e;cases bq va;cases bq vb;exact xt pr s σ H _ _ v u Q I rx ry ⟨i,j,rfl,rfl,hc,k _ H G fp .refl (rel.push (bL _))⟩
  ·cases e
 ·cases e
def wN:D->D->Res R
 | .int i,.int j=>if 0<=j/\j<=1000000/\i.natAbs<2 ^ 64 then .ok (.f,.int (i ^ j.toNat)) else .bad
 |_,_=>.bad
theorem yf:CM X (binaryOp .Pow) (rG X.K wN):=by
 rintro pr s σ H x y v u Q I rx ry ⟨G,fp,es,vs,a,b,r,⟨rel,k⟩,va,vb,e⟩;unfold wN at e;split at e
 ·rename_i i j;split at e
  ·rename_i hc;cases e;cases bq va;cases bq vb;exact xu pr s σ H _ _ v u Q I rx ry ⟨i,j,rfl,rfl,hc,k _ H G fp .refl (rel.push (bL _))⟩
  ·cases e
 ·cases e
def JK:D->D->Res R
 | .int i,.int j=>.ok (.f,.bl (decide (i<j)))
 | .str a,.str b=>.ok (.f,.bl (decide (a<b)))
 |_,_=>.bad
theorem Ag:CM X (compareOp .Lt) (rG X.K JK):=by
 rintro pr s σ H x y v u Q I rx ry ⟨G,fp,es,vs,a,b,r,⟨rel,k⟩,va,vb,e⟩;unfold JK at e;split at e
 ·rename_i i j;cases e;cases bq va;cases bq vb;exact zN pr s σ H _ _ v u Q I rx ry ⟨i,j,rfl,rfl,k _ H G fp .refl (rel.push (bw _))⟩
 ·rename_i i j;cases e;obtain⟨e1,h1⟩:=cU va;obtain⟨e2,h2⟩:=cU vb;subst e1;subst e2;refine oR pr s σ H _ _ v u Q I rx ry ⟨_,_,rfl,rfl,?_⟩;rw[cn,cn];exact k _ H G fp .refl (rel.push (bw _))
 ·cases e
def JR:D->D->Res R
 | .int i,.int j=>.ok (.f,.bl (decide (i<=j)))
 | .str a,.str b=>.ok (.f,.bl (!decide (b<a)))
 |_,_=>.bad
theorem yg:CM X (compareOp .LtE) (rG X.K JR):=by
 rintro pr s σ H x y v u Q I rx ry ⟨G,fp,es,vs,a,b,r,⟨rel,k⟩,va,vb,e⟩;unfold JR at e;split at e
 ·rename_i i j;cases e;cases bq va;cases bq vb;exact L2.zO pr s σ H _ _ v u Q I rx ry ⟨i,j,rfl,rfl,k _ H G fp .refl (rel.push (bw _))⟩
 ·rename_i i j;cases e;obtain⟨e1,h1⟩:=cU va;obtain⟨e2,h2⟩:=cU vb;subst e1;subst e2;refine pd pr s σ H _ _ v u Q I rx ry ⟨_,_,rfl,rfl,?_⟩;rw[cn,cn];exact k _ H G fp .refl (rel.push (bw _))
 ·cases e
def GA:D->D->Res R
 | .int i,.int j=>.ok (.f,.bl (decide (j<i)))
 |_,_=>.bad
theorem pX:CM X (compareOp .Gt) (rG X.K GA):=by
 rintro pr s σ H x y v u Q I rx ry ⟨G,fp,es,vs,a,b,r,⟨rel,k⟩,va,vb,e⟩;unfold GA at e;split at e
 ·rename_i i j;cases e;cases bq va;cases bq vb;exact zP pr s σ H _ _ v u Q I rx ry ⟨i,j,rfl,rfl,k _ H G fp .refl (rel.push (bw _))⟩
 ·cases e
def L9:D->D->Res R
 | .int i,.int j=>.ok (.f,.bl (decide (j<=i)))
 |_,_=>.bad
theorem Ah:CM X (compareOp .GtE) (rG X.K L9):=by
 rintro pr s σ H x y v u Q I rx ry ⟨G,fp,es,vs,a,b,r,⟨rel,k⟩,va,vb,e⟩;unfold L9 at e;split at e
 ·rename_i i j;cases e;cases bq va;cases bq vb;exact zQ pr s σ H _ _ v u Q I rx ry ⟨i,j,rfl,rfl,k _ H G fp .refl (rel.push (bw _))⟩
 ·cases e
end
abbrev FDs:=PV.Env->Res (List D×PV.Env)
inductive tDs(K:W.Frag)(f:FDs)(σ:L2.St)(H:Hp)(Q:List V->Hp->Prop):Prop
 |mk:∀G env fp ds env',Rel K G H env σ fp->f env=.ok (ds,env')->(∀vs H' G' Cg,Step G H fp G' H' Cg->Rel K G' H' env' σ Cg->Reps K G' ds vs->Q vs H')->tDs K f σ H Q
def Kp(X:Cx)(es:List Expr)(f:FDs):Prop:=PA X es (tDs X.K f)
def a7:FDs:=fun env=>.ok ([],env)
def av(f:FX)(g:FDs):FDs:=fun env=>(f env).bind fun p=>(g p.2).bind fun q=>.ok (p.1.2::q.1,q.2)
section
variable{X:Cx}
theorem az:Kp X [] a7:=ji g7 fun σ H Q Cm=>by
 obtain⟨G,env,fp,o,env',rel,e,k⟩:=Cm;cases e;exact k [] H G fp .refl rel .nil
theorem aj{e:Expr}{es:List Expr}{f:FX}{g:FDs}(h:QE X e f)(hs:Kp X es g)(Hk:starEach (e::es) X.env=(false,eval e X.env)::starEach es X.env:=by rfl):Kp X (e::es) (av f g):=
 ji (cJ h hs Hk) fun σ H Q Cm=>by
  obtain⟨G,env,fp,o,env',rel,e,k⟩:=Cm;obtain⟨⟨r,B9⟩,e1,e⟩:=ag e;obtain⟨⟨ds,Cn⟩,e2,e⟩:=ag e;cases e;refine⟨G,env,fp,r,B9,rel,e1,fun v H1 G1 Cy Cr Cd=>?_⟩;obtain⟨G2,b,rv,Ca,Cj⟩:=Cd.freeze;exact⟨G2,B9,b,ds,Cn,Ca,e2,fun vs H3 G3 EO CV CI rs=>k _ H3 G3 EO (Cr.trans (Cj.trans CV)) CI (.cons (Rep.mono CV.gg rv) rs)⟩
def dD(fs:FDs):FX:=fun env=>(fs env).bind fun p=>if p.1.length<=1000 then .ok ((.f,.tup p.1),p.2) else .bad
def sf(fs:FDs):FX:=fun env=>(fs env).bind fun p=>if p.1.length<=1000 then .ok ((.l .f,.lst p.1),p.2) else .bad
variable{es:List Expr}{fs:FDs}{pos:Pos}
theorem aT{x1}(h:Kp X es fs):QE X (.Tuple es x1 pos) (dD fs):=ba (tN h) fun σ H Q Cm=>by
 obtain⟨G,env,fp,r,env',rel,e,k⟩:=Cm;obtain⟨⟨ds,B9⟩,e1,e⟩:=ag e;dsimp only at e;split at e
 ·rename_i hl;cases e;refine⟨G,env,fp,ds,env',rel,e1,fun vs H1 G1 Cy Cr Cd rs=>⟨by rw[rs.length,line_eq];lia,fun p hp=>?_⟩⟩;obtain⟨G2,Ca,Cj⟩:=jL Cd hp rs;exact k _ _ G2 _ (Cr.trans Cj) Ca
 ·cases e
theorem il(h:Kp X es fs):QE X (.List es pos) (sf fs):=ba (xw h) fun σ H Q Cm=>by
 obtain⟨G,env,fp,r,env',rel,e,k⟩:=Cm;obtain⟨⟨ds,B9⟩,e1,e⟩:=ag e;dsimp only at e;split at e
 ·rename_i hl;cases e;refine⟨G,env,fp,ds,env',rel,e1,fun vs H1 G1 Cy Cr Cd rs=>⟨by rw[rs.length,line_eq];lia,fun p hp=>?_⟩⟩;obtain⟨Ca,Cj⟩:=Cd.newL hp rs;exact k _ _ G1 _ (Cr.trans Cj) Ca
 ·cases e
noncomputable def Cq:D->D->Res R
 | .lst ds,.int i=>match D4 ds i with
  |some d=>.ok (.f,d)
  |none=>.bad
 | .tup ds,.int i=>match D4 ds i with
  |some d=>.ok (.f,d)
  |none=>.bad
 | .str l,.int i=>match D4 l i with
  |some c=>.ok (.f,.str [c])
  |none=>.bad
 |_,_=>.bad
theorem mK{K:W.Frag}{G:Hp}{ds:List D}{xs:List V}{i:Int}{d:D}(r:Reps K G ds xs)(e:D4 ds i=some d):∃v,D4 xs i=some v/\Rep K G d v:=by
 unfold D4 at e ⊢;rw[r.length];cases hn:ixN ds.length i with
 |none=>rw[hn]at e;cases e
 |some j=>
  rw[hn]at e;exact r.get e
theorem Ai:J8 X (rG X.K Cq):=by
 rintro value slice pr s σ H x y v u Q I rx ry ⟨G,fp,es,vs,a,b,r,⟨rel,k⟩,va,vb,e⟩ hs;unfold Cq at e;split at e
 ·rename_i ds i;split at e
  ·rename_i d hd;cases e;obtain⟨p,xs,ev,sq,rs⟩:=va;subst ev;cases bq vb;obtain⟨w',hw,F6⟩:=mK rs hd;exact uX value slice pr s σ H _ _ v u Q I rx ry ⟨p,xs,i,w',rfl,rfl,sq,hw,k _ H G fp .refl (rel.push F6)⟩ hs
  ·cases e
 ·rename_i ds i;split at e
  ·rename_i d hd;cases e;obtain⟨p,xs,ev,sq,rs⟩:=eS va;subst ev;cases bq vb;obtain⟨w',hw,F6⟩:=mK rs hd;exact xB value slice pr s σ H _ _ v u Q I rx ry ⟨p,xs,i,w',rfl,rfl,br rel.gh sq,hw,k _ H G fp .refl (rel.push F6)⟩ hs
  ·cases e
 ·rename_i l i;split at e
  ·rename_i c hc;cases e;obtain⟨ev,hl⟩:=cU va;subst ev;cases bq vb;refine xC value slice pr s σ H _ _ v u Q I rx ry ⟨_,i,c,rfl,rfl,by rw[i6];exact hl,by rw[cn];exact hc,?_⟩ hs;exact k _ H G fp .refl (rel.push (eY (l:=[c]) (by rw[line_eq];simp)))
  ·cases e
 ·cases e
variable{a b:Expr}{fa fb:FO}
theorem aJ(ha:QO X a fa)(hb:QO X b fb)(hs:o8 b:=by exact fun _ _=>rfl):QE X (.Subscript a b pos) (aE Cq fa fb):=ba (zU Ai ha hb hs) fun _ _ _=>mF
abbrev FP:=PV.Env->Res (Option Int×PV.Env)
inductive tQP(K:W.Frag)(f:FP)(σ:L2.St)(H:Hp)(Q:Option Int->Hp->Prop):Prop
 |mk:∀G env fp i env',Rel K G H env σ fp->f env=.ok (i,env')->(∀H' G' Cg,Step G H fp G' H' Cg->Rel K G' H' env' σ Cg->Q i H')->tQP K f σ H Q
def QP(X:Cx)(e:Option Expr)(f:FP):Prop:=PO X e (tQP X.K f)
def pY:FP:=fun env=>.ok (none,env)
def pZ(f:FX):FP:=fun env=>(f env).bind fun p=>match p.1.2 with
 | .int i=>.ok (some i,p.2)
 |_=>.bad
theorem uf{X:Cx}{e:Option Expr}{t t':TO}(h:PO X e t)(k:∀σ H Q,t' σ H Q->t σ H Q):PO X e t':=fun pr s σ H Q I w=>h pr s σ H Q I (k σ H Q w)
theorem lP:QP X none pY:=uf uU fun σ H Q Cm=>by
 obtain⟨G,env,fp,i,env',rel,e,k⟩:=Cm;cases e;exact k H G fp .refl rel
theorem lQ{e:Expr}{f:FX}(h:QE X e f):QP X (some e) (pZ f):=uf (uV h) fun σ H Q Cm=>by
 obtain⟨G,env,fp,i,env',rel,e,k⟩:=Cm;obtain⟨⟨⟨o,d⟩,B9⟩,e1,e⟩:=ag e;dsimp only at e;split at e
 ·rename_i j;cases e;refine⟨G,env,fp,_,_,rel,e1,fun v H1 G1 Cy Cr Cd=>?_⟩;have hv:=Cd.top;obtain⟨b,Ca,Cj⟩:=Cd.drop;exact⟨j,bj hv,k H1 G1 b (Cr.trans Cj) Ca⟩
 ·cases e
def ka{α:Type}(xs:List α)(lo hi:Option Int):List α:=(xs.drop (HT.sIx xs.length 0 lo)).take (HT.sIx xs.length xs.length hi-HT.sIx xs.length 0 lo)
noncomputable def JS(k:D)(lo hi:Option Int):Res R:=match k with
 | .lst ds=>.ok (.l .f,.lst (ka ds lo hi))
 | .tup ds=>if ¬ (HT.sIx ds.length 0 lo=0/\HT.sIx ds.length ds.length hi=ds.length) then .ok (.f,.tup (ka ds lo hi)) else .bad
 | .str l=>.ok (.f,.str (ka l lo hi))
 |_=>.bad
def eSl(fa:FO)(lo hi:FP):FX:=fun env=>(fa env).bind fun p=>(lo p.2).bind fun q=>(hi q.2).bind fun t=>(DA t.2 p.1).bind fun d=>(JS d q.1 t.1).bind fun r=>.ok (r,t.2)
theorem mL{K:W.Frag}{G:Hp}{ds:List D}{xs:List V}{lo hi:Option Int}(r:Reps K G ds xs):Reps K G (ka ds lo hi) (tP xs lo hi):=by
 unfold ka tP;rw[r.length];exact(r.drop _).take _
theorem vN{α:Type}(xs:List α)(lo hi:Option Int):(ka xs lo hi).length<=xs.length:=by
 unfold ka;rw[NI,Pf];lia
inductive rSl(K:W.Frag)(x:V)(lo:Option Int)(hi:Option Int)(H:Hp)(Q:VK):Prop
 |mk:∀G fp es vs d r,Goes K H G fp es vs r Q->Vw K G H d x->JS d lo hi=.ok r->rSl K x lo hi H Q
theorem yh:IH X (rSl X.K):=by
 rintro pr s σ H x v vl vu lo hi sl Q I rx hs pl pu ⟨G,fp,es,vs,d,r,⟨rel,k⟩,vd,e⟩;unfold JS at e;split at e
 ·rename_i ds;cases e;obtain⟨p,xs,ev,sq,rs⟩:=vd;subst ev;refine uY pr s σ H _ v vl vu lo hi sl Q I rx hs pl pu ⟨p,xs,rfl,sq,fun q hq=>?_⟩;obtain⟨Ca,Cj⟩:=rel.newL hq (mL (lo:=lo) (hi:=hi) rs);exact k _ _ G _ Cj Ca
 ·rename_i ds;split at e
  ·rename_i hw;cases e;obtain⟨p,xs,ev,sq,rs⟩:=eS vd;subst ev;refine xA pr s σ H _ v vl vu lo hi sl Q I rx hs pl pu ⟨p,xs,rfl,br rel.gh sq,by rw[rs.length];exact hw,fun q hq=>?_⟩;obtain⟨G2,Ca,Cj⟩:=jL rel hq (mL (lo:=lo) (hi:=hi) rs);exact k _ _ G2 _ Cj Ca
  ·cases e
 ·rename_i l;cases e;obtain⟨ev,hl⟩:=cU vd;subst ev;exact xI pr s σ H _ v vl vu lo hi sl Q I rx hs pl pu ⟨l,rfl,hl,k _ H G fp .refl (rel.push (eY (l:=xH l lo hi) (NF (vN l lo hi) hl)))⟩
 ·cases e
def p3(env:PV.Env)(i:Nat):Bool:=match env[i]? with
 |some (some (_,.lst _))=>true
 |_=>false
theorem si{K:W.Frag}{G H:Hp}{es:PV.Env}{σ:L2.St}{fp:List Addr}{i:Nat}(rel:Rel K G H es σ fp)(h:p3 es i=true):∃v,σ[i]?=some (some v)/\LG K "list" v H:=by
 unfold p3 at h;split at h
 ·rename_i o ds hr;obtain⟨v,ev,rv⟩:=rel.view hr;obtain⟨p,xs,e,sq,_⟩:=aW rv;subst e;exact⟨_,ev,.inl ⟨rfl,xs,sq⟩⟩
 ·cases h
def ug(i:Nat)(f:FX):FX:=fun env=>if p3 env i then(f env).bind fun p=>match p.2[i]? with
 |some (some (.l .f,.lst ds))=>if ds.length<sizeLine then .ok ((.f,.non),p.2.set i (some (.l .f,.lst (ds++[p.1.2])))) else .bad
 |_=>.bad
 else .bad
theorem dU{i:Nat}{o e:Expr}{f:FX}{apos Cu:Pos}(ho:PE X o (nH i))(he:QE X e f)
  (DW:attributeBase o "append" X.env (eval o X.env)=eval o X.env:=by rfl)
  (EN:((backTo Cu (starEach [e] X.env)).all (fun x=>!x.1)&&(backToKw Cu (keywordEach [] X.env)).all (fun x=>x.1.isSome)&&decide ([e].length+([]:List Keyword).length+(if([]:List Keyword).isEmpty then 0 else 1)<30))=true:=by rfl)
  (DX:(apos.endLine==Cu.line)=true:=by rfl) (hs:starEach [e] X.env=(false,eval e X.env)::starEach [] X.env:=by rfl) (Di:(backTo Cu (starEach [] X.env)).any (·.1)=false:=by rfl):
  QE X (.Call (.Attribute o "append" apos) [e] [] Cu) (ug i f):=by
 refine ba (xF PySem.F.plainAttrs_list PySem.F.slot_list_append PySem.F.type_list_append ku ho (aj he az hs) DW EN DX hs Di) fun σ H Q Cz=>?_
 obtain⟨G,env,fp,r,env',rel,e,k⟩:=Cz;unfold ug at e;split at e
 ·rename_i MD;obtain⟨v,ev,ty⟩:=si rel MD;obtain⟨⟨r1,B9⟩,e1,e⟩:=ag e;dsimp only at e;split at e
  ·rename_i ds IG;split at e
   ·rename_i hl;cases e;refine⟨v,ev,ty,G,env,fp,[r1.2],B9,rel,by show(f env).bind _=_;rw[e1];rfl,fun vs H1 G1 Cy Cr Cd rs=>?_⟩;rw[Reps]at rs;obtain⟨y,ys,eys,ry,rn⟩:=rs;rw[Reps]at rn;subst rn;obtain⟨p,xs,ep,hp,Kq,cg⟩:=Cd.chg (ds':=ds++[r1.2]) IG;rw[ev]at ep;cases ep;obtain⟨fq,Ca,Cj⟩:=cg (xs++[y]) (Kq.app (.one ry));exact⟨p,xs,y,rfl,eys,hp,by rw[Kq.length];exact hl,k _ _ G1 fq (Cr.trans Cj) (Ca.push jG)⟩
   ·cases e
  ·cases e
 ·cases e
def Aj:List D->Res R
 |[.lst ds]=>.ok (.f,.int ds.length)
 |[.tup ds]=>.ok (.f,.int ds.length)
 |[.str l]=>.ok (.f,.int l.length)
 |_=>.bad
theorem oh{K:W.Frag}{G H:Hp}{d:D}{xs:List V}(h:JP K G H [d] xs):∃v,xs=[v]/\Vw K G H d v:=by
 obtain⟨y,ys,e,v1,e2⟩:=h;have e2:ys=[]:=e2;subst e2;exact⟨y,e,v1⟩
theorem yi:de X (.builtin "len") (rC X.K Aj):=by
 rintro pr s σ H xs us Q I rx ⟨G,fp,es,vs,ds,r,⟨rel,k⟩,vd,e⟩;unfold Aj at e;split at e
 ·rename_i ds;cases e;obtain⟨v,ev,p,ys,ep,sq,rs⟩:=oh vd;subst ev;subst ep;refine gw pr s σ H _ us Q I rx ⟨p,ys,rfl,.inl sq,?_⟩;rw[rs.length];exact k _ H G fp .refl (rel.push (bL _))
 ·rename_i ds;cases e;obtain⟨v,ev,vt⟩:=oh vd;obtain⟨p,ys,ep,sq,rs⟩:=eS vt;subst ev;subst ep;refine gw pr s σ H _ us Q I rx ⟨p,ys,rfl,.inr (br rel.gh sq),?_⟩;rw[rs.length];exact k _ H G fp .refl (rel.push (bL _))
 ·rename_i l;cases e;obtain⟨v,ev,vt⟩:=oh vd;obtain⟨ep,hl⟩:=cU vt;subst ev;subst ep;refine kq pr s σ H _ us Q I rx ⟨S l,rfl,by rw[i6];exact hl,?_⟩;rw[i6];exact k _ H G fp .refl (rel.push (bL _))
 ·cases e
def sj:List D->Res R
 |[.lst ds]=>.ok (.l .f,.lst ds)
 |[.tup ds]=>.ok (.l .f,.lst ds)
 |_=>.bad
theorem vO:de X (.type "list") (rC X.K sj):=by
 rintro pr s σ H xs us Q I rx ⟨G,fp,es,vs,ds,r,⟨rel,k⟩,vd,e⟩;unfold sj at e;split at e
 ·rename_i ds;cases e;obtain⟨v,ev,p,ys,ep,sq,rs⟩:=oh vd;subst ev;subst ep;refine gy pr s σ H _ us Q I rx ⟨p,ys,rfl,.inl sq,fun q hq=>?_⟩;obtain⟨Ca,Cj⟩:=rel.newL hq rs;exact k _ _ G _ Cj Ca
 ·rename_i ds;cases e;obtain⟨v,ev,vt⟩:=oh vd;obtain⟨p,ys,ep,sq,rs⟩:=eS vt;subst ev;subst ep;refine gy pr s σ H _ us Q I rx ⟨p,ys,rfl,.inr (br rel.gh sq),fun q hq=>?_⟩;obtain⟨Ca,Cj⟩:=rel.newL hq rs;exact k _ _ G _ Cj Ca
 ·cases e
def kR:List D->Res R
 |[.lst ds]=>.ok (.f,.tup ds)
 |[.tup ds]=>.ok (.f,.tup ds)
 |_=>.bad
theorem mM:de X (.type "tuple") (rC X.K kR):=by
 rintro pr s σ H xs us Q I rx ⟨G,fp,es,vs,ds,r,⟨rel,k⟩,vd,e⟩;unfold kR at e;split at e
 ·rename_i ds;cases e;obtain⟨v,ev,p,ys,ep,sq,rs⟩:=oh vd;subst ev;subst ep;refine ft pr s σ H _ us Q I rx ⟨p,ys,rfl,.inl ⟨sq,fun q hq=>?_⟩⟩;obtain⟨G2,Ca,Cj⟩:=jL rel hq rs;exact k _ _ G2 _ Cj Ca
 ·rename_i ds;cases e;obtain⟨v,ev,vt⟩:=oh vd;obtain⟨p,ys,ep,sq,rs⟩:=eS vt;subst ev;subst ep;exact ft pr s σ H _ us Q I rx ⟨p,ys,rfl,.inr ⟨br rel.gh sq,k _ H G fp .refl (rel.push vt)⟩⟩
 ·cases e
def kS:List D->Option (List Bool)
 |[]=>some []
 | .bl b::ds=>(kS ds).map (b:: ·)
 |_=>none
def fF:List D->Option (List Int)
 |[]=>some []
 | .int b::ds=>(fF ds).map (b:: ·)
 |_=>none
theorem jk{K:W.Frag}{G:Hp}:∀{ds:List D}{bs:List Bool}{xs:List V},kS ds=some bs->Reps K G ds xs->xs=bs.map V.bl
 |[],_,_,e,r=>by
  cases e;rw[Reps]at r;exact r
 | .bl b::ds,_,_,e,r=>by
  rw[kS,Nr]at e;obtain⟨bs,e1,e2⟩:=e;subst e2;rw[Reps]at r;obtain⟨y,ys,e3,r1,r2⟩:=r;rw[e3,bO r1,jk e1 r2];rfl
 | .non::_,_,_,e,_ | .int _::_,_,_,e,_ | .str _::_,_,_,e,_ | .tup _::_,_,_,e,_ | .lst _::_,_,_,e,_ | .dct _ _ _::_,_,_,e,_=>by simp[kS]at e
theorem iq{K:W.Frag}{G:Hp}:∀{ds:List D}{bs:List Int}{xs:List V},fF ds=some bs->Reps K G ds xs->xs=bs.map V.int
 |[],_,_,e,r=>by
  cases e;rw[Reps]at r;exact r
 | .int b::ds,_,_,e,r=>by
  rw[fF,Nr]at e;obtain⟨bs,e1,e2⟩:=e;subst e2;rw[Reps]at r;obtain⟨y,ys,e3,r1,r2⟩:=r;rw[e3,bj r1,iq e1 r2];rfl
 | .non::_,_,_,e,_ | .bl _::_,_,_,e,_ | .str _::_,_,_,e,_ | .tup _::_,_,_,e,_ | .lst _::_,_,_,e,_ | .dct _ _ _::_,_,_,e,_=>by simp[fF]at e
theorem p4(ns:List Bool):kS (ns.map D.bl)=some ns:=by
 induction ns with
 |nil=>rfl
 |cons n ns ih=>rw[Nk,kS,ih];rfl
def mO:D->Option (List D)
 | .lst ds=>some ds
 | .tup ds=>some ds
 |_=>none
theorem vP{K:W.Frag}{G H:Hp}{d:D}{ds:List D}{v:V}(gh:Same G H)(e:mO d=some ds)(h:Vw K G H d v):∃p xs,v=.ref p/\(SqL K H p xs\/SqT K H p xs)/\Reps K G ds xs:=by
 cases d with
 |lst es=>
  cases e;obtain⟨p,xs,ev,sq,rs⟩:=h;exact⟨p,xs,ev,.inl sq,rs⟩
 |tup es=>
  cases e;obtain⟨p,xs,ev,sq,rs⟩:=aQ h;exact⟨p,xs,ev,.inr (br gh sq),rs⟩
 |_=>cases e
def wO:List D->Res R
 |[d]=>match(mO d).bind kS with
  |some bs=>.ok (.f,.bl (bs.all id))
  |none=>.bad
 |_=>.bad
theorem sk(bs:List Bool):(bs.map V.bl).all z6=true:=by
 rw[OF,NA];intro b _;rfl
theorem vQ(bs:List Bool):(bs.map V.bl).all xN=bs.all id:=by
 rw[OF];rfl
theorem uh(hc:X.calm=true):de X (.builtin "all") (rC X.K wO):=by
 rintro pr s σ H xs us Q I rx ⟨G,fp,es,vs,ds,r,⟨rel,k⟩,vd,e⟩;unfold wO at e;split at e
 ·rename_i d;split at e
  ·rename_i bs hb;cases e;obtain⟨l,hl,hb⟩:=N2.mp hb;obtain⟨v,ev,vt⟩:=oh vd;obtain⟨p,ys,ep,sq,rs⟩:=vP rel.gh hl vt;have:=jk hb rs;subst this;subst ev;subst ep;refine rB hc pr s σ H _ us Q I rx ⟨p,_,rfl,sq,sk bs,?_⟩;rw[vQ];exact k _ H G fp .refl (rel.push (bw _))
  ·cases e
 ·cases e
def maxD:List D->Res R
 |[d]=>match(mO d).bind fF with
  |some (n::ns)=>.ok (.f,.int (xO (n::ns)))
  |_=>.bad
 |[.int i,.int j]=>.ok (.f,.int (if i<j then j else i))
 |_=>.bad
end
mutual
noncomputable def Ci:D->D->Bool
 | .non,.non=>true
 | .bl a,.bl b=>a==b
 | .bl a,.int j=>(if a then 1 else 0)==j
 | .int i,.bl b=>i==(if b then 1 else 0)
 | .int i,.int j=>i==j
 | .str a,.str b=>a==b
 | .tup a,.tup b=>gA a b
 | .lst a,.lst b=>gA a b
 |_,_=>false
noncomputable def gA:List D->List D->Bool
 |[],[]=>true
 |a::as,b::bs=>Ci a b&&gA as bs
 |_,_=>false
end
mutual
noncomputable def plainD:Nat->D->Bool
 |n+1,.tup ds=>plainDs n ds
 |n+1,.lst ds=>plainDs n ds
 | 0,.tup _=>false
 | 0,.lst _=>false
 |_,.dct _ _ _=>false
 |_,_=>true
noncomputable def plainDs:Nat->List D->Bool
 |_,[]=>true
 |n,d::ds=>plainD n d&&plainDs n ds
end
theorem plainDs_mem:∀{n:Nat}{ds:List D},plainDs n ds=true->∀{i:Nat}{d:D},ds[i]?=some d->plainD n d=true
 |_,[],_,_,_,e=>by simp at e
 |n,a::ds,h,0,d,e=>by
  rw[plainDs,Nf]at h;simp at e;rw[<-e];exact h.1
 |n,a::ds,h,i+1,d,e=>by
  rw[plainDs,Nf]at h;exact plainDs_mem h.2 (i:=i) (by simpa using e)
theorem fG:∀{a b:List D},a.length≠b.length->gA a b=false
 |[],[],h=>absurd rfl h
 |[],_::_,_=>by simp only[gA]
 |_::_,[],_=>by simp only[gA]
 |x::xs,y::ys,h=>by
  rw[gA,fG (fun e=>h (by simp[e])),PZ]
theorem dt:∀{a b:List D},a.length=b.length->(List.range a.length).all (fun j=>Ci (a.getD j .non) (b.getD j .non))=gA a b
 |[],[],_=>rfl
 |[],_::_,h=>by simp at h
 |_::_,[],h=>by simp at h
 |x::xs,y::ys,h=>by
  rw[gA,<-dt (a:=xs) (b:=ys) (by simpa using h),Nq,List.range_succ_eq_map,Pt,OF];rfl
section
variable{X:Cx}{pr:List (Addr×Obj)}{σ:L2.St}{H:Hp}{s:Shared}
theorem ir(I:Inv X pr σ H s){p:Addr}{xs ys:List V}(h:SqL X.K H p xs)(h':SqT X.K H p ys):False:=by
 obtain⟨us,_,p1,_⟩:=I.list h;obtain⟨ws,_,p2,_⟩:=I.tuple h';exact SeqAt.ne_of_list_tuple p1.isList (show s.heap.IsTuple p ws.toArray from p2) rfl
mutual
theorem jM(I:Inv X pr σ H s):∀(d e:D) (x:V) (n:Nat),plainD n d=true->Rep X.K H d x->Rep X.K H e x->d=e
 | .non,e,x,n,_,r,q=>by
  cases bI r;cases e with
  |non=>rfl
  |bl b=>cases bO q
  |int i=>cases bj q
  |str l=>cases(aR q).1
  |tup l=>obtain⟨p,xs,ev,_⟩:=aQ q;cases ev
  |lst l=>obtain⟨p,xs,ev,_⟩:=aW q;cases ev
  |dct tk ks vs=>rw[Rep]at q;obtain⟨p,xs,o,ev,_⟩:=q;cases ev
 | .bl b,e,x,n,_,r,q=>by
  cases bO r;cases e with
  |non=>cases bI q
  |bl b=>cases bO q;rfl
  |int i=>cases bj q
  |str l=>cases(aR q).1
  |tup l=>obtain⟨p,xs,ev,_⟩:=aQ q;cases ev
  |lst l=>obtain⟨p,xs,ev,_⟩:=aW q;cases ev
  |dct tk ks vs=>rw[Rep]at q;obtain⟨p,xs,o,ev,_⟩:=q;cases ev
 | .int i,e,x,n,_,r,q=>by
  cases bj r;cases e with
  |non=>cases bI q
  |bl b=>cases bO q
  |int i=>cases bj q;rfl
  |str l=>cases(aR q).1
  |tup l=>obtain⟨p,xs,ev,_⟩:=aQ q;cases ev
  |lst l=>obtain⟨p,xs,ev,_⟩:=aW q;cases ev
  |dct tk ks vs=>rw[Rep]at q;obtain⟨p,xs,o,ev,_⟩:=q;cases ev
 | .str l,e,x,n,_,r,q=>by
  have hr:=(aR r).1;subst hr;cases e with
  |non=>cases bI q
  |bl b=>cases bO q
  |int i=>cases bj q
  |str l'=>
   have hq:=(aR q).1;injection hq with hq;rw[u9 hq]
  |tup l=>obtain⟨p,xs,ev,_⟩:=aQ q;cases ev
  |lst l=>obtain⟨p,xs,ev,_⟩:=aW q;cases ev
  |dct tk ks vs=>rw[Rep]at q;obtain⟨p,xs,o,ev,_⟩:=q;cases ev
 | .tup l,e,x,n,h,r,q=>by
  obtain⟨p,xs,ev,sq,rs⟩:=aQ r;subst ev;cases e with
  |non=>cases bI q
  |bl b=>cases bO q
  |int i=>cases bj q
  |str l=>cases(aR q).1
  |tup l'=>
   obtain⟨p',DY,D9,DG,Ee⟩:=aQ q;cases D9;have:=I.tuple_inj sq DG;subst this;cases n with
   |zero=>simp only[plainD]at h;cases h
   |succ n=>
    simp only[plainD]at h;rw[jN I l l' xs n h rs Ee]
  |lst l'=>
   obtain⟨p',DY,D9,DG,Ee⟩:=aW q;cases D9;exact(ir I DG sq).elim
  |dct tk ks vs=>
   exfalso;rw[Rep]at q;obtain⟨p',DY,o,D9,rd,dd,_⟩:=q;cases D9;obtain⟨Cc,_,ip,_⟩:=I.tuple sq;obtain⟨ob,ho,hc,_⟩:=ip;have IZ:=rd.ok I.hok;cases tk with
   |true=>
    obtain⟨kvs,eo,_⟩:=dd;subst eo;obtain⟨_,_,_,_,o2,_,_,DJ,ex,_⟩:=IZ;rw[ho]at DJ;cases DJ;rw[ex.1]at hc;exact absurd hc (by decide)
   |false=>
    obtain⟨kvs,eo,_⟩:=dd;subst eo;obtain⟨_,_,_,_,o2,_,_,DJ,ex,_⟩:=IZ;rw[ho]at DJ;cases DJ;rw[ex.1]at hc;exact absurd hc (by decide)
 | .lst l,e,x,n,h,r,q=>by
  obtain⟨p,xs,ev,sq,rs⟩:=aW r;subst ev;cases e with
  |non=>cases bI q
  |bl b=>cases bO q
  |int i=>cases bj q
  |str l=>cases(aR q).1
  |tup l'=>
   obtain⟨p',DY,D9,DG,Ee⟩:=aQ q;cases D9;exact(ir I sq DG).elim
  |lst l'=>
   obtain⟨p',DY,D9,DG,Ee⟩:=aW q;cases D9;have:=I.list_inj sq DG;subst this;cases n with
   |zero=>simp only[plainD]at h;cases h
   |succ n=>
    simp only[plainD]at h;rw[jN I l l' xs n h rs Ee]
  |dct tk ks vs=>
   exfalso;rw[Rep]at q;obtain⟨p',DY,o,D9,rd,dd,_⟩:=q;cases D9;obtain⟨Cc,_,ip,_⟩:=I.list sq;obtain⟨ob,_,ho,hc,_⟩:=ip;have IZ:=rd.ok I.hok;cases tk with
   |true=>
    obtain⟨kvs,eo,_⟩:=dd;subst eo;obtain⟨_,_,_,_,o2,_,_,DJ,ex,_⟩:=IZ;rw[ho]at DJ;cases DJ;rw[ex.1]at hc;exact absurd hc (by decide)
   |false=>
    obtain⟨kvs,eo,_⟩:=dd;subst eo;obtain⟨_,_,_,_,o2,_,_,DJ,ex,_⟩:=IZ;rw[ho]at DJ;cases DJ;rw[ex.1]at hc;exact absurd hc (by decide)
 | .dct _ _ _,_,_,n,h,_,_=>by cases n <;> (simp only[plainD]at h;cases h)
theorem jN(I:Inv X pr σ H s):∀(ds es:List D) (xs:List V) (n:Nat),plainDs n ds=true->Reps X.K H ds xs->Reps X.K H es xs->ds=es
 |[],es,xs,n,_,r,q=>by
  rw[Reps]at r;subst r;cases es with
  |nil=>rfl
  |cons e es=>
   rw[Reps]at q;obtain⟨y,ys,ev,_⟩:=q;cases ev
 |d::ds,es,xs,n,h,r,q=>by
  rw[Reps]at r;obtain⟨y,ys,ev,r1,r2⟩:=r;subst ev;rw[plainDs,Nf]at h;cases es with
  |nil=>
   rw[Reps]at q;cases q
  |cons e es=>
   rw[Reps]at q;obtain⟨y',ys',ev,q1,q2⟩:=q;cases ev;rw[jM I d e y n h.1 r1 q1,jN I ds es ys n h.2 r2 q2]
end
mutual
theorem fH:∀(d:D) (n:Nat),plainD n d=true->Ci d d=true
 | .non,_,_=>by simp only[Ci]
 | .bl _,_,_=>by simp only[Ci,N5]
 | .int _,_,_=>by simp only[Ci,N5]
 | .str _,_,_=>by simp only[Ci,N5]
 | .tup ds,0,h=>by simp only[plainD]at h;cases h
 | .tup ds,n+1,h=>by simp only[plainD]at h;simp only[Ci];exact iu ds n h
 | .lst ds,0,h=>by simp only[plainD]at h;cases h
 | .lst ds,n+1,h=>by simp only[plainD]at h;simp only[Ci];exact iu ds n h
 | .dct _ _ _,n,h=>by cases n <;> (simp only[plainD]at h;cases h)
theorem iu:∀(ds:List D) (n:Nat),plainDs n ds=true->gA ds ds=true
 |[],_,_=>by simp only[gA]
 |d::ds,n,h=>by
  rw[plainDs,Nf]at h;rw[gA,fH d n h.1,iu ds n h.2];rfl
end
open PySem.SeqAt
theorem bp{n:Nat}{tk:Bool}{ks vs:List D}(h:plainD n (.dct tk ks vs)=true):False:=by cases n <;> (simp only[plainD]at h;cases h)
mutual
theorem yj(I:Inv X pr σ H s):∀(d e:D) (x y:V) (v u:Value) (A:Around) (n:Nat),plainD n d=true->plainD n e=true->A.units+n<cLine->Rep X.K H d x->Rep X.K H e y->RelV x v->RelV y u->EqAt A s v u (Ci d e)
 | .non,e,x,y,v,u,A,n,h,h',hu,r,q,rx,ry=>by
  cases bI r;cases rx;cases e with
  |non=>cases bI q;cases ry;simp only[Ci];exact .same _
  |bl b=>cases bO q;cases ry;simp only[Ci];exact .none_bool _
  |int i=>cases bj q;obtain⟨t,rfl⟩:=ry;simp only[Ci];exact .none_int _ _
  |str l=>cases(aR q).1;obtain⟨t,rfl⟩:=ry;simp only[Ci];exact .none_str _ _
  |tup l=>obtain⟨p,xs,rfl,sq,_⟩:=aQ q;cases ry;obtain⟨Cc,_,ip,_⟩:=I.tuple sq;simp only[Ci];exact .none_tuple (show s.heap.IsTuple p Cc.toArray from ip) (by lia)
  |lst l=>obtain⟨p,xs,rfl,sq,_⟩:=aW q;cases ry;obtain⟨Cc,_,ip,_⟩:=I.list sq;simp only[Ci];exact .none_list ip.isList (by lia)
  |dct tk ks vs=>exact(bp h').elim
 | .bl b,e,x,y,v,u,A,n,h,h',hu,r,q,rx,ry=>by
  cases bO r;cases rx;cases e with
  |non=>cases bI q;cases ry;simp only[Ci];exact .bool_none _
  |bl b=>cases bO q;cases ry;simp only[Ci];exact .bool_bool _ _
  |int i=>cases bj q;obtain⟨t,rfl⟩:=ry;simp only[Ci];exact .bool_int _ _ _
  |str l=>cases(aR q).1;obtain⟨t,rfl⟩:=ry;simp only[Ci];exact .bool_str _ _ _
  |tup l=>obtain⟨p,xs,rfl,sq,_⟩:=aQ q;cases ry;obtain⟨Cc,_,ip,_⟩:=I.tuple sq;simp only[Ci];exact .bool_tuple _ (show s.heap.IsTuple p Cc.toArray from ip) (by lia)
  |lst l=>obtain⟨p,xs,rfl,sq,_⟩:=aW q;cases ry;obtain⟨Cc,_,ip,_⟩:=I.list sq;simp only[Ci];exact .bool_list _ ip.isList (by lia)
  |dct tk ks vs=>exact(bp h').elim
 | .int b,e,x,y,v,u,A,n,h,h',hu,r,q,rx,ry=>by
  cases bj r;obtain⟨t0,rfl⟩:=rx;cases e with
  |non=>cases bI q;cases ry;simp only[Ci];exact .int_none _ _
  |bl b=>cases bO q;cases ry;simp only[Ci];exact .int_bool _ _ _
  |int i=>cases bj q;obtain⟨t,rfl⟩:=ry;simp only[Ci];exact .int_int _ _ _ _
  |str l=>cases(aR q).1;obtain⟨t,rfl⟩:=ry;simp only[Ci];exact .int_str _ _ _ _
  |tup l=>obtain⟨p,xs,rfl,sq,_⟩:=aQ q;cases ry;obtain⟨Cc,_,ip,_⟩:=I.tuple sq;simp only[Ci];exact .int_tuple _ _ (show s.heap.IsTuple p Cc.toArray from ip) (by lia)
  |lst l=>obtain⟨p,xs,rfl,sq,_⟩:=aW q;cases ry;obtain⟨Cc,_,ip,_⟩:=I.list sq;simp only[Ci];exact .int_list _ _ ip.isList (by lia)
  |dct tk ks vs=>exact(bp h').elim
 | .str b,e,x,y,v,u,A,n,h,h',hu,r,q,rx,ry=>by
  have hr:=(aR r).1;subst hr;obtain⟨t0,rfl⟩:=rx;cases e with
  |non=>cases bI q;cases ry;simp only[Ci];exact .str_none _ _
  |bl b=>cases bO q;cases ry;simp only[Ci];exact .str_bool _ _ _
  |int i=>cases bj q;obtain⟨t,rfl⟩:=ry;simp only[Ci];exact .str_int _ _ _ _
  |str l=>
   have hq:=(aR q).1;subst hq;obtain⟨t,rfl⟩:=ry;have e1:(b==l)=(S b==S l):=by
    rw[Nx,NN,NN];exact⟨fun z=>by rw[z],u9⟩
   simp only[Ci,e1];exact .str_str _ _ _ _
  |tup l=>obtain⟨p,xs,rfl,sq,_⟩:=aQ q;cases ry;obtain⟨Cc,_,ip,_⟩:=I.tuple sq;simp only[Ci];exact .str_tuple _ _ (show s.heap.IsTuple p Cc.toArray from ip) (by lia)
  |lst l=>obtain⟨p,xs,rfl,sq,_⟩:=aW q;cases ry;obtain⟨Cc,_,ip,_⟩:=I.list sq;simp only[Ci];exact .str_list _ _ ip.isList (by lia)
  |dct tk ks vs=>exact(bp h').elim
 | .tup l,e,x,y,v,u,A,n,h,h',hu,r,q,rx,ry=>by
  have rr:=r;obtain⟨p,xs,ev,sq,rs⟩:=aQ r;subst ev;cases rx;obtain⟨Cc,vl,ip,_⟩:=I.tuple sq;have ip:s.heap.IsTuple p Cc.toArray:=ip;cases e with
  |non=>cases bI q;cases ry;simp only[Ci];exact .tuple_none ip (by lia)
  |bl b=>cases bO q;cases ry;simp only[Ci];exact .tuple_bool _ ip (by lia)
  |int i=>cases bj q;obtain⟨t,rfl⟩:=ry;simp only[Ci];exact .tuple_int _ _ ip (by lia)
  |str l=>cases(aR q).1;obtain⟨t,rfl⟩:=ry;simp only[Ci];exact .tuple_str _ _ ip (by lia)
  |tup l'=>
   obtain⟨p',DY,D9,DG,Ee⟩:=aQ q;subst D9;cases ry;by_cases hp:p=p'
   ·subst hp;have hz:=jM I _ _ _ n h rr q;rw[<-hz,fH _ n h];exact .same _
   ·obtain⟨its',GC,DU,_⟩:=I.tuple DG;have DU:s.heap.IsTuple p' its'.toArray:=DU;cases n with
    |zero=>simp only[plainD]at h;cases h
    |succ n=>
     simp only[plainD]at h h';have l1:=vl.length;have l2:=GC.length;have l3:=rs.length;have l4:=Ee.length;have key:=RcAt.tuples (A:=A) (e:=fun j=>Ci (l.getD j .non) (l'.getD j .non)) ip DU (by lia) fun j h1 h2=>by
      simp only[M6]at h1 h2;have g1:l[j]?=some (l[j]'(by lia)):=List.getElem?_eq_getElem _;have g2:l'[j]?=some (l'[j]'(by lia)):=List.getElem?_eq_getElem _;obtain⟨w1,GD,GF⟩:=rs.get g1;obtain⟨w2,Hy,Hz⟩:=Ee.get g2;obtain⟨u1,Ff,GH⟩:=vl.get GD;obtain⟨u2,F0,HA⟩:=GC.get Hy;have q1:Cc.toArray[j]=u1:=by rw[List.getElem?_eq_getElem h1]at Ff;simpa using Ff
      have q2:its'.toArray[j]=u2:=by rw[List.getElem?_eq_getElem h2]at F0;simpa using F0
      rw[q1,q2,List.getD_eq_getElem?_getD,List.getD_eq_getElem?_getD,g1,g2];exact kU I l j _ g1 _ w1 w2 u1 u2 A.in1 n (plainDs_mem h g1) (plainDs_mem h' g2) (by show A.units+1+n<cLine;lia) GF Hz GH HA
     simp only[Ci];have fin:((List.range (min Cc.toArray.size its'.toArray.size)).all (fun j=>Ci (l.getD j .non) (l'.getD j .non))&&Cc.toArray.size==its'.toArray.size)=gA l l':=by
      simp only[M6];by_cases hl:l.length=l'.length
      ·rw[<-dt hl,show min Cc.length its'.length=l.length by lia,show(Cc.length==its'.length)=true by rw[NN];lia,Pu]
      ·rw[fG hl,show(Cc.length==its'.length)=false by rw[NU];lia,PZ]
     rw[<-fin];exact .of_refs hp key
  |lst l'=>obtain⟨p',DY,D9,DG,_⟩:=aW q;subst D9;cases ry;obtain⟨its',_,DU,_⟩:=I.list DG;simp only[Ci];exact .tuple_list ip DU.isList (by lia)
  |dct tk ks vs=>exact(bp h').elim
 | .lst l,e,x,y,v,u,A,n,h,h',hu,r,q,rx,ry=>by
  have rr:=r;obtain⟨p,xs,ev,sq,rs⟩:=aW r;subst ev;cases rx;obtain⟨Cc,vl,ip,_⟩:=I.list sq;have ip:=ip.isList;cases e with
  |non=>cases bI q;cases ry;simp only[Ci];exact .list_none ip (by lia)
  |bl b=>cases bO q;cases ry;simp only[Ci];exact .list_bool _ ip (by lia)
  |int i=>cases bj q;obtain⟨t,rfl⟩:=ry;simp only[Ci];exact .list_int _ _ ip (by lia)
  |str l=>cases(aR q).1;obtain⟨t,rfl⟩:=ry;simp only[Ci];exact .list_str _ _ ip (by lia)
  |lst l'=>
   obtain⟨p',DY,D9,DG,Ee⟩:=aW q;subst D9;cases ry;by_cases hp:p=p'
   ·subst hp;have hz:=jM I _ _ _ n h rr q;rw[<-hz,fH _ n h];exact .same _
   ·obtain⟨its',GC,DU,_⟩:=I.list DG;have DU:=DU.isList;cases n with
    |zero=>simp only[plainD]at h;cases h
    |succ n=>
     simp only[plainD]at h h';have l1:=vl.length;have l2:=GC.length;have l3:=rs.length;have l4:=Ee.length;simp only[Ci];by_cases hl:l.length=l'.length
     ·have key:=RcAt.lists (A:=A) (e:=fun j=>Ci (l.getD j .non) (l'.getD j .non)) ip DU (by simp only[M6];lia) (by lia) fun j h1 h2=>by
       simp only[M6]at h1 h2;have g1:l[j]?=some (l[j]'(by lia)):=List.getElem?_eq_getElem _;have g2:l'[j]?=some (l'[j]'(by lia)):=List.getElem?_eq_getElem _;obtain⟨w1,GD,GF⟩:=rs.get g1;obtain⟨w2,Hy,Hz⟩:=Ee.get g2;obtain⟨u1,Ff,GH⟩:=vl.get GD;obtain⟨u2,F0,HA⟩:=GC.get Hy;have q1:Cc.toArray[j]=u1:=by rw[List.getElem?_eq_getElem h1]at Ff;simpa using Ff
       have q2:its'.toArray[j]=u2:=by rw[List.getElem?_eq_getElem h2]at F0;simpa using F0
       rw[q1,q2,List.getD_eq_getElem?_getD,List.getD_eq_getElem?_getD,g1,g2];exact kU I l j _ g1 _ w1 w2 u1 u2 A.in1 n (plainDs_mem h g1) (plainDs_mem h' g2) (by show A.units+1+n<cLine;lia) GF Hz GH HA
      rw[<-dt hl,show l.length=Cc.toArray.size by simp only[M6];lia];exact .of_refs hp key
     ·rw[fG hl];exact .of_refs hp (RcAt.lists_lengths ip DU (by simp only[M6,SD];lia) (by lia))
  |tup l'=>obtain⟨p',DY,D9,DG,_⟩:=aQ q;subst D9;cases ry;obtain⟨its',_,DU,_⟩:=I.tuple DG;simp only[Ci];exact .list_tuple ip (show s.heap.IsTuple p' its'.toArray from DU) (by lia)
  |dct tk ks vs=>exact(bp h').elim
 | .dct _ _ _,_,_,_,_,_,_,n,h,_,_,_,_,_,_=>(bp h).elim
theorem kU(I:Inv X pr σ H s):∀(ds:List D) (j:Nat) (d:D),ds[j]?=some d->∀(e:D) (x y:V) (v u:Value) (A:Around) (n:Nat),plainD n d=true->plainD n e=true->A.units+n<cLine->Rep X.K H d x->Rep X.K H e y->RelV x v->RelV y u->EqAt A s v u (Ci d e)
 |[],_,_,hj=>by simp at hj
 |d'::ds,0,d,hj=>by
  simp at hj;subst hj;exact yj I d'
 |d'::ds,j+1,d,hj=>kU I ds j d (by simpa using hj)
end
end
section
variable{X:Cx}
def Fg(a b:D):Res R:=if plainD 40 a&&plainD 40 b then .ok (.f,.bl (Ci a b)) else .bad
def Fp(a b:D):Res R:=if plainD 40 a&&plainD 40 b then .ok (.f,.bl (!Ci a b)) else .bad
open PySem.SeqAt in
theorem yk{pr:List (Addr×Obj)}{σ:L2.St}{H:Hp}{s:Shared}(I:Inv X pr σ H s){d e:D}{x y:V}{v u:Value}{A:Around}(h:plainD 40 d=true)(h':plainD 40 e=true)(hu:A.units+64<cLine)(r:Rep X.K H d x)(q:Rep X.K H e y)(rx:RelV x v)(ry:RelV y u):
  RcAt A s v u (Ci d e)/\RcNeAt A s v u (!Ci d e):=by
 cases d with
 |non=>
  cases bI r;cases rx;cases e with
  |non=>cases bI q;cases ry;simp only[Ci];exact⟨.none_none,.none_none⟩
  |bl b=>cases bO q;cases ry;simp only[Ci];exact⟨.none_bool _,.none_bool _⟩
  |int i=>cases bj q;obtain⟨t,rfl⟩:=ry;simp only[Ci];exact⟨.none_int _ _,.none_int _ _⟩
  |str l=>cases(aR q).1;obtain⟨t,rfl⟩:=ry;simp only[Ci];exact⟨.none_str _ _,.none_str _ _⟩
  |tup l=>obtain⟨p,xs,rfl,sq,_⟩:=aQ q;cases ry;obtain⟨Cc,_,ip,_⟩:=I.tuple sq;simp only[Ci];exact⟨.none_tuple (show s.heap.IsTuple p Cc.toArray from ip) (by lia),.none_tuple (show s.heap.IsTuple p Cc.toArray from ip) (by lia)⟩
  |lst l=>obtain⟨p,xs,rfl,sq,_⟩:=aW q;cases ry;obtain⟨Cc,_,ip,_⟩:=I.list sq;simp only[Ci];exact⟨.none_list ip.isList (by lia),.none_list ip.isList (by lia)⟩
  |dct tk ks vs=>exact(bp h').elim
 |bl b=>
  cases bO r;cases rx;cases e with
  |non=>cases bI q;cases ry;simp only[Ci];exact⟨.bool_none _,.bool_none _⟩
  |bl b=>cases bO q;cases ry;simp only[Ci];exact⟨.bool_bool _ _,.bool_bool _ _⟩
  |int i=>cases bj q;obtain⟨t,rfl⟩:=ry;simp only[Ci];exact⟨.bool_int _ _ _,.bool_int _ _ _⟩
  |str l=>cases(aR q).1;obtain⟨t,rfl⟩:=ry;simp only[Ci];exact⟨.bool_str _ _ _,.bool_str _ _ _⟩
  |tup l=>obtain⟨p,xs,rfl,sq,_⟩:=aQ q;cases ry;obtain⟨Cc,_,ip,_⟩:=I.tuple sq;simp only[Ci];exact⟨.bool_tuple _ (show s.heap.IsTuple p Cc.toArray from ip) (by lia),.bool_tuple _ (show s.heap.IsTuple p Cc.toArray from ip) (by lia)⟩
  |lst l=>obtain⟨p,xs,rfl,sq,_⟩:=aW q;cases ry;obtain⟨Cc,_,ip,_⟩:=I.list sq;simp only[Ci];exact⟨.bool_list _ ip.isList (by lia),.bool_list _ ip.isList (by lia)⟩
  |dct tk ks vs=>exact(bp h').elim
 |int b=>
  cases bj r;obtain⟨t0,rfl⟩:=rx;cases e with
  |non=>cases bI q;cases ry;simp only[Ci];exact⟨.int_none _ _,.int_none _ _⟩
  |bl b=>cases bO q;cases ry;simp only[Ci];exact⟨.int_bool _ _ _,.int_bool _ _ _⟩
  |int i=>cases bj q;obtain⟨t,rfl⟩:=ry;simp only[Ci];exact⟨.int_int _ _ _ _,.int_int _ _ _ _⟩
  |str l=>cases(aR q).1;obtain⟨t,rfl⟩:=ry;simp only[Ci];exact⟨.int_str _ _ _ _,.int_str _ _ _ _⟩
  |tup l=>obtain⟨p,xs,rfl,sq,_⟩:=aQ q;cases ry;obtain⟨Cc,_,ip,_⟩:=I.tuple sq;simp only[Ci];exact⟨.int_tuple _ _ (show s.heap.IsTuple p Cc.toArray from ip) (by lia),.int_tuple _ _ (show s.heap.IsTuple p Cc.toArray from ip) (by lia)⟩
  |lst l=>obtain⟨p,xs,rfl,sq,_⟩:=aW q;cases ry;obtain⟨Cc,_,ip,_⟩:=I.list sq;simp only[Ci];exact⟨.int_list _ _ ip.isList (by lia),.int_list _ _ ip.isList (by lia)⟩
  |dct tk ks vs=>exact(bp h').elim
 |str b=>
  have hr:=(aR r).1;subst hr;obtain⟨t0,rfl⟩:=rx;cases e with
  |non=>cases bI q;cases ry;simp only[Ci];exact⟨.str_none _ _,.str_none _ _⟩
  |bl b=>cases bO q;cases ry;simp only[Ci];exact⟨.str_bool _ _ _,.str_bool _ _ _⟩
  |int i=>cases bj q;obtain⟨t,rfl⟩:=ry;simp only[Ci];exact⟨.str_int _ _ _ _,.str_int _ _ _ _⟩
  |str l=>
   have hq:=(aR q).1;subst hq;obtain⟨t,rfl⟩:=ry;have e1:(b==l)=(S b==S l):=by
    rw[Nx,NN,NN];exact⟨fun z=>by rw[z],u9⟩
   simp only[Ci,e1];exact⟨.str_str _ _ _ _,.str_str _ _ _ _⟩
  |tup l=>obtain⟨p,xs,rfl,sq,_⟩:=aQ q;cases ry;obtain⟨Cc,_,ip,_⟩:=I.tuple sq;simp only[Ci];exact⟨.str_tuple _ _ (show s.heap.IsTuple p Cc.toArray from ip) (by lia),.str_tuple _ _ (show s.heap.IsTuple p Cc.toArray from ip) (by lia)⟩
  |lst l=>obtain⟨p,xs,rfl,sq,_⟩:=aW q;cases ry;obtain⟨Cc,_,ip,_⟩:=I.list sq;simp only[Ci];exact⟨.str_list _ _ ip.isList (by lia),.str_list _ _ ip.isList (by lia)⟩
  |dct tk ks vs=>exact(bp h').elim
 |tup l=>
  obtain⟨p,xs,ev,sq,rs⟩:=aQ r;subst ev;cases rx;obtain⟨Cc,vl,ip,_⟩:=I.tuple sq;have ip:s.heap.IsTuple p Cc.toArray:=ip;cases e with
  |non=>cases bI q;cases ry;simp only[Ci];exact⟨.tuple_none ip (by lia),.tuple_none ip (by lia)⟩
  |bl b=>cases bO q;cases ry;simp only[Ci];exact⟨.tuple_bool _ ip (by lia),.tuple_bool _ ip (by lia)⟩
  |int i=>cases bj q;obtain⟨t,rfl⟩:=ry;simp only[Ci];exact⟨.tuple_int _ _ ip (by lia),.tuple_int _ _ ip (by lia)⟩
  |str l=>cases(aR q).1;obtain⟨t,rfl⟩:=ry;simp only[Ci];exact⟨.tuple_str _ _ ip (by lia),.tuple_str _ _ ip (by lia)⟩
  |tup l'=>
   obtain⟨p',DY,D9,DG,Ee⟩:=aQ q;subst D9;cases ry;obtain⟨its',GC,DU,_⟩:=I.tuple DG;have DU:s.heap.IsTuple p' its'.toArray:=DU;simp only[plainD]at h h';have l1:=vl.length;have l2:=GC.length;have l3:=rs.length;have l4:=Ee.length;have el:∀j (h1:j<Cc.toArray.size) (h2:j<its'.toArray.size),EqAt A.in1 s Cc.toArray[j] its'.toArray[j] ((fun j=>Ci (l.getD j .non) (l'.getD j .non)) j):=fun j h1 h2=>by
    simp only[M6]at h1 h2;have g1:l[j]?=some (l[j]'(by lia)):=List.getElem?_eq_getElem _;have g2:l'[j]?=some (l'[j]'(by lia)):=List.getElem?_eq_getElem _;obtain⟨w1,GD,GF⟩:=rs.get g1;obtain⟨w2,Hy,Hz⟩:=Ee.get g2;obtain⟨u1,Ff,GH⟩:=vl.get GD;obtain⟨u2,F0,HA⟩:=GC.get Hy;have q1:Cc.toArray[j]=u1:=by rw[List.getElem?_eq_getElem h1]at Ff;simpa using Ff
    have q2:its'.toArray[j]=u2:=by rw[List.getElem?_eq_getElem h2]at F0;simpa using F0
    dsimp only;rw[q1,q2,List.getD_eq_getElem?_getD,List.getD_eq_getElem?_getD,g1,g2];exact kU I l j _ g1 _ w1 w2 u1 u2 A.in1 39 (plainDs_mem h g1) (plainDs_mem h' g2) (by show A.units+1+39<cLine;lia) GF Hz GH HA
   simp only[Ci];have fin:((List.range (min Cc.toArray.size its'.toArray.size)).all (fun j=>Ci (l.getD j .non) (l'.getD j .non))&&Cc.toArray.size==its'.toArray.size)=gA l l':=by
    simp only[M6];by_cases hl:l.length=l'.length
    ·rw[<-dt hl,show min Cc.length its'.length=l.length by lia,show(Cc.length==its'.length)=true by rw[NN];lia,Pu]
    ·rw[fG hl,show(Cc.length==its'.length)=false by rw[NU];lia,PZ]
   rw[<-fin];exact⟨.tuples ip DU (by lia) el,.tuples ip DU (by lia) el⟩
  |lst l'=>obtain⟨p',DY,D9,DG,_⟩:=aW q;subst D9;cases ry;obtain⟨its',_,DU,_⟩:=I.list DG;simp only[Ci];exact⟨.tuple_list ip DU.isList (by lia),.tuple_list ip DU.isList (by lia)⟩
  |dct tk ks vs=>exact(bp h').elim
 |lst l=>
  obtain⟨p,xs,ev,sq,rs⟩:=aW r;subst ev;cases rx;obtain⟨Cc,vl,ip,_⟩:=I.list sq;have ip:=ip.isList;cases e with
  |non=>cases bI q;cases ry;simp only[Ci];exact⟨.list_none ip (by lia),.list_none ip (by lia)⟩
  |bl b=>cases bO q;cases ry;simp only[Ci];exact⟨.list_bool _ ip (by lia),.list_bool _ ip (by lia)⟩
  |int i=>cases bj q;obtain⟨t,rfl⟩:=ry;simp only[Ci];exact⟨.list_int _ _ ip (by lia),.list_int _ _ ip (by lia)⟩
  |str l=>cases(aR q).1;obtain⟨t,rfl⟩:=ry;simp only[Ci];exact⟨.list_str _ _ ip (by lia),.list_str _ _ ip (by lia)⟩
  |lst l'=>
   obtain⟨p',DY,D9,DG,Ee⟩:=aW q;subst D9;cases ry;obtain⟨its',GC,DU,_⟩:=I.list DG;have DU:=DU.isList;simp only[plainD]at h h';have l1:=vl.length;have l2:=GC.length;have l3:=rs.length;have l4:=Ee.length;simp only[Ci];by_cases hl:l.length=l'.length
   ·have el:∀j (h1:j<Cc.toArray.size) (h2:j<its'.toArray.size),EqAt A.in1 s Cc.toArray[j] its'.toArray[j] ((fun j=>Ci (l.getD j .non) (l'.getD j .non)) j):=fun j h1 h2=>by
     simp only[M6]at h1 h2;have g1:l[j]?=some (l[j]'(by lia)):=List.getElem?_eq_getElem _;have g2:l'[j]?=some (l'[j]'(by lia)):=List.getElem?_eq_getElem _;obtain⟨w1,GD,GF⟩:=rs.get g1;obtain⟨w2,Hy,Hz⟩:=Ee.get g2;obtain⟨u1,Ff,GH⟩:=vl.get GD;obtain⟨u2,F0,HA⟩:=GC.get Hy;have q1:Cc.toArray[j]=u1:=by rw[List.getElem?_eq_getElem h1]at Ff;simpa using Ff
     have q2:its'.toArray[j]=u2:=by rw[List.getElem?_eq_getElem h2]at F0;simpa using F0
     dsimp only;rw[q1,q2,List.getD_eq_getElem?_getD,List.getD_eq_getElem?_getD,g1,g2];exact kU I l j _ g1 _ w1 w2 u1 u2 A.in1 39 (plainDs_mem h g1) (plainDs_mem h' g2) (by show A.units+1+39<cLine;lia) GF Hz GH HA
    rw[<-dt hl,show l.length=Cc.toArray.size by simp only[M6];lia];exact⟨.lists ip DU (by simp only[M6];lia) (by lia) el,.lists ip DU (by simp only[M6];lia) (by lia) el⟩
   ·rw[fG hl];exact⟨.lists_lengths ip DU (by simp only[M6,SD];lia) (by lia),.lists_lengths ip DU (by simp only[M6,SD];lia) (by lia)⟩
  |tup l'=>obtain⟨p',DY,D9,DG,_⟩:=aQ q;subst D9;cases ry;obtain⟨its',_,DU,_⟩:=I.tuple DG;simp only[Ci];exact⟨.list_tuple ip (show s.heap.IsTuple p' its'.toArray from DU) (by lia),.list_tuple ip (show s.heap.IsTuple p' its'.toArray from DU) (by lia)⟩
  |dct tk ks vs=>exact(bp h').elim
 |dct tk ks vs=>exact(bp h).elim
theorem oi(hu:X.A.units+64<cLine):CM X (compareOp .Eq) (rGA X.K Fg):=by
 rintro pr s σ H x y v u Q I rx ry ⟨G,fp,es,vs,a,b,r,⟨rel,k⟩,va,vb,e⟩;unfold Fg at e;split at e
 ·rename_i hp;cases e;rw[Nf]at hp;exact(yk I hp.1 hp.2 hu va vb rx ry).1 _ _ _ _ ⟨.bl _,H,I,rfl,k _ H G fp .refl (rel.push (bw _))⟩
 ·cases e
theorem oj(hu:X.A.units+64<cLine):CM X (compareOp .NotEq) (rGA X.K Fp):=by
 rintro pr s σ H x y v u Q I rx ry ⟨G,fp,es,vs,a,b,r,⟨rel,k⟩,va,vb,e⟩;unfold Fp at e;split at e
 ·rename_i hp;cases e;rw[Nf]at hp;exact(yk I hp.1 hp.2 hu va vb rx ry).2 _ _ _ _ ⟨.bl _,H,I,rfl,k _ H G fp .refl (rel.push (bw _))⟩
 ·cases e
def uk(a:D)(ds:List D):Bool:=ds.any fun d=>Ci d a
noncomputable def Hi(a b:D):Res R:=match b with
 | .lst ds=>if plainD 40 a&&plainDs 40 ds then .ok (.f,.bl (uk a ds)) else .bad
 | .tup ds=>if plainD 40 a&&plainDs 40 ds then .ok (.f,.bl (uk a ds)) else .bad
 | .str l=>match a with
  | .str [c]=>.ok (.f,.bl (decide (c∈l)))
  |_=>.bad
 |_=>.bad
def Ak(a b:D):Res R:=(Hi a b).bind fun r=>match r.2 with
 | .bl k=>.ok (.f,.bl (!k))
 |_=>.bad
open PySem.SeqAt in
theorem mP{pr:List (Addr×Obj)}{σ:L2.St}{H:Hp}{s:Shared}(I:Inv X pr σ H s){a:D}{x:V}{v:Value}{A:Around}(h:plainD 40 a=true)(hu:A.units+64<cLine)(r:Rep X.K H a x)(rx:RelV x v):
  ∀(ds:List D) (xs:List V) (us:List Value),plainDs 40 ds=true->Reps X.K H ds xs->Vals xs us->∃e:Value->Bool,us.any e=uk a ds/\∀u∈us,EqAt A s u v (e u):=by
 classical
 intro ds xs us hp rs vl;refine⟨fun u=>decide (∃(j:Nat) (d:D),ds[j]?=some d/\us[j]?=some u/\Ci d a=true),?_,fun u hu'=>?_⟩
 ·rw[Nx,Pj];unfold uk;rw[Pj];constructor
  ·rintro⟨u,_,hd⟩;obtain⟨j,d,h1,_,h2⟩:=OE hd;exact⟨d,NQ h1,h2⟩
  ·rintro⟨d,hd,h2⟩;obtain⟨j,hj⟩:=OS.mp hd;obtain⟨w1,GD,GF⟩:=rs.get hj;obtain⟨u1,Ff,GH⟩:=vl.get GD;exact⟨u1,NQ Ff,Nm ⟨j,d,hj,Ff,h2⟩⟩
 ·obtain⟨j,hj⟩:=OS.mp hu';have l1:=vl.length;have l2:=rs.length;have hjl:=(List.getElem?_eq_some_iff.mp hj).1;have g1:ds[j]?=some (ds[j]'(by lia)):=List.getElem?_eq_getElem _;obtain⟨w1,GD,GF⟩:=rs.get g1;obtain⟨u1,Ff,GH⟩:=vl.get GD;rw[hj]at Ff;cases Ff;have z:=yj I _ _ w1 x u v A 40 (plainDs_mem hp g1) h (by lia) GF r GH rx;have e:decide (∃(j:Nat) (d:D),ds[j]?=some d/\us[j]?=some u/\Ci d a=true)=Ci (ds[j]'(by lia)) a:=by
   rw[Nx,Nn];constructor
   ·rintro⟨j2,d2,k1,k2,k3⟩;obtain⟨w2,Hy,Hz⟩:=rs.get k1;obtain⟨u2,F0,HA⟩:=vl.get Hy;rw[k2]at F0;cases F0;have:=GH.inj HA;subst this;rw[jM I _ _ _ 40 (plainDs_mem hp g1) GF Hz];exact k3
   ·intro k3;exact⟨j,_,g1,hj,k3⟩
  show EqAt A s u v (decide (∃(j:Nat) (d:D),ds[j]?=some d/\us[j]?=some u/\Ci d a=true));rw[e];exact z
theorem kW(l:List Nat)(c:Nat):(!(Builtin.Str.occurrences (S l) (S [c]) 0 (S l).length 1).isEmpty)=decide (c∈l):=by
 have h:=PySem.StrLaws.found_one (S l) c;rw[cn]at h;exact h
theorem jO{e:Value->Bool}(us:List Value):us.toArray.any e=us.any e:=by simp
theorem Al(hu:X.A.units+65<cLine):CM X (compareOp .In) (rGA X.K Hi):=by
 rintro pr s σ H x y v u Q I rx ry ⟨G,fp,es,vs,a,b,r,⟨rel,k⟩,va,vb,e⟩;unfold Hi at e;split at e
 ·rename_i ds;split at e
  ·rename_i hp;cases e;rw[Nf]at hp;obtain⟨p,xs,ev,sq,rs⟩:=aW vb;subst ev;cases ry;obtain⟨Cc,vl,ip,_⟩:=I.list sq;obtain⟨ef,e1,e2⟩:=mP (A:=X.A.in1) I hp.1 (by show X.A.units+1+64<cLine;lia) va rx ds xs Cc hp.2 rs vl;refine SeqAt.in_listAt ef ip.isList (fun z hz=>e2 z (by simpa using hz)) ?_;rw[jO,e1];exact⟨.bl _,H,I,rfl,k _ H G fp .refl (rel.push (bw _))⟩
  ·cases e
 ·rename_i ds;split at e
  ·rename_i hp;cases e;rw[Nf]at hp;obtain⟨p,xs,ev,sq,rs⟩:=aQ vb;subst ev;cases ry;obtain⟨Cc,vl,ip,_⟩:=I.tuple sq;obtain⟨ef,e1,e2⟩:=mP (A:=X.A.in1) I hp.1 (by show X.A.units+1+64<cLine;lia) va rx ds xs Cc hp.2 rs vl;refine SeqAt.in_tupleAt ef (show s.heap.IsTuple p Cc.toArray from ip) (fun z hz=>e2 z (by simpa using hz)) ?_;rw[jO,e1];exact⟨.bl _,H,I,rfl,k _ H G fp .refl (rel.push (bw _))⟩
  ·cases e
 ·rename_i l;split at e
  ·rename_i c;cases e;obtain⟨e1,h1⟩:=aR va;obtain⟨e2,h2⟩:=aR vb;subst e1;subst e2;refine oS pr s σ H _ _ v u Q I rx ry ⟨_,_,rfl,rfl,?_⟩;rw[kW];exact k _ H G fp .refl (rel.push (bw _))
  ·cases e
 ·cases e
theorem ym(hu:X.A.units+65<cLine):CM X (compareOp .NotIn) (rGA X.K Ak):=by
 rintro pr s σ H x y v u Q I rx ry ⟨G,fp,es,vs,a,b,r,⟨rel,k⟩,va,vb,e⟩;unfold Ak at e;obtain⟨r0,e0,e⟩:=ag e;unfold Hi at e0;split at e0
 ·rename_i ds;split at e0
  ·rename_i hp;cases e0;cases e;rw[Nf]at hp;obtain⟨p,xs,ev,sq,rs⟩:=aW vb;subst ev;cases ry;obtain⟨Cc,vl,ip,_⟩:=I.list sq;obtain⟨ef,e1,e2⟩:=mP (A:=X.A.in1) I hp.1 (by show X.A.units+1+64<cLine;lia) va rx ds xs Cc hp.2 rs vl;refine SeqAt.notIn_listAt ef ip.isList (fun z hz=>e2 z (by simpa using hz)) ?_;rw[jO,e1];exact⟨.bl _,H,I,rfl,k _ H G fp .refl (rel.push (bw _))⟩
  ·cases e0
 ·rename_i ds;split at e0
  ·rename_i hp;cases e0;cases e;rw[Nf]at hp;obtain⟨p,xs,ev,sq,rs⟩:=aQ vb;subst ev;cases ry;obtain⟨Cc,vl,ip,_⟩:=I.tuple sq;obtain⟨ef,e1,e2⟩:=mP (A:=X.A.in1) I hp.1 (by show X.A.units+1+64<cLine;lia) va rx ds xs Cc hp.2 rs vl;refine SeqAt.notIn_tupleAt ef (show s.heap.IsTuple p Cc.toArray from ip) (fun z hz=>e2 z (by simpa using hz)) ?_;rw[jO,e1];exact⟨.bl _,H,I,rfl,k _ H G fp .refl (rel.push (bw _))⟩
  ·cases e0
 ·rename_i l;split at e0
  ·rename_i c;cases e0;cases e;obtain⟨e1,h1⟩:=aR va;obtain⟨e2,h2⟩:=aR vb;subst e1;subst e2;refine kh pr s σ H _ _ v u Q I rx ry ⟨_,_,rfl,rfl,?_⟩;rw[kW];exact k _ H G fp .refl (rel.push (bw _))
  ·cases e0
 ·cases e0
def Hj(a b:D):Res R:=match b with
 | .bl k=>.ok (.f,.bl (match a with | .bl j=>j==k|_=>false))
 | .non=>.ok (.f,.bl (match a with | .non=>true|_=>false))
 |_=>.bad
def qO(a b:D):Res R:=(Hj a b).bind fun r=>match r.2 with
 | .bl k=>.ok (.f,.bl (!k))
 |_=>.bad
theorem mQ{K:W.Frag}{H:Hp}{a b:D}{x y:V}{v u:Value}{r:R}(va:Rep K H a x)(vb:Rep K H b y)(rx:RelV x v)(ry:RelV y u)(e:Hj a b=.ok r):plainIs v u=true/\r=(.f,.bl (v==u)):=by
 unfold Hj at e;split at e
 ·rename_i k;cases e;cases bO vb;cases ry;cases a with
  |non=>cases bI va;cases rx;exact⟨rfl,rfl⟩
  |bl j=>cases bO va;cases rx;refine⟨rfl,?_⟩;cases j <;> cases k <;> rfl
  |int i=>cases bj va;obtain⟨t,rfl⟩:=rx;exact⟨rfl,rfl⟩
  |str l=>cases(aR va).1;obtain⟨t,rfl⟩:=rx;exact⟨rfl,rfl⟩
  |tup l=>obtain⟨p,xs,rfl,_⟩:=aQ va;cases rx;exact⟨rfl,rfl⟩
  |lst l=>obtain⟨p,xs,rfl,_⟩:=aW va;cases rx;exact⟨rfl,rfl⟩
  |dct tk ks vs=>rw[Rep]at va;obtain⟨p,xs,o,rfl,_⟩:=va;cases rx;exact⟨rfl,rfl⟩
 ·cases e;cases bI vb;cases ry;cases a with
  |non=>cases bI va;cases rx;exact⟨rfl,rfl⟩
  |bl j=>cases bO va;cases rx;exact⟨rfl,rfl⟩
  |int i=>cases bj va;obtain⟨t,rfl⟩:=rx;exact⟨rfl,rfl⟩
  |str l=>cases(aR va).1;obtain⟨t,rfl⟩:=rx;exact⟨rfl,rfl⟩
  |tup l=>obtain⟨p,xs,rfl,_⟩:=aQ va;cases rx;exact⟨rfl,rfl⟩
  |lst l=>obtain⟨p,xs,rfl,_⟩:=aW va;cases rx;exact⟨rfl,rfl⟩
  |dct tk ks vs=>rw[Rep]at va;obtain⟨p,xs,o,rfl,_⟩:=va;cases rx;exact⟨rfl,rfl⟩
 ·cases e
theorem Am:CM X (compareOp .Is) (rGA X.K Hj):=by
 rintro pr s σ H x y v u Q I rx ry ⟨G,fp,es,vs,a,b,r,⟨rel,k⟩,va,vb,e⟩;obtain⟨h1,h2⟩:=mQ va vb rx ry e;subst h2;exact wpAny_is_plain h1 ⟨.bl _,H,I,rfl,k _ H G fp .refl (rel.push (bw _))⟩
theorem p5:CM X (compareOp .IsNot) (rGA X.K qO):=by
 rintro pr s σ H x y v u Q I rx ry ⟨G,fp,es,vs,a,b,r,⟨rel,k⟩,va,vb,e⟩;obtain⟨r0,e0,e⟩:=ag e;obtain⟨h1,h2⟩:=mQ va vb rx ry e0;subst h2;cases e;exact wpAny_isNot_plain h1 ⟨.bl _,H,I,rfl,k _ H G fp .refl (rel.push (bw _))⟩
end
section
variable{X:Cx}
def BH(f g:FX):FX:=fun env=>(f env).bind fun p=>(g p.2).bind fun q=>match(mO p.1.2).bind fF,q.1.2 with
 |some ns,.int d=>.ok ((.f,.int (NX.maxD ns d)),q.2)
 |_,_=>.bad
def B3:List D->Res R
 |[.bl b]=>.ok (.f,.int (if b then 1 else 0))
 |[.int i]=>.ok (.f,.int i)
 |_=>.bad
def lR:D->String
 | .non=>"NoneType"
 | .bl _=>"bool"
 | .int _=>"int"
 | .str _=>"str"
 | .tup _=>"tuple"
 | .lst _=>"list"
 | .dct _ _ _=>"dict"
def kX(T:String)(d:D):Bool:=lR d==T||(lR d == "bool" && T == "int")
def Fy(T:String)(f:FO):FX:=fun env=>(f env).bind fun p=>(nW p.2 p.1).bind fun d=>.ok ((.f,.bl (kX T d)),p.2)
theorem yn(K:W.Frag)(d:D){T:String}(hT:T = "int"\/T = "bool"\/T = "str"\/T = "list"\/T = "tuple"\/T = "dict"):PySem.W.kitOne K (.type (lR d)) (.type T)=some (kX T d):=by
 rcases hT with rfl|rfl|rfl|rfl|rfl|rfl <;> cases d <;> (unfold PySem.W.kitOne PySem.W.kitCls PySem.W.subIn;kernel_rfl)
theorem so:de X (.builtin "isinstance") (fun xs H Q=>∃d x T,xs=[x,.ty T]/\Rep X.K H d x/\(T = "int"\/T = "bool"\/T = "str"\/T = "list"\/T = "tuple"\/T = "dict")/\Q (.bl (kX T d)) H):=by
 intro pr s σ H xs us Q I r h;obtain⟨d,x,T,rfl,rd,hT,q⟩:=h;obtain⟨u,w',rfl,r1,r2⟩:=oW r;cases(show w'=Value.type T from r2);have e:=yn X.K d hT;have fin:∀tk,EP X pr σ Q (.bool (kX T d)) {s with toks:=tk}:=fun tk=>⟨.bl (kX T d),H,I.tok tk,rfl,q⟩
 cases d with
 |non=>cases bI rd;cases(show u=Value.none from r1);exact N3 PySem.W.kitx_none I.kIn True.intro e (fun z=>nomatch z) fin
 |bl y=>cases bO rd;cases(show u=Value.bool y from r1);exact N3 PySem.W.kitx_bool I.kIn True.intro e (fun z=>nomatch z) fin
 |int i=>cases bj rd;obtain⟨t,z⟩:=(show ∃t,u=Value.int i t from r1);cases z;exact N3 PySem.W.kitx_int I.kIn True.intro e (fun z=>nomatch z) fin
 |str l=>
  have hr:=(aR rd).1;subst hr;obtain⟨t,z⟩:=(show ∃t,u=Value.str (S l) t from r1)
  cases z;exact N3 PySem.W.kitx_str I.kIn True.intro e (fun z=>nomatch z) fin
 |lst l=>
  obtain⟨p,xs,ev,sq,_⟩:=aW rd;subst ev;cases(show u=Value.ref p from r1);obtain⟨Cc,_,ip,_⟩:=I.list sq;obtain⟨o,ho,hc,_⟩:=ip.isList;exact N3 PySem.W.kitx_list I.kIn ⟨o,ho,hc⟩ e (fun z=>nomatch z) fin
 |tup l=>
  obtain⟨p,xs,ev,sq,_⟩:=aQ rd;subst ev;cases(show u=Value.ref p from r1);obtain⟨Cc,_,ip,_⟩:=I.tuple sq;obtain⟨o,ho,hc,_⟩:=ip;exact N3 PySem.W.kitx_tuple I.kIn ⟨o,ho,hc⟩ e (fun z=>nomatch z) fin
 |dct tk ks vs=>
  rw[Rep]at rd;obtain⟨p,xs,o,ev,hr,dd,_⟩:=rd;subst ev;cases(show u=Value.ref p from r1);have ok:=hr.ok I.hok;cases tk with
  |true=>
   obtain⟨kvs,eo,_⟩:=dd;subst eo;obtain⟨_,_,_,_,o2,_,_,DJ,ex,_⟩:=ok;exact N3 PySem.W.kitx_dict I.kIn ⟨o2,DJ,ex.1⟩ e (fun z=>nomatch z) fin
  |false=>
   obtain⟨kvs,eo,_⟩:=dd;subst eo;obtain⟨_,_,_,_,o2,_,_,DJ,ex,_⟩:=ok;exact N3 PySem.W.kitx_dict I.kIn ⟨o2,DJ,ex.1⟩ e (fun z=>nomatch z) fin
theorem iw{T:String}{x:Str}{e:Expr}{f:FO}{p q pos:Pos}(hT:T = "int"\/T = "bool"\/T = "str"\/T = "list"\/T = "tuple"\/T = "dict")(he:QO X e f)(hg:Gl X "isinstance")(hm:X.mg "isinstance" = none)(Kr:Gl X x)(Ks:X.mg x=none)(Iy:bootBuiltins x=some (.type T))(hn:x≠"__name__":=by decide)(C9:(x==("__debug__" : Str))=false:=by decide)
  (hs:starEach [e,.Name x q] X.env=(false,eval e X.env)::starEach [.Name x q] X.env:=by rfl) (Jb:starEach [.Name x q] X.env=(false,eval (.Name x q) X.env)::starEach [] X.env:=by rfl) (C8:(backTo pos (starEach [.Name x q] X.env)).any (·.1)=false:=by rfl):
  QE X (.Call (.Name "isinstance" p) [e,.Name x q] [] pos) (Fy T f):=
 ba (fm so hg hm cF (cJ he (cJ (oK (v:=.ty T) Kr Ks Iy rfl hn C9) g7 Jb) hs) (by decide) (by decide) hs C8) fun σ H Q Cm=>by
  obtain⟨G,env,fp,r,env',rel,e,k⟩:=Cm;obtain⟨⟨o,B9⟩,e1,e⟩:=ag e;obtain⟨d,e2,e⟩:=ag e;cases e;exact⟨G,env,fp,o,_,rel,e1,fun v H1 G1 Cy Cr Cd DT=>⟨d,v,T,rfl,Cd.vwA DT e2,hT,k _ H1 G1 Cy Cr (Cd.push (bw _))⟩⟩
def EH{α:Type}(f g:PV.Env->Res α):PV.Env->Res α:=fun env=>match f env with
 | .ok a=>.ok a
 |_=>g env
theorem um{α:Type}{f g:PV.Env->Res α}{env:PV.Env}{a:α}(h:EH f g env=.ok a):f env=.ok a\/g env=.ok a:=by
 unfold EH at h;split at h
 ·rename_i b hb;cases h;exact .inl hb
 ·exact .inr h
theorem p6{tg e:Expr}{f g:FI}(h:QI X tg e f)(h2:QI X tg e g):QI X tg e (EH f g):=fun pr s σ H R I Cm=>by
 obtain⟨G,env,fp,ds,env',rel,ee,k⟩:=Cm;rcases um ee with z|z
 ·exact h pr s σ H R I ⟨G,env,fp,ds,env',rel,z,k⟩
 ·exact h2 pr s σ H R I ⟨G,env,fp,ds,env',rel,z,k⟩
end
section
variable{α:Type}
def ins(lt:α->α->Bool)(x:α):List α->List α
 |[]=>[x]
 |y::ys=>if lt y x then y::ins lt x ys else x::y::ys
def eL(lt:α->α->Bool)(l:List α):List α:=l.foldr (ins lt) []
structure Ord(lt:α->α->Bool):Prop where
 irr:∀a,lt a a=false
 trans:∀a b c,lt a b=true->lt b c=true->lt a c=true
 tot:∀a b,lt a b=false->lt b a=false->a=b
theorem jP(lt:α->α->Bool)(x:α):∀l,(ins lt x l).Perm (x::l)
 |[]=>.refl _
 |y::ys=>by
  unfold ins;split
  ·exact(List.Perm.cons y (jP lt x ys)).trans (List.Perm.swap x y ys)
  ·exact .refl _
theorem du(lt:α->α->Bool):∀l,(eL lt l).Perm l
 |[]=>.refl _
 |x::l=>(jP lt x _).trans (List.Perm.cons x (du lt l))
theorem jl{lt:α->α->Bool}(o:Ord lt)(x:α):∀l:List α,l.Pairwise (fun a b=>lt b a=false)->(ins lt x l).Pairwise (fun a b=>lt b a=false)
 |[],_=>by simp[ins]
 |y::ys,h=>by
  rw[OM]at h;unfold ins;split
  ·rename_i hy;rw[OM];refine⟨fun z hz=>?_,jl o x ys h.2⟩;rcases Ni.mp ((jP lt x ys).mem_iff.mp hz) with rfl|hz
   ·cases e:lt z y with
    |false=>rfl
    |true=>
     have:=o.trans y z y hy e;rw[o.irr]at this;cases this
   ·exact h.1 z hz
  ·rename_i hy;have hy:lt y x=false:=by simpa using hy
   rw[OM,OM];refine⟨fun z hz=>?_,h⟩;rcases Ni.mp hz with rfl|HB
   ·exact hy
   ·cases e:lt z x with
    |false=>rfl
    |true=>
     exfalso;cases e2:lt x y with
     |true=>
      have:=o.trans z x y e e2;rw[h.1 z HB]at this;cases this
     |false=>
      have hxy:=o.tot x y e2 hy;rw[hxy,h.1 z HB]at e;cases e
theorem cX{lt:α->α->Bool}(o:Ord lt):∀l:List α,(eL lt l).Pairwise (fun a b=>lt b a=false)
 |[]=>.nil
 |x::l=>jl o x _ (cX o l)
theorem kY{lt:α->α->Bool}(o:Ord lt):∀{a b:List α},a.Perm b->a.Pairwise (fun a b=>lt b a=false)->b.Pairwise (fun a b=>lt b a=false)->a=b
 |[],_,p,_,_=>p.nil_eq
 |x::xs,[],p,_,_=>absurd p.length_eq (by simp)
 |x::xs,y::ys,p,ha,hb=>by
  rw[OM]at ha hb;have hx:x∈y::ys:=p.mem_iff.mp M7;have hy:y∈x::xs:=p.mem_iff.mpr M7;have e:x=y:=by
   rcases Ni.mp hx with e|hx
   ·exact e
   ·rcases Ni.mp hy with e|hy
    ·exact e.symm
    ·exact o.tot x y (hb.1 x hx) (ha.1 y hy)
  subst e;rw[kY o p.cons_inv ha.2 hb.2]
theorem fI{lt:α->α->Bool}(o:Ord lt){l ms:List α}(p:ms.Perm l)(h:ms.Pairwise (fun a b=>lt b a=false)):ms=eL lt l:=kY o (p.trans (du lt l).symm) h (cX o l)
end
def ltI(a b:Int):Bool:=decide (a<b)
def Gm(a b:List Nat):Bool:=decide (a<b)
theorem vR:Ord ltI:=⟨fun a=>by simp[ltI],fun a b c=>by simp only[ltI,Nn];lia,fun a b=>by simp only[ltI,ND];lia⟩
theorem lS:Ord Gm:=by
 refine⟨fun a=>?_,fun a b c h1 h2=>?_,fun a b h1 h2=>?_⟩
 ·unfold Gm;rw[ND];exact List.lt_irrefl a
 ·unfold Gm at *;rw[Nn] at *;exact List.lt_trans h1 h2
 ·unfold Gm at *;rw[ND] at *;exact List.le_antisymm (Qc.mp h2) (Qc.mp h1)
theorem p7:Ord cG:=⟨eX,eC,eD⟩
def dW:List D->Option (List (List Nat))
 |[]=>some []
 | .str b::ds=>(dW ds).map (b:: ·)
 |_=>none
def iy:D->Option Key
 | .int i=>some (.inl i)
 | .str l=>some (.inr (S l))
 |_=>none
def cx:List D->Option (List Key)
 |[]=>some []
 |d::ds=>(iy d).bind fun k=>(cx ds).map (k:: ·)
def dH:D->Option (List Key)
 | .tup ds=>cx ds
 |_=>none
def iz:List D->Option (List (List Key))
 |[]=>some []
 |d::ds=>(dH d).bind fun k=>(iz ds).map (k:: ·)
def kT(k:List Key):D:=.tup (k.map kD)
section
variable{K:W.Frag}{G:Hp}
theorem e7:∀{ds:List D}{bs:List (List Nat)}{xs:List V},dW ds=some bs->Reps K G ds xs->xs=bs.map (fun l=>V.str (S l))/\∀l∈bs,l.length<=sizeLine
 |[],_,_,e,r=>by
  cases e;rw[Reps]at r;exact⟨r,fun _ h=>nomatch h⟩
 |d::ds,_,_,e,r=>by
  cases d with
  |str b=>
   rw[dW,Nr]at e;obtain⟨bs,e1,e2⟩:=e;subst e2;rw[Reps]at r;obtain⟨y,ys,e3,r1,r2⟩:=r;obtain⟨h1,h2⟩:=e7 e1 r2;obtain⟨h3,h4⟩:=aR r1;subst h3;refine⟨by rw[e3,h1];rfl,fun l hl=>?_⟩;rcases Ni.mp hl with rfl|hl
   ·exact h4
   ·exact h2 l hl
  |_=>simp[dW]at e
theorem gj{d:D}{k:Key}{v:V}(e:iy d=some k)(r:Rep K G d v):v=kV k/\d=kD k:=by
 cases d with
 |int i=>
  cases e;exact⟨bj r,rfl⟩
 |str l=>
  cases e;refine⟨(aR r).1,?_⟩;show D.str l=D.str (S l).cps.toList;rw[cn]
 |_=>cases e
theorem gB:∀{ds:List D}{ks:List Key}{xs:List V},cx ds=some ks->Reps K G ds xs->xs=ks.map kV/\ds=ks.map kD
 |[],_,_,e,r=>by
  cases e;rw[Reps]at r;exact⟨r,rfl⟩
 |d::ds,_,_,e,r=>by
  rw[cx,N2]at e;obtain⟨k,e1,e⟩:=e;rw[Nr]at e;obtain⟨ks,e2,e3⟩:=e;subst e3;rw[Reps]at r;obtain⟨y,ys,e4,r1,r2⟩:=r;obtain⟨h1,h2⟩:=gj e1 r1;obtain⟨h3,h4⟩:=gB e2 r2;rw[e4,h1,h2,h3,h4];exact⟨rfl,rfl⟩
theorem bJ{d:D}{ks:List Key}{v:V}(e:dH d=some ks)(r:Rep K G d v):∃p,v=.ref p/\G p=some (.tup (ks.map kV))/\d=kT ks:=by
 cases d with
 |tup ds=>
  obtain⟨p,xs,ev,g,rs⟩:=pP r;obtain⟨h1,h2⟩:=gB e rs;subst h1;exact⟨p,ev,g,by rw[h2];rfl⟩
 |_=>cases e
theorem iA:∀{ds:List D}{Ep:List (List Key)}{xs:List V},iz ds=some Ep->Reps K G ds xs->∃al:List (Addr×List Key),xs=al.map (fun a=>V.ref a.1)/\Ep=al.map (·.2)/\ds=al.map (fun a=>kT a.2)/\∀a∈al,G a.1=some (.tup (a.2.map kV))/\Rep K G (kT a.2) (.ref a.1)
 |[],_,_,e,r=>by
  cases e;rw[Reps]at r;exact⟨[],r,rfl,rfl,fun _ h=>nomatch h⟩
 |d::ds,_,_,e,r=>by
  rw[iz,N2]at e;obtain⟨k,e1,e⟩:=e;rw[Nr]at e;obtain⟨ks,e2,e3⟩:=e;subst e3;rw[Reps]at r;obtain⟨y,ys,e4,r1,r2⟩:=r;obtain⟨p,h1,h2,h5⟩:=bJ e1 r1;obtain⟨al,h3,h4,h6,h7⟩:=iA e2 r2;subst h1;refine⟨(p,k)::al,by rw[e4,h3];rfl,by rw[h4];rfl,by rw[h5,h6];rfl,fun a ha=>?_⟩;rcases Ni.mp ha with rfl|ha
  ·exact⟨h2,by rw[<-h5];exact r1⟩
  ·exact h7 a ha
theorem dI{α:Type}{f:α->D}{g:α->V}:∀{l:List α},(∀a∈l,Rep K G (f a) (g a))->Reps K G (l.map f) (l.map g)
 |[],_=>Reps.nil
 |a::l,h=>.cons (h a M7) (dI fun b hb=>h b (Nj _ hb))
end
def sameKinds(k:List Key)(Ep:List (List Key)):Bool:=!k.isEmpty&&Ep.all fun j=>kinds j==kinds k
noncomputable def lT(ds:List D):Option (List D):=match fF ds with
 |some ns=>some ((eL ltI ns).map D.int)
 |none=>match dW ds with
  |some ls=>some ((eL Gm ls).map D.str)
  |none=>match iz ds with
   |some (k::Ep)=>if sameKinds k Ep then some ((eL cG (k::Ep)).map kT) else none
   |_=>none
noncomputable def iC:List D->Res R
 |[.lst ds]=>if ds.length<64 then match lT ds with
  |some l=>.ok (.l .f,.lst l)
  |none=>.bad
  else .bad
 |[.dct true ks _]=>if ks.length<64 then match ks,iz ks with
  |[],_=>.ok (.l .f,.lst [])
  |_,some (k::Ep)=>if sameKinds k Ep then .ok (.l .f,.lst ((eL cG (k::Ep)).map kT)) else .bad
  |_,_=>.bad
  else .bad
 |_=>.bad
theorem fJ{k:List Key}{Ep:List (List Key)}(h:sameKinds k Ep=true):∃top t,∀j∈k::Ep,kinds j=top::t:=by
 unfold sameKinds at h;rw[Nf,NA]at h;cases k with
 |nil=>simp at h
 |cons a k=>
  refine⟨a.isLeft,kinds k,fun j hj=>?_⟩;rcases Ni.mp hj with rfl|hj
  ·rfl
  ·exact NN.mp (h.2 j hj)
def gC(H G:Hp):Hp:=fun p=>match H p with
 |some (HO.tup xs)=>some (HO.tup xs)
 |_=>G p
theorem om{H G:Hp}{p:Addr}{xs:List V}(e:H p=some (.tup xs)):gC H G p=some (.tup xs):=by
 unfold gC;rw[e]
theorem iE{H G:Hp}{p:Addr}{u:HO}(e:gC H G p=some u):G p=some u\/(isT u=true/\H p=some u):=by
 unfold gC at e;split at e
 ·rename_i xs hx;cases e;exact .inr ⟨rfl,hx⟩
 ·exact .inl e
theorem p8{H G:Hp}(gh:Same G H):Same G (gC H G):=fun p u e=>by
 unfold gC;rw[gh p u e];cases u with
 |tup xs=>rfl
 |_=>exact e
theorem Rel.addT{K:W.Frag}{G H:Hp}{es:PV.Env}{vs:L2.St}{fp:List Addr}(q:Rel K G H es vs fp):∃G',Rel K G' H es vs fp/\Step G H fp G' H fp/\∀p xs,H p=some (.tup xs)->G' p=some (.tup xs):=by
 have gg:=p8 q.gh;refine⟨gC H G,⟨q.rep.step gg fun _ _=>rfl,q.nd,fun p hp=>?_,fun p u e=>?_⟩,⟨gg,fun _ _ e _=>e,fun _ h=>.inl h,fun p u e=>(iE e).imp_right fun z=>.inr (.inr z),fun _ u e=>⟨u,e⟩⟩,fun p xs e=>om e⟩
 ·cases e:gC H G p with
  |none=>rfl
  |some u=>
   exfalso;rcases iE e with z|⟨t,z⟩
   ·rw[q.gn p hp]at z;cases z
   ·obtain⟨u2,h2,hm⟩:=q.rep.mut p hp;rw[z]at h2;cases h2;cases u with
    |tup _=>cases hm
    |frz _ _=>cases hm
    |_=>cases t
 ·rcases iE e with z|z
  ·exact q.gh p u z
  ·exact z.2
theorem yo{K:W.Frag}{G:Hp}{k:Key}(h:rW k):Rep K G (kD k) (kV k):=by
 cases k with
 |inl i=>exact bL i
 |inr x=>
  have:=eY (K:=K) (G:=G) (l:=x.cps.toList) h;rw[ky]at this;exact this
theorem yp(k:Key):iy (kD k)=some k:=by
 cases k with
 |inl i=>rfl
 |inr x=>
  show some (Sum.inr (S x.cps.toList))=_;rw[ky]
theorem iF:∀ks:List Key,cx (ks.map kD)=some ks
 |[]=>rfl
 |k::ks=>by
  rw[Nk,cx,yp,iF ks];rfl
theorem jm:∀Ep:List (List Key),iz (Ep.map kT)=some Ep
 |[]=>rfl
 |k::Ep=>by
  rw[Nk,iz];show(cx (k.map kD)).bind _=_;rw[iF,jm Ep];rfl
section
variable{X:Cx}
theorem ME{α:Type}{lt:α->α->Bool}{p:α->α->Prop}(h:∀a b,p a b->lt b a=false){l:List α}(q:l.Pairwise p):l.Pairwise (fun a b=>lt b a=false):=q.imp (h _ _)
theorem p9(hc:X.calm=true):de X (.builtin "sorted") (rC X.K iC):=by
 rintro pr s σ H xs us Q I rx ⟨G,fp,es,vs,ds,r,⟨rel,k⟩,vd,e⟩;unfold iC at e;split at e
 ·rename_i ds;split at e
  ·rename_i F8;split at e
   ·rename_i l hl;cases e;obtain⟨v,ev,p,ys,ep,sq,rs⟩:=oh vd;subst ev;subst ep;unfold lT at hl;split at hl
    ·rename_i ns K9;cases hl;have hy:=iq K9 rs;subst hy;have hlen:ns.length<64:=by have:=rs.length;rw[M5]at this;lia
     refine gM hc pr s σ H _ us Q I rx ⟨p,ns,rfl,sq,hlen,fun q ms hq pm sm=>?_⟩;have em:=fI vR pm (ME (fun a b h=>by unfold ltI;rw[ND];lia) sm);subst em;obtain⟨Ca,Cj⟩:=rel.newL hq (dI (K:=X.K) (G:=G) (f:=D.int) (g:=V.int) fun a _=>bL a);exact k _ _ G _ Cj Ca
    ·split at hl
     ·rename_i ls hls;cases hl;obtain⟨hy,hz⟩:=e7 hls rs;subst hy;have hlen:ls.length<64:=by have:=rs.length;rw[M5]at this;lia
      refine gN hc pr s σ H _ us Q I rx ⟨p,ls,rfl,sq,hlen,fun q ms hq pm sm=>?_⟩;have em:=fI lS pm (ME (fun a b h=>by unfold Gm;rw[ND];exact h) sm);obtain⟨Ca,Cj⟩:=rel.newL hq (dI (K:=X.K) (G:=G) (f:=D.str) (g:=fun l=>V.str (S l)) (l:=ms) fun a ha=>eY (hz a (pm.mem_iff.mp ha)));rw[<-em]at k;exact k _ _ G _ Cj Ca
     ·split at hl
      ·rename_i kk Ep hk;split at hl
       ·rename_i hsk;cases hl;obtain⟨al,h1,h2,h3,h4⟩:=iA hk rs;obtain⟨top,t,Er⟩:=fJ hsk;subst h1;have hlen:al.length<64:=by have:=rs.length;rw[M5]at this;lia
        refine gO hc pr s σ H _ us Q I rx ⟨p,al,top,t,rfl,sq,fun a ha=>⟨SqT.of (rel.gh _ _ (h4 a ha).1),Er a.2 (by rw[h2];exact Of.mpr ⟨a,ha,rfl⟩)⟩,hlen,fun q ms hq pm sm=>?_⟩;have em:ms.map (·.2)=eL cG (kk::Ep):=by
         rw[h2];refine fI p7 (pm.map _) ?_;rw[Pc];exact sm
        obtain⟨Ca,Cj⟩:=rel.newL hq (dI (K:=X.K) (G:=G) (f:=fun a:Addr×List Key=>kT a.2) (g:=fun a=>V.ref a.1) (l:=ms) fun a ha=>(h4 a (pm.mem_iff.mp ha)).2);have ek:ms.map (fun a=>kT a.2)=(eL cG (kk::Ep)).map kT:=by rw[<-em,Nv];rfl
        rw[ek]at Ca;exact k _ _ G _ Cj Ca
       ·cases hl
      ·cases hl
   ·cases e
  ·cases e
 ·rename_i ks vv;split at e
  ·rename_i F8;obtain⟨v,ev,vt⟩:=oh vd;obtain⟨p,ys,o,ep,rd,dd,rs⟩:=vt;subst ev;subst ep;obtain⟨kvs,eo,ek,ex,Fz⟩:=dd;subst eo;have ek:ks=(kvs.map (·.1)).map kT:=by rw[ek,Nv];rfl
   have hlen:kvs.length<64:=by rw[ek,M5,M5]at F8;exact F8
   have go:∀(top:Bool) (t:List Bool),(∀kv∈kvs,kinds kv.1=top::t)->r=(.l .f,.lst ((eL cG (kvs.map (·.1))).map kT))->wpAny (model X.prog X.w) X.A (call (.builtin "sorted") us) (EP X pr σ Q) X.xe s:=fun top t Er er=>by
    subst er;refine i9 hc pr s σ H _ us Q I rx ⟨p,kvs,top,t,rfl,rd,Er,hlen,fun q ms hq hm pm sm=>?_⟩;have em:ms.map (·.2)=eL cG (kvs.map (·.1)):=by
     refine fI p7 pm ?_;rw[Pc];exact sm
    obtain⟨G2,Ca,Cj,ht⟩:=rel.addT;have EG:∀a∈ms,Rep X.K G2 (kT a.2) (.ref a.1):=fun a ha=>by
     unfold kT;rw[Rep];refine⟨a.1,_,rfl,ht _ _ (hm a ha),?_⟩;refine dI (f:=kD) (g:=kV) fun key Ea=>yo ?_
     have:a.2∈kvs.map (·.1):=pm.mem_iff.mp (Of.mpr ⟨a,ha,rfl⟩);obtain⟨kv,Fb,e2⟩:=Of.mp this;exact Fz kv Fb key (by rw[e2];exact Ea)
    obtain⟨CI,CV⟩:=Ca.newL hq (dI (K:=X.K) (G:=G2) (f:=fun a:Addr×List Key=>kT a.2) (g:=fun a=>V.ref a.1) (l:=ms) EG);have ek:ms.map (fun a=>kT a.2)=(eL cG (kvs.map (·.1))).map kT:=by rw[<-em,Nv];rfl
    rw[ek]at CI;exact k _ _ G2 _ (Cj.trans CV) CI
   rw[ek,jm]at e;split at e
   ·rename_i hnil;cases e;have:kvs=[]:=by
     cases kvs with
     |nil=>rfl
     |cons a b=>cases hnil
    subst this;exact go true [] (fun _ h=>nomatch h) rfl
   ·rename_i kk Ep heq FA;split at e
    ·rename_i hsk;cases e;obtain⟨top,t,Er⟩:=fJ hsk;have heq:kvs.map (·.1)=kk::Ep:=by
      injection heq
     refine go top t (fun kv Fb=>Er kv.1 ?_) (by rw[heq]);rw[<-heq];exact Of.mpr ⟨kv,Fb,rfl⟩
    ·cases e
   ·cases e
  ·cases e
 ·cases e
def JT(a b:D):Res R:=match dH a,dH b with
 |some ks,some js=>if kinds ks==kinds js then .ok (.f,.bl (cG ks js)) else .bad
 |_,_=>JK a b
def FC(a b:D):Res R:=match dH a,dH b with
 |some ks,some js=>if kinds ks==kinds js then .ok (.f,.bl (!cG ks js)) else .bad
 |_,_=>match a,b with
  | .str a,.str b=>.ok (.f,.bl (!decide (a<b)))
  |a,b=>L9 a b
theorem uo(hu:X.A.units<cLine):CM X (compareOp .Lt) (rG X.K JT):=by
 rintro pr s σ H x y v u Q I rx ry ⟨G,fp,es,vs,a,b,r,⟨rel,k⟩,va,vb,e⟩;unfold JT at e;split at e
 ·rename_i ks js h1 h2;split at e
  ·rename_i hk;cases e;have ra:Rep X.K G a x:=by cases a <;> first|exact va|cases h1
   have rb:Rep X.K G b y:=by cases b <;> first|exact vb|cases h2
   obtain⟨p,e1,g1,_⟩:=bJ h1 ra;obtain⟨p2,e2,g2,_⟩:=bJ h2 rb;subst e1;subst e2;exact xW hu pr s σ H _ _ v u Q I rx ry ⟨p,p2,ks,js,rfl,rfl,SqT.of (rel.gh _ _ g1),SqT.of (rel.gh _ _ g2),NN.mp hk,k _ H G fp .refl (rel.push (bw _))⟩
  ·cases e
 ·exact Ag pr s σ H x y v u Q I rx ry ⟨G,fp,es,vs,a,b,r,⟨rel,k⟩,va,vb,e⟩
theorem mR(hu:X.A.units<cLine):CM X (compareOp .GtE) (rG X.K FC):=by
 rintro pr s σ H x y v u Q I rx ry ⟨G,fp,es,vs,a,b,r,⟨rel,k⟩,va,vb,e⟩;unfold FC at e;split at e
 ·rename_i ks js h1 h2;split at e
  ·rename_i hk;cases e;have ra:Rep X.K G a x:=by cases a <;> first|exact va|cases h1
   have rb:Rep X.K G b y:=by cases b <;> first|exact vb|cases h2
   obtain⟨p,e1,g1,_⟩:=bJ h1 ra;obtain⟨p2,e2,g2,_⟩:=bJ h2 rb;subst e1;subst e2;exact xX hu pr s σ H _ _ v u Q I rx ry ⟨p,p2,ks,js,rfl,rfl,SqT.of (rel.gh _ _ g1),SqT.of (rel.gh _ _ g2),NN.mp hk,k _ H G fp .refl (rel.push (bw _))⟩
  ·cases e
 ·split at e
  ·rename_i l l';cases e;obtain⟨e1,h1⟩:=cU va;obtain⟨e2,h2⟩:=cU vb;subst e1;subst e2;obtain⟨t,rfl⟩:=rx;obtain⟨t',rfl⟩:=ry;refine PySem.P.ge_str ?_;rw[cn,cn];exact⟨.bl _,H,I,rfl,k _ H G fp .refl (rel.push (bw _))⟩
  ·exact Ah pr s σ H x y v u Q I rx ry ⟨G,fp,es,vs,_,_,r,⟨rel,k⟩,va,vb,e⟩
end
def eNewD(tk:Bool):FX:=fun env=>.ok ((.d,.dct tk [] []),env)
section
variable{md:Mode}{X:Cx}
def oq(ks vs:List D)(k v:D):List D×List D:=if ks.any (Ci k) then(ks,(ks.zip vs).map fun p=>if Ci k p.1 then v else p.2) else(ks++[k],vs++[v])
def dv(tk:Bool)(k:D):Bool:=if tk then(dH k).isSome else(iy k).isSome
noncomputable def zk(i:Nat)(fk fv:FX):FS:=fun env=>(fv env).bind fun p=>(fk p.2).bind fun q=>match p.2[i]?,q.2[i]? with
 |some (some _),some (some (.d,.dct tk ks vs))=>if dv tk q.1.2&&decide (ks.length<sizeLine) then .ok (.nx (q.2.set i (some (.d,.dct tk (oq ks vs q.1.2 p.1.2).1 (oq ks vs q.1.2 p.1.2).2)))) else .bad
 |_,_=>.bad
theorem qa(a b:Key):Ci (kD a) (kD b)=decide (a=b):=by
 cases a with
 |inl i=>
  cases b with
  |inl j=>simp only[kD,Ci];rw[Nx];simp
  |inr y=>simp only[kD,Ci];simp
 |inr x=>
  cases b with
  |inl j=>simp only[kD,Ci];simp
  |inr y=>
   simp only[kD,Ci];rw[Nx];simp only[NN,Nn,Sum.inr.injEq];exact⟨fun h=>by rw[<-ky x,<-ky y,h],fun h=>by rw[h]⟩
theorem qb:∀a b:List Key,gA (a.map kD) (b.map kD)=decide (a=b)
 |[],[]=>by simp[gA]
 |[],_::_=>by simp[gA]
 |_::_,[]=>by simp[gA]
 |a::r,b::t=>by
  rw[Nk,Nk,gA,qa,qb r t,Nx];simp
theorem uq(a b:List Key):Ci (kT a) (kT b)=decide (a=b):=by
 unfold kT;rw[Ci];exact qb a b
theorem kZ{κ:Type}[DecidableEq κ]{K:W.Frag}{G:Hp}(f:κ->D)(hf:∀a b,Ci (f a) (f b)=decide (a=b)){kvs:List (κ×V)}{vs:List D}{k:κ}{v:D}{y:V}(r:Reps K G vs (kvs.map (·.2)))(ry:Rep K G v y):
  (i8 kvs k y).map (fun kv=>f kv.1)=(oq (kvs.map fun kv=>f kv.1) vs (f k) v).1/\Reps K G (oq (kvs.map fun kv=>f kv.1) vs (f k) v).2 ((i8 kvs k y).map (·.2)):=by
 have e:(kvs.map fun kv=>f kv.1).any (Ci (f k))=kvs.any fun kv=>decide (kv.1=k):=by
  rw[QB];congr 1
  funext kv
  show Ci (f k) (f kv.1)=_;rw[hf,Nx];simp only[Nn];exact⟨fun z=>z.symm,fun z=>z.symm⟩
 unfold oq i8;rw[e];split
 ·refine⟨?_,?_⟩
  ·rw[Nv];refine Oj fun kv _=>?_
   show f (if kv.1=k then(kv.1,y) else kv).1=f kv.1;split <;> rfl
  ·rename_i hany;clear e hany;induction kvs generalizing vs with
   |nil=>
    have:vs=[]:=NR (by rw[<-r.length];rfl);subst this;exact Reps.nil
   |cons kv kvs ih=>
    cases vs with
    |nil=>have:=r.length;simp at this
    |cons d vs=>
     rw[Nk,Reps.cons_iff]at r;rw[Nk,N1,Nk,Nk,Nk];refine .cons ?_ (ih r.2);show Rep K G (if Ci (f k) (f kv.1)=true then v else d) (if kv.1=k then(kv.1,y) else kv).2;rw[hf];by_cases hk:kv.1=k
     ·rw[Nc (by simp[hk]),Nc hk];exact ry
     ·rw[Ng (by simp;exact fun z=>hk z.symm),Ng hk];exact r.1
 ·refine⟨?_,?_⟩
  ·rw[Nu];rfl
  ·rw[Nu];exact r.app (.one ry)
theorem Rel.chgD{K:W.Frag}{G H:Hp}{es:PV.Env}{vs:L2.St}{fp:List Addr}{i:Nat}{tk:Bool}{ks ws:List D}(q:Rel K G H es vs fp)(e:es[i]?=some (some (.d,.dct tk ks ws))):∃p xs u,vs[i]?=some (some (.ref p))/\H p=some u/\DictO u tk ks xs/\Reps K G ws xs/\
  ∀u' D5 DY JM,DictO u' tk D5 DY->Reps K G JM DY->∃fq,Rel K G (upd H p u') (es.set i (some (.d,.dct tk D5 JM))) vs fq/\Step G H fp G (upd H p u') fq:=by
 obtain⟨v,fq,ev,g,st,E6⟩:=q.out e;obtain⟨y,ys,e0,v',a,b,e1,e2,r1,r2⟩:=g.rep;cases e0;cases e1;rw[RepO]at r1;obtain⟨p,xs,u,e3,hp,dd,e4,rs⟩:=r1;subst e3;subst e4;subst e2;have nd:=Oh.mp (show(p::b).Nodup from g.nd);refine⟨p,xs,u,ev,hp,dd,rs,fun u' D5 DY JM Iv Ee=>?_⟩;have g2:Rel K G (upd H p u') (some (.d,.dct tk D5 JM)::es.set i none) (some (.ref p)::vs) (p::b):=by
  refine⟨⟨some (.ref p),vs,rfl,.ref p,[p],b,rfl,rfl,?_,r2.step (.refl _) fun z hz=>aA fun e=>nd.1 (e▸hz)⟩,g.nd,g.gn,fun z o ez=>?_⟩
  ·rw[RepO];exact⟨p,DY,u',rfl,bg,Iv,rfl,Ee⟩
  ·have:z≠p:=fun w=>by
    subst w;rw[g.gn z M7]at ez;cases ez
   rw[aA this];exact g.gh z o ez
 have L7:Step G H (p::b) G (upd H p u') (p::b):=by
  refine⟨.refl _,fun z o ez nz=>?_,fun z hz=>.inl hz,fun z o ez=>.inl ez,fun z o ez=>?_⟩
  ·have:z≠p:=fun w=>nz (by rw[w];exact M7)
   rw[aA this];exact ez
  ·by_cases w:z=p
   ·subst w;exact⟨_,bg⟩
   ·exact⟨o,by rw[aA w];exact ez⟩
 obtain⟨fz,g3,CV⟩:=g2.back (i:=i) (by rw[OD];exact(List.getElem?_eq_some_iff.mp e).1) ev;rw[QA]at g3;exact⟨fz,g3,st.trans (L7.trans CV)⟩
theorem ur{K:W.Frag}{G:Hp}{d:D}{k:Key}{v:V}(e:iy d=some k)(r:Rep K G d v):rW k:=by
 cases d with
 |int i=>cases e;trivial
 |str l=>
  cases e;show(S l).cps.toList.length<=sizeLine;rw[cn];exact(aR r).2
 |_=>cases e
theorem lU{K:W.Frag}{G:Hp}:∀{ds:List D}{ks:List Key}{xs:List V},cx ds=some ks->Reps K G ds xs->∀k∈ks,rW k
 |[],_,_,e,_=>by
  cases e;exact fun _ h=>nomatch h
 |d::ds,_,_,e,r=>by
  rw[cx,N2]at e;obtain⟨k,e1,e⟩:=e;rw[Nr]at e;obtain⟨ks,e2,e3⟩:=e;subst e3;rw[Reps]at r;obtain⟨y,ys,e4,r1,r2⟩:=r;intro z hz;rcases Ni.mp hz with rfl|hz
  ·exact ur e1 r1
  ·exact lU e2 r2 z hz
theorem mS{κ:Type}[DecidableEq κ]{P:κ->Prop}{kvs:List (κ×V)}{k:κ}{y:V}(h:∀kv∈kvs,P kv.1)(hk:P k):∀kv∈i8 kvs k y,P kv.1:=by
 intro kv Fb;unfold i8 at Fb;split at Fb
 ·obtain⟨z,hz,e⟩:=Of.mp Fb;rw[<-e];split
  ·exact h z hz
  ·exact h z hz
 ·rcases Ny.mp Fb with Fb|Fb
  ·exact h kv Fb
  ·rw[N0]at Fb;rw[Fb];exact hk
theorem yq{i:Nat}{o ix value:Expr}{fk fv:FX}{pos pos':Pos}(hu:X.A.units+1<cLine)(ho:PE X o (nH i))(hi:QE X ix fk)(hv:QE X value fv)(hs:swapsWith value (some (.Subscript o ix pos')) pos.line X.env=pure false:=by rfl):
  QS (md:=md) X (.Assign [.Subscript o ix pos'] value pos) (zk i fk fv):=dQ (vB hu ho hi hv hs) fun Dd σ H Cm=>by
 obtain⟨G,env,fp,rel,k⟩:=Cm;unfold zk at k;match q1:fv env,k with
 | .ok (r1,B9),k=>
  have k:OutOk X.K G H fp Dd ((fk B9).bind fun q=>match B9[i]?,q.2[i]? with
   |some (some _),some (some (.d,.dct tk ks vs))=>if dv tk q.1.2&&decide (ks.length<sizeLine) then .ok (.nx (q.2.set i (some (.d,.dct tk (oq ks vs q.1.2 r1.2).1 (oq ks vs q.1.2 r1.2).2)))) else .bad
   |_,_=>.bad):=k
  match q2:fk B9,k with
  | .ok (r2,Cn),k=>
   have k:OutOk X.K G H fp Dd (match B9[i]?,Cn[i]? with
    |some (some _),some (some (.d,.dct tk ks vs))=>if dv tk r2.2&&decide (ks.length<sizeLine) then .ok (.nx (Cn.set i (some (.d,.dct tk (oq ks vs r2.2 r1.2).1 (oq ks vs r2.2 r1.2).2)))) else .bad
    |_,_=>.bad):=k
   split at k
   ·rename_i rr tk ks ws h1 h2;split at k
    ·rename_i hc;rw[Nf,Nn]at hc;refine⟨G,env,fp,r1,B9,rel,q1,fun y H1 G1 Cy Cr Cd=>?_⟩;obtain⟨G2,b,ry,Ca,Cj⟩:=Cd.freeze;obtain⟨v0,Kt,_⟩:=Ca.view h1;refine⟨v0,Kt,G2,B9,b,r2,Cn,Ca,q2,fun z H3 G3 EO CV CI=>?_⟩;obtain⟨G4,b4,rz,Dq,D6⟩:=CI.freeze;obtain⟨p,xs,u,ep,hp,dd,rs,cg⟩:=Dq.chgD h2;rw[Kt]at ep;cases ep;have Lg:Rep X.K G4 r1.2 y:=Rep.mono (CV.gg.trans D6.gg) ry;cases tk with
     |true=>
      obtain⟨kvs,eu,ek,ex,Fz⟩:=dd;subst eu;subst ex;have hk:=hc.1;unfold dv at hk;rw[Nc rfl,NW]at hk;obtain⟨kk,hk⟩:=hk;obtain⟨pz,ez,gz,dz⟩:=bJ hk rz;subst ez;obtain⟨t1,t2⟩:=kZ (K:=X.K) (G:=G4) kT uq (k:=kk) rs Lg;have ek:ks=kvs.map fun kv=>kT kv.1:=ek
      rw[<-ek,<-dz]at t1 t2;have hfk:∀key∈kk,rW key:=by
       cases hd:r2.2 with
       |tup ds=>
        rw[hd]at hk rz;obtain⟨_,DY,_,_,Ee⟩:=pP rz;exact lU hk Ee
       |_=>rw[hd]at hk;cases hk
      obtain⟨fq,DL,En⟩:=cg (.dT (i8 kvs kk y)) _ _ _ ⟨i8 kvs kk y,rfl,t1.symm,rfl,mS (P:=fun ks=>∀k∈ks,rW k) Fz hfk⟩ t2;have hlen:kvs.length<sizeLine:=by have:=hc.2;rw[ek,M5]at this;exact this
      exact⟨p,_,rfl,DPut.t hp (Dq.gh _ _ gz) hlen,k _ _ G4 fq (Cr.trans (Cj.trans (CV.trans (D6.trans En)))) DL⟩
     |false=>
      obtain⟨kvs,eu,ek,ex,Fz⟩:=dd;subst eu;subst ex;have hk:=hc.1;unfold dv at hk;rw[Ng Nb,NW]at hk;obtain⟨kk,hk⟩:=hk;obtain⟨ez,dz⟩:=gj hk rz;subst ez;obtain⟨t1,t2⟩:=kZ (K:=X.K) (G:=G4) kD qa (k:=kk) rs Lg;rw[<-ek,<-dz]at t1 t2;obtain⟨fq,DL,En⟩:=cg (.dK (i8 kvs kk y)) _ _ _ ⟨i8 kvs kk y,rfl,t1.symm,rfl,mS (P:=rW) Fz (ur hk rz)⟩ t2;have hlen:kvs.length<sizeLine:=by have:=hc.2;rw[ek,M5]at this;exact this
      exact⟨p,_,rfl,DPut.k hp hlen,k _ _ G4 fq (Cr.trans (Cj.trans (CV.trans (D6.trans En)))) DL⟩
    ·exact k.elim
   ·exact k.elim
end
end PV
namespace NX
open PySem PySem.Spec PyProof.Rows L2
section
variable{prog:Program}{w:World}{A:Around}{E:Value->Shared->Prop}{s:Shared}{d:Addr}{es:Array DictEntry}{ep:Nat}
theorem jQ(nm:(d==sysModules)=false):MeetsIn prog w (Builtin.«dict.__len__» ⟨[.ref d],[]⟩) (fun _ R s=>RawD s.heap d es ep/\R (.ok (.ret (.int es.size s.toks))) {s with toks:=s.toks+1}):=
 .of_wp fun A R s Cm=>by
  obtain⟨⟨o,g,_,dat⟩,h⟩:=Cm;show wpAny _ _ (dictSize d >>= fun _=>_) _ _ s;unfold dictSize;refine M3 (M3 (Pb g dat (M4 ?_)));show wpAny _ _ (Builtin.Dict.pendingCount d >>= fun _=>_) _ _ s;refine M3 (wpAny_pendingCount_other nm (wpAny_ret_mkInt ?_));rw[Nat.add_zero];exact h
theorem vS{Q:Value->Shared->Prop}(nm:(d==sysModules)=false)(x:RawD s.heap d es ep)(hf:(es.size:Int)<2 ^ 63)(h:Q (.int es.size (s.toks+1)) {s with toks:=s.toks+1+1}):wpAny (model prog w) A (call (.builtin "len") [.ref d]) Q E s:=by
 have ty:=gZ x;refine OV kind_len plain_len entry_len (args_len1 _) ?_;unfold Builtin.«len»;refine M3 (m:=oneArg "len" _) (M4 (M3 (m:=callSpecial? (.ref d) (Str.ofString "__len__")) (wpAny_callSpecial?_slot (name:=Str.ofString "__len__") ty F.slot_dict_len
  (call_meetsIn F.slot_dict_len ty F.entry_dict_len (F.args_dict_len_1 _) (jQ (es:=es) (ep:=ep) nm) ⟨x,?_⟩))))
 show wpAny _ _ _ _ _ {s with toks:=s.toks+1};refine M3 (Ou (M4 (M3 (QV ?_))));show wpAny _ _ (if((es.size:Nat):Int)<0 then _ else _) _ _ _;rw[Ng (Int.not_lt.mpr (Int.natCast_nonneg _))];show wpAny _ _ (if((es.size:Nat):Int)>=2 ^ 63 then _ else _) _ _ _;rw[Ng (Int.not_le.mpr hf)];exact M3 (wpAny_mkInt (M4 ⟨_,rfl,h⟩))
end
end NX
namespace PV
open PySem PySem.Spec PyProof.Rows L2 NX
section
variable{X:Cx}
def gQ:List D->Res R
 |[.dct _ ks _]=>.ok (.f,.int ks.length)
 |ds=>Aj ds
theorem yr{pr:List (Addr×Obj)}{σ:L2.St}{H:Hp}{s:Shared}(I:Inv X pr σ H s){p:Addr}{o:HO}{tk:Bool}{ks:List D}{xs:List V}(rd:Rd H p o)(dd:DictO o tk ks xs):(p==sysModules)=false/\∃es ep,RawD s.heap p es ep/\es.size=ks.length/\ks.length<=sizeLine:=by
 have ok:=rd.ok I.hok;cases tk with
 |true=>
  obtain⟨kvs,eo,ek,_⟩:=dd;subst eo;obtain⟨z,nm,ws,r,o2,es,ep,h1,h2,h3,h4,_⟩:=ok;refine⟨nm,es,ep,⟨o2,h1,h2,h3⟩,?_,by rw[ek,M5];exact z⟩;have:=NY List.length h4;rw[M5,N7,<-Pp r]at this;rw[ek,M5];exact this
 |false=>
  obtain⟨kvs,eo,ek,_⟩:=dd;subst eo;obtain⟨z,nm,ws,r,o2,es,ep,h1,h2,h3,h4,h5,_⟩:=ok;refine⟨nm,es,ep,⟨o2,h1,h2,h3⟩,?_,by rw[ek,M5];exact z⟩;have l1:=h5.length;have l2:kvs.length=ws.length:=Pp r;rw[ek,M5];rw[N7]at l1;lia
theorem bR:de X (.builtin "len") (rC X.K gQ):=by
 rintro pr s σ H xs us Q I rx ⟨G,fp,es,vs,ds,r,⟨rel,k⟩,vd,e⟩;unfold gQ at e;split at e
 ·rename_i tk ks ws;cases e;obtain⟨v,ev,p,ys,o,ep,rd,dd,_⟩:=oh vd;subst ev;subst ep;obtain⟨u,rfl,ru⟩:=gK rx;cases ru;obtain⟨nm,en,ep,raw,h1,h2⟩:=yr I rd dd;refine vS nm raw (by rw[h1];rw[NV]at h2;lia) ?_;refine⟨.int ks.length,H,I.tok _,⟨_,by rw[h1]⟩,k _ H G fp .refl (rel.push (bL _))⟩
 ·exact yi pr s σ H xs us Q I rx ⟨G,fp,es,vs,_,r,⟨rel,k⟩,vd,e⟩
def An(g:List Nat->List D->Res R)(fa:FO)(fs:DB):FX:=fun env=>(fa env).bind fun p=>match DA p.2 p.1 with
 | .ok (.str l)=>(fs p.2).bind fun q=>(mE q.2 q.1).bind fun ds=>(g l ds).bind fun r=>.ok (r,q.2)
 |_=>.bad
inductive rMtS(K:W.Frag)(g:List Nat->List D->Res R)(x:V)(xs:List V)(H:Hp)(Q:VK):Prop
 |mk:∀G fp es vs l ds r,Goes K H G fp es vs r Q->x=.str (S l)->l.length<=sizeLine->JP K G H ds xs->g l ds=.ok r->rMtS K g x xs H Q
theorem yt{g:List Nat->List D->Res R}{id:String}{name:Str}{o e:Expr}{es:List Expr}{fa:FO}{fs:DB}{apos Cu:Pos}(slot:Slot "str" name id)(Hn:typeOf (.builtin id)=pure (.type "method_descriptor"))(hm:JI X id (rMtS X.K g))(ho:QO X o fa)(ha:Gk X (e::es) fs)
  (DW:attributeBase o name X.env (eval o X.env)=eval o X.env:=by rfl)
  (EN:((backTo Cu (starEach (e::es) X.env)).all (fun x=>!x.1)&&(backToKw Cu (keywordEach [] X.env)).all (fun x=>x.1.isSome)&&decide ((e::es).length+([]:List Keyword).length+(if([]:List Keyword).isEmpty then 0 else 1)<30))=true:=by rfl)
  (DX:(apos.endLine==Cu.line)=true:=by rfl) (hs:starEach (e::es) X.env=(false,eval e X.env)::starEach es X.env:=by rfl) (Di:(backTo Cu (starEach es X.env)).any (·.1)=false:=by rfl):
  QE X (.Call (.Attribute o name apos) (e::es) [] Cu) (An g fa fs):=by
 refine ba (xF PySem.F.plainAttrs_str slot Hn hm ho ha DW EN DX hs Di) fun σ H Q Cz=>?_
 obtain⟨G,env,fp,r,env',rel,e,k⟩:=Cz;obtain⟨⟨oa,B9⟩,e1,e⟩:=ag e;dsimp only at e;split at e
 ·rename_i l hl;obtain⟨⟨os,Cn⟩,e2,e⟩:=ag e;obtain⟨ds,e3,e⟩:=ag e;obtain⟨r',e4,e⟩:=ag e;cases e;refine⟨G,env,fp,oa,B9,rel,e1,fun v H1 G1 Cy Cr Cd DT=>?_⟩;obtain⟨ev,hz⟩:=cU (Cd.vw DT hl);subst ev;exact⟨rfl,G1,B9,Cy,os,Cn,Cd,e2,fun vs H2 G2 C0 Cj Ca FZ=>⟨G2,C0,Cn,σ,l,ds,r,⟨Ca,fun v H' G' Cg st CD=>k v H' G' Cg (Cr.trans (Cj.trans st)) CD⟩,rfl,hz,Ca.vws FZ e3,e4⟩⟩
 ·cases e
end
theorem fnok_of{P:Program}{w:World}{K:W.Frag}{mg:Str->Option Value}{base:Heap}{x:Str}{st:Stmt}{N ps:List Str}{k:Nat}{g:FS}{f:Addr}{fd:FuncData}(F:Fun K x x st f fd)(sc:FnScope N ps (defScope st))
  (body:∀(CB:Value) (A:Around) (outer:List PySem.Env) (s:Shared) (H:Hp) (E:XK),Room k (A.deeper (envOfC x (defScope st) s.heap.objs.size f CB))->Gz (md:=.plain) (oY Gu P w K mg base N x (defScope st) f CB A outer s H E).nox (bY st) g):
  FnOk P w K mg base Gu (k+1) f fd ps (spF K (fBody ps.length (N.length-ps.length) g)):=by
 refine F.ok sc (fun vs H Q E h=>?_) (fun CB A outer s H vs Q E hr h=>?_)
 ·obtain⟨G,ds,r,_,rs,e,_⟩:=h;unfold fBody at e;split at e
  ·rename_i hl;rw[rs.length,hl]
  ·cases e
 ·obtain⟨G,ds,r,gh,rs,e,q⟩:=h;unfold fBody at e;split at e
  ·rename_i hl;refine⟨_,body CB A outer s H E hr,G,ds.map (fun d=>some (O.f,d))++List.replicate (N.length-ps.length) none,[],⟨?_,OW,(fun _ h=>nomatch h),gh⟩,?_⟩
   ·have:=fD (K:=K) (G:=G) (H:=H) (N.length-ps.length) rs;unfold L2.gL;rw[rs.length,hl];exact this
   ·obtain⟨o,eo,e⟩:=ag e;rw[eo];cases o with
    |rt r'=>
     cases e;exact fun v H' G' Cg st rel=>q v H' G' Cg st rel
    |nx env'=>
     cases e;exact fun σ' H' G' Cg st rel=>q .non H' G' [] (st.trans (Step.cut fun _ h=>nomatch h)) (rel.nilF.push jG)
    |bk env'=>cases e
    |ct env'=>cases e
  ·cases e
def sr(K:W.Frag):Sp:=fun vs H Q _=>∃(a:Addr) (ns:List Int),vs=[.ref a]/\SqL K H a (ns.map V.int)/\ns.length<=63/\∀H',Q (.bl true) H'
theorem yu{K:W.Frag}{F:List D->Res R}(h:∀ns:List Int,ns.length<=63->∃o,F [.lst (ns.map D.int)]=.ok (o,.bl true)):∀vs H Q E,sr K vs H Q E->spF K F vs H Q E:=by
 rintro vs H Q E ⟨a,ns,rfl,sq,hl,q⟩;obtain⟨o,e⟩:=h ns hl;refine⟨H,_,_,.refl _,?_,e,fun v H' G' Cg st rel=>?_⟩
 ·refine .one ?_;rw[Rep];exact⟨a,_,rfl,sq,dI fun n _=>bL n⟩
 ·rw[bO rel.top];exact q H'
theorem _root_.L2.Room.u65{k:Nat}{A:Around}(r:Room k A):A.units+65<cLine:=by have:=r.un;lia
def B4(f:FX)(a:FG):FS:=fun env=>(f env).bind fun p=>(a p.1.2 p.2).bind fun e=>.ok (.nx e)
theorem BI{l:PySem.W.OpenLaw}{q:Program}{loose:List Str}{XP:(Str->Option Value)->Heap->Prop}{YP:World->Heap->Prop}{d:DefRec}{K:Params->W.Frag}{k:Nat}{x:Str}(hn:l.most=some 63)(J9:d.params.defaults=[])(hr:Room k PySem.callerA)
  (hY:∀(w:World) (h:Heap),YP w h->(K w.params).In h)
  (F:∀(w:World) (mg:Str->Option Value) (fa:Addr) (h:Heap),(K w.params).In h->h.Ns mainGlobals mg->mg d.name=some (.ref fa)->
   ∃fd:FuncData,(∀(s:Shared) (u:Value),BindsTo s fd ⟨[u],[]⟩ [(x,u)])/\∀base:Heap,(K w.params).In base->base.Ns mainGlobals mg->FnOk l.prog w (K w.params) mg base Gu k fa fd [x] (sr (K w.params))):
  PySem.W.WalkO q loose XP YP l.row.toRowW d [] (fun f vs=>PySem.call f vs):=
 L2.u6 (n:=63) (k:=k) (x:=x) (CX:=fun _=>Gu) (sp:=fun w=>sr (K w.params)) hn (by decide) J9 hr hY F (fun _ _ a ns hl _ hS=>⟨a,ns,rfl,hS,hl,fun _=>rfl⟩) fun _ _ _ _ _ z=>z
theorem uu:bootBuiltins "all" = some (.builtin "all"):=by decide +kernel
theorem qc:bootBuiltins "sorted" = some (.builtin "sorted"):=by decide +kernel
theorem cD{K:W.Frag}{h:Heap}{mg:Str->Option Value}{x:Str}{st:Stmt}{f:Addr}{oc:Value}{od an:Option Addr}{Gr:Array (Option Value)}{kV doc pm CB ct:Value}(X:K.In h)(G:h.Ns mainGlobals mg)
  (a:PySem.W.nsIn K mainGlobals x=some (some (.ref f))) (l:K.lookup f=some ⟨oc,od,.func (PySem.W.fnOf x x (dE st) (bY st) (defScope st) .none kV doc pm an CB ct),Gr⟩)
  (c:PySem.W.codeIn K CB x=true) (k:PySem.W.keepIn K (.ref f)=true):Def K mg x st:=⟨f,_,tS l c k,NT X G a⟩
theorem Ao{K:W.Frag}{h:Heap}{mg:Str->Option Value}{x:Str}{n:Int}{t:Tok}(X:K.In h)(G:h.Ns mainGlobals mg)(a:PySem.W.nsIn K mainGlobals x=some (some (.int n t))):Gi mg x n:=⟨t,NT X G a⟩
inductive tQL(K:W.Frag)(f:FI)(σ:L2.St)(H:Hp)(R:It->Hp->Prop):Prop
 |mk:∀G env fp ds env',Rel K G H env σ fp->f env=.ok (ds,env')->(∀J H' G' Cg,Step G H fp G' H' Cg->Rel K G' H' env' σ Cg->(∀G2,Same G' G2->(∀(i:Nat) (r:PV.R) (v:V),env'[i]?=some (some r)->σ[i]?=some (some v)->Rep K G2 r.2 v)->Walk K G2 J ds)->R J H')->tQL K f σ H R
def Jc(X:Cx)(tg e:Expr)(f:FI):Prop:=PI X tg e (tQL X.K f)
theorem Walk.mono{K:W.Frag}{G G2:Hp}{J:It}{ds:List D}(w:Walk K G J ds)(gg:Same G G2):Walk K G2 J ds:=fun G' H' es vs fp g rel=>w G' H' es vs fp (gg.trans g) rel
theorem uv{K:W.Frag}{fi:FI}{ix:List (Option Nat)}{a:FG}{c:FT}{f:FX}{σ:L2.St}{H:Hp}{Q:VK}(h:tQ K (fE fi ix a c f) σ H Q):vg (tQL K fi) ix (tQG K a) (tQT K c) (tQ K f) σ H Q:=by
 obtain⟨G,env,fp,r,env',rel,e,k⟩:=h;obtain⟨⟨ds,B9⟩,e1,e⟩:=ag e;obtain⟨rs,e2,e⟩:=ag e;refine⟨G,env,fp,ds,B9,rel,e1,fun J H1 G1 Cy Cr Cd wk D hD=>?_⟩;dsimp only at e e2;split at e
 ·rename_i hz;have er:r=(.l .f,.lst rs):=by cases e;rfl
  have ee:env'=if flatDs rs then B9 else B9.map frz:=by cases e;rfl
  subst er;obtain⟨G2,Km,Ko,EG,hrE,Fe⟩:=Cd.lend;have wk2:=wk G2 Km EG;have Ca:Rel K G2 H1 (cM ix B9) (je ix σ) []:=⟨dS EG (fun i r er=>let⟨v,ev,_⟩:=Cd.view er;⟨v,ev⟩) ix,OW,(fun _ h=>nomatch h),Ko⟩
  obtain⟨CI,CV⟩:=Ca.newL (ds:=[]) (xs:=[]) hD .nil;refine⟨fun i m σ1 H2=>m=ds.length-i/\i<=ds.length/\∃G' es Cg acc cj,Step G2 H1 [] G' H2 Cg/\Rel K G' H2 (some (.l .f,.lst acc)::es) (some (.ref D)::σ1) Cg/\dq a c f (ds.drop i) es=.ok cj/\acc++cj=rs,
   ⟨_,rfl,NG _,G2,cM ix B9,_,[],rs,CV,CI,e2,rfl⟩,?_⟩
  rintro i m σ1 H2 ⟨rfl,hi,G3,es,EO,acc,cj,D6,Dq,e4,GI⟩;obtain⟨w1,w2⟩:=wk2 G3 H2 _ _ _ D6.gg Dq i;by_cases Dz:i<ds.length
  ·have hd:ds[i]?=some ds[i]:=List.getElem?_eq_getElem Dz;obtain⟨go,yl⟩:=w1 _ hd;rw[PY Dz]at e4;unfold dq at e4;obtain⟨L5,h1,e4⟩:=ag e4;obtain⟨⟨b,JO⟩,h2,e4⟩:=ag e4;dsimp only at e4;refine .inr ⟨go,fun x H3 y=>?_⟩;obtain⟨G4,rx,DL,En⟩:=yl x H3 y;obtain⟨fa,fb,MF,ra,relb,bk⟩:=DL.frame;refine⟨G4,es,fb,ds[i],L5,relb,rx,h1,fun σ2 G5 Ja st6 rel6=>?_⟩;refine⟨G5,L5,Ja,b,JO,rel6,h2,fun H6 G6 MG st7 Ku=>?_⟩;have Kv:=st6.trans st7;cases b with
   |false=>
    refine iteF ⟨ds.length-(i+1),by lia,rfl,Dz,?_⟩;obtain⟨Jd,Kw⟩:=bk G6 H6 JO σ2 MG Kv Ku;rw[<-MF]at Kw;exact⟨G6,JO,_,acc,cj,D6.trans (En.trans Kw),Jd,e4,GI⟩
   |true=>
    have e4:((f JO).bind fun q=>(dq a c f (ds.drop (i+1)) q.2).bind fun rs=>.ok (q.1.2::rs))=.ok cj:=e4;obtain⟨⟨r,Ma⟩,h3,e4⟩:=ag e4;obtain⟨Kx,h4,e4⟩:=ag e4;cases e4;refine wM ⟨G6,JO,MG,r,Ma,Ku,h3,fun v H7 G7 fp7 st8 rel8=>?_⟩;obtain⟨G8,fp8,rv,rel9,st9⟩:=rel8.freeze;obtain⟨Jd,Kw⟩:=bk G8 H7 Ma σ2 fp8 (Kv.trans (st8.trans st9)) rel9;rw[<-MF]at Kw;obtain⟨p,xs,ep,hp,Kq,cg⟩:=Jd.chg (i:=0) (ds:=acc) (ds':=acc++[r.2]) rfl;have ep:some (some (V.ref D))=some (some (V.ref p)):=ep;cases ep;obtain⟨fq,rely,sty⟩:=cg (xs++[v]) (Kq.app (.one rv));refine⟨xs,hp,?_,ds.length-(i+1),by lia,rfl,Dz,G8,Ma,fq,acc++[r.2],Kx,D6.trans (En.trans (Kw.trans sty)),rely,h4,?_⟩
    ·rw[Kq.length];have:=NY List.length GI;rw[NC,Nq]at this;lia
    ·rw[<-GI,Oa];rfl
  ·have ei:i=ds.length:=by lia
   subst ei;rw[List.drop_length]at e4;cases e4;rw[Nz]at GI;subst GI;refine .inl ⟨w2 rfl,?_⟩;obtain⟨fa,relo,sto⟩:=Dq.only;obtain⟨k1,k2⟩:=Fe H2 G3 fa _ _ (D6.trans sto) relo;rw[ee]at k;by_cases hc:flatDs acc=true
   ·rw[Nc hc]at k;obtain⟨G5,Ja,En,DL⟩:=k1 (by rw[bT,jK];exact hc);exact k _ H2 G5 Ja (Cr.trans En) DL
   ·rw[Ng hc]at k;obtain⟨G5,Ja,En,DL⟩:=k2;exact k _ H2 G5 Ja (Cr.trans En) DL
 ·cases e
section
variable{md:Mode}{X:Cx}{scope:Scope}{N:List Str}{tg iter elt:Expr}{ifs:List Expr}{pos:Pos}{fi:FI}{a:FG}{c:FT}{f:FX}
variable{l e:Expr}{g fj:FI}
theorem dX(h:QI X tg e fi):Jc X tg e fi:=ie h fun σ H R ⟨G,env,fp,ds,env',rel,e,k⟩=>⟨G,env,fp,ds,env',rel,e,fun J H' G' Cg st CD wk=>k J H' G' Cg st CD fun _ gg _=>wk.mono gg⟩
theorem mT(h:Jc X tg e fi)(h2:Jc X tg e fj):Jc X tg e (EH fi fj):=fun pr s σ H R I Cm=>by
 obtain⟨G,env,fp,ds,env',rel,ee,k⟩:=Cm;rcases um ee with z|z
 ·exact h pr s σ H R I ⟨G,env,fp,ds,env',rel,z,k⟩
 ·exact h2 pr s σ H R I ⟨G,env,fp,ds,env',rel,z,k⟩
def ou(i:Nat):FI:=fun env=>match env[i]? with
 |some (some (_,.lst ds))=>.ok (ds,env)
 |_=>.bad
theorem qe{i:Nat}(h:PE X l (nH i)):Jc X tg l (ou i):=ie (oO h) fun σ H R Cm=>by
 obtain⟨G,env,fp,ds,env',rel,e,k⟩:=Cm;unfold ou at e;split at e
 ·rename_i o ds hr;cases e;obtain⟨v,ev,rv⟩:=rel.view hr;obtain⟨p,xs,MH,sq,rs⟩:=aW rv;refine⟨v,ev,p,MH,⟨xs,sq⟩,k _ H G fp .refl rel fun G2 gg EG=>?_⟩;obtain⟨p',DY,Ky,DG,Ee⟩:=aW (EG i _ v hr ev);rw[MH]at Ky;cases Ky;exact kP DG Ee
 ·cases e
theorem fK(ix:List (Option Nat))(N:List Str)(hc:X.calm=true)(hi:Jc X tg iter fi)(hg:∀C s H fp pn,QG (bE X scope N C s H fp pn) tg a)(ht:∀C s H fp pn,L8 (bE X scope N C s H fp pn) ifs c)(he:∀C s H fp pn,QE (bE X scope N C s H fp pn) elt f)
  (hf:fu scope X.env=true:=by rfl) (hk:scope.kind=.function:=by rfl) (C1:∀y∈scope.names,y.2≠.cell:=by decide +kernel) (DK:∀y∈scope.names,y.2=.local->scope.names.lookup y.1=some .local:=by decide +kernel) (Ek:tV X scope N ix=true:=by rfl)
  (hs:∀x,foldedSetIterable iter X.env x=pure x:=by intro _;rfl):QE X (.ListComp elt [⟨tg,iter,ifs,0⟩] scope pos) (fE fi ix a c f):=
 ba (vi (g:=tQG X.K a) (tc:=tQT X.K c) (te:=tQ X.K f) ix N hc hi hg ht he hf hk C1 DK Ek hs) fun _ _ _=>uv
theorem g0{i:Nat}{y:Str}{py Gw:Pos}(ix:List (Option Nat))(N:List Str)(hN:X.N.Nodup)(LK:X.N[i]?=some y)(hy:Loc X.env.scope y)(hc:X.calm=true)(hi:Jc X tg iter fi)(hg:∀C s H fp pn,QG (bE X scope N C s H fp pn) tg a)(ht:∀C s H fp pn,L8 (bE X scope N C s H fp pn) ifs c)
  (he:∀C s H fp pn,QE (bE X scope N C s H fp pn) elt f) (LL:swapsWith (.ListComp elt [⟨tg,iter,ifs,0⟩] scope pos) (some (.Name y py)) Gw.line X.env=pure true:=by rfl)
  (hf:fu scope X.env=true:=by rfl) (hk:scope.kind=.function:=by rfl) (C1:∀y∈scope.names,y.2≠.cell:=by decide +kernel) (DK:∀y∈scope.names,y.2=.local->scope.names.lookup y.1=some .local:=by decide +kernel) (Ek:tV X scope N ix=true:=by rfl)
  (hs:∀x,foldedSetIterable iter X.env x=pure x:=by intro _;rfl) (IE:X.fn y=true\/X.env.scope.names.lookup y=some .local:=by first|exact .inl rfl|exact .inr rfl):
  QS (md:=md) X (.Assign [.Name y py] (.ListComp elt [⟨tg,iter,ifs,0⟩] scope pos) Gw) (cw i (fE fi ix a c f)):=
 dQ (vj (i:=i) (g:=tQG X.K a) (tc:=tQT X.K c) (te:=tQ X.K f) ix N hN LK hy hc hi hg ht he LL hf hk C1 DK Ek hs IE) fun D σ H ⟨G,env,fp,rel,k⟩=>uv (pR rel k)
end
section
variable{X:Cx}{a:Expr}{pos:Pos}{fa:FO}
def B5(fa:FO):FX:=fun env=>(fa env).bind fun p=>(DA p.2 p.1).bind fun d=>match d with
 | .int i=>.ok ((.f,.int (-i)),p.2)
 |_=>.bad
theorem qf{i:Int}(h:i.natAbs<2 ^ 1000):Builtin.Int.intBits i<=2 ^ 20:=by
 unfold Builtin.Int.intBits;split
 ·exact NG _
 ·rename_i h0;have h1:i.natAbs≠0:=by
   intro e;rw[Int.natAbs_eq_zero]at e;exact h0 (by rw[e];rfl)
  have:=(Nat.log2_lt h1).mpr h;have e:(2:Nat) ^ 20=1048576:=by decide
  lia
theorem vT:CM X (binaryOp .Mult) (rI (fun i j=>i.natAbs<2 ^ 1000/\j.natAbs<2 ^ 1000) fun i j=>.int (i*j)):=J5 fun _ _ _ _ _ _ _ hc q=>mul_int q (.of_bits (qf hc.1) (qf hc.2))
theorem k4{α:Type}:∀(ls:List (Array α)) (acc:Array α),(ls.foldl (·++·) acc).toList=acc.toList++(ls.map Array.toList).flatten
 |[],acc=>by simp
 |a::ls,acc=>by
  rw[Ob,k4 ls,Array.toList_append,Nk,Og,Oa]
theorem Ap(l:List Nat)(n:Nat):(⟨(List.replicate n (S l).cps).foldl (·++·) #[]⟩:Str)=S (List.replicate n l).flatten:=by
 have h:((List.replicate n (S l).cps).foldl (·++·) #[]).toList=(List.replicate n l).flatten:=by
  rw[k4,List.map_replicate];simp only[cn,List.nil_append]
 show Str.mk _=Str.mk _;rw[<-h]
theorem vU(a b:Int):Af (.int a) (.int b)=if cC a||cC b then .ok (.f,.int (a*b)) else .bad:=rfl
noncomputable def wQ:D->D->Res R
 | .int i,.int j=>if cC i||cC j then .ok (.f,.int (i*j)) else if i.natAbs<2 ^ 1000/\j.natAbs<2 ^ 1000 then .ok (.f,.int (i*j)) else .bad
 | .str l,.int k=>if 2<=k/\k<=1000/\1<=l.length/\l.length<=1000 then .ok (.f,.str (List.replicate k.toNat l).flatten) else .bad
 |_,_=>.bad
theorem vV:CM X (binaryOp .Mult) (rG X.K wQ):=by
 rintro pr s σ H x y v u Q I rx ry ⟨G,fp,es,vs,a,b,r,⟨rel,k⟩,va,vb,e⟩;unfold wQ at e;split at e
 ·rename_i i j;split at e
  ·rename_i hc;exact ye pr s σ H x y v u Q I rx ry ⟨G,fp,es,vs,.int i,.int j,r,⟨rel,k⟩,va,vb,by rw[vU,Nc hc];exact e⟩
  ·split at e
   ·rename_i hc;cases e;cases bq va;cases bq vb;exact vT pr s σ H _ _ v u Q I rx ry ⟨i,j,rfl,rfl,hc,k _ H G fp .refl (rel.push (bL _))⟩
   ·cases e
 ·rename_i l j;split at e
  ·rename_i hc;cases e;obtain⟨ev,hl⟩:=cU va;subst ev;cases bq vb;obtain⟨t,rfl⟩:=rx;obtain⟨t',rfl⟩:=ry;have hlen:(S l).length=l.length:=i6 l;have hz:(List.replicate j.toNat l).flatten.length<=1000000:=by
    rw[jv];exact Nat.mul_le_mul (by lia:j.toNat<=1000) hc.2.2.2
   have HB:(List.replicate j.toNat l).flatten.length<=sizeLine:=NF hz (by decide);refine PySem.P.mul_str ?_ ?_ ?_ ?_
   ·rw[Nh (by lia),Nh (by lia)];rfl
   ·intro _ _;rw[hlen];have h1:1000<=(2 ^ 63-1) / j:=(Int.le_ediv_iff_mul_le (by lia)).mpr (by lia);lia
   ·intro _ _;unfold Builtin.Str.tooLong;rw[ND,hlen,Rt,<-jv];lia
   ·rw[Ng (by lia),Ng (by rw[hlen,Qt,NN,NN];lia),Ap];refine⟨?_,?_⟩
    ·rw[i6];exact HB
    ·exact⟨.str (S (List.replicate j.toNat l).flatten),H,I.tok _,⟨_,rfl⟩,k _ H G fp .refl (rel.push (eY HB))⟩
  ·cases e
 ·cases e
end
end PV
namespace HT
open PySem PySem.Spec PyProof.Rows L2
variable{prog:Program}{w:World}{A:Around}{E:Value->Shared->Prop}{s:Shared}
theorem fL{t sl:Addr}{items:Array Value}{vl vu:Value}{lo hi:Option Int}{Q:Value->Shared->Prop}(ht:IsTup s.heap t items)(hs:s.heap.IsSliceOf sl vl vu .none)(pl:IsPart vl lo)(pu:IsPart vu hi)
  (hw:sIx items.size 0 lo=0/\sIx items.size items.size hi=items.size) (h:Q (.ref t) s):wpAny (model prog w) A (getItem (.ref t) (.ref sl)) Q E s:=by
 obtain⟨os,Hm,K7,IG⟩:=id hs;have LD:s.TypeIs (.ref sl) "slice":=⟨os,Hm,K7⟩
 unfold getItem;try with_reducible refine Ou ?_
 first|refine M3 (M4 ?_)|skip
 refine M3 (wpAny_sequenceKey ht.typeIs (by decide) ?_);refine M3 (wpAny_callSpecial?_slot (name:=Str.ofString "__getitem__") ht.typeIs N8
  (NJ N8 ht.typeIs entry_tuple_getitem ?_ (args_tuple_getitem _ _)))
 show wpAny _ _ (Builtin.Tuple.tupleItemsOf (.ref t) >>= _) _ _ s;refine M3 (tupleItemsOf_ ht ?_);refine M3 (O1 LD ?_);rw[Nc (by decide)];refine M3 (dP hs pl pu ?_);have hyes:(((sIx items.size 0 lo:Nat):Int)==0&&(1:Int)==1&&(sIx items.size items.size hi-sIx items.size 0 lo)==items.size)=true:=by
  rw[hw.1,hw.2];simp
 show wpAny _ _ (if(((sIx items.size 0 lo:Nat):Int)==0&&(1:Int)==1&&(sIx items.size items.size hi-sIx items.size 0 lo)==items.size)=true then _ else _) _ _ s;rw[Nc hyes];refine M3 (m:=Builtin.Tuple.tupleIsExact _) ?_;unfold Builtin.Tuple.tupleIsExact;refine M3 (O1 ht.typeIs (M4 ?_));rw[Nc (by decide)];exact M3 (Rl (M4 ⟨_,rfl,M4 h⟩))
end HT
namespace PV
open PySem PySem.Spec PyProof.Rows L2 NX
section
variable{X:Cx}{pos:Pos}{fa:FO}
theorem vW:IH X (fun x lo hi H Q=>∃a xs,x=.ref a/\SqT X.K H a xs/\(HT.sIx xs.length 0 lo=0/\HT.sIx xs.length xs.length hi=xs.length)/\Q x H):=by
 intro pr s σ H x v vl vu lo hi sl Q I rx hs pl pu h;obtain⟨a,xs,rfl,hx,hw,q⟩:=h;cases rx;obtain⟨Cc,r,ht,hz⟩:=I.tuple hx;have hlen:Cc.toArray.size=xs.length:=by rw[M6];exact r.length.symm
 refine⟨"tuple",_,PyProof.Rows.slot_tuple_getitem.lookup,ht.typeIs,?_⟩;exact HT.fL ht hs pl pu (by rw[hlen];exact hw) ⟨.ref a,H,I,rfl,q⟩
def Je(k:D)(lo hi:Option Int):Res R:=match k with
 | .tup ds=>if HT.sIx ds.length 0 lo=0/\HT.sIx ds.length ds.length hi=ds.length then .ok (.f,.tup ds) else JS k lo hi
 |_=>JS k lo hi
def yv(fa:FO)(lo hi:FP):FX:=fun env=>(fa env).bind fun p=>(lo p.2).bind fun q=>(hi q.2).bind fun t=>(DA t.2 p.1).bind fun d=>(Je d q.1 t.1).bind fun r=>.ok (r,t.2)
inductive rSlW(K:W.Frag)(x:V)(lo:Option Int)(hi:Option Int)(H:Hp)(Q:VK):Prop
 |mk:∀G fp es vs d r,Goes K H G fp es vs r Q->Vw K G H d x->Je d lo hi=.ok r->rSlW K x lo hi H Q
theorem yw:IH X (rSlW X.K):=by
 rintro pr s σ H x v vl vu lo hi sl Q I rx hs pl pu ⟨G,fp,es,vs,d,r,⟨rel,k⟩,vd,e⟩;unfold Je at e;split at e
 ·rename_i ds;split at e
  ·rename_i hw;cases e;obtain⟨p,xs,ev,sq,rs⟩:=eS vd;subst ev;refine vW pr s σ H _ v vl vu lo hi sl Q I rx hs pl pu ⟨p,xs,rfl,br rel.gh sq,by rw[rs.length];exact hw,?_⟩;exact k _ H G fp .refl (rel.push vd)
  ·exact yh pr s σ H x v vl vu lo hi sl Q I rx hs pl pu ⟨G,fp,es,vs,_,r,⟨rel,k⟩,vd,e⟩
 ·exact yh pr s σ H x v vl vu lo hi sl Q I rx hs pl pu ⟨G,fp,es,vs,_,r,⟨rel,k⟩,vd,e⟩
theorem qg{e:Expr}{lo hi:Option Expr}{p2:Pos}{fl fh:FP}(he:QO X e fa)(hl:QP X lo fl)(hh:QP X hi fh):QE X (.Subscript e (.Slice lo hi none p2) pos) (yv fa fl fh):=
 ba (rg yw he hl hh) fun σ H Q Cm=>by
  obtain⟨G,env,fp,r,env',rel,e,k⟩:=Cm;obtain⟨⟨o,B9⟩,e1,e⟩:=ag e;obtain⟨⟨i,Cn⟩,e2,e⟩:=ag e;obtain⟨⟨j,Ef⟩,e3,e⟩:=ag e;obtain⟨d,e4,e⟩:=ag e;obtain⟨r',e5,e⟩:=ag e;cases e;exact⟨G,env,fp,o,B9,rel,e1,fun v H1 G1 Cy Cr Cd DT=>⟨G1,B9,Cy,i,Cn,Cd,e2,fun H2 G2 C0 Cj Ca=>⟨G2,Cn,C0,j,Ef,Ca,e3,fun H3 G3 EO CV CI=>
   ⟨G3,EO,Ef,σ,d,r,⟨CI,fun v H' G' Cg st CD=>k v H' G' Cg (Cr.trans (Cj.trans (CV.trans st))) CD⟩,CI.vw ((DT.mono Cj.gg).mono CV.gg) e4,e5⟩⟩⟩⟩
end
end PV
namespace L2
open PySem PySem.Spec PyProof.Rows
section
variable{X:Cx}{tg:Expr}
def qh(i j c:Int):Prop:=(-1048576<=i/\i<=1048576)/\(-1048576<=j/\j<=1048576)/\(c = -1\/1<=c)/\c<=1048576
instance (i j c:Int):Decidable (qh i j c):=by unfold qh;infer_instance
end
end L2
namespace PV
open PySem PySem.Spec PyProof.Rows L2 NX
section
variable{X:Cx}{tg:Expr}
def B6:List D->Res R
 |[d]=>match(mO d).bind fF with
  |some (n::ns)=>.ok (.f,.int (z7 (n::ns)))
  |_=>.bad
 |[.int i,.int j]=>.ok (.f,.int (if j<i then j else i))
 |_=>.bad
def B7:List D->Res R
 |[.int i]=>.ok (.f,.int (if i<0 then -i else i))
 |_=>.bad
noncomputable def Aq(fs:DB):FI:=fun env=>(fs env).bind fun p=>(mE p.2 p.1).bind fun d=>match d with
 |[.int i,.int j,.int c]=>if qh i j c then .ok ((List.range (Builtin.Range.rangeSize i j c).toNat).map fun(k:Nat)=>D.int (i+(k:Int)*c),p.2) else .bad
 |_=>.bad
end
end PV
namespace NX
open PySem PySem.Spec PyProof.Rows L2
section
open PySem.SeqAt
open PySem.AutoSeq1 (wpAny_loadPart')
theorem iG{M:Model}{A:Around}{E:Value->Shared->Prop}{s:Shared}{β:Type}(f:Nat->β->Sem (ForInStep β))(n:Nat)(I:Nat->β->Shared->Prop)(Q:β->Shared->Prop)
  (turn:∀(i:Nat) (b:β) (s:Shared),i<n->I i b s->wpAny M A (f i b) (fun r s'=>match r with | .yield b'=>I (i+1) b' s' | .done b'=>Q b' s') E s)
  (fin:∀(b:β) (s:Shared),I n b s->Q b s) (b:β) (h:I 0 b s):wpAny M A (forIn [0:n] b f) Q E s:=by
 rw[Std.Legacy.Range.forIn_eq_forIn_range'];refine Qg f (fun cj b s=>∃i,i<=n/\cj=List.range' i (n-i)/\I i b s) Q ?_ ?_ _ b ?_
 ·rintro x cj b s ⟨i,hi,hr,h⟩;by_cases Mc:i<n
  ·have e:n-i=(n-(i+1))+1:=by lia
   rw[e,Pk]at hr;injection hr with h1 h2;subst h1;refine Cs (turn x b s Mc h) fun r s' MI=>?_
   cases r with
   |yield b'=>exact⟨x+1,by lia,h2,MI⟩
   |done b'=>exact MI
  ·have e:n-i=0:=by lia
   rw[e]at hr;cases hr
 ·rintro b s ⟨i,hi,hr,h⟩;by_cases Mc:i<n
  ·have e:n-i=(n-(i+1))+1:=by lia
   rw[e,Pk]at hr;cases hr
  ·have e:i=n:=by lia
   subst e;exact fin b s h
 ·refine⟨0,NG _,?_,h⟩;simp[Std.Legacy.Range.size]
theorem gR(l:Addr)(items:Array Value)(n:Nat)(dd:Option Addr)(sl:Array (Option Value))(ns:List Str)(c:Str)(t:Tok)(hi:Vals (ns.map V.str) items.toList)(i:Nat)(hx:ns[i]?=some c)(h0:∀j,j<i->ns[j]?≠some c):
  Meets (Builtin.«tuple.index» ⟨[.ref l,.str c t],[]⟩)
   (fun _ R s=>s.heap.get? l=some {cls:=.type "tuple",dict:=dd,data:=.seq items n,slots:=sl}/\R (.ok (.ret (.int (i:Int) s.toks))) {s with toks:=s.toks+1}):=
 .of_wp fun prog w A R s h=>by
  obtain⟨hp,g,d,tk,os⟩:=s;obtain⟨hl,h⟩:=h;have z1:items.size=ns.length:=by have:=hi.length;simp at this;lia
  have Mc:i<ns.length:=(List.getElem?_eq_some_iff.mp hx).1;have key:∀(j:Nat),j<ns.length->∃(b:Str) (u:Tok),items[j]?=some (.str b u)/\ns[j]?=some b:=by
   intro j hj;obtain⟨v,hv,hr⟩:=hi.get (i:=j) (x:=V.str ns[j]) (by simp[hj]);obtain⟨u,rfl⟩:=hr;exact⟨ns[j],u,by rw[<-Array.getElem?_toList];exact hv,by simp[hj]⟩
  wp_walk using wpAny_loadPart' hl,iG _ _ (fun j b s'=>b.1=none/\s'=⟨hp,g,d,tk,os⟩/\j<=i) _
  case turn=>
   rintro j ⟨b1,b2⟩ s' hj ⟨hb,rfl,MJ⟩;simp only at hb;subst hb;obtain⟨b,u,e1,e2⟩:=key j (by lia);have he:EqAt A.in1 ⟨hp,g,d,tk,os⟩ (.str b u) (.str c t) (b==c):=EqAt.str_str b u c t;by_cases hbc:b=c
   ·have hji2:j=i:=by
     rcases Nat.lt_or_ge j i with Dz|hge
     ·exact absurd (by rw[e2,hbc]) (h0 j Dz)
     ·lia
    subst hji2 hbc;rw[e1];refine M3 (he prog w _ _ ?_);rw[show(b==b)=true from N5 b]
    wp_walk
    exact⟨_,rfl,h⟩
   ·rw[e1];refine M3 (he prog w _ _ ?_);rw[show(b==c)=false from NU.mpr hbc]
    wp_walk
    refine⟨rfl,rfl,?_⟩;rcases Nat.lt_or_ge j i with Dz|hge
    ·exact Dz
    ·have:j=i:=by lia
     subst this;rw[e2]at hx;cases hx;exact absurd rfl hbc
  case fin=>
   rintro⟨b1,b2⟩ s' ⟨hb,rfl,MJ⟩;rw[Nat.min_self]at MJ;lia
  case h=>exact⟨rfl,rfl,NG _⟩
end
end NX
namespace L2
open PySem PySem.Spec PyProof.Rows
section
variable{X:Cx}{o e:Expr}{es:List Expr}{to:TE}{t:TA}{name:Str}{apos Cu:Pos}{id:String}{r:V->List V->Hp->VK->Prop}
def BJ(K:W.Frag)(r:V->List V->Hp->VK->Prop)(to:TE)(t:TA):TE:=fun σ H Q=>to σ H fun x H1=>(∃p ys,x=.ref p/\SqT K H1 p ys)/\t σ H1 fun xs H2=>r x xs H2 Q
theorem yx(slot:Slot "tuple" name id)(Hn:typeOf (.builtin id)=pure (.type "method_descriptor"))(hm:JI X id r)(ho:PE X o to)(ha:PA X (e::es) t)
  (DW:attributeBase o name X.env (eval o X.env)=eval o X.env:=by rfl)
  (EN:((backTo Cu (starEach (e::es) X.env)).all (fun x=>!x.1)&&(backToKw Cu (keywordEach [] X.env)).all (fun x=>x.1.isSome)
   && decide ((e::es).length+([]:List Keyword).length+(if([]:List Keyword).isEmpty then 0 else 1)<30))=true:=by rfl)
  (DX:(apos.endLine==Cu.line)=true:=by rfl) (hs:starEach (e::es) X.env=(false,eval e X.env)::starEach es X.env:=by rfl) (Di:(backTo Cu (starEach es X.env)).any (·.1)=false:=by rfl):
  PE X (.Call (.Attribute o name apos) (e::es) [] Cu) (BJ X.K r to t):=by
 intro pr s σ H Q I h;refine wpAny_Call_method_late DW EN DX rfl (Cs (ho pr s σ H _ I h) fun v s1 Cz=>?_);obtain⟨x,H1,I1,r1,⟨p,ys,ex,sq⟩,q1⟩:=Cz;subst ex;cases r1;obtain⟨Cc,_,⟨ob,ho,hc,⟨n,hd⟩,hn⟩,_⟩:=I1.tupleN sq;refine⟨"tuple",id,PySem.F.plainAttrs_tuple,slot,Hn,⟨ob,ho,hc⟩,fun a e2=>?_,?_⟩
 ·cases e2;exact⟨ob,ho,hn⟩
 have hA:=ha Cu pr s1 σ H1 _ I1 q1;rw[hs]at hA ⊢;refine Calls.callWith_builtin (by show(false||(backTo Cu (starEach es X.env)).any (·.1))=false;rw[Di] <;> rfl) (Pm ?_);exact Cs hA fun us s2 ⟨vs,H2,I2,r2,q2⟩=>hm pr s2 σ H2 (.ref p) vs _ us Q I2 rfl r2 q2
end
end L2
namespace PV
open PySem PySem.Spec PyProof.Rows L2 NX
section
variable{X:Cx}
noncomputable def zl(g:List D->List D->Res R)(fa:FO)(fs:DB):FX:=fun env=>(fa env).bind fun p=>(DA p.2 p.1).bind fun a=>match a with
 | .tup _=>(fs p.2).bind fun q=>(DA q.2 p.1).bind fun a2=>match a2 with
  | .tup l=>(mE q.2 q.1).bind fun ds=>(g l ds).bind fun r=>.ok (r,q.2)
  |_=>.bad
 |_=>.bad
inductive rMtT(K:W.Frag)(g:List D->List D->Res R)(x:V)(xs:List V)(H:Hp)(Q:VK):Prop
 |mk:∀G fp es vs l ds r,Goes K H G fp es vs r Q->Vw K G H (.tup l) x->JP K G H ds xs->g l ds=.ok r->rMtT K g x xs H Q
theorem uw{g:List D->List D->Res R}{id:String}{name:Str}{o e:Expr}{es:List Expr}{fa:FO}{fs:DB}{apos Cu:Pos}(slot:Slot "tuple" name id)(Hn:typeOf (.builtin id)=pure (.type "method_descriptor"))(hm:JI X id (rMtT X.K g))(ho:QO X o fa)(ha:Gk X (e::es) fs)
  (DW:attributeBase o name X.env (eval o X.env)=eval o X.env:=by rfl)
  (EN:((backTo Cu (starEach (e::es) X.env)).all (fun x=>!x.1)&&(backToKw Cu (keywordEach [] X.env)).all (fun x=>x.1.isSome)&&decide ((e::es).length+([]:List Keyword).length+(if([]:List Keyword).isEmpty then 0 else 1)<30))=true:=by rfl)
  (DX:(apos.endLine==Cu.line)=true:=by rfl) (hs:starEach (e::es) X.env=(false,eval e X.env)::starEach es X.env:=by rfl) (Di:(backTo Cu (starEach es X.env)).any (·.1)=false:=by rfl):
  QE X (.Call (.Attribute o name apos) (e::es) [] Cu) (zl g fa fs):=by
 refine ba (yx slot Hn hm ho ha DW EN DX hs Di) fun σ H Q Cz=>?_
 obtain⟨G,env,fp,r,env',rel,e,k⟩:=Cz;obtain⟨⟨oa,B9⟩,e1,e⟩:=ag e;obtain⟨da,Hw,e⟩:=ag e;dsimp only at e;split at e
 ·obtain⟨⟨os,Cn⟩,e2,e⟩:=ag e;obtain⟨d2,hd2,e⟩:=ag e;dsimp only at e;split at e
  ·obtain⟨ds,e3,e⟩:=ag e;obtain⟨r',e4,e⟩:=ag e;cases e;refine⟨G,env,fp,oa,B9,rel,e1,fun v H1 G1 Cy Cr Cd DT=>?_⟩;obtain⟨p,xs,ev,sq,_⟩:=aQ (Vw.rep Cd.gh (Cd.vw DT Hw));exact⟨⟨p,xs,ev,sq⟩,G1,B9,Cy,os,_,Cd,e2,fun vs H2 G2 C0 Cj Ca FZ=>⟨G2,C0,_,σ,_,ds,r,⟨Ca,fun v H' G' Cg st CD=>k v H' G' Cg (Cr.trans (Cj.trans st)) CD⟩,Ca.vw (DT.mono Cj.gg) hd2,Ca.vws FZ e3,e4⟩⟩
  ·cases e
 ·cases e
def lV(l:List D):List D->Res R
 |[.str c]=>match dW l with
  |some bs=>if c∈bs then .ok (.f,.int (bs.idxOf c:Nat)) else .bad
  |none=>.bad
 |_=>.bad
theorem yy{a b:List Nat}(h:S a=S b):a=b:=by
 have:=NY (fun s:Str=>s.cps.toList) h;simpa only[cn] using this
theorem mU:∀(bs:List (List Nat)) (c:List Nat) (j:Nat),bs[j]?=some c->bs.idxOf c<=j
 |[],c,j,h=>by simp at h
 |b::bs,c,0,h=>by
  simp at h;subst h;simp[List.idxOf_cons]
 |b::bs,c,j+1,h=>by
  rw[List.getElem?_cons_succ]at h;have:=mU bs c j h;rw[List.idxOf_cons];cases b==c with
  |true=>exact NG _
  |false=>exact Nat.succ_le_succ this
theorem iH:JI X "tuple.index" (rMtT X.K lV):=by
 rintro pr s σ H x xs v us Q I rx rv ⟨G,fp,es,vs,l,ds,r,⟨rel,k⟩,vx,vd,e⟩;unfold lV at e;split at e
 ·rename_i c;split at e
  ·rename_i bs hb;split at e
   ·rename_i hc;cases e;obtain⟨p,ys,ev,sq,rs⟩:=aQ (Vw.rep rel.gh vx);obtain⟨hy,_⟩:=e7 hb rs;subst ev;cases rx;obtain⟨w',ew,vc⟩:=oh vd;obtain⟨ev,_⟩:=cU vc;subst ew;subst ev;obtain⟨u,rfl,t',rfl⟩:=gK rv;obtain⟨Cc,vl,⟨ob,h1,h2,⟨n,h3⟩,h4⟩,_⟩:=I.tupleN sq;subst hy;obtain⟨cls,dict,data,slots⟩:=ob;dsimp only at h2 h3 h4;subst h2 h3 h4;have Dz:=OT hc;refine PySem.call_meets O2 ⟨_,h1,rfl⟩ PySem.F.entry_tuple_index (PySem.F.args_tuple_index_2 _ _) (gR p Cc.toArray n _ _ (bs.map S) (S c) t' (by rw[Nv];exact vl) (bs.idxOf c) ?_ ?_) ⟨h1,⟨.int (bs.idxOf c:Nat),H,I.tok _,⟨_,rfl⟩,k _ H G fp .refl (rel.push (bL _))⟩⟩
    ·rw[List.getElem?_map,List.getElem?_eq_getElem Dz,List.getElem_idxOf Dz];rfl
    ·intro j hj he;rw[List.getElem?_map,List.getElem?_eq_getElem (by lia)]at he;have he:=yy (Nw he);have:=mU bs c j (by rw[List.getElem?_eq_getElem (by lia),he]);lia
   ·cases e
  ·cases e
 ·cases e
def fV(a b:D):Res R:=match a,b with
 | .tup [],.tup l=>.ok (.f,.tup l)
 |a,b=>addD a b
theorem bM:CM X (binaryOp .Add) (rG X.K fV):=by
 rintro pr s σ H x y v u Q I rx ry ⟨G,fp,es,vs,a,b,r,⟨rel,k⟩,va,vb,e⟩;unfold fV at e;split at e
 ·rename_i l;cases e;obtain⟨p,xs,e1,h1,r1⟩:=eS va;obtain⟨p2,JQ,e2,h2,r2⟩:=eS vb;subst e1;subst e2;cases rx;cases ry;have hx:xs=[]:=NR (by rw[r1.length];rfl);subst hx;obtain⟨Cc,v1,⟨⟨cls,dd,data,sl⟩,ho,hc,n,hd⟩,_⟩:=I.tuple (br rel.gh h1);obtain⟨Ft,v2,⟨⟨Hl,FR,data2,FU⟩,DJ,E9,n2,hd2⟩,_⟩:=I.tuple (br rel.gh h2);dsimp only at hc hd E9 hd2;subst hc hd E9 hd2;cases v1;exact Qs ⟨_,ho,rfl⟩ ⟨_,DJ,rfl⟩ Qe Q6 O8 O4 (O0 _ _) (tuple_addW0 p p2 _ _ n n2 dd FR sl FU rfl) ⟨ho,DJ,⟨.ref p2,H,I,rfl,k _ H G fp .refl (rel.push vb)⟩⟩
 ·exact yd pr s σ H _ _ v u Q I rx ry ⟨G,fp,es,vs,a,b,r,⟨rel,k⟩,va,vb,e⟩
def ow(fs:DB):FI:=EH (nY true true fs) (EH (nY true false fs) (EH (nY false true fs) (nY false false fs)))
theorem lW{F9:List Expr}{kt:Nat}{pt:Pos}{e1 e2:Expr}{fs:DB}{p pos:Pos}(hg:Gl X "zip")(hm:X.mg "zip" = none)(ha:Gk X [e1,e2] fs)(he:starEach [e1,e2] X.env=(false,eval e1 X.env)::starEach [e2] X.env:=by rfl)(C8:(backTo pos (starEach [e2] X.env)).any (·.1)=false:=by rfl):
  QI X (.Tuple F9 kt pt) (.Call (.Name "zip" p) [e1,e2] [] pos) (ow fs):=p6 (mJ true true hg hm ha he C8) (p6 (mJ true false hg hm ha he C8) (p6 (mJ false true hg hm ha he C8) (mJ false false hg hm ha he C8)))
end
end PV
namespace NX
open PySem PySem.Spec PyProof.Rows L2
section
open PySem.AutoSeq1 (wpAny_loadPart')
theorem k7(l:Addr)(items:Array Value)(n:Nat)(dd:Option Addr)(sl:Array (Option Value))(x:Int)(u:Tok)(h1:¬ (!Builtin.List.listFitsIndex x)=true)(h2:¬ items.size*x.toNat>(2 ^ 63-1) / 8)(h3:¬ Builtin.List.listTooLong (items.size*x.toNat)=true)(h4:(List.foldl (fun x1 x2=>x1++x2) #[] (List.replicate (if items.isEmpty=true then 0 else x.toNat) items)).size<=sizeLine):
  Meets (Builtin.«list.__mul__» ⟨[.ref l,.int x u],[]⟩)
   (fun _ R s=>s.heap.get? l=some {cls:=.type "list",dict:=dd,data:=.seq items n,slots:=sl}/\R (.ok (.ret (.ref s.heap.objs.size))) {s with heap:=s.heap.push {cls:=.type "list",data:=.seq (List.foldl (fun x1 x2=>x1++x2) #[] (List.replicate (if items.isEmpty=true then 0 else x.toNat) items))}}):=
 .of_wp fun prog w A R s h=>by
  obtain⟨hp,g,d,tk,os⟩:=s;obtain⟨hl,h⟩:=h
  wp_walk using wpAny_loadPart' hl
  rw[Ng (by lia)]
  wp_walk
  exact⟨_,rfl,h⟩
theorem k8(a:Int)(t:Tok)(l:Addr)(T:String)(items:Array Value)(n:Nat)(dd:Option Addr)(sl:Array (Option Value)):
  Meets (Builtin.«int.__rmul__» ⟨[.int a t,.ref l],[]⟩)
   (fun _ R s=>s.heap.get? l=some {cls:=.type "list",dict:=dd,data:=.seq items n,slots:=sl}/\R (.ok (.ret .notImplemented)) s):=
 .of_wp fun prog w A R s h=>by
  obtain⟨hp,g,d,tk,os⟩:=s;obtain⟨hl,h⟩:=h
  wp_walk using wpAny_loadPart' hl
  exact⟨_,rfl,h⟩
end
end NX
namespace PV
open PySem PySem.Spec PyProof.Rows L2 NX
section
variable{md:Mode}{X:Cx}
inductive rRepS(K:W.Frag)(x:V)(y:V)(H:Hp)(Q:VK):Prop
 |mk:∀l k xs,x=.ref l->y=.int k->SqL K H l xs->-(2 ^ 62)<=k->k<2 ^ 62->xs.length*k.toNat<=sizeLine->(∀p,H p=none->Q (.ref p) (upd H p (.lst (List.replicate k.toNat xs).flatten)))->rRepS K x y H Q
theorem vX:CM X (binaryOp .Mult) (rRepS X.K):=by
 intro pr s σ H x y v u Q I rx ry h;obtain⟨l,k,xs,rfl,rfl,hH,h1,h2,hz,q⟩:=h;cases rx;obtain⟨t,rfl⟩:=ry;obtain⟨Cc,r,p1,_⟩:=I.list hH;have hl:=r.length;obtain⟨⟨cls,dd,data,sl⟩,ho,hc,n,hd⟩:=id p1.isList;simp only at hc hd;subst hc hd;have hlen:Cc.toArray.size*k.toNat<=sizeLine:=by rw[M6,<-hl];exact hz
 have hcap:¬ Cc.toArray.size*k.toNat>(2 ^ 63-1) / 8:=by
  have:(sizeLine:Nat)<=(2 ^ 63-1) / 8:=by decide
  lia
 have Fz:¬ (!Builtin.List.listFitsIndex k)=true:=by
  rw[fitsIndex_both (by lia) (by lia)];exact Nb
 have Kz:¬ Builtin.List.listTooLong (Cc.toArray.size*k.toNat)=true:=by
  rw[rk hlen];exact Nb
 have KA:List.foldl (fun x1 x2=>x1++x2) #[] (List.replicate (if Cc.toArray.isEmpty=true then 0 else k.toNat) Cc.toArray)=(List.replicate k.toNat Cc).flatten.toArray:=by
  have f0:∀m:Nat,List.foldl (fun x1 x2=>x1++x2) #[] (List.replicate m Cc.toArray)=(List.replicate m Cc).flatten.toArray:=fun m=>by
   have:=kr Cc m [];rw[List.nil_append]at this;exact this
  rw[f0];cases Cc with
  |nil=>simp
  |cons a r'=>rw[Ng (by simp)]
 have hsz:(List.foldl (fun x1 x2=>x1++x2) #[] (List.replicate (if Cc.toArray.isEmpty=true then 0 else k.toNat) Cc.toArray)).size<=sizeLine:=by
  rw[KA,M6,jv,Rt];rw[M6]at hlen;exact hlen
 refine wpAny_binaryOp_repeat_ref (T:="list") (U:="int") (by decide) ⟨_,ho,rfl⟩ (fun s'=>QF s' k t) noFill_list_mul F.fills_int_mul F.slot_int_rmul repeat_list F.slot_int_index.lookup
  (call_meets F.slot_int_rmul (QF s k t) F.entry_int_rmul (F.args_int_rmul_2 _ _) (k8 k t l "" Cc.toArray n dd sl)
   ⟨ho,rfl,⟨_,ho,rfl⟩,call_meets F.slot_list_mul ⟨_,ho,rfl⟩ F.entry_list_mul (F.args_list_mul_2 _ _) (k7 l Cc.toArray n dd sl k t Fz hcap Kz hsz) ⟨ho,?_⟩⟩)
 rw[KA];exact⟨.ref _,_,I.lnew (t':=s.toks) (r.rep k.toNat) (by rw[jv,Rt];exact hz),rfl,q _ I.fresh⟩
theorem mV{K:W.Frag}{G:Hp}{ds:List D}{xs:List V}(r:Reps K G ds xs):∀n:Nat,Reps K G (List.replicate n ds).flatten (List.replicate n xs).flatten
 | 0=>.nil
 |n+1=>by
  rw[N9,N9,Og,Og];exact r.app (mV r n)
def oG(a b:D):Res R:=match a,b with
 | .lst ds,.int k=>if 0<=k/\k<1000000/\ds.length*k.toNat<=sizeLine then .ok (.l .f,.lst (List.replicate k.toNat ds).flatten) else .bad
 |a,b=>wQ a b
theorem dY:CM X (binaryOp .Mult) (rG X.K oG):=by
 rintro pr s σ H x y v u Q I rx ry ⟨G,fp,es,vs,a,b,r,⟨rel,k⟩,va,vb,e⟩;unfold oG at e;split at e
 ·rename_i ds j;split at e
  ·rename_i hj;cases e;obtain⟨p,xs,e1,h1,r1⟩:=va;subst e1;cases bq vb;refine vX pr s σ H _ _ v u Q I rx ry ⟨p,j,xs,rfl,rfl,h1,by lia,by lia,by rw[r1.length];exact hj.2.2,fun q hq=>?_⟩;obtain⟨Ca,Cj⟩:=rel.newL hq (mV r1 j.toNat);exact k _ _ G _ Cj Ca
  ·cases e
 ·exact vV pr s σ H _ _ v u Q I rx ry ⟨G,fp,es,vs,a,b,r,⟨rel,k⟩,va,vb,e⟩
def Ar(td ty tv:TE):TS:=fun Dd σ H=>tv σ H fun v H1=>td σ H1 fun x H2=>ty σ H2 fun y H3=>xD x y v H3 fun H4=>Dd.nx σ H4
theorem vY{o i value:Expr}{td ty tv:TE}{pos pos':Pos}(ho:PE X o td)(hi:PE X i ty)(hv:PE X value tv)(hs:swapsWith value (some (.Subscript o i pos')) pos.line X.env=pure false):
  PS X (.Assign [.Subscript o i pos'] value pos) (Ar td ty tv):=by
 intro pr s σ H Dd I h;refine wpAny_Assign_Subscript (Cs (hv pr s σ H _ I h) fun r s1 ⟨v,H1,I1,rv,q1⟩=>Cs (ho pr s1 σ H1 _ I1 q1) fun u s2 ⟨x,H2,I2,rx,q2⟩=>Cs (hi pr s2 σ H2 _ I2 q2) fun iv s3 ⟨y,H3,I3,ry,q3⟩=>?_) hs;exact Cs (rh pr s3 σ H3 x y v u iv r _ I3 rx ry rv q3) fun _ s4 ⟨H4,I4,q4⟩=>⟨σ,H4,I4,q4⟩
noncomputable def su(i:Nat)(fk fv:FX):FS:=fun env=>(fv env).bind fun p=>(fk p.2).bind fun q=>match p.2[i]?,q.2[i]? with
 |some (some _),some (some (.l .f,.lst ds))=>(match q.1.2 with
  | .int k=>(match ixN ds.length k with
   |some j=>.ok (.nx (q.2.set i (some (.l .f,.lst (ds.set j p.1.2)))))
   |none=>.bad)
  |_=>.bad)
 |_,_=>.bad
theorem vZ{i:Nat}{o ix value:Expr}{fk fv:FX}{pos pos':Pos}(ho:PE X o (nH i))(hi:QE X ix fk)(hv:QE X value fv)(hs:swapsWith value (some (.Subscript o ix pos')) pos.line X.env=pure false:=by rfl):
  QS (md:=md) X (.Assign [.Subscript o ix pos'] value pos) (su i fk fv):=dQ (vY ho hi hv hs) fun Dd σ H Cm=>by
 obtain⟨G,env,fp,rel,k⟩:=Cm;unfold su at k;match q1:fv env,k with
 | .ok (r1,B9),k=>
  have k:OutOk X.K G H fp Dd ((fk B9).bind fun q=>match B9[i]?,q.2[i]? with
   |some (some _),some (some (.l .f,.lst ds))=>(match q.1.2 with
    | .int k=>(match ixN ds.length k with
     |some j=>.ok (.nx (q.2.set i (some (.l .f,.lst (ds.set j r1.2)))))
     |none=>.bad)
    |_=>.bad)
   |_,_=>.bad):=k
  match q2:fk B9,k with
  | .ok (r2,Cn),k=>
   have k:OutOk X.K G H fp Dd (match B9[i]?,Cn[i]? with
    |some (some _),some (some (.l .f,.lst ds))=>(match r2.2 with
     | .int k=>(match ixN ds.length k with
      |some j=>.ok (.nx (Cn.set i (some (.l .f,.lst (ds.set j r1.2)))))
      |none=>.bad)
     |_=>.bad)
    |_,_=>.bad):=k
   split at k
   ·rename_i rr ds h1 h2;split at k
    ·rename_i kk Fw;split at k
     ·rename_i j hj;refine⟨G,env,fp,r1,B9,rel,q1,fun y H1 G1 Cy Cr Cd=>?_⟩;obtain⟨G2,b,ry,Ca,Cj⟩:=Cd.freeze;obtain⟨v0,Kt,_⟩:=Ca.view h1;refine⟨v0,Kt,G2,B9,b,r2,Cn,Ca,q2,fun z H3 G3 EO CV CI=>?_⟩;obtain⟨G4,b4,rz,Dq,D6⟩:=CI.freeze;have Lg:Rep X.K G4 r1.2 y:=Rep.mono (CV.gg.trans D6.gg) ry;obtain⟨p,xs,ep,hp,rs,cg⟩:=Dq.chg (ds':=ds.set j r1.2) h2;rw[Kt]at ep;cases ep;rw[Fw]at rz;have hz:=bj rz;obtain⟨fq,DL,En⟩:=cg _ (rs.set j Lg);exact⟨p,xs,kk,j,rfl,hz,hp,by rw[rs.length];exact hj,k _ _ G4 fq (Cr.trans (Cj.trans (CV.trans (D6.trans En)))) DL⟩
     ·exact k.elim
    ·exact k.elim
   ·exact k.elim
end
section
variable{X:Cx}
theorem Rel.own{K:W.Frag}{G H:Hp}{es:PV.Env}{vs:L2.St}{fp:List Addr}{p:Addr}{u:HO}{tk:Bool}{ks ws:List D}{xs:List V}(q:Rel K G H es vs fp)(np:p∉fp)(gp:G p=none)(h:DictO u tk ks xs)(rs:Reps K G ws xs):
  Rel K G (upd H p u) (some (.d,.dct tk ks ws)::es) (some (.ref p)::vs) (p::fp):=by
 refine⟨⟨some (.ref p),vs,rfl,.ref p,[p],fp,rfl,rfl,?_,q.rep.step (.refl _) fun z hz=>aA fun e=>np (e▸hz)⟩,Oh.mpr ⟨np,q.nd⟩,fun z hz=>?_,fun b o e=>?_⟩
 ·rw[RepO];exact⟨p,xs,u,rfl,bg,h,rfl,rs⟩
 ·rcases Ni.mp hz with rfl|hz
  ·exact gp
  ·exact q.gn z hz
 ·rw[aA fun z=>by subst z;rw[gp]at e;cases e];exact q.gh b o e
theorem Rel.aside{K:W.Frag}{G H:Hp}{es:PV.Env}{vs:L2.St}{fp:List Addr}{p:Addr}{u:HO}(q:Rel K G H es vs fp)(hp:H p=none):Rel K G (upd H p u) es vs fp:=by
 have np:p∉fp:=fun z=>by
  obtain⟨u,e⟩:=q.rep.live p z;rw[hp]at e;cases e
 exact⟨q.rep.step (.refl _) fun z hz=>aA fun e=>np (e▸hz),q.nd,q.gn,fun b o e=>by rw[aA (aI (q.gh b o e) hp)];exact q.gh b o e⟩
theorem Step.aside{K:W.Frag}{G H G2 H2:Hp}{es:PV.Env}{vs:L2.St}{fp C0:List Addr}{p:Addr}{u u2:HO}(q:Rel K G H es vs fp)(hp:H p=none)(hu:isT u=false)(st:Step G (upd H p u) fp G2 H2 C0):
  Step G H fp G2 (upd H2 p u2) (p::C0)/\p∉C0/\G2 p=none/\H2 p=some u:=by
 have np:p∉fp:=fun z=>by
  obtain⟨u,e⟩:=q.rep.live p z;rw[hp]at e;cases e
 have ne:∀{b o},H b=some o->b≠p:=fun e=>aI e hp
 refine⟨⟨st.gg,fun b o e nb=>?_,fun b hb=>?_,fun b o e=>?_,fun b o e=>?_⟩,fun z=>?_,?_,st.keep p u bg np⟩
 ·rw[aA (ne e)];exact st.keep b o (by rw[aA (ne e)];exact e) nb
 ·rcases Ni.mp hb with rfl|hb
  ·exact .inr hp
  ·rcases st.fpn b hb with h|h
   ·exact .inl h
   ·by_cases e:b=p
    ·subst e;exact .inr hp
    ·rw[aA e]at h;exact .inr h
 ·rcases st.gnew b o e with h|h|h|⟨h1,h2⟩
  ·exact .inl h
  ·exact .inr (.inl h)
  ·by_cases e:b=p
   ·subst e;exact .inr (.inr (.inl hp))
   ·rw[aA e]at h;exact .inr (.inr (.inl h))
  ·by_cases e:b=p
   ·subst e;exact .inr (.inr (.inl hp))
   ·rw[aA e]at h2;exact .inr (.inr (.inr ⟨h1,h2⟩))
 ·obtain⟨o',h⟩:=st.there b o (by rw[aA (ne e)];exact e);exact⟨o',by rw[aA (ne e)];exact h⟩
 ·rcases st.fpn p z with h|h
  ·exact np h
  ·rw[bg]at h;cases h
 ·cases e:G2 p with
  |none=>rfl
  |some o=>
   rcases st.gnew p o e with h|h|h|⟨h1,h2⟩
   ·have:=q.gh p o h;rw[hp]at this;cases this
   ·exact absurd h np
   ·rw[bg]at h;cases h
   ·rw[bg]at h2;cases h2;rw[hu]at h1;cases h1
def AZ(fk fv:FX):FX:=fun env=>(fk env).bind fun p=>(fv p.2).bind fun q=>if dv false p.1.2 then .ok ((.d,.dct false [p.1.2] [q.1.2]),q.2) else .bad
def getD(ks vs:List D)(k:D):Option D:=((ks.zip vs).find? fun p=>Ci k p.1).map (·.2)
theorem iI{κ:Type}[DecidableEq κ]{K:W.Frag}{G:Hp}(f:κ->D)(hf:∀a b,Ci (f a) (f b)=decide (a=b)){k:κ}:∀{kvs:List (κ×V)}{vs:List D},Reps K G vs (kvs.map (·.2))->((getD (kvs.map fun kv=>f kv.1) vs (f k)).isSome=(kF kvs k).isSome)/\∀d,getD (kvs.map fun kv=>f kv.1) vs (f k)=some d->∃v,kF kvs k=some v/\Rep K G d v
 |[],vs,r=>⟨rfl,fun d h=>nomatch h⟩
 |kv::kvs,vs,r=>by
  cases vs with
  |nil=>have:=r.length;simp at this
  |cons d0 vs=>
   rw[Nk,Reps.cons_iff]at r;obtain⟨h1,h2⟩:=iI f hf (k:=k) r.2;unfold getD kF at h1 h2 ⊢;rw[Nk,N1];have e:Ci (f k) (f kv.1)=decide (kv.1=k):=by
    rw[hf,Nx,Nn,Nn];exact⟨fun z=>z.symm,fun z=>z.symm⟩
   by_cases hk:kv.1=k
   ·rw[List.find?_cons_of_pos (by show Ci (f k) (f kv.1)=true;rw[e];exact Nm hk),List.find?_cons_of_pos (by exact Nm hk)];refine⟨rfl,fun d h=>?_⟩;cases h;exact⟨_,rfl,r.1⟩
   ·rw[List.find?_cons_of_neg (by show ¬ Ci (f k) (f kv.1)=true;rw[e];simpa using hk),List.find?_cons_of_neg (by simpa using hk)];exact⟨h1,h2⟩
theorem lX{K:W.Frag}{G H:Hp}(gh:Same G H){tk:Bool}{ks vs:List D}{xs:List V}{o:HO}{p:Addr}{b:D}{y:V}(rd:Rd H p o)(dd:DictO o tk ks xs)(rs:Reps K G vs xs)(hk:dv tk b=true)(ry:Rep K G b y):
  ∃ov,DGet H p y ov/\(getD ks vs b).isSome=ov.isSome/\∀d,getD ks vs b=some d->∃v,ov=some v/\Rep K G d v:=by
 unfold dv at hk;cases tk with
 |true=>
  rw[Nc rfl,NW]at hk;obtain⟨kk,hk⟩:=hk;obtain⟨pz,ez,gz,dz⟩:=bJ hk ry;obtain⟨kvs,eo,ek,ex,_⟩:=dd;subst eo ex ez dz;have ek:ks=kvs.map fun kv=>kT kv.1:=ek
  obtain⟨h1,h2⟩:=iI (K:=K) (G:=G) kT uq (k:=kk) rs;rw[<-ek]at h1 h2;exact⟨kF kvs kk,.inr ⟨kvs,kk,pz,rd,rfl,gh _ _ gz,rfl⟩,h1,h2⟩
 |false=>
  rw[Ng Nb,NW]at hk;obtain⟨kk,hk⟩:=hk;obtain⟨ez,dz⟩:=gj hk ry;obtain⟨kvs,eo,ek,ex,_⟩:=dd;subst eo ex ez dz;obtain⟨h1,h2⟩:=iI (K:=K) (G:=G) kD qa (k:=kk) rs;rw[<-ek]at h1 h2;exact⟨kF kvs kk,.inl ⟨kvs,kk,rd,rfl,rfl⟩,h1,h2⟩
def Jf(a b:D):Res R:=match a with
 | .dct tk ks vs=>if dv tk b then(match getD ks vs b with
  |some d=>.ok (.f,d)
  |none=>.bad) else .bad
 |_=>.bad
theorem As{a b:Expr}{fa fb:FO}{pos:Pos}(hu:X.A.units+1<cLine)(ha:QO X a fa)(hb:QO X b fb)(hs:NoSl b:=by exact fun _ _=>rfl):QE X (.Subscript a b pos) (aE Jf fa fb):=
 ba (vA hu ha hb hs) fun σ H Q h=>by
  obtain⟨G,env,fp,r,env',rel,e,k⟩:=h;obtain⟨⟨oa,e1⟩,ha,e⟩:=ag e;obtain⟨⟨ob,e2⟩,hb,e⟩:=ag e;obtain⟨da,Hw,e⟩:=ag e;obtain⟨db,C9,e⟩:=ag e;obtain⟨r',hr,e⟩:=ag e;cases e;refine⟨G,env,fp,oa,e1,rel,ha,fun x H1 G1 Cy Cr Cd DT=>⟨G1,e1,Cy,ob,e2,Cd,hb,fun y H2 G2 C0 Cj Ca FZ=>?_⟩⟩;have va:=Ca.vw (DT.mono Cj.gg) Hw;have vb:=Ca.vw FZ C9;unfold Jf at hr;split at hr
  ·rename_i tk ks vs;split at hr
   ·rename_i Ea;split at hr
    ·rename_i d hd;cases hr;obtain⟨p,xs,o,ev,rd,dd,rs⟩:=va;subst ev;have vb':Rep X.K G2 db y:=by
      cases db with
      |lst l=>cases tk <;> simp[dv,dH,iy]at Ea
      |dct _ _ _=>cases tk <;> simp[dv,dH,iy]at Ea
      |_=>exact vb
     obtain⟨ov,g,_,h2⟩:=lX Ca.gh rd dd rs Ea vb';obtain⟨v,ho,rv⟩:=h2 d hd;subst ho;exact⟨p,v,rfl,g,k _ H2 G2 C0 (Cr.trans Cj) (Ca.push rv)⟩
    ·cases hr
   ·cases hr
  ·cases hr
def Lh(a b:D):Res R:=match b with
 | .dct tk ks vs=>if dv tk a then .ok (.f,.bl (getD ks vs a).isSome) else .bad
 |_=>Hi a b
def v3(a b:D):Res R:=match b with
 | .dct tk ks vs=>if dv tk a then .ok (.f,.bl (!(getD ks vs a).isSome)) else .bad
 |_=>Ak a b
theorem yz(hu:X.A.units+65<cLine):CM X (compareOp .In) (rGA X.K Lh):=by
 rintro pr s σ H x y v u Q I rx ry ⟨G,fp,es,vs,a,b,r,⟨rel,k⟩,va,vb,e⟩;unfold Lh at e;split at e
 ·rename_i tk ks ws;split at e
  ·rename_i Ea;cases e;obtain⟨p,xs,o,ev,rd,dd,rs⟩:=vb;subst ev;cases ry;obtain⟨ov,g,h1,_⟩:=lX (K:=X.K) (G:=H) (fun _ _ z=>z) rd dd rs Ea va;exact BF (by lia) I g rx fun s' I'=>⟨.bl ov.isSome,H,I',rfl,by rw[<-h1];exact k _ H G fp .refl (rel.push (bw _))⟩
  ·cases e
 ·exact Al hu pr s σ H x y v u Q I rx ry ⟨G,fp,es,vs,a,b,r,⟨rel,k⟩,va,vb,e⟩
theorem v5(hu:X.A.units+65<cLine):CM X (compareOp .NotIn) (rGA X.K v3):=by
 rintro pr s σ H x y v u Q I rx ry ⟨G,fp,es,vs,a,b,r,⟨rel,k⟩,va,vb,e⟩;unfold v3 at e;split at e
 ·rename_i tk ks ws;split at e
  ·rename_i Ea;cases e;obtain⟨p,xs,o,ev,rd,dd,rs⟩:=vb;subst ev;cases ry;obtain⟨ov,g,h1,_⟩:=lX (K:=X.K) (G:=H) (fun _ _ z=>z) rd dd rs Ea va;exact vy (by lia) I g rx fun s' I'=>⟨.bl (!ov.isSome),H,I',rfl,by rw[<-h1];exact k _ H G fp .refl (rel.push (bw _))⟩
  ·cases e
 ·exact ym hu pr s σ H x y v u Q I rx ry ⟨G,fp,es,vs,a,b,r,⟨rel,k⟩,va,vb,e⟩
end
section
variable{K:W.Frag}{G G' H H':Hp}{es:PV.Env}{vs:L2.St}{fp:List Addr}
end
section
variable{X:Cx}
end
section
variable{X:Cx}{x:Str}{p pos:Pos}{e:Expr}{es:List Expr}{fs:DB}
end
section
variable{K:W.Frag}{G G' H H':Hp}
end
section
variable{X:Cx}{md:Mode}
end
end PV
namespace NX
open PySem PySem.Spec PyProof.Rows L2
end NX
namespace PV
open PySem PySem.Spec PyProof.Rows L2 NX
section
variable{X:Cx}
end
end PV
namespace NX
open PySem PySem.Spec PyProof.Rows L2
section
variable{prog:Program}{w:World}{A:Around}{E:Value->Shared->Prop}{s:Shared}
end
section
variable{prog:Program}{w:World}{A:Around}{E:Value->Shared->Prop}{s:Shared}
end
section
variable{X:Cx}{e:Expr}{ta:TA}{p p2 pos pos2:Pos}
end
end NX
namespace PV
open PySem PySem.Spec PyProof.Rows L2 NX
section
variable{X:Cx}{e:Expr}{fs:DB}{p p2 pos pos2:Pos}
end
end PV
namespace NX
open PySem PySem.Spec PyProof.Rows L2
section
open PySem.AutoSeq1 (wpAny_loadPart')
end
end NX
namespace PV
open PySem PySem.Spec PyProof.Rows L2 NX
section
variable{X:Cx}
end
section
variable{md:Mode}{X:Cx}{scope:Scope}{N:List Str}{tg iter elt:Expr}{ifs:List Expr}{pos:Pos}{fi:FI}{a:FG}{c:FT}{f:FX}{j k0:Nat}
end
section
variable{X:Cx}{x:Str}{p pos:Pos}{e:Expr}{es:List Expr}{f0:FX}{fs:DB}
end
def joinL(sep:List Nat):List (List Nat)->List Nat
 |[]=>[]
 |[x]=>x
 |x::y::r=>x++sep++joinL sep (y::r)
def qi(sep:List Nat):List D->Res R
 |[.lst ds]=>match dW ds with
  |some ys=>if(ys.map List.length).sum+ys.length*sep.length<=16777216 then .ok (.f,.str (joinL sep ys)) else .bad
  |none=>.bad
 |_=>.bad
theorem qj(sep:List Nat):∀ys:List (List Nat),Str.join (S sep) (ys.map S)=S (joinL sep ys)
 |[]=>rfl
 |[x]=>rfl
 |x::y::r=>by
  have ih:=qj sep (y::r);show S x++S sep++Str.join (S sep) ((y::r).map S)=S (x++sep++joinL sep (y::r));rw[ih];apply Str.ext';simp[Str.cps_append]
theorem yA(sep:List Nat):∀ys:List (List Nat),Txt.join (S sep) (ys.map S)=S (joinL sep ys)
 |ys=>by
  show Builtin.Str.glued (S sep) (ys.map S)=_;rw[StrLaws.glued_eq_join];exact qj sep ys
theorem k9(sep:List Nat):∀ys:List (List Nat),(joinL sep ys).length<=(ys.map List.length).sum+ys.length*sep.length
 |[]=>NG _
 |[x]=>by
  show x.length<=_;rw[Nk,Rg];lia
 |x::y::r=>by
  have ih:=k9 sep (y::r);show(x++sep++joinL sep (y::r)).length<=_;rw[NC,NC,Nk,Rg,Nq,Nat.add_mul];lia
theorem lb{K:W.Frag}{G:Hp}:∀{ds:List D}{ys:List (List Nat)}{xs:List V}{us:List Value},dW ds=some ys->Reps K G ds xs->Vals xs us->StrsAre us (ys.map S)
 |[],ys,xs,us,e,r,v=>by
  cases e;rw[Reps]at r;subst r;cases v;exact .nil
 | .str b::ds,ys,xs,us,e,r,v=>by
  rw[Reps]at r;obtain⟨y,zs,ex,r1,r2⟩:=r;subst ex;cases v with
  |cons h t=>
   rw[dW,Nr]at e;obtain⟨ws,hw,rfl⟩:=e;rw[Rep]at r1;obtain⟨r1,_⟩:=r1;subst r1;obtain⟨tk,rfl⟩:=h;exact .cons _ tk (lb hw r2 t)
 | .non::_,_,_,_,e,_,_ | .bl _::_,_,_,_,e,_,_ | .int _::_,_,_,_,e,_,_ | .tup _::_,_,_,_,e,_,_ | .lst _::_,_,_,_,e,_,_ | .dct _ _ _::_,_,_,_,e,_,_=>by cases e
section
variable{X:Cx}
theorem v7:JI X "str.join" (rMtS X.K qi):=by
 rintro pr s σ H x xs v us Q I rx rv ⟨G,fp,es,vs,l,ds,r,⟨rel,k⟩,ex,hz,vd,e⟩;unfold qi at e;split at e
 ·rename_i ds;split at e
  ·rename_i ys LI;split at e
   ·rename_i hb;cases e;subst ex;obtain⟨w',ew,p,zs,ep,sq,rs⟩:=oh vd;subst ew ep;obtain⟨t,rfl⟩:=rx;obtain⟨u,rfl,ru⟩:=gK rv;cases ru;obtain⟨Cc,r',pl,HB⟩:=I.list sq;refine join_list pl.isList (ys:=ys.map S) (lb LI rs r') ?_ fun t' kk=>?_
    ·rw[Nv,M5];have e1:((fun x:Str=>x.length)∘S)=List.length:=by funext z;exact i6 z
     rw[e1,i6];exact hb
    ·rw[yA];refine⟨.str (S (joinL l ys)),H,I.tok _,⟨_,rfl⟩,k _ H G fp .refl (rel.push ?_)⟩;rw[Rep];have:=k9 l ys;exact⟨rfl,by rw[line_eq];lia⟩
   ·cases e
  ·cases e
 ·cases e
end
end PV
namespace NX
open PySem PySem.Spec PyProof.Rows L2
section
variable{prog:Program}{w:World}{A:Around}{R:Result->Shared->Prop}{it:Addr}{fp wr:List Addr}{n:Nat}{Pv:Nat->Value->Prop}{Sx:Nat->Heap->Prop}{kw:List (Str×Value)}
end
section
variable{X:Cx}{e k:Expr}{te tk:TE}{p pos J6:Pos}
end
end NX
namespace PV
open PySem PySem.Spec PyProof.Rows L2 NX
section
variable{X:Cx}
end
section
variable{X:Cx}
end
section
variable{K:W.Frag}{G G' H H':Hp}{es:PV.Env}{vs:L2.St}{fp:List Addr}
end
section
variable{X:Cx}{x:Str}{p pos:Pos}{e:Expr}{es:List Expr}{f0:FX}{fs:DB}
end
theorem vals_pick{xs:List V}{us:List Value}(r:Vals xs us):∀ix:List Nat,Vals (ix.filterMap fun i=>xs[i]?) (ix.filterMap fun i=>us[i]?)
 |[]=>.nil
 |i::ix=>by
  have ih:=vals_pick r ix;cases e:xs[i]? with
  |none=>
   rw[P7 e,P7 (r.none_of e)];exact ih
  |some d=>
   obtain⟨v,e2,rv⟩:=r.get e;rw[P8 e,P8 e2];exact .cons rv ih
section
variable{X:Cx}{pos:Pos}{fa:FO}
end
section
variable{X:Cx}
end
section
variable{X:Cx}{scope:Scope}{N:List Str}{tg iter elt:Expr}{ifs:List Expr}{pos:Pos}{fi:FI}{a:FG}{c:FT}{f:FX}
end
end PV
namespace L2
open PySem PySem.Spec PyProof.Rows NX
section
variable{X:Cx}{tg:Expr}
end
end L2
namespace PV
open PySem PySem.Spec PyProof.Rows L2 NX
section
variable{X:Cx}{tg:Expr}
def qk(fk fv:FX):FX:=fun env=>(fk env).bind fun p=>(fv p.2).bind fun q=>if dv true p.1.2 then .ok ((.d,.dct true [p.1.2] [q.1.2]),q.2) else .bad
theorem sv{k v:Expr}{fk fv:FX}{pos:Pos}(hu:X.A.units+1<cLine)(hk:QE X k fk)(hv:QE X v fv):QE X (.Dict [some k] [v] pos) (qk fk fv):=
 ba (pF hu hk hv) fun σ H Q hq p hp=>by
  obtain⟨G,env,fp,r,env',rel,e,kk⟩:=hq;obtain⟨⟨r1,B9⟩,e1,e⟩:=ag e;obtain⟨⟨r2,Cn⟩,e2,e⟩:=ag e;dsimp only at e;split at e
  ·rename_i Ea;cases e;refine⟨G,env,fp,r1,B9,rel.aside hp,e1,fun x H1 G1 Cy Cr Cd=>?_⟩;obtain⟨G2,b,rx,Ca,Cj⟩:=Cd.freeze;refine⟨G2,B9,b,r2,_,Ca,e2,fun y H3 G3 EO CV CI=>?_⟩;obtain⟨G4,b4,ry,Dq,D6⟩:=CI.freeze;have Md:Rep X.K G4 r1.2 x:=Rep.mono (CV.gg.trans D6.gg) rx;unfold dv at Ea;rw[Nc rfl,NW]at Ea;obtain⟨kd,IL⟩:=Ea;obtain⟨b',ex,gb,dx⟩:=bJ IL Md;have fk:∀k∈kd,rW k:=by
    generalize r1.2=d at IL Md;cases d with
    |tup ds=>
     obtain⟨_,xs,_,_,rs⟩:=aQ Md;exact lU IL rs
    |_=>cases IL
   obtain⟨st,np,gp,LU⟩:=Step.aside (u2:=.dT [(kd,y)]) rel hp rfl (Cr.trans (Cj.trans (CV.trans D6)));exact⟨LU,kd,b',ex,Dq.gh _ _ gb,kk _ _ G4 _ st (Dq.own np gp ⟨[(kd,y)],rfl,by rw[dx];rfl,rfl,fun kv Fb=>by rw[N0.mp Fb];exact fk⟩ (.one ry))⟩
  ·cases e
end
abbrev FB:=PV.Env->Bool
def wR(g:FS)(x:FB):FB:=fun env=>match g env with
 | .ok (.nx e)=>x e
 |_=>false
def Li(c:FT)(x:FB):FB:=fun env=>match c env with
 | .ok (true,e)=>x e
 |_=>false
def ql(fs:DB):FB:=fun env=>match fs env with
 | .ok (os,_)=>decide (os.length<=3)
 |_=>false
inductive tX(K:W.Frag)(x:FB)(Ww:Hp->Prop)(σ:L2.St)(H:Hp):Prop
 |mk:∀G env fp,Rel K G H env σ fp->x env=true->(∀H' G' Cg,Step G H fp G' H' Cg->Rel K G' H' [] [] []->Ww H')->tX K x Ww σ H
def QX(X:Cx)(st:List Stmt)(x:FB)(Ww:Hp->Prop):Prop:=PX X st (tX X.K x Ww)
section
variable{X:Cx}{st:Stmt}{Hh:List Stmt}{g:FS}{x:FB}{Ww:Hp->Prop}{c:FT}{pos np Cu:Pos}{e:Expr}{es:List Expr}{fs:DB}{C:Addr}{y:Str}
theorem qm(a:QS (md:=.plain) X.nox st g)(b:QX X Hh x Ww):QX X (st::Hh) (wR g x) Ww:=pG (vH (x4 a) b) fun σ H Cm=>by
 obtain⟨G,env,fp,rel,e,k⟩:=Cm;unfold wR at e;match q:g env,e with
 | .ok (.nx B9),e=>
  refine⟨G,env,fp,rel,?_⟩;rw[q];exact fun σ1 H1 G1 Cy Cr Cd=>⟨G1,B9,Cy,Cd,e,fun H' G' Cg st r=>k H' G' Cg (Cr.trans st) r⟩
theorem Au{a b:List Stmt}{ct:Expr}(hc:QT X.nox ct c)(ha:QX X a x Ww):QX X (.If ct a b pos::Hh) (Li c x) Ww:=pG (Ac (PT.nox hc) ha) fun σ H Cm=>by
 obtain⟨G,env,fp,rel,e,k⟩:=Cm;unfold Li at e;match q:c env,e with
 | .ok (true,B9),e=>exact⟨G,env,fp,true,B9,rel,q,fun H1 G1 Cy Cr Cd=>⟨rfl,G1,B9,Cy,Cd,e,fun H' G' Cg st r=>k H' G' Cg (Cr.trans st) r⟩⟩
theorem mW{K:W.Frag}{G:Hp}{σ:L2.St}:∀{os:List Opd}{vs:List V},kI K G σ os vs->vs.length=os.length
 |[],_,r=>by have r:_=[]:=r;rw[r];rfl
 |_::_,_,⟨y,ys,e,_,q⟩=>by rw[e,Nq,Nq,mW q]
theorem sx(O:IX X.mg X.base y C)(acc:Acc X C Ww)(hc:X.calm=true)(hg:Gl X y)(ha:Gk X.nox (e::es) fs)(C9:(y==("__debug__" : Str))=false:=by decide)
  (he:starEach (e::es) X.env=(false,eval e X.env)::starEach es X.env:=by rfl) (C8:(backTo Cu (starEach es X.env)).any (·.1)=false:=by rfl):
  QX X (.Raise (some (.Call (.Name y np) (e::es) [] Cu)) none pos::Hh) (ql fs) Ww:=pG (rO O acc hc hg (x5 ha) C9 he C8) fun σ H Cm=>by
 obtain⟨G,env,fp,rel,e,k⟩:=Cm;unfold ql at e;match q:fs env,e with
 | .ok (os,B9),e=>
  refine⟨G,env,fp,os,B9,rel,q,fun vs H1 G1 Cy Cr Cd DT=>⟨?_,k H1 G1 Cy Cr Cd.nilF⟩⟩;rw[mW DT];have e:decide (os.length<=3)=true:=e;have:=OE e;rw[line_eq];lia
end
inductive spX(K:W.Frag)(C:Addr)(F:List D->Bool)(vs:List V)(H:Hp)(Q:VK)(E:XK):Prop
 |mk:∀G ds,Same G H->Reps K G ds vs->F ds=true->(∀H' G' Cg,Step G H [] G' H' Cg->Rel K G' H' [] [] []->E (.ref C) none H')->spX K C F vs H Q E
def qo(np nn:Nat)(x:FB):List D->Bool:=fun ds=>decide (ds.length=np)&&x (ds.map (fun d=>some (O.f,d))++List.replicate nn none)
theorem yB{P:Program}{w:World}{K:W.Frag}{mg:Str->Option Value}{base:Heap}{x:Str}{st:Stmt}{N ps:List Str}{k:Nat}{gx:FB}{C:Addr}(Df:Def K mg x st)(sc:FnScope N ps (defScope st))
  (hb:∀(kV doc pm:Value) (an:Option Addr) (CB ct:Value) (us:List Value),us.length=ps.length->bindArgs (PySem.W.fnOf x x (dE st) (bY st) (defScope st) .none kV doc pm an CB ct) ⟨us,[]⟩=pure (ps.zip us))
  (body:∀(f:Addr) (CB:Value) (A:Around) (outer:List PySem.Env) (s:Shared) (H:Hp) (E:XK),Room k (A.deeper (envOfC x (defScope st) s.heap.objs.size f CB))->QX (oY (JN P w base C) P w K mg base N x (defScope st) f CB A outer s H E) (bY st) gx (fun H'=>E (.ref C) none H')):
  CtX P w K mg base x (k+1) C (spX K C (qo ps.length (N.length-ps.length) gx)):=by
 obtain⟨f,fd,F,m⟩:=Df;refine⟨f,fd,ps,vI F sc (fun vs H Q E h=>?_) (fun CB A outer s H vs Q E hr h=>?_),m,F.kp,F.binds hb⟩
 ·obtain⟨G,ds,_,rs,e,_⟩:=h;unfold qo at e;have:=OE ((Nf _ _).mp e).1;rw[rs.length,this]
 ·obtain⟨G,ds,gh,rs,e,q⟩:=h;unfold qo at e;have hl:=OE ((Nf _ _).mp e).1;have e:=((Nf _ _).mp e).2;refine⟨_,body f CB A outer s H E hr,G,ds.map (fun d=>some (O.f,d))++List.replicate (N.length-ps.length) none,[],⟨?_,OW,(fun _ h=>nomatch h),gh⟩,e,q⟩;have:=fD (K:=K) (G:=G) (H:=H) (N.length-ps.length) rs;unfold L2.gL;rw[rs.length,hl];exact this
abbrev Jg:=PV.Env->Option PV.Env
inductive tQX(K:W.Frag)(x:Jg)(σ:L2.St)(H:Hp)(Ww:Hp->Prop):Prop
 |mk:∀G env fp env',Rel K G H env σ fp->x env=some env'->(∀H' G' Cg,Step G H fp G' H' Cg->Rel K G' H' env' σ Cg->Ww H')->tQX K x σ H Ww
def zm(F:List D->Bool)(fs:DB):Jg:=fun env=>match fs env with
 | .ok (os,e)=>match ja e os with
  | .ok ds=>if F ds then some e else none
  |_=>none
 |_=>none
def MK(X:Cx)(e:Expr)(C:Addr)(x:Jg):Prop:=LZ X e C (tQX X.K x)
def ML(X:Cx)(st:List Stmt)(C:Addr)(x:Jg):Prop:=L1 X st C (tQX X.K x)
section
variable{md:Mode}{X:Cx}{x:Str}{p pos:Pos}{e a b:Expr}{es:List Expr}{C:Addr}{F:List D->Bool}{fs:DB}{k:Nat}{xe:Jg}{cj:List Stmt}
theorem v9(c:CtX X.prog X.w X.K X.mg X.base x k C (spX X.K C F))(hr:Room k X.A)(hg:Gl X x)(ha:Gk X.nox (e::es) fs)(C9:(x==("__debug__" : Str))=false:=by decide)
  (he:starEach (e::es) X.env=(false,eval e X.env)::starEach es X.env:=by rfl) (C8:(backTo pos (starEach es X.env)).any (·.1)=false:=by rfl):MK X (.Call (.Name x p) (e::es) [] pos) C (zm F fs):=
 fun pr s σ H Ww I ⟨G,env,fp,env',rel,e,kk⟩=>rP c hr hg ha C9 he C8 pr s σ H Ww I (by
  unfold zm at e;match q:fs env,e with
  | .ok (os,e1),e=>
   dsimp only at e;match q2:ja e1 os,e with
   | .ok ds,e=>
    dsimp only at e;split at e
    ·rename_i hF;cases e;refine⟨G,env,fp,os,_,rel,q,fun vs H1 G1 Cy Cr Cd DT=>?_⟩;obtain⟨G2,Km,Ko,EG,_,Fe⟩:=Cd.lend;refine⟨G2,ds,Ko,h9 Km EG DT q2,hF,fun H' G' Cg st CD=>?_⟩;obtain⟨k1,_⟩:=Fe H' G' [] (.f,.non) .non (st.trans (Step.cut fun _ h=>nomatch h)) (CD.push jG);obtain⟨G3,EO,CV,CI⟩:=k1 rfl;obtain⟨fq,Dq,D6⟩:=CI.drop;exact kk H' G3 fq (Cr.trans (CV.trans D6)) Dq
    ·cases e)
theorem sy(h:MK X e C xe)(hs:swapsWith e none pos.line X.env=pure false:=by rfl):ML X (.Expr e pos::cj) C xe:=rQ h hs
end
section
variable{X:Cx}{x:Str}{p pos:Pos}{e:Expr}{es:List Expr}{fs:DB}
end
section
variable{X:Cx}{x:Str}{p pos:Pos}{e:Expr}{es:List Expr}{f0:FX}{fs:DB}
end
end PV
namespace NX
open PySem PySem.Spec PyProof.Rows L2
end NX
namespace PV
open PySem PySem.Spec PyProof.Rows L2 NX
section
variable{K:W.Frag}{G H:Hp}{es:PV.Env}{vs:L2.St}{fp:List Addr}
end
section
variable{md:Mode}{X:Cx}
end
section
variable{X:Cx}
end
end PV
namespace NX
open PySem PySem.Spec PyProof.Rows L2
section
variable{X:Cx}
end
end NX
namespace PV
open PySem PySem.Spec PyProof.Rows L2 NX
section
variable{X:Cx}
end
inductive Ext:Hp->Hp->Prop
 |refl {H:Hp}:Ext H H
 |new {H H1:Hp}{p:Addr}{xs:List V}:Ext H H1->H1 p=none->Ext H (upd H1 p (.tup xs))
theorem Ext.trans{H H1 H2:Hp}(a:Ext H H1)(b:Ext H1 H2):Ext H H2:=by
 induction b with
 |refl=>exact a
 |new _ hp ih=>exact .new ih hp
theorem Ext.rel{K:W.Frag}{G H H':Hp}{env:PV.Env}{σ:L2.St}{fp:List Addr}(e:Ext H H')(r:Rel K G H env σ fp):∃G',Rel K G' H' env σ fp/\Step G H fp G' H' fp:=by
 induction e with
 |refl=>exact⟨G,r,.refl⟩
 |new _ hp ih=>
  obtain⟨G1,r1,s1⟩:=ih;obtain⟨r2,s2⟩:=r1.newF hp;exact⟨_,r2,s1.trans s2⟩
inductive BExp where
 |con (b:Bool)|var (j:Nat)|not (x:BExp)|and (x y:BExp)
abbrev Kn:=List (Nat×Bool)
def Jh(kn:Kn):BExp->Option Bool
 | .con b=>some b
 | .var j=>kn.lookup j
 | .not x=>(Jh kn x).map (!·)
 | .and x y=>(Jh kn x).bind fun b=>if b=true then Jh kn y else some false
def yC(kn:Kn)(σ:L2.St):Prop:=∀j b,kn.lookup j=some b->σ[j]?=some (some (.bl b))
inductive tBE(i:Nat)(a:Addr)(x:BExp)(σ:L2.St)(H:Hp)(Q:VK):Prop
 |mk:∀kn b,σ[i]?=some (some (.ref a))->yC kn σ->Jh kn x=some b->(∀H',Ext H H'->Q (.bl b) H')->tBE i a x σ H Q
def BE(X:Cx)(e:Expr)(i:Nat)(a:Addr)(x:BExp):Prop:=PE X e (tBE i a x)
section
variable{X:Cx}{a:Addr}{o:Obj}{i:Nat}{e b:Expr}{cj:List Expr}{x y:BExp}{pos p q:Pos}{n:Str}
theorem ux(h:BE X e i a x)(h2:BE X (.BoolOp .And (b::cj) pos) i a y):BE X (.BoolOp .And (e::b::cj) pos) i a (.and x y):=ba (tI h h2) fun σ H Q Cm=>by
 obtain⟨kn,c,hi,hk,ev,k⟩:=Cm;unfold Jh at ev;obtain⟨b1,e1,ev⟩:=N2.mp ev;refine⟨kn,b1,hi,hk,e1,fun H1 x1=>⟨b1,rfl,?_⟩⟩;cases b1 with
 |true=>exact wM ⟨kn,c,hi,hk,by rwa [Nc rfl]at ev,fun H2 x2=>k H2 (x1.trans x2)⟩
 |false=>
  rw[Ng Nb]at ev;cases ev;exact iteF (k H1 x1)
theorem yD{op}(h:BE X e i a x):BE X (.BoolOp op [e] pos) i a x:=tH h
theorem yE(h:BE X e i a x):BE X (.UnaryOp .Not e pos) i a (.not x):=ba (tJ h) fun σ H Q Cm=>by
 obtain⟨kn,c,hi,hk,ev,k⟩:=Cm;unfold Jh at ev;obtain⟨b1,e1,ev⟩:=Nr.mp ev;subst ev;exact⟨kn,b1,hi,hk,e1,fun H1 x1=>⟨b1,rfl,k H1 x1⟩⟩
theorem yF{j:Nat}(h:PE X e (nH j)):BE X e i a (.var j):=ba h fun σ H Q ⟨kn,c,hi,hk,ev,k⟩=>⟨.bl c,hk j c ev,k H .refl⟩
theorem qp:∀{cs:List Addr}{Cc:List Value},Vals (cs.map V.ref) Cc->Cc=cs.map Value.ref
 |[],_,.nil=>rfl
 |c::cs,_,.cons h r=>by rw[Nk,qp r,show _=Value.ref c from h]
theorem jR{C:Addr}{vs:Array Value}(hp:(a,o)∈X.pn)(hc:o.cls=.ref C)(hv:o.data=.fields vs)(k:Asks X.K C):de X (.builtin "isinstance") (fun xs H Q=>
  (∃c b,xs=[.ref a,.ref c]/\PySem.W.kitOne X.K (.ref C) (.ref c)=some b/\Q (.bl b) H)\/(∃T b,xs=[.ref a,.ty T]/\PySem.W.kitOne X.K (.ref C) (.type T)=some b/\Q (.bl b) H)\/
  ∃(tp:Addr) (cs:List Addr) (b:Bool),xs=[.ref a,.ref tp]/\H tp=some (.tup (cs.map V.ref))/\PySem.W.kitAny X.K (.ref C) (cs.map Value.ref)=some b/\Q (.bl b) H):=by
 intro pr s σ H xs us Q I r h;obtain⟨pa,_⟩:=I.pin (a,o) (Np _ hp);have ex:ExAt a C s.heap:=⟨o,vs,pa,hc,hv⟩
 have fin:∀b,Q (.bl b) H->∀tk,EP X pr σ Q (.bool b) {s with toks:=tk}:=fun b q tk=>⟨.bl b,H,I.tok tk,rfl,q⟩
 rcases h with⟨c,b,rfl,e,q⟩|⟨T,b,rfl,e,q⟩|⟨tp,cs,b,rfl,ht,e,q⟩
 ·obtain⟨u,w',rfl,r1,r2⟩:=oW r;cases(show u=Value.ref a from r1);cases(show w'=Value.ref c from r2);exact N3 (lK k) I.kIn ex e (fun z=>nomatch z) (fin b q)
 ·obtain⟨u,w',rfl,r1,r2⟩:=oW r;cases(show u=Value.ref a from r1);cases(show w'=Value.type T from r2);exact N3 (lK k) I.kIn ex e (fun z=>nomatch z) (fin b q)
 ·obtain⟨u,w',rfl,r1,r2⟩:=oW r;cases(show u=Value.ref a from r1);cases(show w'=Value.ref tp from r2);obtain⟨_,Cc,rv,ot,e1,e2,⟨n,e3⟩,_⟩:=I.hok tp _ ht;cases qp rv;obtain⟨c',d',da',Mk⟩:=ot;dsimp only at e2 e3;subst e2;subst e3;exact PySem.W.kia_tup (lK k) I.kIn ex e1 e (fun z=>nomatch z) (fin b q)
inductive Cls(mg:Str->Option Value):List Expr->List Addr->Prop
 |nil:Cls mg [] []
 |cons {x:Str}{p:Pos}{es:List Expr}{c:Addr}{cs:List Addr}:mg x=some (.ref c)->Cls mg es cs->Cls mg (.Name x p::es) (c::cs)
variable{C:Addr}{vs:Array Value}
theorem Av{x:Str}{c:Addr}{b:Bool}(hp:(a,o)∈X.pn)(hc:o.cls=.ref C)(hv:o.data=.fields vs)(k:Asks X.K C)(he:PE X e (nH i))(hg:Gl X "isinstance")(hm:X.mg "isinstance" = none)(Kr:Gl X x)(Ks:X.mg x=some (.ref c))(hb:PySem.W.kitOne X.K (.ref C) (.ref c)=some b)(C9:(x==("__debug__" : Str))=false:=by decide)
  (hs:starEach [e,.Name x q] X.env=(false,eval e X.env)::starEach [.Name x q] X.env:=by rfl) (Jb:starEach [.Name x q] X.env=(false,eval (.Name x q) X.env)::starEach [] X.env:=by rfl) (C8:(backTo pos (starEach [.Name x q] X.env)).any (·.1)=false:=by rfl):
  BE X (.Call (.Name "isinstance" p) [e,.Name x q] [] pos) i a (.con b):=
 ba (fm (jR hp hc hv k) hg hm cF (cJ he (cJ (lB (v:=.ref c) Kr Ks rfl C9) g7 Jb) hs) (by decide) (by decide) hs C8) fun σ H Q Cm=>by
  obtain⟨kn,c',hi,hk,ev,kk⟩:=Cm;cases ev;exact⟨.ref a,hi,.inl ⟨c,b,rfl,hb,kk H .refl⟩⟩
theorem yG{x:Str}{T:String}{b:Bool}(hp:(a,o)∈X.pn)(hc:o.cls=.ref C)(hv:o.data=.fields vs)(k:Asks X.K C)(he:PE X e (nH i))(hg:Gl X "isinstance")(hm:X.mg "isinstance" = none)(Kr:Gl X x)(Ks:X.mg x=none)(Iy:bootBuiltins x=some (.type T))(hb:PySem.W.kitOne X.K (.ref C) (.type T)=some b)(hn:x≠"__name__":=by decide)(C9:(x==("__debug__" : Str))=false:=by decide)
  (hs:starEach [e,.Name x q] X.env=(false,eval e X.env)::starEach [.Name x q] X.env:=by rfl) (Jb:starEach [.Name x q] X.env=(false,eval (.Name x q) X.env)::starEach [] X.env:=by rfl) (C8:(backTo pos (starEach [.Name x q] X.env)).any (·.1)=false:=by rfl):
  BE X (.Call (.Name "isinstance" p) [e,.Name x q] [] pos) i a (.con b):=
 ba (fm (jR hp hc hv k) hg hm cF (cJ he (cJ (oK (v:=.ty T) Kr Ks Iy rfl hn C9) g7 Jb) hs) (by decide) (by decide) hs C8) fun σ H Q Cm=>by
  obtain⟨kn,c',hi,hk,ev,kk⟩:=Cm;cases ev;exact⟨.ref a,hi,.inr (.inl ⟨T,b,rfl,hb,kk H .refl⟩)⟩
def sH(cs:List Addr):TA:=fun _ H Q=>Q (cs.map V.ref) H
theorem yH{es:List Expr}{cs:List Addr}{b:Bool}{kt}{E7:Pos}(hp:(a,o)∈X.pn)(hc:o.cls=.ref C)(hv:o.data=.fields vs)(k:Asks X.K C)(he:PE X e (nH i))(hg:Gl X "isinstance")(hm:X.mg "isinstance" = none)(hes:PA X es (sH cs))(hl:cs.length<=100)(hb:PySem.W.kitAny X.K (.ref C) (cs.map Value.ref)=some b)
  (hs:starEach [e,.Tuple es kt E7] X.env=(false,eval e X.env)::starEach [.Tuple es kt E7] X.env:=by rfl) (Jb:starEach [.Tuple es kt E7] X.env=(false,eval (.Tuple es kt E7) X.env)::starEach [] X.env:=by rfl) (C8:(backTo pos (starEach [.Tuple es kt E7] X.env)).any (·.1)=false:=by rfl):
  BE X (.Call (.Name "isinstance" p) [e,.Tuple es kt E7] [] pos) i a (.con b):=
 ba (fm (jR hp hc hv k) hg hm cF (cJ he (cJ (tN hes) g7 Jb) hs) (by decide) (by decide) hs C8) fun σ H Q Cm=>by
  obtain⟨kn,c',hi,hk,ev,kk⟩:=Cm;cases ev;exact⟨.ref a,hi,by rw[M5,line_eq];lia,fun tp L3=>.inr (.inr ⟨tp,cs,b,rfl,bg,hb,kk _ (.new .refl L3)⟩)⟩
theorem yI:PA X [] (sH []):=ji g7 fun _ _ _ h=>h
theorem e8{x:Str}{c:Addr}{es:List Expr}{cs:List Addr}(hg:Gl X x)(hm:X.mg x=some (.ref c))(h:PA X es (sH cs))(C9:(x==("__debug__" : Str))=false:=by decide)(hs:starEach (.Name x q::es) X.env=(false,eval (.Name x q) X.env)::starEach es X.env:=by rfl):PA X (.Name x q::es) (sH (c::cs)):=
 ji (cJ (lB (v:=.ref c) hg hm rfl C9) h hs) fun _ _ _ h=>h
def zo:List (Nat×BExp)->Kn->Option (List (Nat×Bool))
 |[],_=>some []
 |(j,x)::L,kn=>(Jh kn x).bind fun b=>(zo L ((j,b)::kn)).map fun r=>(j,b)::r
def A0(r:List (Nat×Bool))(σ:L2.St):L2.St:=r.foldl (fun σ z=>σ.set z.1 (some (.bl z.2))) σ
inductive tSu(i:Nat)(a:Addr)(L:List (Nat×BExp))(D:Ends)(σ:L2.St)(H:Hp):Prop
 |mk:∀kn r,σ[i]?=some (some (.ref a))->yC kn σ->zo L kn=some r->(∀H',Ext H H'->D.nx (A0 r σ) H')->tSu i a L D σ H
def BS(X:Cx)(st:List Stmt)(i:Nat)(a:Addr)(L:List (Nat×BExp)):Prop:=PSs X st (tSu i a L)
theorem yJ:BS X [] i a []:=lM oM fun D σ H Cm=>by
 obtain⟨kn,r,hi,hk,e,k⟩:=Cm;cases e;exact k H .refl
theorem uy{j:Nat}{pos':Pos}{L:List (Nat×BExp)}{Hh:List Stmt}(hN:X.N.Nodup)(hj:X.N[j]?=some n)(hx:Loc X.env.scope n)(he:BE X e i a x)(h:BS X Hh i a L)(IP:i≠j)(hs:swapsWith e (some (.Name n pos')) pos.line X.env=pure false:=by rfl)(hf:X.fn n=true\/X.env.scope.names.lookup n=some .local:=by first|exact .inl rfl|exact .inr rfl|assumption):
  BS X (.Assign [.Name n pos'] e pos::Hh) i a ((j,x)::L):=fun pr s σ H D I Cm=>by
 obtain⟨kn,r,hi,hk,e,k⟩:=Cm;unfold zo at e;obtain⟨b,e1,e⟩:=N2.mp e;obtain⟨r',e2,e⟩:=Nr.mp e;subst e;have hl:j<σ.length:=by rw[I.len];exact(List.getElem?_eq_some_iff.mp hj).1
 refine mf (tL (i:=j) hN hj hx he hs hf) h pr s σ H D I ⟨kn,b,hi,hk,e1,fun H1 x1=>⟨(j,b)::kn,r',by rw[List.getElem?_set_ne (Oo IP)];exact hi,fun j' b' z=>?_,e2,fun H2 x2=>k H2 (x1.trans x2)⟩⟩;by_cases hjj:j'=j
 ·subst hjj;rw[List.lookup_cons_self]at z;cases z;exact List.getElem?_set_self hl
 ·rw[NK,show(j'==j)=false from NU.mpr hjj]at z;rw[List.getElem?_set_ne (Oo hjj)];exact hk j' b' z
end
def setB(r:List (Nat×Bool))(env:PV.Env):PV.Env:=r.foldl (fun env z=>env.set z.1 (some (.f,.bl z.2))) env
def mX(i:Nat)(x:Jg)(g:FS)(r:List (Nat×Bool)):FS:=fun env=>match x env with
 |some e=>match e[i]? with
  |some none=>if(r.all fun z=>decide (z.1<e.length) && !(z.1==i))=true then .ok (.nx (setB r e)) else .bad
  |_=>.bad
 |none=>g env
theorem mY{K:W.Frag}{G H:Hp}{i:Nat}:∀(r:List (Nat×Bool)) {env:PV.Env}{σ:L2.St}{fp:List Addr},Rel K G H env σ fp->env[i]?=some none->(∀z∈r,z.1<env.length/\z.1≠i)->∃Cg,Rel K G H (setB r env) (A0 r σ) Cg/\Step G H fp G H Cg/\(setB r env)[i]?=some none
 |[],_,_,fp,rel,hi,_=>⟨fp,rel,.refl,hi⟩
 |z::r,env,σ,fp,rel,hi,h=>by
  obtain⟨h1,h2⟩:=h z M7;obtain⟨fq,Ca,Cj⟩:=(rel.push (bw z.2)).store h1;obtain⟨Cg,CI,CV,h3⟩:=mY r Ca (by rw[List.getElem?_set_ne h2];exact hi) fun y hy=>by
   rw[OD];exact h y (Nj _ hy)
  exact⟨Cg,CI,Cj.trans CV,h3⟩
section
variable{md:Mode}{X:Cx}{x:Str}{pos:Pos}{C:Addr}{xe:Jg}
theorem sI{body Fc:List Stmt}{b0:Stmt}{np Hv:Pos}{g:FS}{n:Str}{i:Nat}{L:List (Nat×BExp)}{r:List (Nat×Bool)}(O:IX X.mg X.base x C)(hg:Gl X x)(hn:Gz (md:=md) X.nox body g)(hx:ML X body C xe)
  (hh:∀a o vs,o.cls=.ref C->o.data=.fields vs->BS (asX X a o) (b0::Fc) i a L) (hL:zo L []=some r) (hN:X.N.Nodup) (hi:X.N[i]?=some n) (hl:X.env.kindOf n=some .local) (Le:X.env.scope.names.lookup n=some .local)
  (hs:X.stack=X.env::X.outer:=by rfl) (hf:X.env.frame=some X.env.locals:=by rfl) (C9:(x==("__debug__" : Str))=false:=by decide):
  QS (md:=md) X (.Try body [.ExceptHandler (some (.Name x np)) (some n) (b0::Fc) Hv] [] [] pos) (mX i xe g r):=dQ (rV (t:=tQS (md:=md) X.K g) (th:=fun a=>tSu i a L) (tx:=tQX X.K xe) O hg hn hx (fun a o vs h1 h2=>hh a o vs h1 h2) hN hi hl Le hs hf C9) fun D σ H Cm=>by
 obtain⟨G,env,fp,rel,kk⟩:=Cm;unfold mX at kk;cases q:xe env with
 |none=>
  rw[q]at kk;exact .inl ⟨G,env,fp,rel,kk⟩
 |some e=>
  rw[q]at kk;dsimp only at kk;split at kk
  ·rename_i c1;split at kk;case isFalse=>exact kk.elim
   rename_i c2;refine .inr ⟨G,env,fp,e,rel,q,fun H' G' Cg st CD a=>?_⟩;have hlen:=CD.rep.length;have MD:i<e.length:=(List.getElem?_eq_some_iff.mp c1).1;refine⟨[],r,List.getElem?_set_self (by lia),(fun j b z=>by cases z),hL,fun H2 x2=>?_⟩;obtain⟨G2,Ca,Cj⟩:=x2.rel (CD.any (y:=some (.ref a)) (.inl c1));obtain⟨fq,CI,CV,h3⟩:=mY (i:=i) r Ca c1 fun z hz=>by
    have:=NA.mp c2 z hz;rw[Nf,Nn]at this;exact⟨this.1,by simpa using this.2⟩
   exact kk _ H2 G2 fq (st.trans (Cj.trans CV)) (CI.any (y:=none) (.inl h3))
  ·exact kk.elim
end
end PV
namespace LW
open PySem L2 NX PV
abbrev sJ(f:FX):FI:=EH (yc f) (EH (kO f) (kQ f))
def dZ:FS:=(cV (bW kR (ai (aq (fE (sJ (aE Cq (ao 0) (aq (aB (.int 1))))) [none] (aM 0) i5 (aE Cq (ao 0) (aq (aB (.int 0)))))) aF)))
def bx:List D->Res R:=fBody 1 0 dZ
noncomputable def mZ:FS:=(sSeq (cw 3 (zl lV (aq (aE Cq (ao 0) (aq (aB (.int 0))))) (ai (ao 2) aF)))
  (cV (bW wO (ai (aq (fE (ow (ai (aq (aV 1)) (ai (aq (aE Cq (ao 0) (aq (aB (.int 1))))) aF))) [none,none,some 3] (lO 2 (aZ (aM 0) (aZ (aM 1) gc))) i5 (aE FC (ao 0) (aq (aE Cq (aq (aE Cq (ao 1) (aq (aB (.int 1))))) (ao 2)))))) aF))))
def eG:List D->Res R:=fBody 3 1 mZ
noncomputable def qq:FS:=(sSeq (DE (ib (CF (dj eG (ai (ao 0) (ai (ao 1) (ai (ao 2) aF))))))
  (cV (aB .non))
  bX)
  (sSeq (cw 3 (zl lV (aq (aE Cq (ao 0) (aq (aB (.int 0))))) (ai (ao 2) aF)))
  (cV (bW kR (ai (aq (fE (ow (ai (aq (aV 1)) (ai (aq (aE Cq (ao 0) (aq (aB (.int 1))))) aF))) [none,none,some 3] (lO 2 (aZ (aM 0) (aZ (aM 1) gc))) i5 (aE fV (aq (aE vM (ao 0) (aq (aE Cq (aq (aE Cq (ao 1) (aq (aB (.int 1))))) (ao 2))))) (aq (aE Cq (aq (aE Cq (ao 1) (aq (aB (.int 2))))) (ao 2)))))) aF)))))
def d4:List D->Res R:=fBody 3 1 qq
noncomputable def cH:FS:=(sSeq (cw 7 (dj d4 (ai (ao 0) (ai (ao 5) (ai (ao 6) aF)))))
  (DE (CF (bV qO (ao 7) (aq (aB .non))))
  (sSeq (DE (CF (bV v3 (ao 7) (ao 2)))
  (sSeq (zk 2 (aV 7) (bW gQ (ai (ao 1) aF)))
  (jH (ug 1 (dD (av (aV 7) (av (aE fV (aq (aE Cq (aq (aE Cq (ao 1) (ao 4))) (aq (aB (.int 1))))) (aq (dD (av (aV 6) a7)))) (av (aV 4) a7)))))))
  bX)
  (jH (ug 3 (dD (av (aV 4) (av (aV 6) (av (aE Jf (ao 2) (ao 7)) a7)))))))
  bX))
def d5:FS:=(qN (sJ (aE Cq (ao 0) (aq (aB (.int 0))))) (aM 6)
  cH)
def fN:FS:=(cw 4 (aE fV (ao 4) (aq (aB (.int 1)))))
def dJ:FS:=(sSeq (cw 5 (aE Cq (aq (aE Cq (ao 1) (ao 4))) (aq (aB (.int 0)))))
  (sSeq d5
  fN))
def gD:FS:=(cB (CF (kM JT JR (ao 4) (aq (bW gQ (ai (ao 1) aF))) (aq (aB (.int 12)))))
  dJ 100000)
def fO:FS:=(cV (dD (av (aV 1) (av (aV 3) a7))))
noncomputable def jn:FS:=(sSeq (cw 1 (sf (av (dD (av (dj bx (ai (ao 0) aF)) (av (dD a7) (av (aB .non) a7)))) a7)))
  (sSeq (cw 2 (qk (aE Cq (aq (aE Cq (ao 1) (aq (aB (.int 0))))) (aq (aB (.int 0)))) (aB (.int 0))))
  (sSeq (cw 3 (sf a7))
  (sSeq (cw 4 (aB (.int 0)))
  (sSeq gD
  fO)))))
def aU:List D->Res R:=fBody 1 7 jn
noncomputable def m7:FS:=(sSeq (cw 1 (dj aU (ai (ao 0) aF)))
  (sSeq (cw 2 (fE (sJ (aE Cq (ao 1) (aq (aB (.int 0))))) [none,none,none] (lO 3 (aZ (aM 0) (aZ (aM 1) (aZ (aM 2) gc)))) i5 (aV 0)))
  (sSeq (DE (CF (aE GA (aq (bW gQ (ai (ao 2) aF))) (aq (aB (.int 12)))))
  ud
  bX)
  (cV (dD (av (dD (av (aE Cq (ao 0) (aq (aB (.int 0)))) (av (aE Cq (ao 1) (aq (aB (.int 1)))) a7))) (av (aV 2) a7)))))))
def bZ:List D->Res R:=fBody 1 2 m7
noncomputable def x_run_of:List D->Bool:=qo 1 2 (wR (cw 1 (dj aU (ai (ao 0) aF)))
  (wR (cw 2 (fE (sJ (aE Cq (ao 1) (aq (aB (.int 0))))) [none,none,none] (lO 3 (aZ (aM 0) (aZ (aM 1) (aZ (aM 2) gc)))) i5 (aV 0)))
  (Li (CF (aE GA (aq (bW gQ (ai (ao 2) aF))) (aq (aB (.int 12))))) (ql (ai (aq (aB (.str [116,104,101,32,114,117,110,32,104,97,115,32,109,111,114,101,32,116,104,97,110,32,49,50,32,109,97,114,107,105,110,103,115]))) aF)))))
def m9:FS:=(cV (bW wO (ai (aq (fE (ow (ai (aq (aV 0)) (ai (aq (aV 1)) aF))) [none,none] (lO 2 (aZ (aM 0) (aZ (aM 1) gc))) i5 (aE FC (ao 0) (ao 1)))) aF)))
def dM:List D->Res R:=fBody 2 0 m9
def bt:FS:=(cw 2 (aE Cq (aq (aE Cq (ao 0) (ao 2))) (aq (aB (.int 2)))))
def cN:FS:=(cB (ya (CF (bV qO (ao 2) (aq (aB .non)))) (ib (CF (dj dM (ai (aq (aE Cq (aq (aE Cq (ao 0) (ao 1))) (aq (aB (.int 0))))) (ai (aq (aE Cq (aq (aE Cq (ao 0) (ao 2))) (aq (aB (.int 0))))) aF))))))
  bt 100000)
def cE:FS:=(cV (pK 2))
def dw:FS:=(sSeq (cw 2 (aE Cq (aq (aE Cq (ao 0) (ao 1))) (aq (aB (.int 2)))))
  (sSeq cN
  cE))
def aK:List D->Res R:=fBody 2 1 dw
noncomputable def ck:FS:=(sSeq (cw 3 (dj aK (ai (ao 1) (ai (ao 2) aF))))
  (DE (CF (bV qO (ao 3) (aq (aB .non))))
  (sSeq (cw 4 (aE Cq (aq (aE Cq (ao 1) (ao 3))) (aq (aB (.int 1)))))
  (cV (dD (av (aB (.str [103,114,111,119,115])) (av (aV 4) (av (yv (aq (aE Cq (aq (aE Cq (ao 1) (ao 2))) (aq (aB (.int 1))))) (pZ (bW gQ (ai (ao 4) aF))) pY) a7))))))
  bX))
def fP:FS:=(qN (eZ (aq (aE fV (aq (aB (.int 12))) (aq (aB (.int 1)))))) (aM 2)
  ck)
def eT:FS:=(cV (dD (av (aB (.str [98,101,121,111,110,100])) a7)))
noncomputable def iJ:FS:=(sSeq (cw 1 (aE Cq (aq (dj aU (ai (ao 0) aF))) (aq (aB (.int 0)))))
  (sSeq (DE (CF (aE JR (aq (bW gQ (ai (ao 1) aF))) (aq (aB (.int 12)))))
  (cV (dD (av (aB (.str [101,110,100,115])) (av (bW gQ (ai (ao 1) aF)) a7))))
  bX)
  (sSeq fP
  eT)))
def bB:List D->Res R:=fBody 1 4 iJ
def eU:FS:=(sSeq (DE (CF (aE JT (ao 1) (aq (bW gQ (ai (ao 0) aF)))))
  (cV (aE Cq (ao 0) (ao 1)))
  bX)
  (cV (aB (.int 0))))
def aw:List D->Res R:=fBody 2 0 eU
noncomputable def gE:FS:=(sSeq (cw 2 (aE fV (aq (aE jj (ao 0) (aq (aB (.int 2147483647))))) (aq (aE oG (aq (aB (.int 48271))) (aq (aE fV (ao 1) (aq (aB (.int 1)))))))))
  (sSeq (cw 2 (aE jj (aq (aE fV (aq (aE oG (ao 2) (ao 2))) (aq (aE oG (aq (aB (.int 69621))) (ao 1))))) (aq (aB (.int 2147483647)))))
  (cV (aE jj (aq (aE fV (aq (aE fV (aq (aE oG (ao 2) (ao 2))) (aq (aE oG (aq (aB (.int 16807))) (ao 1))))) (aq (aB (.int 1))))) (aq (aB (.int 2147483647)))))))
def bz:List D->Res R:=fBody 2 1 gE
noncomputable def b6:FS:=(sSeq (cw 7 (yv (ao 2) pY (pZ (aV 3))))
  (sSeq (su 7 (aV 4) (aE jj (aq (aE fV (aq (aE Cq (ao 7) (ao 4))) (ao 6))) (aq (aB (.int 26)))))
  (sSeq (DE (CF (bV Fg (aq (aE jj (aq (aE og (ao 0) (aq (aB (.int 64))))) (aq (aB (.int 4))))) (aq (aB (.int 1)))))
  (cw 7 (yv (ao 2) pY (pZ (aE fV (ao 6) (aq (aB (.int 1)))))))
  bX)
  (jH (ug 5 (An qi (aq (aB (.str []))) (ai (aq (fE (EH (ou 7) (EH (kO (aV 7)) (kQ (aV 7)))) [none,some 1] (aM 0) i5 (aE Cq (ao 1) (ao 0)))) aF)))))))
def eV:FS:=(qN (eZ (aq (aB (.int 5)))) (aM 6)
  b6)
def d7:FS:=(sSeq (DE (CF (bV Lh (aq (aB (.str [109,111,118,101,115]))) (ao 5)))
  (cw 5 (fE (EH (ou 5) (EH (kO (aV 5)) (kQ (aV 5)))) [none] (aM 0) i5 (aE fV (aq (aB (.str [115]))) (ao 0))))
  bX)
  (cV (bW iC (ai (ao 5) aF))))
noncomputable def gF:FS:=(sSeq (cw 1 (aB (.str [97,98,99,100,101,102,103,104,105,106,107,108,109,110,111,112,113,114,115,116,117,118,119,120,121,122])))
  (sSeq (cw 2 (fE (eZ (aq (aB (.int 8)))) [none,some 0] (aM 0) i5 (aE jj (aq (dj bz (ai (ao 1) (ai (ao 0) aF)))) (aq (aB (.int 26))))))
  (sSeq (cw 3 (aE fV (aq (aB (.int 1))) (aq (aE jj (ao 0) (aq (aB (.int 8)))))))
  (sSeq (cw 4 (aE jj (aq (aE og (ao 0) (aq (aB (.int 8))))) (ao 3)))
  (sSeq (cw 5 (sf a7))
  (sSeq eV
  d7))))))
def bU:List D->Res R:=fBody 1 7 gF
def gG:FS:=(cV (rY (Fy "int" (ao 0)) (Ad (Fy "bool" (ao 0)))))
def m__law_whole:List D->Res R:=fBody 1 0 gG
def b7:FS:=(DE (ER (ib (CF (Fy "tuple" (ao 3)))) (ER (ib (CF (dj m__law_whole (ai (aq (aE Cq (ao 3) (aq (aB (.int 0))))) aF)))) (ib (CF (dj m__law_whole (ai (aq (aE Cq (ao 3) (aq (aB (.int 2))))) aF))))))
  (cV (aB (.bl false)))
  bX)
def dy:FS:=(qN (sJ (aE Cq (ao 0) (aq (aB (.int 1))))) (aM 3)
  b7)
def cY:FS:=(cV (aB (.bl true)))
def cZ:FS:=(DE (ib (CF (Fy "str" (ao 2))))
  (cV (aB (.bl false)))
  bX)
def dA:FS:=(qN (sJ (aE Cq (ao 0) (aq (aB (.int 0))))) (aM 2)
  cZ)
def c7:FS:=(sSeq dy
  cY)
noncomputable def d8:FS:=(sSeq (DE (ER (ib (CF (Fy "tuple" (ao 0)))) (ER (CF (bV Fp (aq (bW gQ (ai (ao 0) aF))) (aq (aB (.int 2))))) (ib (CF (Fy "tuple" (aq (aE Cq (ao 0) (aq (aB (.int 0))))))))))
  (cV (aB (.bl false)))
  bX)
  (sSeq (DE (ER (ib (CF (Fy "list" (aq (aE Cq (ao 0) (aq (aB (.int 1)))))))) (CF (bV Fp (ao 0) (ao 1))))
  (cV (aB (.bl false)))
  bX)
  (sSeq dA
  c7)))
def a8:List D->Res R:=fBody 2 2 d8
def bF:FS:=(DE (ib (CF (dj m__law_whole (ai (ao 3) aF))))
  (cV (aB (.bl false)))
  bX)
def cp:FS:=(qN (sJ (aV 2)) (aM 3)
  bF)
def bG:FS:=(sSeq (DE (ib (CF (Fy "tuple" (ao 2))))
  (cV (aB (.bl false)))
  bX)
  cp)
def cq:FS:=(qN (sJ (aV 0)) (aM 2)
  bG)
def b9:FS:=(cV (aB (.bl true)))
def cO:FS:=(sSeq (DE (ER (ib (CF (Fy "list" (ao 0)))) (CF (bV Fp (ao 0) (ao 1))))
  (cV (aB (.bl false)))
  bX)
  (sSeq cq
  b9))
def aG:List D->Res R:=fBody 2 2 cO
noncomputable def bC:FS:=(sSeq (DE (ER (CF (aE GA (ao 3) (ao 2))) (CF (bV Fg (aq (bW gQ (ai (ao 4) aF))) (aq (aB (.int 13))))))
  (cV (aB .non))
  bX)
  (sSeq (cw 1 (aE fV (aq (aE vM (ao 1) (ao 2))) (ao 3)))
  (sSeq (jH (ug 5 (dD (av (aE vM (aq (bW gQ (ai (ao 4) aF))) (aq (aB (.int 1)))) (av (aV 0) (av (bW gQ (ai (ao 4) aF)) a7))))))
  (jH (ug 4 (dD (av (aV 1) a7)))))))
def cu:FS:=(cB (CF (aE FC (ao 1) (ao 2)))
  bC 100000)
def cI:FS:=(cV (dD (av (dD (av (aV 0) a7)) (av (aV 5) (av (aV 4) a7)))))
noncomputable def gk:FS:=(sSeq (cw 4 (sf (av (dD (av (aV 1) a7)) a7)))
  (sSeq (cw 5 (sf a7))
  (sSeq (DE (ya (CF (aE FC (ao 1) (ao 2))) (CF (bV Fg (ao 2) (ao 3))))
  (cV (dD (av (dD (av (aV 0) a7)) (av (sf (av (dD (av (aB (.int 0)) (av (aV 0) (av (aB (.int 0)) a7)))) a7)) (av (aV 4) a7)))))
  bX)
  (sSeq cu
  cI))))
def bf:List D->Res R:=fBody 4 2 gk
def eW:FS:=(sSeq (cw 1 (aB (.bl false)))
  (sSeq (mX 2 (zm x_run_of (ai (ao 0) aF))
  (jH (dj bZ (ai (ao 0) aF))) [(3,false),(1,true)])
  (cV (pK 1))))
def m__law_refused:List D->Res R:=fBody 1 3 eW
noncomputable def yK:FS:=(sSeq (cw 1 (aE Cq (aq (dj bU (ai (aq (dj aw (ai (ao 0) (ai (aq (aB (.int 0))) aF)))) aF))) (aq (aE jj (aq (dj aw (ai (ao 0) (ai (aq (aB (.int 1))) aF)))) (aq (aB (.int 5)))))))
  (sSeq (cw 2 (aE fV (aq (aB (.int 1))) (aq (aE jj (aq (dj aw (ai (ao 0) (ai (aq (aB (.int 2))) aF)))) (aq (aE wN (aq (aB (.int 10))) (aq (aB (.int 50)))))))))
  (sSeq (cw 3 (aE fV (aq (aE oG (ao 2) (aq (aE jj (aq (dj aw (ai (ao 0) (ai (aq (aB (.int 3))) aF)))) (aq (aB (.int 31))))))) (aq (aE jj (aq (dj aw (ai (ao 0) (ai (aq (aB (.int 6))) aF)))) (ao 2)))))
  (sSeq (cw 4 (aE oG (ao 2) (aq (aE jj (aq (dj aw (ai (ao 0) (ai (aq (aB (.int 4))) aF)))) (aq (aB (.int 5)))))))
  (sSeq (cw 5 (aE oG (ao 2) (aq (aE jj (aq (dj aw (ai (ao 0) (ai (aq (aB (.int 5))) aF)))) (aq (aB (.int 5)))))))
  (sSeq (cw 6 (dD (av (dD (av (aV 1) a7)) (av (sf (av (dD (av (aV 3) (av (dD (av (aV 4) a7)) (av (dD (av (aV 5) a7)) a7)))) a7)) a7))))
  (sSeq (cw 7 (dD (av (dD (av (aV 1) a7)) (av (bW sj (ai (aq (aE Cq (ao 6) (aq (aB (.int 1))))) aF)) a7))))
  (sSeq (cw 8 (dj bf (ai (ao 1) (ai (ao 3) (ai (ao 4) (ai (ao 5) aF))))))
  (sSeq (cw 9 (dj bB (ai (ao 7) aF)))
  (sSeq (DE (ER (ib (CF (Fy "tuple" (ao 9)))) (CF (bV Fp (ao 7) (ao 6))))
  (cV (aB (.bl false)))
  bX)
  (sSeq (DE (ER (CF (bV Hj (ao 8) (aq (aB .non)))) (CF (aE GA (aq (bW gQ (ai (aq (aE Cq (ao 8) (aq (aB (.int 2))))) aF))) (aq (aB (.int 12))))))
  (sSeq (DE (CF (aE GA (ao 5) (ao 4)))
  (cV (rY (dj m__law_refused (ai (ao 7) aF)) (bV Fg (ao 9) (aq (dD (av (aB (.str [103,114,111,119,115])) (av (dD a7) (av (dD (av (aV 1) a7)) a7))))))))
  bX)
  (cV (rY (dj m__law_refused (ai (ao 7) aF)) (bV Fg (ao 9) (aq (dD (av (aB (.str [98,101,121,111,110,100])) a7)))))))
  bX)
  (sSeq (cw 10 (dj bZ (ai (ao 7) aF)))
  (sSeq (DE (ER (ib (CF (Fy "tuple" (ao 10)))) (ER (CF (bV Fp (aq (bW gQ (ai (ao 10) aF))) (aq (aB (.int 2))))) (ib (CF (dj a8 (ai (aq (aE Cq (ao 10) (aq (aB (.int 0))))) (ai (aq (dD (av (aE Cq (ao 8) (aq (aB (.int 0)))) (av (aE Cq (ao 8) (aq (aB (.int 1)))) a7)))) aF)))))))
  (cV (aB (.bl false)))
  bX)
  (sSeq (DE (ER (ib (CF (dj aG (ai (aq (aE Cq (ao 10) (aq (aB (.int 1))))) (ai (aq (aE Cq (ao 8) (aq (aB (.int 2))))) aF))))) (CF (bV Fp (ao 9) (aq (dD (av (aB (.str [101,110,100,115])) (av (bW gQ (ai (aq (aE Cq (ao 8) (aq (aB (.int 2))))) aF)) a7)))))))
  (cV (aB (.bl false)))
  bX)
  (cV (rY (dj m__law_whole (ai (aq (aE Cq (ao 9) (aq (aB (.int 1))))) aF)) (bV Fg (ao 7) (ao 6))))))))))))))))))
def wa:List D->Res R:=fBody 1 10 yK
end LW
namespace LW
open PySem PySem.Spec PyProof.Rows L2 NX PV
theorem uz{α:Type}{Q:List α->Prop}(h:∀a,Q [a]):∀us,us.length=1->Q us
 |[a],_=>h a
theorem wU{α:Type}{Q:List α->Prop}(h:∀a b,Q [a,b]):∀us,us.length=2->Q us
 |[a,b],_=>h a b
theorem A1{α:Type}{Q:List α->Prop}(h:∀a b c,Q [a,b,c]):∀us,us.length=3->Q us
 |[a,b,c],_=>h a b c
theorem BK{α:Type}{Q:List α->Prop}(h:∀a b c d,Q [a,b,c,d]):∀us,us.length=4->Q us
 |[a,b,c,d],_=>h a b c d
theorem gH{X:Cx}{tg e:Expr}{f:FX}(h:QE X e f):QI X tg e (EH (yc f) (EH (kO f) (kQ f))):=p6 (vK h) (p6 (pT h) (pU h))
def top(i:Nat):Stmt:=PySem.Challenge.pw_netfinder_k20_one_place_one_move.main.body.getD i (.Pass ⟨0,0,0,0⟩)
theorem BL:Str.ofString "the run has more than 12 markings" = S [116,104,101,32,114,117,110,32,104,97,115,32,109,111,114,101,32,116,104,97,110,32,49,50,32,109,97,114,107,105,110,103,115]:=by decide +kernel
theorem A2:Str.ofString "beyond" = S [98,101,121,111,110,100]:=by decide +kernel
theorem A3:Str.ofString "grows" = S [103,114,111,119,115]:=by decide +kernel
theorem A4:Str.ofString "ends" = S [101,110,100,115]:=by decide +kernel
theorem BM:Str.ofString "moves" = S [109,111,118,101,115]:=by decide +kernel
theorem BN:Str.ofString "s" = S [115]:=by decide +kernel
theorem BO:Str.ofString "" = S []:=by decide +kernel
theorem BP:Str.ofString "abcdefghijklmnopqrstuvwxyz" = S [97,98,99,100,101,102,103,104,105,106,107,108,109,110,111,112,113,114,115,116,117,118,119,120,121,122]:=by decide +kernel
section
variable{P:Program}{w:World}{K:W.Frag}{mg:Str->Option Value}{base:Heap}
abbrev cP:Stmt:=top 12
theorem gS:FnScope ["net"] ["net"] (defScope cP):=fs
theorem gT(Df:Def K mg "first_marking" cP)(Cv:mg "tuple" = none):Ct P w K mg base "first_marking" 1 (spF K bx):=
 eK Df gS (fun _ _ _ _ _ _=>uz fun _=>rfl) fun f CB A outer s H E hr=>
  (ax (aO (ic mM (by rfl) Cv cT (af (aa (fK [none] ["place"] rfl (dX (gH (aJ (ae (pv 0)) (aa ak)))) (fun _ _ _ _ _=>(aY (i:=0) (show List.Nodup (["place"]:List Str) from by decide +kernel) rfl (lo rfl))) (fun _ _ _ _ _=>dG) (fun _ _ _ _ _=>(aJ (ae (pv 0)) (aa ak))))) au))))
abbrev jS:Stmt:=top 13
theorem lg:FnScope ["net","marking","move","at"] ["net","marking","move"] (defScope jS):=fs
theorem qr(Df:Def K mg "can_go" jS)(Es:mg "all" = none)(DZ:mg "zip" = none):Ct P w K mg base "can_go" 1 (spF K eG):=
 eK Df lg (fun _ _ _ _ _ _=>A1 fun _ _ _=>rfl) fun f CB A outer s H E hr=>
  (ah (aH (i:=3) lg.nd rfl (lo rfl) (uw O2 P9 iH (aa (aJ (ae (pv 0)) (aa ak))) (af (ae (pv 2)) au)))
  (ax (aO (a9 (uh rfl) (by rfl) Es uu (af (aa (fK [none,none,some 3] ["beads","place","at"] rfl (dX (lW (by rfl) DZ (af (aa (aD (pv 1))) (af (aa (aJ (ae (pv 0)) (aa ak))) au)))) (fun _ _ _ _ _=>(have h:=(show List.Nodup (["beads","place","at"]:List Str) from by decide +kernel);(kN rfl (bP (aY (i:=0) h rfl (lo rfl)) (bP (aY (i:=1) h rfl (lo rfl)) ig))))) (fun _ _ _ _ _=>dG) (fun _ _ _ _ _=>(ub (mR hr.units0) (ae (pv 0)) (aa (aJ (aa (aJ (ae (pv 1)) (aa ak))) (ae (pv 2)))) (bu _))))) au)))))
abbrev lY:Stmt:=top 14
theorem ng:FnScope ["net","marking","move","at"] ["net","marking","move"] (defScope lY):=fs
theorem sL(Df:Def K mg "moved" lY)(GJ:Ct P w K mg base "can_go" 1 (spF K eG))(Cv:mg "tuple" = none)(DZ:mg "zip" = none):Ct P w K mg base "moved" 2 (spF K d4):=
 eK Df ng (fun _ _ _ _ _ _=>A1 fun _ _ _=>rfl) fun f CB A outer s H E hr=>
  (ah (cK (cA (cz (bo GJ hr.m (by rfl) (af (ae (pv 0)) (af (ae (pv 1)) (af (ae (pv 2)) au))))))
  (ax (aO ia))
  aX)
  (ah (aH (i:=3) ng.nd rfl (lo rfl) (uw O2 P9 iH (aa (aJ (ae (pv 0)) (aa ak))) (af (ae (pv 2)) au)))
  (ax (aO (ic mM (by rfl) Cv cT (af (aa (fK [none,none,some 3] ["beads","place","at"] rfl (dX (lW (by rfl) DZ (af (aa (aD (pv 1))) (af (aa (aJ (ae (pv 0)) (aa ak))) au)))) (fun _ _ _ _ _=>(have h:=(show List.Nodup (["beads","place","at"]:List Str) from by decide +kernel);(kN rfl (bP (aY (i:=0) h rfl (lo rfl)) (bP (aY (i:=1) h rfl (lo rfl)) ig))))) (fun _ _ _ _ _=>dG) (fun _ _ _ _ _=>(bh bM (aa (bh pV (ae (pv 0)) (aa (aJ (aa (aJ (ae (pv 1)) (aa ak))) (ae (pv 2)))))) (aa (aJ (aa (aJ (ae (pv 1)) (aa ak))) (ae (pv 2)))))))) au))))))
abbrev gm:Stmt:=top 16
theorem bD:FnScope ["net","met","numbers","arcs","looked_at","marking","move","coming"] ["net"] (defScope gm):=fs
theorem lZ(Df:Def K mg "explored" gm)(Eg:Ct P w K mg base "first_marking" 1 (spF K bx))(HC:Ct P w K mg base "moved" 2 (spF K d4))(Cf:Gi mg "MOST_STATES" (12))(Cw:mg "len" = none):Ct P w K mg base "explored" 3 (spF K aU):=
 eK Df bD (fun _ _ _ _ _ _=>uz fun _=>rfl) fun f CB A outer s H E hr=>
  (ah (aH (i:=1) bD.nd rfl (lo rfl) (il (aj (aT (aj (bo Eg hr.m (by rfl) (af (ae (pv 0)) au)) (aj (aT az) (aj ia az)))) az)))
  (ah (aH (i:=2) bD.nd rfl (lo rfl) (sv (hu_of hr) (aJ (aa (aJ (ae (pv 1)) (aa ak))) (aa ak)) ak))
  (ah (aH (i:=3) bD.nd rfl (lo rfl) (il az))
  (ah (aH (i:=4) bD.nd rfl (lo rfl) ak)
  (ah (jI 100000 N4 (r6 (uo hr.units0) yg (ae (pv 4)) (aa (a9 bR (by rfl) Cw bt_len (af (ae (pv 1)) au))) (aa (pL Cf (by rfl))))
  (ah (aH (i:=5) bD.nd rfl (lo rfl) (aJ (aa (aJ (ae (pv 1)) (ae (pv 4)))) (aa ak)))
  (ah (ij N4 rfl (gH (aJ (ae (pv 0)) (aa ak))) (aY (i:=6) bD.nd rfl (lo rfl))
  (ah (aH (i:=7) bD.nd rfl (lo rfl) (bo HC hr.m (by rfl) (af (ae (pv 0)) (af (ae (pv 5)) (af (ae (pv 6)) au)))))
  (ax (cK (bQ p5 (ae (pv 7)) (aa ia) (bu _))
  (ah (cK (bQ (v5 hr.u65) (ae (pv 7)) (ae (pv 2)) (by with_unfolding_all rfl))
  (ah (yq (hu_of hr) (pv 2) (aD (pv 7)) (a9 bR (by rfl) Cw bt_len (af (ae (pv 1)) au)))
  (ax (f9 (dU (pv 1) (aT (aj (aD (pv 7)) (aj (bh bM (aa (aJ (aa (aJ (ae (pv 1)) (ae (pv 4)))) (aa ak))) (aa (aT (aj (aD (pv 6)) az)))) (aj (aD (pv 4)) az))))))))
  aX)
  (ax (f9 (dU (pv 3) (aT (aj (aD (pv 4)) (aj (aD (pv 6)) (aj (As (hu_of hr) (ae (pv 2)) (ae (pv 7))) az))))))))
  aX))))
  (ax (aH (i:=4) bD.nd rfl (lo rfl) (bh bM (ae (pv 4)) (aa ak)))))))
  (ax (aO (aT (aj (aD (pv 1)) (aj (aD (pv 3)) az))))))))))
abbrev g5:Stmt:=top 17
theorem dB:FnScope ["net","found","markings"] ["net"] (defScope g5):=fs
theorem qu(Df:Def K mg "run_of" g5)(C3:Ct P w K mg base "explored" 3 (spF K aU))(Cf:Gi mg "MOST_STATES" (12))(Cw:mg "len" = none):Ct P w K mg base "run_of" 4 (spF K bZ):=
 eK Df dB (fun _ _ _ _ _ _=>uz fun _=>rfl) fun f CB A outer s H E hr=>
  (ah (aH (i:=1) dB.nd rfl (lo rfl) (bo C3 hr.m (by rfl) (af (ae (pv 0)) au)))
  (ah (g0 (i:=2) [none,none,none] ["marking","way","ahead"] dB.nd rfl (lo rfl) rfl (dX (gH (aJ (ae (pv 1)) (aa ak)))) (fun _ _ _ _ _=>(have h:=(show List.Nodup (["marking","way","ahead"]:List Str) from by decide +kernel);(kN rfl (bP (aY (i:=0) h rfl (lo rfl)) (bP (aY (i:=1) h rfl (lo rfl)) (bP (aY (i:=2) h rfl (lo rfl)) ig)))))) (fun _ _ _ _ _=>dG) (fun _ _ _ _ _=>(aD (pv 0))))
  (ah (cK (fB pX (aa (a9 bR (by rfl) Cw bt_len (af (ae (pv 2)) au))) (aa (pL Cf (by rfl))) (bu _))
  (ax r9)
  aX)
  (ax (aO (aT (aj (aT (aj (aJ (ae (pv 0)) (aa ak)) (aj (aJ (ae (pv 1)) (aa ak)) az))) (aj (aD (pv 2)) az))))))))
theorem ox(Df:Def K mg "run_of" g5){Ce:Addr}(C3:Ct P w K mg base "explored" 3 (spF K aU))(CA:IX mg base "TooGreat" Ce)(Cf:Gi mg "MOST_STATES" (12))(Cw:mg "len" = none):CtX P w K mg base "run_of" 4 Ce (spX K Ce x_run_of):=
 yB Df dB (fun _ _ _ _ _ _=>uz fun _=>rfl) fun f CB A outer s H E hr=>
  (qm (aH (i:=1) dB.nd rfl (lo rfl) (bo C3 hr.m (by rfl) (af (ae (pv 0)) au)))
  (qm (g0 (i:=2) [none,none,none] ["marking","way","ahead"] dB.nd rfl (lo rfl) rfl (dX (gH (aJ (ae (pv 1)) (aa ak)))) (fun _ _ _ _ _=>(have h:=(show List.Nodup (["marking","way","ahead"]:List Str) from by decide +kernel);(kN rfl (bP (aY (i:=0) h rfl (lo rfl)) (bP (aY (i:=1) h rfl (lo rfl)) (bP (aY (i:=2) h rfl (lo rfl)) ig)))))) (fun _ _ _ _ _=>dG) (fun _ _ _ _ _=>(aD (pv 0))))
  (Au (fB pX (aa (a9 bR (by rfl) Cw bt_len (af (ae (pv 2)) au))) (aa (pL Cf (by rfl))) (bu _)) (sx CA xZ rfl (by rfl) (af (aa (dR BL (by decide))) au)))))
abbrev jT:Stmt:=top 18
theorem qv:FnScope ["marking","other"] ["marking","other"] (defScope jT):=fs
theorem qw(Df:Def K mg "covers" jT)(Es:mg "all" = none)(DZ:mg "zip" = none):Ct P w K mg base "covers" 1 (spF K dM):=
 eK Df qv (fun _ _ _ _ _ _=>wU fun _ _=>rfl) fun f CB A outer s H E hr=>
  (ax (aO (a9 (uh rfl) (by rfl) Es uu (af (aa (fK [none,none] ["beads","fewer"] rfl (dX (lW (by rfl) DZ (af (aa (aD (pv 0))) (af (aa (aD (pv 1))) au)))) (fun _ _ _ _ _=>(have h:=(show List.Nodup (["beads","fewer"]:List Str) from by decide +kernel);(kN rfl (bP (aY (i:=0) h rfl (lo rfl)) (bP (aY (i:=1) h rfl (lo rfl)) ig))))) (fun _ _ _ _ _=>dG) (fun _ _ _ _ _=>(ub (mR hr.units0) (ae (pv 0)) (ae (pv 1)) (bu _))))) au))))
abbrev cb:Stmt:=top 19
theorem b8:FnScope ["met","number","ahead"] ["met","number"] (defScope cb):=fs
theorem fQ(Df:Def K mg "nearest_covered" cb)(GK:Ct P w K mg base "covers" 1 (spF K dM)):Ct P w K mg base "nearest_covered" 2 (spF K aK):=
 eK Df b8 (fun _ _ _ _ _ _=>wU fun _ _=>rfl) fun f CB A outer s H E hr=>
  (ah (aH (i:=2) b8.nd rfl (lo rfl) (aJ (aa (aJ (ae (pv 0)) (ae (pv 1)))) (aa ak)))
  (ah (jI 100000 N4 (QW.qt (uc (bQ p5 (ae (pv 2)) (aa ia) (bu _)) (pO (cA (cz (bo GK hr.m (by rfl) (af (aa (aJ (aa (aJ (ae (pv 0)) (ae (pv 1)))) (aa ak))) (af (aa (aJ (aa (aJ (ae (pv 0)) (ae (pv 2)))) (aa ak))) au))))))))
  (ax (aH (i:=2) b8.nd rfl (lo rfl) (aJ (aa (aJ (ae (pv 0)) (ae (pv 2)))) (aa ak)))))
  (ax (aO (pM (pv 2))))))
abbrev e9:Stmt:=top 20
theorem cv:FnScope ["net","met","number","ahead","way"] ["net"] (defScope e9):=fs
theorem lh(Df:Def K mg "growth_of" e9)(C3:Ct P w K mg base "explored" 3 (spF K aU))(D0:Ct P w K mg base "nearest_covered" 2 (spF K aK))(Cf:Gi mg "MOST_STATES" (12))(Cw:mg "len" = none)(C7:mg "range" = none):Ct P w K mg base "growth_of" 4 (spF K bB):=
 eK Df cv (fun _ _ _ _ _ _=>uz fun _=>rfl) fun f CB A outer s H E hr=>
  (ah (aH (i:=1) cv.nd rfl (lo rfl) (aJ (aa (bo C3 hr.m (by rfl) (af (ae (pv 0)) au))) (aa ak)))
  (ah (cK (fB yg (aa (a9 bR (by rfl) Cw bt_len (af (ae (pv 1)) au))) (aa (pL Cf (by rfl))) (bu _))
  (ax (aO (aT (aj (dR A4 (by decide)) (aj (a9 bR (by rfl) Cw bt_len (af (ae (pv 1)) au)) az)))))
  aX)
  (ah (ij N4 rfl (ik (by rfl) C7 (aa (bh bM (aa (pL Cf (by rfl))) (aa ak)))) (aY (i:=2) cv.nd rfl (lo rfl))
  (ah (aH (i:=3) cv.nd rfl (lo rfl) (bo D0 hr.m (by rfl) (af (ae (pv 1)) (af (ae (pv 2)) au))))
  (ax (cK (bQ p5 (ae (pv 3)) (aa ia) (bu _))
  (ah (aH (i:=4) cv.nd rfl (lo rfl) (aJ (aa (aJ (ae (pv 1)) (ae (pv 3)))) (aa ak)))
  (ax (aO (aT (aj (dR A3 (by decide)) (aj (aD (pv 4)) (aj (qg (aa (aJ (aa (aJ (ae (pv 1)) (ae (pv 2)))) (aa ak))) (lQ (a9 bR (by rfl) Cw bt_len (af (ae (pv 4)) au))) lP) az)))))))
  aX))))
  (ax (aO (aT (aj (dR A2 (by decide)) az)))))))
abbrev dg:Stmt:=top 22
theorem iK:FnScope ["_law_script","_law_k"] ["_law_script","_law_k"] (defScope dg):=fs
theorem iL(Df:Def K mg "_law_cell_at" dg)(Cw:mg "len" = none):Ct P w K mg base "_law_cell_at" 1 (spF K aw):=
 eK Df iK (fun _ _ _ _ _ _=>wU fun _ _=>rfl) fun f CB A outer s H E hr=>
  (ah (cK (fB (uo hr.units0) (ae (pv 1)) (aa (a9 bR (by rfl) Cw bt_len (af (ae (pv 0)) au))) (bu _))
  (ax (aO (aJ (ae (pv 0)) (ae (pv 1)))))
  aX)
  (ax (aO ak)))
abbrev d9:Stmt:=top 23
theorem dN:FnScope ["_law_cell","_law_k","_law_number"] ["_law_cell","_law_k"] (defScope d9):=fs
theorem jU(Df:Def K mg "_law_mixed" d9):Ct P w K mg base "_law_mixed" 1 (spF K bz):=
 eK Df dN (fun _ _ _ _ _ _=>wU fun _ _=>rfl) fun f CB A outer s H E hr=>
  (ah (aH (i:=2) dN.nd rfl (lo rfl) (bh bM (aa (bh cW (ae (pv 0)) (aa ak))) (aa (bh dY (aa ak) (aa (bh bM (ae (pv 1)) (aa ak)))))))
  (ah (aH (i:=2) dN.nd rfl (lo rfl) (bh cW (aa (bh bM (aa (bh dY (ae (pv 2)) (ae (pv 2)))) (aa (bh dY (aa ak) (ae (pv 1)))))) (aa ak)))
  (ax (aO (bh cW (aa (bh bM (aa (bh bM (aa (bh dY (ae (pv 2)) (ae (pv 2)))) (aa (bh dY (aa ak) (ae (pv 1)))))) (aa ak))) (aa ak))))))
abbrev eg:Stmt:=top 24
theorem aN:FnScope ["_law_cell","_law_letters","_law_base","_law_width","_law_spot","_law_names_here","_law_k","_law_moved_on"] ["_law_cell"] (defScope eg):=fs
theorem jV(Df:Def K mg "_law_names" eg)(ES:Ct P w K mg base "_law_mixed" 1 (spF K bz))(C7:mg "range" = none)(Dr:mg "sorted" = none):Ct P w K mg base "_law_names" 2 (spF K bU):=
 eK Df aN (fun _ _ _ _ _ _=>uz fun _=>rfl) fun f CB A outer s H E hr=>
  (ah (aH (i:=1) aN.nd rfl (lo rfl) (dR BP (by decide)))
  (ah (g0 (i:=2) [none,some 0] ["_law_j","_law_cell"] aN.nd rfl (lo rfl) rfl (dX (ik (by rfl) C7 (aa ak))) (fun _ _ _ _ _=>(aY (i:=0) (show List.Nodup (["_law_j","_law_cell"]:List Str) from by decide +kernel) rfl (lo rfl))) (fun _ _ _ _ _=>dG) (fun _ _ _ _ _=>(bh cW (aa (bo ES hr.m (by rfl) (af (ae (pv 1)) (af (ae (pv 0)) au)))) (aa ak))))
  (ah (aH (i:=3) aN.nd rfl (lo rfl) (bh bM (aa ak) (aa (bh cW (ae (pv 0)) (aa ak)))))
  (ah (aH (i:=4) aN.nd rfl (lo rfl) (bh cW (aa (bh pW (ae (pv 0)) (aa ak))) (ae (pv 3))))
  (ah (aH (i:=5) aN.nd rfl (lo rfl) (il az))
  (ah (ij N4 rfl (ik (by rfl) C7 (aa ak)) (aY (i:=6) aN.nd rfl (lo rfl))
  (ah (aH (i:=7) aN.nd rfl (lo rfl) (qg (ae (pv 2)) lP (lQ (aD (pv 3)))))
  (ah (vZ (pv 7) (aD (pv 4)) (bh cW (aa (bh bM (aa (aJ (ae (pv 7)) (ae (pv 4)))) (ae (pv 6)))) (aa ak)))
  (ah (cK (bQ (oi hr.units) (aa (bh cW (aa (bh pW (ae (pv 0)) (aa ak))) (aa ak))) (aa ak) (bu _))
  (ax (aH (i:=7) aN.nd rfl (lo rfl) (qg (ae (pv 2)) lP (lQ (bh bM (ae (pv 6)) (aa ak))))))
  aX)
  (ax (f9 (dU (pv 5) (yt PySem.F.slot_str_join PySem.F.type_str_join v7 (aa (dR BO (by decide))) (af (aa (fK [none,some 1] ["_law_j","_law_letters"] rfl (mT (qe (pv 7)) (mT (dX (pT (aD (pv 7)))) (dX (pU (aD (pv 7)))))) (fun _ _ _ _ _=>(aY (i:=0) (show List.Nodup (["_law_j","_law_letters"]:List Str) from by decide +kernel) rfl (lo rfl))) (fun _ _ _ _ _=>dG) (fun _ _ _ _ _=>(aJ (ae (pv 1)) (ae (pv 0)))))) au)))))))))
  (ah (cK (bQ (yz hr.u65) (aa (dR BM (by decide))) (ae (pv 5)) (by with_unfolding_all rfl))
  (ax (g0 (i:=5) [none] ["_law_name"] aN.nd rfl (lo rfl) rfl (mT (qe (pv 5)) (mT (dX (pT (aD (pv 5)))) (dX (pU (aD (pv 5)))))) (fun _ _ _ _ _=>(aY (i:=0) (show List.Nodup (["_law_name"]:List Str) from by decide +kernel) rfl (lo rfl))) (fun _ _ _ _ _=>dG) (fun _ _ _ _ _=>(bh bM (aa (dR BN (by decide))) (ae (pv 0))))))
  aX)
  (ax (aO (a9 (p9 rfl) (by rfl) Dr qc (af (ae (pv 5)) au)))))))))))
abbrev eh:Stmt:=top 25
theorem jW:FnScope ["_law_found"] ["_law_found"] (defScope eh):=fs
theorem jX(Df:Def K mg "_law_whole" eh)(Et:mg "bool" = none)(Fh:mg "int" = none)(Cb:mg "isinstance" = none):Ct P w K mg base "_law_whole" 1 (spF K m__law_whole):=
 eK Df jW (fun _ _ _ _ _ _=>uz fun _=>rfl) fun f CB A outer s H E hr=>
  (ax (aO (mH (iw (T:="int") (by decide) (ae (pv 0)) (by rfl) Cb (by rfl) Fh xK) (mG (yb (iw (T:="bool") (by decide) (ae (pv 0)) (by rfl) Cb (by rfl) Et vf))))))
abbrev cQ:Stmt:=top 26
theorem cy:FnScope ["_law_found","_law_chart","_law_name","_law_arc"] ["_law_found","_law_chart"] (defScope cQ):=fs
theorem gU(Df:Def K mg "_law_is_chart" cQ)(CC:Ct P w K mg base "_law_whole" 1 (spF K m__law_whole))(Cb:mg "isinstance" = none)(Cw:mg "len" = none)(Dj:mg "list" = none)(Fi:mg "str" = none)(Cv:mg "tuple" = none):Ct P w K mg base "_law_is_chart" 2 (spF K a8):=
 eK Df cy (fun _ _ _ _ _ _=>wU fun _ _=>rfl) fun f CB A outer s H E hr=>
  (ah (cK (QW.qt (gP (cA (cz (iw (T:="tuple") (by decide) (ae (pv 0)) (by rfl) Cb (by rfl) Cv cT))) (gP (bQ (oj hr.units) (aa (a9 bR (by rfl) Cw bt_len (af (ae (pv 0)) au))) (aa ak) (bu _)) (fC (cA (cz (iw (T:="tuple") (by decide) (aa (aJ (ae (pv 0)) (aa ak))) (by rfl) Cb (by rfl) Cv cT)))))))
  (ax (aO f7))
  aX)
  (ah (cK (QW.qt (gP (cA (cz (iw (T:="list") (by decide) (aa (aJ (ae (pv 0)) (aa ak))) (by rfl) Cb (by rfl) Dj lD))) (fC (bQ (oj hr.units) (ae (pv 0)) (ae (pv 1)) (bu _)))))
  (ax (aO f7))
  aX)
  (ah (ij N4 rfl (gH (aJ (ae (pv 0)) (aa ak))) (aY (i:=2) cy.nd rfl (lo rfl))
  (ax (cK (cA (cz (iw (T:="str") (by decide) (ae (pv 2)) (by rfl) Cb (by rfl) Fi xJ)))
  (ax (aO f7))
  aX)))
  (ah (ij N4 rfl (gH (aJ (ae (pv 0)) (aa ak))) (aY (i:=3) cy.nd rfl (lo rfl))
  (ax (cK (QW.qt (gP (cA (cz (iw (T:="tuple") (by decide) (ae (pv 3)) (by rfl) Cb (by rfl) Cv cT))) (gP (cA (cz (bo CC hr.m (by rfl) (af (aa (aJ (ae (pv 3)) (aa ak))) au)))) (fC (cA (cz (bo CC hr.m (by rfl) (af (aa (aJ (ae (pv 3)) (aa ak))) au))))))))
  (ax (aO f7))
  aX)))
  (ax (aO f7))))))
abbrev bS:Stmt:=top 27
theorem bN:FnScope ["_law_found","_law_due_here","_law_marking","_law_beads"] ["_law_found","_law_due_here"] (defScope bS):=fs
theorem eQ(Df:Def K mg "_law_are_markings" bS)(CC:Ct P w K mg base "_law_whole" 1 (spF K m__law_whole))(Cb:mg "isinstance" = none)(Dj:mg "list" = none)(Cv:mg "tuple" = none):Ct P w K mg base "_law_are_markings" 2 (spF K aG):=
 eK Df bN (fun _ _ _ _ _ _=>wU fun _ _=>rfl) fun f CB A outer s H E hr=>
  (ah (cK (QW.qt (gP (cA (cz (iw (T:="list") (by decide) (ae (pv 0)) (by rfl) Cb (by rfl) Dj lD))) (fC (bQ (oj hr.units) (ae (pv 0)) (ae (pv 1)) (bu _)))))
  (ax (aO f7))
  aX)
  (ah (ij N4 rfl (gH (aD (pv 0))) (aY (i:=2) bN.nd rfl (lo rfl))
  (ah (cK (cA (cz (iw (T:="tuple") (by decide) (ae (pv 2)) (by rfl) Cb (by rfl) Cv cT)))
  (ax (aO f7))
  aX)
  (ax (ij N4 rfl (gH (aD (pv 2))) (aY (i:=3) bN.nd rfl (lo rfl))
  (ax (cK (cA (cz (bo CC hr.m (by rfl) (af (ae (pv 3)) au))))
  (ax (aO f7))
  aX))))))
  (ax (aO f7))))
abbrev gq:Stmt:=top 28
theorem dO:FnScope ["_law_move","_law_beads","_law_take","_law_give","_law_markings","_law_arcs"] ["_law_move","_law_beads","_law_take","_law_give"] (defScope gq):=fs
theorem l0(Df:Def K mg "_law_due" gq)(Cw:mg "len" = none):Ct P w K mg base "_law_due" 1 (spF K bf):=
 eK Df dO (fun _ _ _ _ _ _=>BK fun _ _ _ _=>rfl) fun f CB A outer s H E hr=>
  (ah (aH (i:=4) dO.nd rfl (lo rfl) (il (aj (aT (aj (aD (pv 1)) az)) az)))
  (ah (aH (i:=5) dO.nd rfl (lo rfl) (il az))
  (ah (cK (QW.qt (uc (fB (mR hr.units0) (ae (pv 1)) (ae (pv 2)) (bu _)) (pO (bQ (oi hr.units) (ae (pv 2)) (ae (pv 3)) (bu _)))))
  (ax (aO (aT (aj (aT (aj (aD (pv 0)) az)) (aj (il (aj (aT (aj ak (aj (aD (pv 0)) (aj ak az)))) az)) (aj (aD (pv 4)) az))))))
  aX)
  (ah (jI 100000 N4 (fB (mR hr.units0) (ae (pv 1)) (ae (pv 2)) (bu _))
  (ah (cK (QW.qt (gP (fB pX (ae (pv 3)) (ae (pv 2)) (bu _)) (fC (bQ (oi hr.units) (aa (a9 bR (by rfl) Cw bt_len (af (ae (pv 4)) au))) (aa ak) (bu _)))))
  (ax (aO ia))
  aX)
  (ah (aH (i:=1) dO.nd rfl (lo rfl) (bh bM (aa (bh pV (ae (pv 1)) (ae (pv 2)))) (ae (pv 3))))
  (ah (f9 (dU (pv 5) (aT (aj (bh pV (aa (a9 bR (by rfl) Cw bt_len (af (ae (pv 4)) au))) (aa ak)) (aj (aD (pv 0)) (aj (a9 bR (by rfl) Cw bt_len (af (ae (pv 4)) au)) az))))))
  (ax (f9 (dU (pv 4) (aT (aj (aD (pv 1)) az)))))))))
  (ax (aO (aT (aj (aT (aj (aD (pv 0)) az)) (aj (aD (pv 5)) (aj (aD (pv 4)) az))))))))))
abbrev dh:Stmt:=top 29
theorem bK:FnScope ["_law_net","_law_refused_here","e","_law_other"] ["_law_net"] (defScope dh):=fs
theorem iM(Df:Def K mg "_law_refused" dh){CU:Addr}{Dc:Addr}{C4:Addr}{Ds:Addr}{Dt:Addr}{CN:Addr}{De:Addr}{CJ:Addr}{Ce:Addr}(Ga:CtX P w K mg base "run_of" 4 Ce (spX K Ce x_run_of))(Eu:Ct P w K mg base "run_of" 4 (spF K bZ))(FD:mg "NetError" = some (.ref CU))(GL:mg "NoCase" = some (.ref Dc))(Gb:mg "NoChart" = some (.ref C4))(HD:mg "NoNet" = some (.ref Ds))(HE:mg "NoRun" = some (.ref Dt))(Fj:mg "NoStretch" = some (.ref CN))(GN:mg "NoText" = some (.ref De))(ET:mg "OtherMoves" = some (.ref CJ))(Ck:PySem.W.kitOne K (.ref Ce) (.type "ValueError")=some true)(B8:PySem.W.kitAny K (.ref Ce) [.ref Dc,.ref C4,.ref Ds,.ref Dt,.ref CN,.ref De,.ref CJ]=some false)(Co:PySem.W.kitOne K (.ref Ce) (.ref CU)=some true)(CL:Asks K Ce)(CA:IX mg base "TooGreat" Ce)(CO:mg "ValueError" = none)(Cb:mg "isinstance" = none):Ct P w K mg base "_law_refused" 5 (spF K m__law_refused):=
 eK Df bK (fun _ _ _ _ _ _=>uz fun _=>rfl) fun f CB A outer s H E hr=>
  (ah (aH (i:=1) bK.nd rfl (lo rfl) f7)
  (ah (sI (i:=2) CA (by rfl) (ax (f9 (bo Eu hr.m (by rfl) (af (ae (pv 0)) au)))) (sy (v9 Ga hr.m (by rfl) (af (ae (pv 0)) au))) (fun a o vs h1 h2=>(uy (j:=3) bK.nd rfl (Or.inl rfl) (yH M7 h1 h2 CL (pv 2) (by rfl) Cb (e8 (by rfl) GL (e8 (by rfl) Gb (e8 (by rfl) HD (e8 (by rfl) HE (e8 (by rfl) Fj (e8 (by rfl) GN (e8 (by rfl) ET yI))))))) (by show(7:Nat)<=100;decide) B8)
  (uy (j:=1) bK.nd rfl (Or.inl rfl) (ux (Av M7 h1 h2 CL (pv 2) (by rfl) Cb (by rfl) FD Co) (ux (yG M7 h1 h2 CL (pv 2) (by rfl) Cb (by rfl) CO (by decide +kernel) Ck) (yD (yE (yF (pv 3))))))
  yJ (by decide)) (by decide))) rfl bK.nd rfl rfl rfl)
  (ax (aO (pM (pv 1))))))
abbrev jY:Stmt:=top 30
theorem ej:FnScope ["_law_script","_law_move","_law_factor","_law_beads","_law_take","_law_give","_law_net","_law_handed","_law_due_here","_law_growth","_law_found"] ["_law_script"] (defScope jY):=fs
theorem yL{f:Addr}{fd:FuncData}(F:Fun K "law" "law" jY f fd)(DH:Ct P w K mg base "_law_are_markings" 2 (spF K aG))(Cp:Ct P w K mg base "_law_cell_at" 1 (spF K aw))(FE:Ct P w K mg base "_law_due" 1 (spF K bf))(Eh:Ct P w K mg base "_law_is_chart" 2 (spF K a8))(EU:Ct P w K mg base "_law_names" 2 (spF K bU))(Du:Ct P w K mg base "_law_refused" 5 (spF K m__law_refused))(CC:Ct P w K mg base "_law_whole" 1 (spF K m__law_whole))(Fl:Ct P w K mg base "growth_of" 4 (spF K bB))(Eu:Ct P w K mg base "run_of" 4 (spF K bZ))(Cb:mg "isinstance" = none)(Cw:mg "len" = none)(Dj:mg "list" = none)(Cv:mg "tuple" = none):FnOk P w K mg base Gu 6 f fd ["_law_script"] (spF K wa):=
 fnok_of F ej fun CB A outer s H E hr=>
  (ah (aH (i:=1) ej.nd rfl (lo rfl) (aJ (aa (bo EU hr.m (by rfl) (af (aa (bo Cp hr.m (by rfl) (af (ae (pv 0)) (af (aa ak) au)))) au))) (aa (bh cW (aa (bo Cp hr.m (by rfl) (af (ae (pv 0)) (af (aa ak) au)))) (aa ak)))))
  (ah (aH (i:=2) ej.nd rfl (lo rfl) (bh bM (aa ak) (aa (bh cW (aa (bo Cp hr.m (by rfl) (af (ae (pv 0)) (af (aa ak) au)))) (aa (bh yf (aa ak) (aa ak)))))))
  (ah (aH (i:=3) ej.nd rfl (lo rfl) (bh bM (aa (bh dY (ae (pv 2)) (aa (bh cW (aa (bo Cp hr.m (by rfl) (af (ae (pv 0)) (af (aa ak) au)))) (aa ak))))) (aa (bh cW (aa (bo Cp hr.m (by rfl) (af (ae (pv 0)) (af (aa ak) au)))) (ae (pv 2))))))
  (ah (aH (i:=4) ej.nd rfl (lo rfl) (bh dY (ae (pv 2)) (aa (bh cW (aa (bo Cp hr.m (by rfl) (af (ae (pv 0)) (af (aa ak) au)))) (aa ak)))))
  (ah (aH (i:=5) ej.nd rfl (lo rfl) (bh dY (ae (pv 2)) (aa (bh cW (aa (bo Cp hr.m (by rfl) (af (ae (pv 0)) (af (aa ak) au)))) (aa ak)))))
  (ah (aH (i:=6) ej.nd rfl (lo rfl) (aT (aj (aT (aj (aD (pv 1)) az)) (aj (il (aj (aT (aj (aD (pv 3)) (aj (aT (aj (aD (pv 4)) az)) (aj (aT (aj (aD (pv 5)) az)) az)))) az)) az))))
  (ah (aH (i:=7) ej.nd rfl (lo rfl) (aT (aj (aT (aj (aD (pv 1)) az)) (aj (ic vO (by rfl) Dj lD (af (aa (aJ (ae (pv 6)) (aa ak))) au)) az))))
  (ah (aH (i:=8) ej.nd rfl (lo rfl) (bo FE hr.m (by rfl) (af (ae (pv 1)) (af (ae (pv 3)) (af (ae (pv 4)) (af (ae (pv 5)) au))))))
  (ah (aH (i:=9) ej.nd rfl (lo rfl) (bo Fl hr.m (by rfl) (af (ae (pv 7)) au)))
  (ah (cK (QW.qt (gP (cA (cz (iw (T:="tuple") (by decide) (ae (pv 9)) (by rfl) Cb (by rfl) Cv cT))) (fC (bQ (oj hr.units) (ae (pv 7)) (ae (pv 6)) (bu _)))))
  (ax (aO f7))
  aX)
  (ah (cK (QW.qt (gP (bQ Am (ae (pv 8)) (aa ia) (bu _)) (fC (fB pX (aa (a9 bR (by rfl) Cw bt_len (af (aa (aJ (ae (pv 8)) (aa ak))) au))) (aa ak) (bu _)))))
  (ah (cK (fB pX (ae (pv 5)) (ae (pv 4)) (bu _))
  (ax (aO (mH (bo Du hr.m (by rfl) (af (ae (pv 7)) au)) (mG (lN (oi hr.units) (ae (pv 9)) (aa (aT (aj (dR A3 (by decide)) (aj (aT az) (aj (aT (aj (aD (pv 1)) az)) az))))) (bu _))))))
  aX)
  (ax (aO (mH (bo Du hr.m (by rfl) (af (ae (pv 7)) au)) (mG (lN (oi hr.units) (ae (pv 9)) (aa (aT (aj (dR A2 (by decide)) az))) (bu _)))))))
  aX)
  (ah (aH (i:=10) ej.nd rfl (lo rfl) (bo Eu hr.m (by rfl) (af (ae (pv 7)) au)))
  (ah (cK (QW.qt (gP (cA (cz (iw (T:="tuple") (by decide) (ae (pv 10)) (by rfl) Cb (by rfl) Cv cT))) (gP (bQ (oj hr.units) (aa (a9 bR (by rfl) Cw bt_len (af (ae (pv 10)) au))) (aa ak) (bu _)) (fC (cA (cz (bo Eh hr.m (by rfl) (af (aa (aJ (ae (pv 10)) (aa ak))) (af (aa (aT (aj (aJ (ae (pv 8)) (aa ak)) (aj (aJ (ae (pv 8)) (aa ak)) az)))) au)))))))))
  (ax (aO f7))
  aX)
  (ah (cK (QW.qt (gP (cA (cz (bo DH hr.m (by rfl) (af (aa (aJ (ae (pv 10)) (aa ak))) (af (aa (aJ (ae (pv 8)) (aa ak))) au))))) (fC (bQ (oj hr.units) (ae (pv 9)) (aa (aT (aj (dR A4 (by decide)) (aj (a9 bR (by rfl) Cw bt_len (af (aa (aJ (ae (pv 8)) (aa ak))) au)) az)))) (bu _)))))
  (ax (aO f7))
  aX)
  (ax (aO (mH (bo CC hr.m (by rfl) (af (aa (aJ (ae (pv 9)) (aa ak))) au)) (mG (lN (oi hr.units) (ae (pv 7)) (ae (pv 6)) (bu _))))))))))))))))))))
end
end LW
namespace PV
open PySem L2 NX
class Cont (α β:Type) where
 run:α->Res β
def Res.bnd{α β:Type}[f:Cont α β](x:Res α):Res β:=x.bind f.run
theorem Dv{α β:Type}(a:α)(f:α->Res β):Res.bnd (Res.ok a) (f:=⟨f⟩)=f a:=id rfl
section
variable(env:PV.Env)(i n:Nat)(d:D)(f g:FX)(c c':FT)(fo JU KC:FO)(fs:DB)(fd:FDs)(s t:FS)(op He:D->D->Res R)(F:List D->Res R)(a:FG)(as:Hx)(fi fj:FI)(fp Cg:FP)(T:String)
theorem Ji:aB d env=.ok ((.f,d),env):=id rfl
theorem F1:aV i env=match env[i]? with|some (some r)=>.ok ((.f,r.2),env.set i (some (fz r.1,r.2)))|_=>.bad:=id rfl
theorem KD:fz .f=.f:=id rfl
theorem KG(c:O):fz (.l c)=.f:=id rfl
theorem GO(p:Addr):t9 (.pin p .d)=true:=id rfl
theorem HF:pK i env=match env[i]? with|some (some r)=>.ok (r,env.set i none)|_=>.bad:=id rfl
theorem Jj:aq f env=Res.bnd (f env) (f:=⟨fun p=>.ok (.val p.1.2,p.2)⟩):=id rfl
theorem Jk:ao i env=match env[i]? with|some (some _)=>.ok (.var i,env)|_=>.bad:=id rfl
theorem HG:aF env=.ok ([],env):=id rfl
theorem GP:ai fo fs env=Res.bnd (fo env) (f:=⟨fun p=>Res.bnd (fs p.2) (f:=⟨fun q=>.ok (p.1::q.1,q.2)⟩)⟩):=id rfl
theorem HI:a7 env=.ok ([],env):=id rfl
theorem GQ:av f fd env=Res.bnd (f env) (f:=⟨fun p=>Res.bnd (fd p.2) (f:=⟨fun q=>.ok (p.1.2::q.1,q.2)⟩)⟩):=id rfl
theorem Jl:DA env (.val d)=.ok d:=id rfl
theorem Jm:DA env (.var i)=match env[i]? with|some (some r)=>if t9 r.1 then .ok r.2 else .bad|_=>.bad:=id rfl
theorem HJ:nW env (.val d)=.ok d:=id rfl
theorem HK:nW env (.var i)=match env[i]? with|some (some r)=>.ok r.2|_=>.bad:=id rfl
theorem HL:mE env []=.ok []:=id rfl
theorem HM(o:Opd)(os:List Opd):mE env (o::os)=Res.bnd (DA env o) (f:=⟨fun d=>Res.bnd (mE env os) (f:=⟨fun ds=>.ok (d::ds)⟩)⟩):=id rfl
theorem GR:ja env []=.ok []:=id rfl
theorem GS(o:Opd)(os:List Opd):ja env (o::os)=Res.bnd (nW env o) (f:=⟨fun d=>Res.bnd (ja env os) (f:=⟨fun ds=>.ok (d::ds)⟩)⟩):=id rfl
theorem HN:t9 .f=true:=id rfl
theorem HP:t9 (.l .f)=true:=id rfl
theorem HQ:t9 .d=true:=id rfl
theorem Jn:aE op fo JU env=Res.bnd (fo env) (f:=⟨fun p=>Res.bnd (JU p.2) (f:=⟨fun q=>Res.bnd (DA q.2 p.1) (f:=⟨fun a=>Res.bnd (DA q.2 q.1) (f:=⟨fun b=>Res.bnd (op a b) (f:=⟨fun r=>.ok (r,q.2)⟩)⟩)⟩)⟩)⟩):=id rfl
theorem HR:bV op fo JU env=Res.bnd (fo env) (f:=⟨fun p=>Res.bnd (JU p.2) (f:=⟨fun q=>Res.bnd (nW q.2 p.1) (f:=⟨fun a=>Res.bnd (nW q.2 q.1) (f:=⟨fun b=>Res.bnd (op a b) (f:=⟨fun r=>.ok (r,q.2)⟩)⟩)⟩)⟩)⟩):=id rfl
theorem KH:CF f env=Res.bnd (f env) (f:=⟨fun p=>match p.1.2 with | .bl k=>.ok (k,p.2)|_=>.bad⟩):=id rfl
theorem Jo:ya c c' env=Res.bnd (c env) (f:=⟨fun p=>if p.1 then c' p.2 else .ok (false,p.2)⟩):=id rfl
theorem KI:ER c c' env=Res.bnd (c env) (f:=⟨fun p=>if p.1 then .ok (true,p.2) else c' p.2⟩):=id rfl
theorem Jp:ib c env=Res.bnd (c env) (f:=⟨fun p=>.ok (!p.1,p.2)⟩):=id rfl
theorem Jq:rY f g env=Res.bnd (f env) (f:=⟨fun p=>match p.1.2 with | .bl true=>g p.2 | .bl false=>.ok ((.f,.bl false),p.2)|_=>.bad⟩):=id rfl
theorem Jr:Ad f env=Res.bnd (f env) (f:=⟨fun p=>match p.1.2 with | .bl k=>.ok ((.f,.bl (!k)),p.2)|_=>.bad⟩):=id rfl
theorem GU:kM op He fo JU KC env=Res.bnd (fo env) (f:=⟨fun p=>Res.bnd (JU p.2) (f:=⟨fun q=>Res.bnd (DA q.2 p.1) (f:=⟨fun a=>Res.bnd (DA q.2 q.1) (f:=⟨fun b=>Res.bnd (op a b) (f:=⟨fun r=>match r with
 |(.f,.bl true)=>Res.bnd (KC q.2) (f:=⟨fun t=>Res.bnd (DA t.2 q.1) (f:=⟨fun b=>Res.bnd (DA t.2 t.1) (f:=⟨fun c=>Res.bnd (He b c) (f:=⟨fun r=>.ok (r,t.2)⟩)⟩)⟩)⟩)
 |(.f,.bl false)=>.ok ((.f,.bl false),q.2)
 |_=>.bad⟩)⟩)⟩)⟩)⟩):=id rfl
theorem HS:bW F fs env=Res.bnd (fs env) (f:=⟨fun p=>Res.bnd (mE p.2 p.1) (f:=⟨fun ds=>Res.bnd (F ds) (f:=⟨fun r=>.ok (r,p.2)⟩)⟩)⟩):=id rfl
theorem Js:dj F fs env=Res.bnd (fs env) (f:=⟨fun p=>Res.bnd (ja p.2 p.1) (f:=⟨fun ds=>Res.bnd (F ds) (f:=⟨fun r=>.ok (r,if bT r.1 r.2 then p.2 else p.2.map frz)⟩)⟩)⟩):=id rfl
theorem Jt:dD fd env=Res.bnd (fd env) (f:=⟨fun p=>if p.1.length<=1000 then .ok ((.f,.tup p.1),p.2) else .bad⟩):=id rfl
theorem Ju:sf fd env=Res.bnd (fd env) (f:=⟨fun p=>if p.1.length<=1000 then .ok ((.l .f,.lst p.1),p.2) else .bad⟩):=id rfl
theorem HU:pY env=.ok (none,env):=id rfl
theorem HV:pZ f env=Res.bnd (f env) (f:=⟨fun p=>match p.1.2 with | .int i=>.ok (some i,p.2)|_=>.bad⟩):=id rfl
theorem Jv:ug i f env=if p3 env i then(Res.bnd (f env) (f:=⟨fun(p:R×PV.Env)=>match p.2[i]? with
 |some (some (.l .f,.lst ds))=>if ds.length<sizeLine then .ok ((.f,.non),p.2.set i (some (.l .f,.lst (ds++[p.1.2])))) else .bad
 |_=>.bad⟩)) else .bad:=id rfl
theorem HW:p3 env i=match env[i]? with|some (some (_,.lst _))=>true|_=>false:=id rfl
theorem KJ:Fy T fo env=Res.bnd (fo env) (f:=⟨fun p=>Res.bnd (nW p.2 p.1) (f:=⟨fun d=>.ok ((.f,.bl (kX T d)),p.2)⟩)⟩):=id rfl
theorem Jw(gg:List Nat->List D->Res R):An gg fo fs env=Res.bnd (fo env) (f:=⟨fun p=>match DA p.2 p.1 with
 | .ok (.str l)=>Res.bnd (fs p.2) (f:=⟨fun q=>Res.bnd (mE q.2 q.1) (f:=⟨fun ds=>Res.bnd (gg l ds) (f:=⟨fun r=>.ok (r,q.2)⟩)⟩)⟩)
 |_=>.bad⟩):=id rfl
theorem HX(ix:List (Option Nat)):fE fi ix a c f env=Res.bnd (fi env) (f:=⟨fun p=>Res.bnd (dq a c f p.1 (cM ix p.2)) (f:=⟨fun ds=>if ds.length<=sizeLine then .ok ((.l .f,.lst ds),if flatDs ds then p.2 else p.2.map frz) else .bad⟩)⟩):=id rfl
theorem FF:cM [] env=[]:=id rfl
theorem FH(ix:List (Option Nat)):cM (none::ix) env=none::cM ix env:=id rfl
theorem FJ(ix:List (Option Nat)):cM (some i::ix) env=(match env[i]? with|some (some r)=>some (O.f,r.2)|_=>none)::cM ix env:=id rfl
theorem yM:i5 env=.ok (true,env):=id rfl
theorem sM(ds:List D):dq a c f (d::ds) env=Res.bnd (a d env) (f:=⟨fun e=>Res.bnd (c e) (f:=⟨fun p=>if p.1 then(Res.bnd (f p.2) (f:=⟨fun q=>Res.bnd (dq a c f ds q.2) (f:=⟨fun rs=>.ok (q.1.2::rs)⟩)⟩)) else dq a c f ds p.2⟩)⟩):=id rfl
theorem yN:yc f env=Res.bnd (f env) (f:=⟨fun p=>match p.1.2 with | .lst ds=>.ok (ds,p.2)|_=>.bad⟩):=id rfl
theorem qx:kO f env=Res.bnd (f env) (f:=⟨fun p=>match p.1.2 with | .tup ds=>.ok (ds,p.2)|_=>.bad⟩):=id rfl
theorem qy:kQ f env=Res.bnd (f env) (f:=⟨fun p=>match p.1.2 with | .str l=>.ok (l.map fun c=>.str [c],p.2)|_=>.bad⟩):=id rfl
theorem l5:EH fi fj env=match fi env with | .ok a=>.ok a|_=>fj env:=by
 unfold EH;cases fi env <;> rfl
theorem Jx:EH (yc f) (EH (kO f) (kQ f)) env=Res.bnd (f env) (f:=⟨fun p=>match p.1.2 with
 | .lst ds=>.ok (ds,p.2)
 | .tup ds=>.ok (ds,p.2)
 | .str l=>.ok (l.map fun c=>.str [c],p.2)
 |_=>.bad⟩):=by
 rw[l5,l5,yN,qx,qy];cases f env with
 |ok p=>
  obtain⟨⟨o,d⟩,e⟩:=p;cases d <;> rfl
 |exc c=>rfl
 |bad=>rfl
theorem HY:EH (ou i) (EH (kO (aV i)) (kQ (aV i))) env=match env[i]? with
 |some (some (_,.lst ds))=>.ok (ds,env)
 |some (some (o,.tup ds))=>.ok (ds,env.set i (some (fz o,.tup ds)))
 |some (some (o,.str l))=>.ok (l.map fun c=>.str [c],env.set i (some (fz o,.str l)))
 |_=>.bad:=by
 rw[l5,l5,qx,qy,F1];unfold ou;cases env[i]? with
 |none=>rfl
 |some r=>
  cases r with
  |none=>rfl
  |some r=>
   obtain⟨o,d⟩:=r;cases d <;> rfl
theorem EK:eZ fo env=Res.bnd (fo env) (f:=⟨fun p=>Res.bnd (DA p.2 p.1) (f:=⟨fun d=>match d with
 | .int j=>if -4611686018427387904<=j/\j<4611686018427387904 then .ok ((List.range j.toNat).map fun(k:Nat)=>D.int (k:Int),p.2) else .bad
 |_=>.bad⟩)⟩):=id rfl
theorem jZ(k1 k2:Bool):nY k1 k2 fs env=Res.bnd (fs env) (f:=⟨fun p=>match p.1 with
 |[.val d1,.val d2]=>Res.bnd (gf k1 d1) (f:=⟨fun a=>Res.bnd (gf k2 d2) (f:=⟨fun b=>.ok ((a.zip b).map fun z=>D.tup [z.1,z.2],p.2)⟩)⟩)
 |_=>.bad⟩):=id rfl
theorem DF:aM i d env=if i<env.length then .ok (env.set i (some (.f,d))) else .bad:=id rfl
theorem fR(ds:List D):aZ a as (d::ds) env=Res.bnd (a d env) (f:=⟨fun e=>as ds e⟩):=id rfl
theorem uA(ds:List D):lO n as (.tup ds) env=if ds.length=n then as ds env else .bad:=id rfl
theorem Ew:sSeq s t env=Res.bnd (s env) (f:=⟨fun o=>match o with | .nx e=>t e|o=>.ok o⟩):=id rfl
theorem HZ:bX env=.ok (.nx env):=id rfl
theorem Jy:cw i f env=Res.bnd (f env) (f:=⟨fun p=>if i<p.2.length then .ok (.nx (p.2.set i (some p.1))) else .bad⟩):=id rfl
theorem H0:jH f env=Res.bnd (f env) (f:=⟨fun p=>.ok (.nx p.2)⟩):=id rfl
theorem Jz:cV f env=Res.bnd (f env) (f:=⟨fun p=>.ok (.rt p.1)⟩):=id rfl
theorem Iz:DE c s t env=Res.bnd (c env) (f:=⟨fun p=>if p.1 then s p.2 else t p.2⟩):=id rfl
theorem FK:qN fi a s env=Res.bnd (fi env) (f:=⟨fun p=>i4 a s p.1 p.2⟩):=id rfl
theorem Ia:i4 a s [] env=.ok (.nx env):=id rfl
theorem El(ds:List D):i4 a s (d::ds) env=Res.bnd (a d env) (f:=⟨fun e=>Res.bnd (s e) (f:=⟨fun o=>match o with
 | .nx e=>i4 a s ds e
 | .ct e=>i4 a s ds e
 | .bk e=>.ok (.nx e)
 | .rt r=>.ok (.rt r)⟩)⟩):=id rfl
theorem c8:cB c s (n+1) env=Res.bnd (c env) (f:=⟨fun p=>if p.1 then(Res.bnd (s p.2) (f:=⟨fun o=>match o with
  | .nx e=>cB c s n e
  | .ct e=>cB c s n e
  | .bk e=>.ok (.nx e)
  | .rt r=>.ok (.rt r)⟩)) else .ok (.nx p.2)⟩):=id rfl
theorem JA:zk i f g env=Res.bnd (g env) (f:=⟨fun(p:R×PV.Env)=>Res.bnd (f p.2) (f:=⟨fun(q:R×PV.Env)=>match p.2[i]?,q.2[i]? with
 |some (some _),some (some (.d,.dct tk ks vs))=>if dv tk q.1.2&&decide (ks.length<sizeLine) then .ok (.nx (q.2.set i (some (.d,.dct tk (oq ks vs q.1.2 p.1.2).1 (oq ks vs q.1.2 p.1.2).2)))) else .bad
 |_,_=>.bad⟩)⟩):=id rfl
theorem bH(ds:List D)(nn:Nat)(h:ds.length=n):fBody n nn s ds=Res.bnd (s (ds.map (fun d=>some (O.f,d))++List.replicate nn none)) (f:=⟨fun o=>match o with
 | .rt r=>.ok r
 | .nx _=>.ok (.f,.non)
 |_=>.bad⟩):=by
 unfold fBody;rw[Nc h];all_goals cases s (ds.map (fun d=>some (O.f,d))++List.replicate nn none) with
 |ok o=>cases o <;> rfl
 |exc c=>rfl
 |bad=>rfl
end
theorem line_le{n:Nat}(h:n<=16777216):n<=sizeLine:=by rw[line_eq];exact h
section
variable(a b:Int)(x y:List Nat)(p q:Bool)(ds es:List D)
theorem Aw:Fg (.int a) (.int b)=.ok (.f,.bl (a==b)):=by simp only[Fg,plainD,Ci,Pw,Py]
theorem Ax:Fp (.int a) (.int b)=.ok (.f,.bl (!(a==b))):=by simp only[Fp,plainD,Ci,Pw,Py]
theorem yO:vM (.int a) (.int b)=.ok (.f,.int (a-b)):=id rfl
theorem wb:og (.int a) (.int b)=if 0<b/\b<1073741824 then .ok (.f,.int (a / b)) else .bad:=id rfl
theorem yP:jj (.int a) (.int b)=if 0<b then .ok (.f,.int (a%b)) else .bad:=id rfl
theorem yQ:wN (.int a) (.int b)=if 0<=b/\b<=1000000/\a.natAbs<2 ^ 64 then .ok (.f,.int (a ^ b.toNat)) else .bad:=id rfl
theorem Ay:JT (.int a) (.int b)=.ok (.f,.bl (decide (a<b))):=id rfl
theorem Az:JR (.int a) (.int b)=.ok (.f,.bl (decide (a<=b))):=id rfl
theorem AB:GA (.int a) (.int b)=.ok (.f,.bl (decide (b<a))):=id rfl
theorem AD:FC (.int a) (.int b)=.ok (.f,.bl (decide (b<=a))):=id rfl
theorem yR:gQ [.lst ds]=.ok (.f,.int ds.length):=id rfl
theorem yS:gQ [.tup ds]=.ok (.f,.int ds.length):=id rfl
theorem wc:sj [.lst ds]=.ok (.l .f,.lst ds):=id rfl
theorem sN:kR [.lst ds]=.ok (.f,.tup ds):=id rfl
theorem AE:Cq (.lst ds) (.int a)=match D4 ds a with|some d=>.ok (.f,d)|none=>.bad:=id rfl
theorem AF:Cq (.tup ds) (.int a)=match D4 ds a with|some d=>.ok (.f,d)|none=>.bad:=id rfl
theorem AG:Cq (.str x) (.int a)=match D4 x a with|some c=>.ok (.f,.str [c])|none=>.bad:=id rfl
theorem qz(bs:List Bool):wO [.lst (bs.map D.bl)]=.ok (.f,.bl (bs.all id)):=by
 unfold wO;show(match kS (bs.map D.bl) with|some bs=>_|none=>_)=_;rw[p4]
theorem Gn{α:Type}(d:α)(l:List α):D4 (d::l) 0=some d:=by
 have:=fX (xs:=d::l) (j:=0) (v:=d) rfl;simpa using this
theorem Ib{α:Type}(c d:α)(l:List α):D4 (c::d::l) 1=some d:=by
 have:=fX (xs:=c::d::l) (j:=1) (v:=d) rfl;simpa using this
end
theorem Dg(l:List Int):flatDs (l.map D.int)=true:=by
 rw[dn,OF,NA];intro b _;rfl
theorem j3(l:List Bool):flatDs (l.map D.bl)=true:=by
 rw[dn,OF,NA];intro b _;rfl
theorem flat_strs(l:List (List Nat)):flatDs (l.map D.str)=true:=by
 rw[dn,OF,NA];intro b _;rfl
theorem cf(d:D):bT .f d=df d:=by rw[bT]
theorem sO(ds:List D):bT (.l .f) (.lst ds)=flatDs ds:=by rw[bT,jK]
theorem fS(i:Int):df (.int i)=true:=by rw[df];all_goals simp
theorem iN(i:Bool):df (.bl i)=true:=by rw[df];all_goals simp
theorem j4(ds:List D):df (.tup ds)=flatDs ds:=by rw[df]
theorem jo(n:Nat)(l:List Int):plainDs n (l.map D.int)=true:=by
 induction l with
 |nil=>rfl
 |cons a l ih=>rw[Nk,plainDs,ih,plainD];all_goals simp
theorem oy(n:Nat)(l:List (List Nat)):plainDs n (l.map D.str)=true:=by
 induction l with
 |nil=>rfl
 |cons a l ih=>rw[Nk,plainDs,ih,plainD];all_goals simp
theorem eqDs_ints:∀a b:List Int,gA (a.map D.int) (b.map D.int)=(a==b)
 |[],[]=>by simp[gA]
 |[],_::_=>by simp[gA]
 |_::_,[]=>by simp[gA]
 |a::r,b::t=>by
  rw[Nk,Nk,gA,Ci,eqDs_ints r t,Nx];simp
theorem sP(a:Int)(l:List Int):uk (.int a) (l.map D.int)=decide (a∈l):=by
 unfold uk;rw[QB,Nx,Pj,Nn];constructor
 ·rintro⟨x,hx,e⟩;have e:Ci (.int x) (.int a)=true:=e;rw[Ci,NN]at e;rw[<-e];exact hx
 ·intro h;refine⟨a,h,?_⟩;show Ci (.int a) (.int a)=true;rw[Ci,N5]
theorem sQ(a:List Nat)(l:List (List Nat)):uk (.str a) (l.map D.str)=decide (a∈l):=by
 unfold uk;rw[QB,Nx,Pj,Nn];constructor
 ·rintro⟨x,hx,e⟩;have e:Ci (.str x) (.str a)=true:=e;rw[Ci,NN]at e;rw[<-e];exact hx
 ·intro h;refine⟨a,h,?_⟩;show Ci (.str a) (.str a)=true;rw[Ci,N5]
theorem A5(a:Int)(l:List Int):Hi (.int a) (.lst (l.map D.int))=.ok (.f,.bl (decide (a∈l))):=by
 unfold Hi;dsimp only;rw[jo,sP,plainD];all_goals simp
theorem c9{α:Type}{a:FG}{f:FX}{e:α->D}{r:α->D}(I:PV.Env->Prop)(l:List α)
  (h:∀x∈l,∀env,I env->∃B9,a (e x) env=.ok B9/\∃o Ef,f B9=.ok ((o,r x),Ef)/\I Ef):∀env,I env->dq a i5 f (l.map e) env=.ok (l.map r):=by
 induction l with
 |nil=>intro env _;rfl
 |cons x l ih=>
  intro env hI;obtain⟨B9,h1,o,Ef,h4,h5⟩:=h x M7 env hI;have ih:=ih fun y hy=>h y (Nj _ hy)
  rw[Nk,sM,h1,Dv,yM,Dv,Nc rfl,h4,Dv,ih Ef h5];rfl
theorem we{a:FG}{g:FS}(P:Nat->PV.Env->Prop)(ds:List D)(h:∀i d env,ds[i]?=some d->P i env->∃B9,a d env=.ok B9/\∃Cn,(g B9=.ok (.nx Cn)\/g B9=.ok (.ct Cn))/\P (i+1) Cn):
  ∀env,P 0 env->∃env',i4 a g ds env=.ok (.nx env')/\P ds.length env':=by
 have key:∀(l:List D) (k:Nat) (env:PV.Env),(∀i d,l[i]?=some d->ds[k+i]?=some d)->P k env->∃env',i4 a g l env=.ok (.nx env')/\P (k+l.length) env':=by
  intro l;induction l with
  |nil=>exact fun k env _ hp=>⟨env,rfl,hp⟩
  |cons d l ih=>
   intro k env hd hp;obtain⟨B9,h1,Cn,h2,h3⟩:=h k d env (hd 0 d rfl) hp;obtain⟨env',h4,h5⟩:=ih (k+1) Cn (fun i d e=>by have:=hd (i+1) d (by simpa using e);rw[show k+1+i=k+(i+1) by lia];exact this) h3;refine⟨env',?_,by rw[Nq,show k+(l.length+1)=k+1+l.length by lia];exact h5⟩;rw[El,h1,Dv];rcases h2 with h2|h2
   ·rw[h2,Dv];exact h4
   ·rw[h2,Dv];exact h4
 intro env hp;obtain⟨env',h1,h2⟩:=key ds 0 env (fun i d e=>by rw[PN];exact e) hp;exact⟨env',h1,by rw[PN]at h2;exact h2⟩
section
variable(env:PV.Env)(fo:FO)(fp Cg:FP)(a b:Int)(ds:List D)(x:List Nat)
theorem JB:yv fo fp Cg env=Res.bnd (fo env) (f:=⟨fun p=>Res.bnd (fp p.2) (f:=⟨fun q=>Res.bnd (Cg q.2) (f:=⟨fun t=>Res.bnd (DA t.2 p.1) (f:=⟨fun d=>Res.bnd (Je d q.1 t.1) (f:=⟨fun r=>.ok (r,t.2)⟩)⟩)⟩)⟩)⟩):=id rfl
theorem yT(lo hi:Option Int):Je (.lst ds) lo hi=.ok (.l .f,.lst (ka ds lo hi)):=id rfl
theorem qA(lo hi:Option Int)(h:HT.sIx ds.length 0 lo=0/\HT.sIx ds.length ds.length hi=ds.length):ka ds lo hi=ds:=by
 unfold ka;rw[h.1,h.2,QN,Nat.sub_zero,Om (M8 _)]
theorem yU(lo hi:Option Int):Je (.tup ds) lo hi=.ok (.f,.tup (ka ds lo hi)):=by
 unfold Je;dsimp only;split
 ·rename_i h;rw[qA ds lo hi h]
 ·rename_i h;unfold JS;dsimp only;rw[Nc h]
theorem qB:wQ (.int a) (.int b)=if cC a||cC b then .ok (.f,.int (a*b)) else if a.natAbs<2 ^ 1000/\b.natAbs<2 ^ 1000 then .ok (.f,.int (a*b)) else .bad:=id rfl
end
section
variable(env:PV.Env)(fo:FO)(fs:DB)(f g:FX)(a b c:Int)(ds es:List D)(x y:List Nat)
theorem JC(gg:List D->List D->Res R):zl gg fo fs env=Res.bnd (fo env) (f:=⟨fun p=>Res.bnd (DA p.2 p.1) (f:=⟨fun d=>match d with
 | .tup _=>Res.bnd (fs p.2) (f:=⟨fun q=>Res.bnd (DA q.2 p.1) (f:=⟨fun d2=>match d2 with
  | .tup l=>Res.bnd (mE q.2 q.1) (f:=⟨fun ds=>Res.bnd (gg l ds) (f:=⟨fun r=>.ok (r,q.2)⟩)⟩)
  |_=>.bad⟩)⟩)
 |_=>.bad⟩)⟩):=id rfl
theorem A6(d:D):(∃l,gf true d=.ok l/\gf false d=.bad/\mO d=some l)\/(∃l,gf true d=.bad/\gf false d=.ok l/\mO d=some l)\/(gf true d=.bad/\gf false d=.bad/\mO d=none):=by
 cases d with
 |lst l=>exact .inl ⟨l,rfl,rfl,rfl⟩
 |tup l=>exact .inr (.inl ⟨l,rfl,rfl,rfl⟩)
 |_=>exact .inr (.inr ⟨rfl,rfl,rfl⟩)
def sR(k1 k2:Bool)(e:PV.Env)(d1 d2:D):Res (List D×PV.Env):=(gf k1 d1).bind fun a=>(gf k2 d2).bind fun b=>.ok ((a.zip b).map fun z=>D.tup [z.1,z.2],e)
def AH(e:PV.Env)(d1 d2:D):Res (List D×PV.Env):=match mO d1,mO d2 with|some a,some b=>.ok ((a.zip b).map fun z=>D.tup [z.1,z.2],e)|_,_=>.bad
def IA(a b:Res (List D×PV.Env)):Res (List D×PV.Env):=match a with | .ok a=>.ok a|_=>b
def qP(g:D->D->Res (List D×PV.Env))(os:List Opd):Res (List D×PV.Env):=match os with|[.val d1,.val d2]=>g d1 d2|_=>.bad
theorem l6(g h:D->D->Res (List D×PV.Env))(os:List Opd):IA (qP g os) (qP h os)=qP (fun a b=>IA (g a b) (h a b)) os:=by
 unfold qP;split <;> rfl
theorem wg(e:PV.Env)(a b:D):IA (sR true true e a b) (IA (sR true false e a b) (IA (sR false true e a b) (sR false false e a b)))=AH e a b:=by
 unfold sR AH;rcases A6 a with⟨l,h1,h2,h3⟩|⟨l,h1,h2,h3⟩|⟨h1,h2,h3⟩ <;> rcases A6 b with⟨m,i1,i2,i3⟩|⟨m,i1,i2,i3⟩|⟨i1,i2,i3⟩ <;> rw[h1,h2,h3,i1,i2,i3] <;> rfl
theorem Ic:ow fs env=Res.bnd (fs env) (f:=⟨fun p=>match p.1 with
 |[.val d1,.val d2]=>(match mO d1,mO d2 with|some a,some b=>.ok ((a.zip b).map fun z=>D.tup [z.1,z.2],p.2)|_,_=>.bad)
 |_=>.bad⟩):=by
 unfold ow;rw[l5,l5,l5,jZ,jZ,jZ,jZ];cases fs env with
 |ok p=>
  show IA (qP (sR true true p.2) p.1) (IA (qP (sR true false p.2) p.1) (IA (qP (sR false true p.2) p.1) (qP (sR false false p.2) p.1)))=qP (AH p.2) p.1;rw[l6,l6,l6];exact NY (fun g=>qP g p.1) (funext fun a=>funext fun b=>wg p.2 a b)
 |_=>rfl
theorem Ie:mO (.lst ds)=some ds:=id rfl
theorem Ig:mO (.tup ds)=some ds:=id rfl
theorem Ih(i:Nat):su i f g env=Res.bnd (g env) (f:=⟨fun(p:R×PV.Env)=>Res.bnd (f p.2) (f:=⟨fun(q:R×PV.Env)=>match p.2[i]?,q.2[i]? with
 |some (some _),some (some (.l .f,.lst ds))=>(match q.1.2 with
  | .int k=>(match ixN ds.length k with
   |some j=>.ok (.nx (q.2.set i (some (.l .f,.lst (ds.set j p.1.2)))))
   |none=>.bad)
  |_=>.bad)
 |_,_=>.bad⟩)⟩):=id rfl
theorem qC:oG (.int a) (.int b)=wQ (.int a) (.int b):=id rfl
theorem yV(d:D):Lh d (.lst ds)=Hi d (.lst ds):=id rfl
theorem yW:dv false (.str x)=true:=id rfl
theorem qD:fV (.int a) (.int b)=.ok (.f,.int (a+b)):=id rfl
theorem wj:fV (.str x) (.str y)=if x.length+y.length<=sizeLine then .ok (.f,.str (x++y)) else .bad:=id rfl
theorem wm:fV (.tup ds) (.tup es)=if ds.length+es.length<=sizeLine\/ds=[] then .ok (.f,.tup (ds++es)) else .bad:=by
 unfold fV;cases ds with
 |nil=>rw[Nc (.inr rfl)];rfl
 |cons d ds=>
  dsimp only;unfold addD;dsimp only;by_cases h:(d::ds).length+es.length<=sizeLine
  ·rw[Nc ⟨nofun,h⟩,Nc (.inl h)]
  ·rw[Ng (fun z=>h z.2),Ng (fun z=>z.elim h nofun)]
end
section
variable(env:PV.Env)(f g:FX)(ds ks:List D)(i:Nat)
end
section
variable(env:PV.Env)(f:FX)(fs:DB)(ds:List D)(i:Nat)
end
noncomputable def pv:=(Zz @Dv (Zz @Ji (Zz @F1 (Zz @HF (Zz @Jj (Zz @Jk (Zz @HG (Zz @GP (Zz @HI (Zz @GQ (Zz @Jl (Zz @Jm (Zz @HJ (Zz @HK (Zz @HL (Zz @HM (Zz @GR (Zz @GS (Zz @HN (Zz @HP (Zz @HQ (Zz @Jn (Zz @HR (Zz @KH (Zz @Jo (Zz @KI (Zz @Jp (Zz @Jq (Zz @Jr (Zz @GU (Zz @HS (Zz @Js (Zz @Jt (Zz @Ju (Zz @JB (Zz @HU (Zz @HV (Zz @Jv (Zz @HW (Zz @KJ (Zz @Jw (Zz @HX (Zz @FF (Zz @FH (Zz @FJ (Zz @Jx (Zz @HY (Zz @EK (Zz @DF (Zz @Ew (Zz @HZ (Zz @Jy (Zz @H0 (Zz @Jz (Zz @Iz (Zz @FK (Zz @Ia (Zz @El (Zz @JA (Zz @List.getElem?_cons_zero.{0} (Zz @List.getElem?_cons_succ.{0} (Zz @List.set_cons_zero.{0} (Zz @List.set_cons_succ.{0} (Zz @List.length_cons.{0} (Zz @List.length_nil.{0} (Zz @List.map_cons.{0,0} (Zz @List.map_nil.{0,0} (Zz @List.replicate_succ.{0} (Zz @List.replicate_zero.{0} (Zz @List.cons_append.{0} (Zz @List.nil_append.{0} (Zz @Nat.zero_add (Zz @JC (Zz @Ic (Zz @Ie (Zz @Ig (Zz @Ih (Zz @KD (Zz @KG @GO)))))))))))))))))))))))))))))))))))))))))))))))))))))))))))))))))))))))))))))))
noncomputable def op:=(Zz @Aw (Zz @Ax (Zz @yO (Zz @Ay (Zz @Az (Zz @AB (Zz @AD (Zz @yR (Zz @yS (Zz @wc (Zz @sN (Zz @AE (Zz @AF (Zz @AG (Zz @yT (Zz @yU (Zz @Gn (Zz @Ib (Zz @qz (Zz @cf (Zz @sO (Zz @fS (Zz @iN (Zz @Dg (Zz @j3 (Zz @j4 (Zz @qD (Zz @qC (Zz @yV @yW)))))))))))))))))))))))))))))
theorem dV(n:Nat)(w:PV.Env):(∃d,DA w (.var n)=.ok d)\/DA w (.var n)=.bad:=by
 unfold DA;dsimp only;split
 ·split
  ·exact .inl ⟨_,rfl⟩
  ·exact .inr rfl
 ·exact .inr rfl
section
variable(w:PV.Env)(op:D->D->Res R)(F:List D->Res R)(f g h:FX)(n n' n'':Nat)(x y:D)
end
section
variable(a b c d e g h i j k l m:Option R)(z:PV.Env)(r:R)(o:O)(x:D){ρ:Type}
end
end PV
namespace LW
open PySem L2 NX PV
theorem for_list{α:Type}{a:FG}{g:FS}{e:α->D}(l:List α)(P:Nat->PV.Env->Prop)
  (h:∀k x env,l[k]?=some x->P k env->∃B9,a (e x) env=.ok B9/\∃Cn,g B9=.ok (.nx Cn)/\P (k+1) Cn):∀env,P 0 env->∃env',i4 a g (l.map e) env=.ok (.nx env')/\P l.length env':=by
 intro env h0;have:=we (a:=a) (g:=g) P (l.map e) (fun i d env hi hp=>by
  rw[List.getElem?_map,Nr]at hi;obtain⟨x,hx,rfl⟩:=hi;obtain⟨B9,h1,Cn,h2,h3⟩:=h i x env hx hp;exact⟨B9,h1,Cn,.inl h2,h3⟩) env h0
 rwa [M5]at this
theorem wo{a:FG}{g:FS}{e:Nat->D}(n:Nat)(P:Nat->PV.Env->Prop)
  (h:∀k env,k<n->P k env->∃B9,a (e k) env=.ok B9/\∃Cn,g B9=.ok (.nx Cn)/\P (k+1) Cn):∀env,P 0 env->∃env',i4 a g ((List.range n).map e) env=.ok (.nx env')/\P n env':=by
 intro env h0;have:=for_list (a:=a) (g:=g) (e:=e) (List.range n) P (fun k x env hk hp=>by
  obtain⟨h1,h2⟩:=List.getElem?_eq_some_iff.mp hk;rw[Nt]at h1;rw[PM]at h2;subst h2;exact h k env h1 hp) env h0
 rwa [Nt]at this
abbrev CZ:=List (List Nat)
theorem cm{α β:Type}{l:List α}(f:α->β):(l.map f).length=l.length:=M5 f
theorem eI:(false=true)=False:=Ow
theorem uB{α:Type}{l:List α}{i:Nat}{a:α}(h:l[i]?=some a):∃h:i<l.length,l[i]=a:=List.getElem?_eq_some_iff.mp h
theorem wV{α:Type}{l:List α}{i:Nat}(h:i<l.length):l[i]?=some l[i]:=List.getElem?_eq_getElem h
theorem nh{α β:Type}{f:α->β}{a:α}{l:List α}:(a::l).map f=f a::l.map f:=Nk
theorem zp{α:Type}{a b:α}(h:a∈[b]):a=b:=N0.mp h
theorem A7{α β:Type}{f:α->β}{l:List α}{b:β}(h:b∈l.map f):∃a,a∈l/\f a=b:=Of.mp h
theorem BQ{α:Type}{a:α}{s t:List α}(h:a∈s++t):a∈s\/a∈t:=Ny.mp h
theorem wq{α:Type}{s t:List α}:(s++t).length=s.length+t.length:=NC
theorem ay{s t:FS}{env env':PV.Env}(h:s env=.ok (.nx env')):sSeq s t env=t env':=by rw[Ew,h,Dv]
theorem iO{ds:List D}(h:ds.length<=16777216):ds.length<=sizeLine:=line_le h
theorem ni{l:List Int}{k:Nat}(h:k<l.length):D4 (l.map D.int) (k:Int)=some (.int (l.getD k 0)):=fX (by rw[List.getElem?_map,List.getD_eq_getElem?_getD,wV h];rfl)
theorem yX{l:CZ}{k:Nat}(h:k<l.length):D4 (l.map D.str) (k:Int)=some (.str l[k]):=fX (by rw[List.getElem?_map,wV h];rfl)
theorem at2{α:Type}(a b c:α):D4 [a,b,c] (2:Int)=some c:=rfl
theorem dC:∀l:CZ,dW (l.map D.str)=some l
 |[]=>rfl
 |a::l=>by
  rw[nh,dW,dC l];rfl
theorem fe(x y:D)(t1 t2:Option R)(cj:PV.Env):lO 2 (aZ (aM 0) (aZ (aM 1) gc)) (.tup [x,y]) (t1::t2::cj)=.ok (some (.f,x)::some (.f,y)::cj):=by
 rw[uA,Nc (by simp),fR,DF,Nc (by simp),Dv,fR,DF,Nc (by simp),Dv];rfl
theorem lj{α:Type}(lt:α->α->Bool)(l:List α):(eL lt l).length=l.length:=(du lt l).length_eq
theorem qE(l:CZ)(h:l.length<64):iC [.lst (l.map D.str)]=.ok (.l .f,.lst ((eL Gm l).map D.str)):=by
 unfold iC;dsimp only;rw[Nc (by rw[cm];exact h)];unfold lT;cases l with
 |nil=>rfl
 |cons a l=>
  have e:fF ((a::l).map D.str)=none:=rfl;rw[e,dC]
def EI:List Nat:=[97,98,99,100,101,102,103,104,105,106,107,108,109,110,111,112,113,114,115,116,117,118,119,120,121,122]
theorem yY(j:Nat)(h:j<26):EI[j]?=some (97+j):=by
 have:∀j:_root_.Fin 26,EI[j.1]?=some (97+j.1):=by decide
 exact this ⟨j,h⟩
theorem yZ(j:Int)(h0:0<=j)(h:j<26):D4 EI j=some (97+j.toNat):=by
 obtain⟨n,rfl⟩:=OI h0;exact fX (yY n (by lia))
theorem gu(x b:Int)(h:0<b):0<=x%b/\x%b<b:=⟨Int.emod_nonneg _ (by lia),Int.emod_lt_of_pos _ h⟩
theorem BR(n:Nat)(h:n<=200):wN (.int 10) (.int (n:Int))=.ok (.f,.int (10 ^ n)):=by
 rw[yQ,Nc (by lia),OC]
theorem l7(x b:Int)(h:0<b):jj (.int x) (.int b)=.ok (.f,.int (x%b)):=by rw[yP,Nc h]
theorem wt(x b:Int)(h:0<b)(h2:b<1073741824):og (.int x) (.int b)=.ok (.f,.int (x / b)):=by rw[wb,Nc ⟨h,h2⟩]
theorem AI(x y:Int)(h:cC y=true):oG (.int x) (.int y)=.ok (.f,.int (x*y)):=by rw[qC,qB,h,Bool.or_true,Nc rfl]
theorem BU(x y:List Nat)(h:x.length+y.length<=1000):fV (.str x) (.str y)=.ok (.f,.str (x++y)):=by rw[wj,Nc (line_le (by lia))]
theorem nj{α:Type}(l:List α)(k:Nat):ka l none (some (k:Int))=l.take k:=by
 unfold ka;rw[HT.mm,HT.o4,QN,Nat.sub_zero];by_cases h:k<=l.length
 ·rw[Nat.min_eq_left h]
 ·rw[Nat.min_eq_right (by lia),Om (M8 _),Om (by lia)]
theorem sS{α:Type}(l:List α)(k:Nat):ka l (some (k:Int)) none=l.drop k:=by
 unfold ka;rw[HT.mm,HT.o4];by_cases h:k<=l.length
 ·rw[Nat.min_eq_left h,Om (by rw[Pf];exact M8 _)]
 ·rw[Nat.min_eq_right (by lia),Qo (M8 _),Qo (by lia),List.take_nil]
theorem iP{α:Type}(f:Nat->α)(n:Nat)(h:∀i j,i<n->j<n->f i=f j->i=j):((List.range n).map f).Nodup:=by
 rw[OU,Pc];refine List.pairwise_lt_range.imp_of_mem fun{a b} ha hb hl e=>?_
 have:=h a b (NH.mp ha) (NH.mp hb) e;lia
theorem BV(j:Int)(h0:0<=j)(h:j<=1000)(fo:FO)(env env':PV.Env)(o:Opd)(e1:fo env=.ok (o,env'))(e2:DA env' o=.ok (.int j)):eZ fo env=.ok ((List.range j.toNat).map fun(k:Nat)=>D.int (k:Int),env'):=by
 rw[EK,e1,Dv];dsimp only;rw[e2,Dv];dsimp only;rw[Nc (by lia)]
theorem iQ(x:Int)(h:-1000000<=x)(h2:x<=1000000):cC x=true:=by
 unfold cC;rw[Nn];lia
theorem iR(d:D)(h:plainD 40 d=true):Fg d d=.ok (.f,.bl true):=by
 unfold Fg;rw[h,fH d 40 h];rfl
theorem fT(d:D)(h:plainD 40 d=true):Fp d d=.ok (.f,.bl false):=by
 unfold Fp;rw[h,fH d 40 h];rfl
theorem BW{c:FT}{s t:FS}{env env':PV.Env}(h:c env=.ok (false,env')):DE c s t env=t env':=by rw[Iz,h,Dv];rfl
theorem wu(n k:Nat)(h:k<n):ixN n (k:Int)=some k:=by
 unfold ixN;rw[Nc (by lia),Nc (by lia)];rfl
theorem BX(b:Int):kX "bool" (.int b)=false:=rfl
theorem BY(b:Int):kX "int" (.int b)=true:=rfl
theorem isT(ds:List D):kX "tuple" (.tup ds)=true:=rfl
theorem iS{c:FT}{g:FS}(P:Nat->PV.Env->Prop)(fin:PV.Env->Prop)(h:∀k env,P k env->(∃B9,c env=.ok (false,B9)/\fin B9)\/(∃B9,c env=.ok (true,B9)/\∃Cn k',g B9=.ok (.nx Cn)/\k'<k/\P k' Cn)):
  ∀n k env,k<n->P k env->∃env',cB c g n env=.ok (.nx env')/\fin env'
 | 0,k,env,hk,_=>absurd hk (Nat.not_lt_zero _)
 |n+1,k,env,hk,hp=>by
  rcases h k env hp with⟨B9,h1,h2⟩|⟨B9,h1,Cn,k',h2,h3,h4⟩
  ·exact⟨B9,by rw[c8,h1,Dv];rfl,h2⟩
  ·obtain⟨env',e,hf⟩:=iS P fin h n k' Cn (by lia) h4;refine⟨env',?_,hf⟩;rw[c8,h1,Dv];dsimp only;rw[Nc rfl,h2,Dv];exact e
theorem ll{α:Type}{l:List α}(h:l.length<=100000):l.length<sizeLine:=Nd (Oc _) (line_le (by lia))
section
variable(env:PV.Env)(f:FX)(fs:DB)(fo:FO)
theorem y0(r:R):frz (some r)=some (.f,r.2):=id rfl
theorem y1:frz none=none:=id rfl
end
def cell(ns:List Int)(k:Nat):Int:=ns.getD k 0
theorem iT(ns:List Int)(k:Nat):aw [.lst (ns.map D.int),.int (k:Int)]=.ok (.f,.int (cell ns k)):=by
 unfold aw eU cell;rw[bH (h:=by rfl)];simp only[pv,seval,op,cm];by_cases h:k<ns.length
 ·have h1:(k:Int)<(ns.length:Int):=by lia
  simp only[h1,Qd,pv,seval,ni h]
 ·have h1:¬ (k:Int)<(ns.length:Int):=by lia
  simp only[h1,QC,pv,seval,eI,List.getD_eq_getElem?_getD,List.getElem?_eq_none (Nat.le_of_not_lt h),Qf]
theorem y2(x y:Int)(h:cC x=true):wQ (.int x) (.int y)=.ok (.f,.int (x*y)):=by rw[qB,h,Bool.true_or,Nc rfl]
theorem nq(x:Int)(h:0<=x)(h2:x<=4294967296):cC x=true:=by
 unfold cC;rw[Nn];lia
def wx(c k:Int):Int:=((((c%2147483647+48271*(k+1))*(c%2147483647+48271*(k+1))+69621*k)%2147483647)*(((c%2147483647+48271*(k+1))*(c%2147483647+48271*(k+1))+69621*k)%2147483647)+16807*k+1)%2147483647
theorem wz(c k:Int)(hk:0<=k)(Hu:k<=1000):bz [.int c,.int k]=.ok (.f,.int (wx c k)):=by
 have b1:=gu c 2147483647 (by decide);have b2:=gu ((c%2147483647+48271*(k+1))*(c%2147483647+48271*(k+1))+69621*k) 2147483647 (by decide);unfold bz gE wx;rw[bH (h:=by rfl)];rw[ay (env':=[some (.f,.int c),some (.f,.int k),some (.f,.int (c%2147483647+48271*(k+1)))]) (by simp only[pv,↓reduceIte,Nat.reduceAdd,Nat.reduceLT,Nat.reduceLeDiff,Nat.reduceEqDiff,op,l7 _ 2147483647 (by decide),y2 48271 (k+1) (by decide)])];have hs:cC (c%2147483647+48271*(k+1))=true:=nq _ (by lia) (by lia);generalize c%2147483647+48271*(k+1)=x at *;rw[ay (env':=[some (.f,.int c),some (.f,.int k),some (.f,.int ((x*x+69621*k)%2147483647))]) (by simp only[pv,↓reduceIte,Nat.reduceAdd,Nat.reduceLT,Nat.reduceLeDiff,Nat.reduceEqDiff,op,l7 _ 2147483647 (by decide),y2 x x hs,y2 69621 k (by decide)])];generalize (x*x+69621*k)%2147483647=y at *;have hs:cC y=true:=nq _ (by lia) (by lia);simp only[pv,↓reduceIte,Nat.reduceAdd,Nat.reduceLT,Nat.reduceLeDiff,Nat.reduceEqDiff,op,l7 _ 2147483647 (by decide),y2 y y hs,y2 16807 k (by decide)]
theorem nr:∀l:List Nat,joinL [] (l.map fun c=>[c])=l
 |[]=>rfl
 |[c]=>rfl
 |c::d::l=>by
  have ih:=nr (d::l);show[c]++[]++joinL [] ((d::l).map fun c=>[c])=_;rw[ih];rfl
theorem qF:∀l:List Nat,((l.map fun c=>[c]).map List.length).sum=l.length
 |[]=>rfl
 |c::l=>by
  rw[nh,nh,Rg,qF l];show 1+l.length=l.length+1;lia
theorem wA(l:List Nat)(h:l.length<=1000):qi [] [.lst ((l.map fun c=>[c]).map D.str)]=.ok (.f,.str l):=by
 unfold qi;dsimp only;rw[dC];dsimp only;rw[Nc (by rw[qF,Qv,Nat.mul_zero];lia),nr]
theorem uC(a:List Nat)(l:CZ):Hi (.str a) (.lst (l.map D.str))=.ok (.f,.bl (decide (a∈l))):=by
 unfold Hi;dsimp only;rw[oy,sQ,plainD];all_goals simp
def Gp(base:List Int)(wd sp:Nat)(tk:Bool)(k:Nat):List Int:=if tk then base.take (k+1) else(base.take wd).set sp ((base.getD sp 0+(k:Int))%26)
def EJ(base:List Int)(wd sp:Nat)(tk:Bool)(k:Nat):List Nat:=(Gp base wd sp tk k).map fun j=>97+j.toNat
theorem wB(l:List Int)(hb:∀j∈l,0<=j/\j<26):dq (aM 0) i5 (aE Cq (ao 1) (ao 0)) (l.map D.int) [none,some (.f,.str EI)]=.ok (((l.map fun j=>97+j.toNat).map fun c=>[c]).map D.str):=by
 rw[c9 (r:=fun j:Int=>D.str [97+j.toNat]) (fun env=>∃t,env=[t,some (.f,.str EI)]) l ?_ _ ⟨none,rfl⟩]
 ·rw[Nv,Nv];rfl
 ·rintro j hj env ⟨t,rfl⟩;obtain⟨h0,h1⟩:=hb j hj;refine⟨[some (.f,.int j),some (.f,.str EI)],rfl,.f,[some (.f,.int j),some (.f,.str EI)],?_,_,rfl⟩;simp only[pv,seval,op,yZ j h0 h1]
theorem AJ(base:List Int)(hb:∀j∈base,0<=j/\j<26)(wd sp:Nat)(tk:Bool)(k:Nat):∀j∈Gp base wd sp tk k,0<=j/\j<26:=by
 intro j hj;unfold Gp at hj;split at hj
 ·exact hb j (QK hj)
 ·rcases List.mem_or_eq_of_mem_set hj with h|h
  ·exact hb j (QK h)
  ·rw[h];exact gu _ _ (by decide)
theorem qG(base:List Int)(hl:base.length=8)(wd sp:Nat)(tk:Bool)(k:Nat):(Gp base wd sp tk k).length<=8:=by
 unfold Gp;split
 ·rw[NI];lia
 ·rw[OD,NI];lia
theorem y3(DM:Int)(base:List Int)(hl:base.length=8)(hb:∀j∈base,0<=j/\j<26)(wd sp:Nat)(hw:wd<=8)(hs:sp<wd)(tk:Bool)(Lj:(DM / 64%4==1)=tk)(l:CZ)(Mf:l.length<=10)(k:Nat)(t7:Option R):
  ∃u7,b6 [some (.f,.int DM),some (.f,.str EI),some (.l .f,.lst (base.map D.int)),some (.f,.int (wd:Int)),some (.f,.int (sp:Int)),some (.l .f,.lst (l.map D.str)),some (.f,.int (k:Int)),t7]=.ok (.nx [some (.f,.int DM),some (.f,.str EI),some (.l .f,.lst (base.map D.int)),some (.f,.int (wd:Int)),some (.f,.int (sp:Int)),some (.l .f,.lst ((l++[EJ base wd sp tk k]).map D.str)),some (.f,.int (k:Int)),u7]):=by
 have hcut:ka (base.map D.int) none (some (wd:Int))=(base.take wd).map D.int:=by rw[nj,List.map_take]
 have EL:D4 ((base.take wd).map D.int) (sp:Int)=some (.int (base.getD sp 0)):=by
  rw[ni (by rw[NI];lia)];congr 2
  rw[List.getD_eq_getElem?_getD,List.getD_eq_getElem?_getD,List.getElem?_take_of_lt hs]
 have Ek:ixN (base.take wd).length (sp:Int)=some sp:=wu _ _ (by rw[NI];lia);have hnl:=qG base hl wd sp tk k;have Ii:=wB (Gp base wd sp tk k) (AJ base hb wd sp tk k);have hj:=wA (EJ base wd sp tk k) (by unfold EJ;rw[cm];lia);have hz:(l.map D.str).length<sizeLine:=ll (by rw[cm];lia);have hzl:(((EJ base wd sp tk k).map fun c=>[c]).map D.str).length<=sizeLine:=iO (by unfold EJ;rw[cm,cm,cm];lia);have KL:=PV.flat_strs ((EJ base wd sp tk k).map fun c=>[c]);have Ii:dq (aM 0) i5 (aE Cq (ao 1) (ao 0)) ((Gp base wd sp tk k).map D.int) [none,some (.f,.str EI)]=.ok (((EJ base wd sp tk k).map fun c=>[c]).map D.str):=Ii;unfold b6;rw[ay (env':=[some (.f,.int DM),some (.f,.str EI),some (.l .f,.lst (base.map D.int)),some (.f,.int (wd:Int)),some (.f,.int (sp:Int)),some (.l .f,.lst (l.map D.str)),some (.f,.int (k:Int)),some (.l .f,.lst ((base.take wd).map D.int))]) (by simp only[pv,seval,op,hcut])];rw[ay (env':=[some (.f,.int DM),some (.f,.str EI),some (.l .f,.lst (base.map D.int)),some (.f,.int (wd:Int)),some (.f,.int (sp:Int)),some (.l .f,.lst (l.map D.str)),some (.f,.int (k:Int)),some (.l .f,.lst (((base.take wd).set sp ((base.getD sp 0+(k:Int))%26)).map D.int))]) (by
  rw[List.map_set];simp only[pv,seval,op,EL,l7 _ 26 (by decide),cm,Ek])]
 rw[ay (env':=[some (.f,.int DM),some (.f,.str EI),some (.l .f,.lst (base.map D.int)),some (.f,.int (wd:Int)),some (.f,.int (sp:Int)),some (.l .f,.lst (l.map D.str)),some (.f,.int (k:Int)),some (.l .f,.lst ((Gp base wd sp tk k).map D.int))]) (by
  unfold Gp;cases tk with
  |true=>
   have KN:ka (base.map D.int) none (some ((k:Int)+1))=(base.take (k+1)).map D.int:=by rw[show(k:Int)+1=((k+1:Nat):Int) by lia,nj,List.map_take]
   simp only[pv,seval,op,wt _ 64 (by decide) (by decide),l7 _ 4 (by decide),Lj,KN]
  |false=>simp only[pv,seval,op,wt _ 64 (by decide) (by decide),l7 _ 4 (by decide),Lj,eI])]
 refine⟨some (.l .f,.lst ((Gp base wd sp tk k).map D.int)),?_⟩;generalize Gp base wd sp tk k=W at *;generalize EJ base wd sp tk k=V at *;rw[Nu,nh,OP];generalize (aE Cq (ao 1) (ao 0))=GG at Ii ⊢;simp only[pv,seval,op,Ii,hzl,KL,hj,hz]
theorem wC(base:List Int)(hl:base.length=8)(hb:∀j∈base,0<=j/\j<26)(wd sp:Nat)(hw:wd<=8)(hs:sp<wd)(tk:Bool)(k k':Nat)(hk:k<=5)(hk':k'<=5)(e:EJ base wd sp tk k=EJ base wd sp tk k'):k=k':=by
 unfold EJ Gp at e;cases tk with
 |true=>
  have:=NY List.length e;simp only[Py,cm,NI]at this;lia
 |false=>
  have e2:=NY (fun l=>l[sp]?) e;have Dz:sp<(base.take wd).length:=by rw[NI];lia
  simp only[eI,PL,List.getElem?_map,List.getElem?_set_self Dz,Option.map_some,Option.some.injEq]at e2;have b1:=gu (base.getD sp 0+(k:Int)) 26 (by decide);have b2:=gu (base.getD sp 0+(k':Int)) 26 (by decide);generalize base.getD sp 0=z at *;lia
theorem wD(DM:Int):∃l:CZ,l.length=5/\l.Nodup/\l.Pairwise (fun a b=>Gm b a=false)/\bU [.int DM]=.ok (.l .f,.lst (l.map D.str)):=by
 unfold bU gF;rw[bH (h:=by rfl)];rw[ay (env':=[some (.f,.int DM),some (.f,.str EI),none,none,none,none,none,none]) (by simp only[pv,seval,op];rfl)];have hc:dq (aM 0) i5 (aE jj (aq (dj bz (ai (ao 1) (ai (ao 0) aF)))) (aq (aB (.int 26)))) ((List.range 8).map fun(k:Nat)=>D.int (k:Int)) [none,some (.f,.int DM)]=.ok (((List.range 8).map fun(k:Nat)=>wx DM (k:Int)%26).map D.int):=by
  rw[c9 (r:=fun k:Nat=>D.int (wx DM (k:Int)%26)) (fun env=>∃t,env=[t,some (.f,.int DM)]) (List.range 8) ?_ _ ⟨none,rfl⟩]
  ·rw[Nv];rfl
  ·rintro k hk env ⟨t,rfl⟩;have hk:=NH.mp hk;refine⟨[some (.f,.int (k:Int)),some (.f,.int DM)],rfl,.f,[some (.f,.int (k:Int)),some (.f,.int DM)],?_,_,rfl⟩;simp only[pv,seval,op,wz DM (k:Int) (by lia) (by lia),l7 _ 26 (by decide)]
 have Lk:((List.range 8).map fun(k:Nat)=>wx DM (k:Int)%26).length=8:=rfl;have Kb:∀j∈((List.range 8).map fun(k:Nat)=>wx DM (k:Int)%26),0<=j/\j<26:=by
  intro j hj;obtain⟨k,_,rfl⟩:=A7 hj;exact gu _ _ (by decide)
 generalize ((List.range 8).map fun(k:Nat)=>wx DM (k:Int)%26)=base at hc Lk Kb;have hlen:(base.map D.int).length<=sizeLine:=iO (by rw[cm];lia);have hff:=Dg base;rw[ay (env':=[some (.f,.int DM),some (.f,.str EI),some (.l .f,.lst (base.map D.int)),none,none,none,none,none]) (by
  generalize (aE jj (aq (dj bz (ai (ao 1) (ai (ao 0) aF)))) (aq (aB (.int 26))))=GG at hc ⊢;simp only[pv,seval,op];rw[Nc (by decide)];simp only[pv,seval,op,show(8:Int).toNat=8 from rfl,hc,hlen,hff])]
 have m8:=gu DM 8 (by decide);obtain⟨wd,ew⟩:=OI (show 0<=1+DM%8 by lia);have msp:=gu (DM / 8) (wd:Int) (by lia);obtain⟨sp,es⟩:=OI msp.1;rw[ay (env':=[some (.f,.int DM),some (.f,.str EI),some (.l .f,.lst (base.map D.int)),some (.f,.int (wd:Int)),none,none,none,none]) (by simp only[pv,seval,op,l7 _ 8 (by decide),ew])];rw[ay (env':=[some (.f,.int DM),some (.f,.str EI),some (.l .f,.lst (base.map D.int)),some (.f,.int (wd:Int)),some (.f,.int (sp:Int)),none,none,none]) (by simp only[pv,seval,op,wt _ 8 (by decide) (by decide),l7 _ (wd:Int) (by lia),es])];rw[ay (env':=[some (.f,.int DM),some (.f,.str EI),some (.l .f,.lst (base.map D.int)),some (.f,.int (wd:Int)),some (.f,.int (sp:Int)),some (.l .f,.lst []),none,none]) (by simp only[pv,seval,op])];obtain⟨tk,Lj⟩:∃tk,(DM / 64%4==1)=tk:=⟨_,rfl⟩
 obtain⟨env',ef,t6,t7,rfl⟩:=wo (a:=aM 6) (g:=b6) (e:=fun k=>D.int (k:Int)) 5 (fun i env=>∃(t6 t7:Option R),env=[some (.f,.int DM),some (.f,.str EI),some (.l .f,.lst (base.map D.int)),some (.f,.int (wd:Int)),some (.f,.int (sp:Int)),some (.l .f,.lst (((List.range i).map (EJ base wd sp tk)).map D.str)),t6,t7]) (by
  rintro k env hk ⟨t6,t7,rfl⟩;obtain⟨u7,e⟩:=y3 DM base Lk Kb wd sp (by lia) (by lia) tk Lj ((List.range k).map (EJ base wd sp tk)) (by rw[cm,Nt];lia) k t7;rw[show((List.range k).map (EJ base wd sp tk))++[EJ base wd sp tk k]=(List.range (k+1)).map (EJ base wd sp tk) by rw[OQ,Nu];rfl]at e;exact⟨_,rfl,_,e,_,_,rfl⟩) _ ⟨none,none,rfl⟩
 rw[List.range_zero,OP,OP]at ef;rw[ay (env':=_) (by
  unfold eV;simp only[pv,seval,op];rw[Nc (by decide)];simp only[pv,seval,op,show(5:Int).toNat=5 from rfl];exact ef)]
 unfold d7;have GV:((List.range 5).map (EJ base wd sp tk)).length=5:=by rw[cm,Nt]
 have Kk:((List.range 5).map (EJ base wd sp tk)).Nodup:=iP _ 5 fun i j hi hj e=>wC base Lk Kb wd sp (by lia) (by lia) tk i j (by lia) (by lia) e
 have MN:∀n∈((List.range 5).map (EJ base wd sp tk)),n.length<=8:=by
  intro n hn;obtain⟨k,_,rfl⟩:=A7 hn;unfold EJ;rw[cm];exact qG base Lk wd sp tk k
 generalize ((List.range 5).map (EJ base wd sp tk))=l at GV Kk MN;by_cases hm:[109,111,118,101,115]∈l
 ·have E9:dq (aM 0) i5 (aE fV (aq (aB (.str [115]))) (ao 0)) (l.map D.str) [none]=.ok ((l.map fun n=>115::n).map D.str):=by
   rw[c9 (r:=fun n:List Nat=>D.str (115::n)) (fun env=>∃t,env=[t]) l ?_ _ ⟨none,rfl⟩]
   ·rw[Nv];rfl
   ·rintro n hn env ⟨t,rfl⟩;have:=MN n hn;refine⟨[some (.f,.str n)],rfl,.f,[some (.f,.str n)],?_,_,rfl⟩;simp only[pv,seval,op,BU [115] n (by rw[Ov];lia)]
  have hzz:((l.map fun n=>115::n).map D.str).length<=sizeLine:=iO (by rw[cm,cm];lia);have hnd2:(l.map fun n=>115::n).Nodup:=by
   rw[OU,Pc];exact(OU.mp Kk).imp fun{a b} h e=>h (Oy e).2
  have KL:=PV.flat_strs (l.map fun n=>115::n);rw[ay (env':=[some (.f,.int DM),some (.f,.str EI),some (.l .f,.lst (base.map D.int)),some (.f,.int (wd:Int)),some (.f,.int (sp:Int)),some (.l .f,.lst ((l.map fun n=>115::n).map D.str)),t6,t7]) (by
   generalize (aE fV (aq (aB (.str [115]))) (ao 0))=GG at E9 ⊢;simp only[pv,seval,op,uC,hm,Qd,E9,hzz,KL])]
  refine⟨eL Gm (l.map fun n=>115::n),by rw[lj,cm];exact GV,(du Gm _).nodup_iff.mpr hnd2,cX lS _,?_⟩;simp only[pv,seval,op,qE (l.map fun n=>115::n) (by rw[cm];lia)]
 ·rw[ay (env':=[some (.f,.int DM),some (.f,.str EI),some (.l .f,.lst (base.map D.int)),some (.f,.int (wd:Int)),some (.f,.int (sp:Int)),some (.l .f,.lst (l.map D.str)),t6,t7]) (by simp only[pv,seval,op,uC,hm,QC,eI])];refine⟨eL Gm l,by rw[lj];exact GV,(du Gm _).nodup_iff.mpr Kk,cX lS _,?_⟩;simp only[pv,seval,op,qE l (by lia)]
abbrev Pl:=Int×List Int×List Int
def eP(p:Pl):D:=.tup [.int p.1,.tup (p.2.1.map D.int),.tup (p.2.2.map D.int)]
def GW(p:Pl)(cnt:Nat):Prop:=p.2.1.length=cnt/\p.2.2.length=cnt
def di(k:Nat):List (Int×Pl)->Option (List Int)
 |[]=>some []
 |z::zs=>if z.1<z.2.2.1.getD k 0 then none else(di k zs).map fun r=>(z.1-z.2.2.1.getD k 0+z.2.2.2.getD k 0)::r
theorem lp(k:Nat):∀{zs:List (Int×Pl)}{r:List Int},di k zs=some r->r.length=zs.length
 |[],r,h=>by cases h;rfl
 |z::zs,r,h=>by
  rw[di]at h;split at h
  ·cases h
  ·rw[Nr]at h;obtain⟨r',h1,rfl⟩:=h;rw[Nq,Nq,lp k h1]
def eN(nZ:CZ)(ps:List Pl):D:=.tup [.tup (nZ.map D.str),.lst (ps.map eP)]
def eM(m:List Int):D:=.tup (m.map D.int)
theorem qH {nZ : CZ} {m : List Nat} (h : m ∈ nZ) : lV (nZ.map D.str) [.str m] = .ok (.f, .int ((nZ.idxOf m : Nat) : Int)) := by
  first
    | (unfold lV
       dsimp only
       rw [dC]
       dsimp only
       rw [Nc h])
    | (unfold lV
       simp only [dC, h, Py])
theorem j5{α β:Type}(f:α->D)(g:β->D)(xs:List α)(ys:List β):((xs.map f).zip (ys.map g)).map (fun z=>D.tup [z.1,z.2])=(xs.zip ys).map fun z=>D.tup [f z.1,g z.2]:=by
 rw[List.zip_map,Nv];rfl
theorem eqDs_ints:∀a b:List Int,gA (a.map D.int) (b.map D.int)=decide (a=b)
 |[],[]=>rfl
 |[],_::_=>rfl
 |_::_,[]=>rfl
 |x::a,y::b=>by
  rw[nh,nh,gA,eqDs_ints a b,Ci,Nx];simp
theorem qI(a b:List Int):Ci (eM a) (eM b)=decide (a=b):=by
 unfold eM;rw[Ci,eqDs_ints]
theorem nu(t:List Int):df (eM t)=true:=by
 unfold eM;rw[j4,Dg]
def Gq(k:Nat)(p:Pl):Int:=p.2.1.getD k 0
def Ll(k:Nat)(p:Pl):Int:=p.2.2.getD k 0
def y4(k:Nat)(zs:List (Int×Pl)):Bool:=zs.all fun z=>decide (Gq k z.2<=z.1)
theorem ny(k:Nat):∀zs:List (Int×Pl),di k zs=if y4 k zs then some (zs.map fun z=>z.1-Gq k z.2+Ll k z.2) else none
 |[]=>rfl
 |z::zs=>by
  rw[di,ny k zs];unfold y4;rw[Pt];by_cases h:z.1<z.2.2.1.getD k 0
  ·have h2:decide (Gq k z.2<=z.1)=false:=Nh (by unfold Gq;lia);rw[Nc h,h2,QM,Ng Nb]
  ·have h2:decide (Gq k z.2<=z.1)=true:=Nm (by unfold Gq;lia);rw[Ng h,h2,Bool.true_and];cases(zs.all fun z=>decide (Gq k z.2<=z.1)) with
   |true=>rw[Nc rfl,Nc rfl];rfl
   |false=>rw[Ng Nb,Ng Nb];rfl
theorem wF(nZ:CZ)(ps:List Pl)(hl:ps.length<=100):bx [eN nZ ps]=.ok (.f,eM (ps.map (·.1))):=by
 have hc:dq (aM 0) i5 (aE Cq (ao 0) (aq (aB (.int 0)))) (ps.map eP) [none]=.ok ((ps.map (·.1)).map D.int):=by
  rw[Nv];refine c9 (fun env=>∃t,env=[t]) _ ?_ _ ⟨_,rfl⟩;rintro p _ env ⟨t,rfl⟩;refine⟨[some (.f,eP p)],by simp only[pv,seval],?_⟩;unfold eP;simp only[pv,seval,op,Gn];exact⟨_,_,rfl,_,rfl⟩
 have Ij:((ps.map (·.1)).map D.int).length<=sizeLine:=line_le (by rw[cm,cm];lia);unfold bx dZ eN;rw[bH (h:=by rfl)];simp only[pv,seval,op,Ib,hc,Ij,Dg];rfl
theorem y6{p:Pl}{k cnt:Nat}(h:GW p cnt)(hk:k<cnt):D4 (p.2.1.map D.int) (k:Int)=some (.int (Gq k p)):=ni (by rw[h.1];exact hk)
theorem AK{p:Pl}{k cnt:Nat}(h:GW p cnt)(hk:k<cnt):D4 (p.2.2.map D.int) (k:Int)=some (.int (Ll k p)):=ni (by rw[h.2];exact hk)
theorem sT(nZ:CZ)(ps:List Pl)(hl:ps.length<=100)(hp:∀p∈ps,GW p nZ.length)(m:List Int)(mv:List Nat)(hm:mv∈nZ):eG [eN nZ ps,eM m,.str mv]=.ok (.f,.bl (y4 (nZ.idxOf mv) (m.zip ps))):=by
 have Ek:=qH hm;have hk:=OT hm;generalize nZ.idxOf mv=k at Ek hk;have hc:dq (lO 2 (aZ (aM 0) (aZ (aM 1) gc))) i5 (aE FC (ao 0) (aq (aE Cq (aq (aE Cq (ao 1) (aq (aB (.int 1))))) (ao 2)))) ((m.zip ps).map fun z=>D.tup [.int z.1,eP z.2]) [none,none,some (.f,.int (k:Int))]=.ok (((m.zip ps).map fun z=>decide (Gq k z.2<=z.1)).map D.bl):=by
  rw[Nv];refine c9 (fun env=>∃t u,env=[t,u,some (.f,.int (k:Int))]) _ ?_ _ ⟨_,_,rfl⟩;rintro⟨x,p⟩ hz env ⟨t,u,rfl⟩;have e1:=y6 (hp p (OO hz).2) hk;refine⟨_,fe _ _ _ _ _,?_⟩;unfold eP;simp only[pv,seval,op,Ib,e1];exact⟨_,_,rfl,_,_,rfl⟩
 have Ij:(((m.zip ps).map fun z=>decide (Gq k z.2<=z.1)).map D.bl).length<=sizeLine:=line_le (by rw[cm,cm,O7];lia);unfold eG mZ eN eM;rw[bH (h:=by rfl)];rw[ay (env':=[some (.f,.tup [.tup (nZ.map D.str),.lst (ps.map eP)]),some (.f,.tup (m.map D.int)),some (.f,.str mv),some (.f,.int (k:Int))]) (by simp only[pv,seval,op,Gn,Ek])];simp only[pv,seval,op,Ib,j5,hc,Ij,j3,qz];unfold y4;rw[OF];rfl
def eO:Option (List Int)->D
 |none=>.non
 |some r=>eM r
theorem wG(o:Option (List Int)):df (eO o)=true:=by
 cases o with
 |none=>rfl
 |some r=>exact nu r
theorem wH(nZ:CZ)(ps:List Pl)(hl:ps.length<=100)(hp:∀p∈ps,GW p nZ.length)(m:List Int)(mv:List Nat)(hm:mv∈nZ):d4 [eN nZ ps,eM m,.str mv]=.ok (.f,eO (di (nZ.idxOf mv) (m.zip ps))):=by
 have hg:=sT nZ ps hl hp m mv hm;have Ek:=qH hm;have hk:=OT hm;rw[ny];generalize nZ.idxOf mv=k at Ek hk hg;have hc:dq (lO 2 (aZ (aM 0) (aZ (aM 1) gc))) i5 (aE fV (aq (aE vM (ao 0) (aq (aE Cq (aq (aE Cq (ao 1) (aq (aB (.int 1))))) (ao 2))))) (aq (aE Cq (aq (aE Cq (ao 1) (aq (aB (.int 2))))) (ao 2)))) ((m.zip ps).map fun z=>D.tup [.int z.1,eP z.2]) [none,none,some (.f,.int (k:Int))]=.ok (((m.zip ps).map fun z=>z.1-Gq k z.2+Ll k z.2).map D.int):=by
  rw[Nv];refine c9 (fun env=>∃t u,env=[t,u,some (.f,.int (k:Int))]) _ ?_ _ ⟨_,_,rfl⟩;rintro⟨x,p⟩ hz env ⟨t,u,rfl⟩;have e1:=y6 (hp p (OO hz).2) hk;have e2:=AK (hp p (OO hz).2) hk;refine⟨_,fe _ _ _ _ _,?_⟩;unfold eP;simp only[pv,seval,op,Ib,at2,e1,e2];exact⟨_,_,rfl,_,_,rfl⟩
 have Ij:(((m.zip ps).map fun z=>z.1-Gq k z.2+Ll k z.2).map D.int).length<=sizeLine:=line_le (by rw[cm,cm,O7];lia);unfold d4 qq;rw[bH (h:=by rfl)];cases hz:y4 k (m.zip ps) with
 |false=>
  rw[hz]at hg;simp only[pv,seval,hg,cf,iN,QR,eI];rfl
 |true=>
  rw[hz]at hg;unfold eN eM at hg ⊢;rw[ay (env':=[some (.f,.tup [.tup (nZ.map D.str),.lst (ps.map eP)]),some (.f,.tup (m.map D.int)),some (.f,.str mv),none]) (by simp only[pv,seval,hg,cf,iN,NP,eI])];rw[ay (env':=[some (.f,.tup [.tup (nZ.map D.str),.lst (ps.map eP)]),some (.f,.tup (m.map D.int)),some (.f,.str mv),some (.f,.int (k:Int))]) (by simp only[pv,seval,op,Gn,Ek])];simp only[pv,seval,op,Ib,j5,hc,Ij,Dg];rfl
def Fx(a b:List Int):Bool:=(a.zip b).all fun z=>decide (z.2<=z.1)
theorem sU(a b:List Int)(hl:a.length<=100):dM [eM a,eM b]=.ok (.f,.bl (Fx a b)):=by
 have hc:dq (lO 2 (aZ (aM 0) (aZ (aM 1) gc))) i5 (aE FC (ao 0) (ao 1)) ((a.zip b).map fun z=>D.tup [.int z.1,.int z.2]) [none,none]=.ok (((a.zip b).map fun z=>decide (z.2<=z.1)).map D.bl):=by
  rw[Nv];refine c9 (fun env=>∃t u,env=[t,u]) _ ?_ _ ⟨_,_,rfl⟩;rintro⟨x,y⟩ hz env ⟨t,u,rfl⟩;refine⟨_,fe _ _ _ _ _,?_⟩;simp only[pv,seval,op];exact⟨_,_,rfl,_,_,rfl⟩
 have Ij:(((a.zip b).map fun z=>decide (z.2<=z.1)).map D.bl).length<=sizeLine:=line_le (by rw[cm,cm,O7];lia);unfold dM m9 eM;rw[bH (h:=by rfl)];simp only[pv,seval,op,j5,hc,Ij,j3,qz];unfold Fx;rw[OF];rfl
abbrev Me:=List Int×CZ×Option Nat
def fg(nZ:CZ)(ps:List Pl)(d:Nat)(mk:List Int)(wy:CZ)(L:List Me)(mv:List Nat):List Me:=match di (nZ.idxOf mv) (mk.zip ps) with
 |none=>L
 |some r=>if r∈L.map (·.1) then L else L++[(r,wy++[mv],some d)]
def gv(nZ:CZ)(ps:List Pl)(d:Nat)(L:List Me):List Me:=match L[d]? with
 |none=>L
 |some e=>nZ.foldl (fg nZ ps d e.1 e.2.1) L
def EV(nZ:CZ)(ps:List Pl):Nat->Nat->List Me->List Me
 | 0,_,L=>L
 |f+1,d,L=>if d<L.length/\L.length<=12 then EV nZ ps f (d+1) (gv nZ ps d L) else L
structure Ex(nZ:CZ)(ps:List Pl)(L:List Me):Prop where
 nd:(L.map (·.1)).Nodup
 z:L[0]?=some (ps.map (·.1),[],none)
 ln:∀e∈L,e.1.length=ps.length
 up:∀i e,L[i]?=some e->0<i->∃a ea mv,e.2.2=some a/\a<i/\L[a]?=some ea/\e.2.1=ea.2.1++[mv]/\di (nZ.idxOf mv) (ea.1.zip ps)=some e.1
theorem Ex.zero(nZ:CZ)(ps:List Pl):Ex nZ ps [(ps.map (·.1),[],none)]:=by
 refine⟨by simp,rfl,fun e he=>?_,fun i e he hi=>?_⟩
 ·rw[zp he];exact cm _
 ·obtain⟨n,rfl⟩:∃n,i=n+1:=⟨i-1,by lia⟩
  rw[List.getElem?_cons_succ]at he;cases he
theorem Ex.add{nZ:CZ}{ps:List Pl}{L:List Me}(x:Ex nZ ps L){d:Nat}{e0:Me}(hd:L[d]?=some e0)(mv:List Nat):Ex nZ ps (fg nZ ps d e0.1 e0.2.1 L mv)/\∃l,fg nZ ps d e0.1 e0.2.1 L mv=L++l/\l.length<=1:=by
 unfold fg;cases hf:di (nZ.idxOf mv) (e0.1.zip ps) with
 |none=>exact⟨x,[],(Nz _).symm,by simp⟩
 |some r=>
  dsimp only;by_cases h:r∈L.map (·.1)
  ·rw[Nc h];exact⟨x,[],(Nz _).symm,by simp⟩
  ·rw[Ng h];have JV:=(uB hd).1;refine⟨⟨?_,?_,fun e he=>?_,fun i e he hi=>?_⟩,_,rfl,M8 _⟩
   ·rw[Nu];refine NO.mpr ⟨x.nd,by simp,fun a ha b hb=>?_⟩;rw[zp hb];rintro rfl;exact h ha
   ·rw[List.getElem?_append_left (by lia)];exact x.z
   ·rcases BQ he with he|he
    ·exact x.ln e he
    ·rw[zp he];have:=lp _ hf;rw[this,O7,x.ln e0 (NQ hd)];lia
   ·by_cases hi2:i<L.length
    ·rw[List.getElem?_append_left hi2]at he;obtain⟨a,ea,m,h1,h2,h3,h4⟩:=x.up i e he hi;exact⟨a,ea,m,h1,h2,by rw[List.getElem?_append_left (by lia)];exact h3,h4⟩
    ·rw[List.getElem?_append_right (by lia)]at he;have hi3:i-L.length=0:=by
      have:=(uB he).1;rw[Ov]at this;lia
     rw[hi3]at he;cases he;exact⟨d,e0,mv,rfl,by lia,by rw[List.getElem?_append_left JV];exact hd,rfl,hf⟩
theorem Ex.fold{nZ:CZ}{ps:List Pl}{d:Nat}{e0:Me}:∀(l:CZ) {L:List Me},Ex nZ ps L->L[d]?=some e0->Ex nZ ps (l.foldl (fg nZ ps d e0.1 e0.2.1) L)/\∃m,l.foldl (fg nZ ps d e0.1 e0.2.1) L=L++m/\m.length<=l.length
 |[],L,x,_=>⟨x,[],(Nz _).symm,M8 _⟩
 |mv::l,L,x,hd=>by
  obtain⟨x1,l1,e1,h1⟩:=x.add hd mv;have JV:=(uB hd).1;obtain⟨x2,l2,e2,h2⟩:=Ex.fold l x1 (d:=d) (e0:=e0) (by rw[e1,List.getElem?_append_left JV];exact hd);refine⟨x2,l1++l2,?_,by rw[wq,Nq];lia⟩;rw[Ob,e2,e1,Oa]
theorem Ex.wl{nZ:CZ}{ps:List Pl}{L:List Me}(x:Ex nZ ps L):∀(i:Nat) (e:Me),L[i]?=some e->e.2.1.length<=i:=by
 intro i;induction i using Nat.strongRecOn with
 |ind i ih=>
  intro e he;by_cases h0:i=0
  ·subst h0;rw[x.z]at he;cases he;exact M8 _
  ·obtain⟨a,ea,mv,_,h2,h3,h4,_⟩:=x.up i e he (by lia);have:=ih a h2 ea h3;rw[h4,wq,Ov];lia
def Gd:Option Nat->D
 |none=>.non
 |some n=>.int (n:Int)
def JW(w:CZ):D:=.tup (w.map D.str)
def CT(e:Me):D:=.tup [eM e.1,JW e.2.1,Gd e.2.2]
theorem y7:∀r:List Int,cx (r.map D.int)=some (r.map Sum.inl)
 |[]=>rfl
 |x::r=>by
  rw[nh,cx,y7 r];rfl
theorem wW(r:List Int):dv true (eM r)=true:=by
 unfold dv eM;rw[Nc rfl];show(cx (r.map D.int)).isSome=true;rw[y7];rfl
theorem MO(r:List Int):∀(ms:List (List Int)) (vs:List D),vs.length=ms.length->(PV.getD (ms.map eM) vs (eM r)).isSome=decide (r∈ms)
 |[],vs,_=>by
  unfold PV.getD;rw[OP,P6];rfl
 |m::ms,[],h=>by cases h
 |m::ms,v::vs,h=>by
  have ih:=MO r ms vs (by simpa using h);unfold PV.getD at ih ⊢;rw[nh,N1];by_cases e:r=m
  ·rw[List.find?_cons_of_pos (by show Ci (eM r) (eM m)=true;rw[qI];exact Nm e)];rw[Nm (by rw[e];exact M7)];rfl
  ·rw[List.find?_cons_of_neg (by show ¬ Ci (eM r) (eM m)=true;rw[qI,Nn];exact e),ih,Nx,Nn,Nn,Ni];exact⟨.inr,fun z=>z.resolve_left e⟩
theorem BZ(r:List Int)(ms:List (List Int))(vs:List D)(d:D)(h:r∉ms):oq (ms.map eM) vs (eM r) d=((ms++[r]).map eM,vs++[d]):=by
 have e:(ms.map eM).any (Ci (eM r))=false:=by
  rw[QB,List.any_eq_false];intro m hm;show ¬ Ci (eM r) (eM m)=true;rw[qI,Nn];rintro rfl;exact h hm
 unfold oq;rw[e,Ng Nb,Nu];rfl
theorem uD(o:Option (List Int)):qO (eO o) .non=.ok (.f,.bl o.isSome):=by cases o <;> rfl
theorem oz{L:List Me}{d:Nat}{e:Me}(h:L[d]?=some e):D4 (L.map CT) (d:Int)=some (CT e):=fX (by rw[List.getElem?_map,h];rfl)
theorem B0(w:CZ)(mv:List Nat)(h:w.length<=1000):fV (.tup (w.map D.str)) (.tup [.str mv])=.ok (.f,.tup ((w++[mv]).map D.str)):=by
 rw[wm,Nc (.inl (line_le (by rw[cm,Ov];lia))),Nu];rfl
def rv(n:Nat):List D:=(List.range n).map fun(k:Nat)=>D.int (k:Int)
theorem wI(n:Nat):rv (n+1)=rv n++[.int (n:Int)]:=by
 unfold rv;rw[OQ,Nu];rfl
theorem y8(n:Nat):(rv n).length=n:=by
 unfold rv;rw[cm,Nt]
def pos(ms:List (List Int))(r:List Int):Nat:=ms.findIdx fun x=>decide (x=r)
theorem MP(r:List Int):∀(ms:List (List Int)) (o:Nat),r∈ms->PV.getD (ms.map eM) ((List.range' o ms.length).map fun(k:Nat)=>D.int (k:Int)) (eM r)=some (.int ((o+pos ms r:Nat):Int))
 |m::ms,o,h=>by
  unfold PV.getD pos;rw[Nq,Pk,nh,nh,N1,Pd];by_cases e:m=r
  ·subst e;rw[List.find?_cons_of_pos (by show Ci (eM m) (eM m)=true;rw[qI,Nm rfl]),Nm rfl];rfl
  ·have h2:r∈ms:=(Ni.mp h).resolve_left fun z=>e z.symm
   have ih:=MP r ms (o+1) h2;unfold PV.getD pos at ih;rw[List.find?_cons_of_neg (by show ¬ Ci (eM r) (eM m)=true;rw[qI,Nn];exact fun z=>e z.symm),ih,Nh e];show some (D.int ((o+1+_:Nat):Int))=some (D.int ((o+(_+1):Nat):Int));rw[show ∀a:Nat,o+1+a=o+(a+1) from fun a=>by lia]
theorem MQ(r:List Int)(ms:List (List Int))(n:Nat)(hn:n=ms.length)(h:r∈ms):PV.getD (ms.map eM) (rv n) (eM r)=some (.int (pos ms r:Int)):=by
 have:=MP r ms 0 h;rw[PN,<-QL,<-hn]at this;exact this
theorem l8(r:List Int):∀ms:List (List Int),r∉ms->pos ms r=ms.length/\pos (ms++[r]) r=ms.length
 |[],_=>⟨rfl,by unfold pos;simp⟩
 |m::ms,h=>by
  rw[Ni,not_or]at h;obtain⟨h1,h2⟩:=l8 r ms h.2;have e:decide (m=r)=false:=Nh fun z=>h.1 z.symm
  unfold pos at h1 h2 ⊢;rw[List.cons_append,Pd,Pd,e,h1,h2];exact⟨rfl,rfl⟩
abbrev Ec:=Int×List Nat×Int
def eA(a:Ec):D:=.tup [.int a.1,.str a.2.1,.int a.2.2]
def l9(nZ:CZ)(ps:List Pl)(d:Nat)(mk:List Int)(L:List Me)(mv:List Nat):List Ec:=match di (nZ.idxOf mv) (mk.zip ps) with
 |none=>[]
 |some r=>[((d:Int),mv,(pos (L.map (·.1)) r:Int))]
theorem B1(nZ:CZ)(ps:List Pl)(hl:ps.length<=100)(hp:∀p∈ps,GW p nZ.length)(L:List Me)(hL:L.length<=1000)(x:Ex nZ ps L)(d:Nat)(e0:Me)(hd:L[d]?=some e0)(ar:List Ec)(ha:ar.length<=10000)(mv:List Nat)(hm:mv∈nZ)(t7:Option R):
  ∃(JD:Option R),
   cH [some (.f,eN nZ ps),some (.l .f,.lst (L.map CT)),some (.d,.dct true ((L.map (·.1)).map eM) (rv L.length)),some (.l .f,.lst (ar.map eA)),some (.f,.int (d:Int)),some (.f,eM e0.1),some (.f,.str mv),t7] =
   .ok (.nx [some (.f,eN nZ ps),some (.l .f,.lst ((fg nZ ps d e0.1 e0.2.1 L mv).map CT)),some (.d,.dct true (((fg nZ ps d e0.1 e0.2.1 L mv).map (·.1)).map eM) (rv (fg nZ ps d e0.1 e0.2.1 L mv).length)),some (.l .f,.lst ((ar++l9 nZ ps d e0.1 L mv).map eA)),some (.f,.int (d:Int)),some (.f,eM e0.1),some (.f,.str mv),JD]):=by
 have JX:=wH nZ ps hl hp e0.1 mv hm;have K8:=x.wl d e0 hd;have JV:=(uB hd).1;have EL:=oz hd;have IB:(L.map CT).length<sizeLine:=ll (by rw[cm];lia);have Lm:(ar.map eA).length<sizeLine:=ll (by rw[cm];lia);have Mf:(L.map (·.1)).length=L.length:=cm _;have hlk:((L.map (·.1)).map eM).length<sizeLine:=ll (by rw[cm,cm];lia);unfold cH fg l9;cases hf:di (nZ.idxOf mv) (e0.1.zip ps) with
 |none=>
  rw[hf]at JX;have hi:=uD none;refine⟨some (.f,eO none),?_⟩;rw[Nz];rw[ay (env':=[some (.f,eN nZ ps),some (.l .f,.lst (L.map CT)),some (.d,.dct true ((L.map (·.1)).map eM) (rv L.length)),some (.l .f,.lst (ar.map eA)),some (.f,.int (d:Int)),some (.f,eM e0.1),some (.f,.str mv),some (.f,eO none)]) (by simp only[pv,↓reduceIte,Nat.reduceAdd,Nat.reduceLT,Nat.reduceLeDiff,Nat.reduceEqDiff,JX,cf,wG])];simp only[pv,↓reduceIte,Nat.reduceAdd,Nat.reduceLT,Nat.reduceLeDiff,Nat.reduceEqDiff,hi,PQ,eI]
 |some r=>
  rw[hf]at JX;have hi:qO (eM r) .non=.ok (.f,.bl true):=uD (some r);have JX:d4 [eN nZ ps,eM e0.1,.str mv]=.ok (.f,eM r):=JX;have hg:=MO r (L.map (·.1)) (rv L.length) (by rw[cm,y8]);dsimp only;rw[show ∀t:FS,sSeq (cw 7 (dj d4 (ai (ao 0) (ai (ao 5) (ai (ao 6) aF))))) t [some (.f,eN nZ ps),some (.l .f,.lst (L.map CT)),some (.d,.dct true ((L.map (·.1)).map eM) (rv L.length)),some (.l .f,.lst (ar.map eA)),some (.f,.int (d:Int)),some (.f,eM e0.1),some (.f,.str mv),t7]=t [some (.f,eN nZ ps),some (.l .f,.lst (L.map CT)),some (.d,.dct true ((L.map (·.1)).map eM) (rv L.length)),some (.l .f,.lst (ar.map eA)),some (.f,.int (d:Int)),some (.f,eM e0.1),some (.f,.str mv),some (.f,eM r)] from fun t=>ay (by simp only[pv,↓reduceIte,Nat.reduceAdd,Nat.reduceLT,Nat.reduceLeDiff,Nat.reduceEqDiff,JX,cf,nu])];by_cases h:r∈L.map (·.1)
  ·rw[Nc h];rw[Nm h]at hg;have Iy:=MQ r (L.map (·.1)) L.length Mf.symm h;have hn:v3 (eM r) (.dct true ((L.map (·.1)).map eM) (rv L.length))=.ok (.f,.bl false):=by
    unfold v3;dsimp only;rw[wW,Nc rfl,hg];rfl
   have Mg:Jf (.dct true ((L.map (·.1)).map eM) (rv L.length)) (eM r)=.ok (.f,.int (pos (L.map (·.1)) r:Int)):=by
    unfold Jf;dsimp only;rw[wW,Nc rfl,Iy]
   refine⟨some (.f,eM r),?_⟩;rw[Nu];simp only[pv,↓reduceIte,Nat.reduceAdd,Nat.reduceLT,Nat.reduceLeDiff,Nat.reduceEqDiff,hi,hn,Mg,Lm,eI];rfl
  ·rw[Ng h];rw[Nh h]at hg;have hn:v3 (eM r) (.dct true ((L.map (·.1)).map eM) (rv L.length))=.ok (.f,.bl true):=by
    unfold v3;dsimp only;rw[wW,Nc rfl,hg];rfl
   have MR:=BZ r (L.map (·.1)) (rv L.length) (.int (L.length:Int)) h;rw[<-wI]at MR;obtain⟨pn1,pn2⟩:=l8 r (L.map (·.1)) h;have Iy:=MQ r (L.map (·.1)++[r]) (L.length+1) (by rw[wq,Mf];rfl) (Na _ M7);rw[pn2]at Iy;have Mg:Jf (.dct true ((L.map (·.1)++[r]).map eM) (rv (L.length+1))) (eM r)=.ok (.f,.int ((L.map (·.1)).length:Int)):=by
    unfold Jf;dsimp only;rw[wW,Nc rfl,Iy]
   have hw:=B0 e0.2.1 mv (by lia);refine⟨some (.f,eM r),?_⟩;rw[pn1,Nu,Nu (f:=fun e:Me=>e.1),wq (s:=L),Nu (f:=eA)];show _=Res.ok (Out.nx [_,_,some (O.d,D.dct true _ (rv (L.length+1))),_,_,_,_,_]);unfold CT JW at EL ⊢;have hlL:L.length<sizeLine:=ll (by lia);have hla2:ar.length<sizeLine:=ll (by lia);simp only[pv,↓reduceIte,Nat.reduceAdd,Nat.reduceLT,Nat.reduceLeDiff,Nat.reduceEqDiff,op,hi,hn,wW,hlL,Qd,Pw,cm,MR,EL,Ib,hw,Mg,hla2];rfl
def fU(nZ:CZ)(ps:List Pl)(d:Nat)(mk:List Int)(wy:CZ)(s:List Me×List Ec)(mv:List Nat):List Me×List Ec:=(fg nZ ps d mk wy s.1 mv,s.2++l9 nZ ps d mk s.1 mv)
theorem iU(nZ:CZ)(ps:List Pl)(d:Nat)(mk:List Int)(wy:CZ):∀(l:CZ) (s:List Me×List Ec),(l.foldl (fU nZ ps d mk wy) s).1=l.foldl (fg nZ ps d mk wy) s.1
 |[],_=>rfl
 |m::l,s=>by rw[Ob,Ob,iU nZ ps d mk wy l];rfl
theorem iV(nZ:CZ)(ps:List Pl)(d:Nat)(mk:List Int)(wy:CZ):∀(l:CZ) (s:List Me×List Ec),(l.foldl (fU nZ ps d mk wy) s).2.length<=s.2.length+l.length
 |[],_=>M8 _
 |m::l,s=>by
  have:=iV nZ ps d mk wy l (fU nZ ps d mk wy s m);have h2:(fU nZ ps d mk wy s m).2.length<=s.2.length+1:=by
   unfold fU l9;dsimp only;rw[wq];split <;> simp
  rw[Ob,Nq];lia
def cS(nZ:CZ)(ps:List Pl)(d:Nat)(s:List Me×List Ec):List Me×List Ec:=match s.1[d]? with
 |none=>s
 |some e=>nZ.foldl (fU nZ ps d e.1 e.2.1) s
theorem lq(nZ:CZ)(ps:List Pl)(d:Nat)(s:List Me×List Ec):(cS nZ ps d s).1=gv nZ ps d s.1:=by
 unfold cS gv;cases s.1[d]? with
 |none=>rfl
 |some e=>exact iU nZ ps d e.1 e.2.1 nZ s
theorem y9(nZ:CZ)(hn:nZ.length<=10)(ps:List Pl)(hl:ps.length<=100)(hp:∀p∈ps,GW p nZ.length)(s0:List Me×List Ec)(hL:s0.1.length<=100)(x:Ex nZ ps s0.1)(d:Nat)(e0:Me)(hd:s0.1[d]?=some e0)(ha:s0.2.length<=1000)(t6 t7:Option R):
  ∃(KO JD:Option R),d5 [some (.f,eN nZ ps),some (.l .f,.lst (s0.1.map CT)),some (.d,.dct true ((s0.1.map (·.1)).map eM) (rv s0.1.length)),some (.l .f,.lst (s0.2.map eA)),some (.f,.int (d:Int)),some (.f,eM e0.1),t6,t7] =
   .ok (.nx [some (.f,eN nZ ps),some (.l .f,.lst ((cS nZ ps d s0).1.map CT)),some (.d,.dct true (((cS nZ ps d s0).1.map (·.1)).map eM) (rv (cS nZ ps d s0).1.length)),some (.l .f,.lst ((cS nZ ps d s0).2.map eA)),some (.f,.int (d:Int)),some (.f,eM e0.1),KO,JD]):=by
 have JV:=(uB hd).1;obtain⟨env',hf,s,KO,JD,hs,rfl⟩:=for_list (a:=aM 6) (g:=cH) (e:=D.str) nZ (fun j env=>∃(s:List Me×List Ec) (t6 t7:Option R),s=(nZ.take j).foldl (fU nZ ps d e0.1 e0.2.1) s0/\env=[some (.f,eN nZ ps),some (.l .f,.lst (s.1.map CT)),some (.d,.dct true ((s.1.map (·.1)).map eM) (rv s.1.length)),some (.l .f,.lst (s.2.map eA)),some (.f,.int (d:Int)),some (.f,eM e0.1),t6,t7]) (by
  rintro j mv env hj ⟨s,t6,t7,hs,rfl⟩;obtain⟨hj1,hj2⟩:=uB hj;obtain⟨x1,m,em,lm⟩:=Ex.fold (d:=d) (e0:=e0) (nZ.take j) x hd;have hm:mv∈nZ:=NQ hj;have f1:=iU nZ ps d e0.1 e0.2.1 (nZ.take j) s0;have f2:=iV nZ ps d e0.1 e0.2.1 (nZ.take j) s0;rw[<-hs]at f1 f2;rw[<-f1]at x1 em;rw[NI]at lm f2;have hd1:s.1[d]?=some e0:=by
   rw[em,List.getElem?_append_left JV];exact hd
  obtain⟨t72,r3⟩:=B1 nZ ps hl hp s.1 (by rw[em,wq];lia) x1 d e0 hd1 s.2 (by lia) mv hm t7;refine⟨[some (.f,eN nZ ps),some (.l .f,.lst (s.1.map CT)),some (.d,.dct true ((s.1.map (·.1)).map eM) (rv s.1.length)),some (.l .f,.lst (s.2.map eA)),some (.f,.int (d:Int)),some (.f,eM e0.1),some (.f,.str mv),t7],by simp only[pv,↓reduceIte,Nat.reduceAdd,Nat.reduceLT,Nat.reduceLeDiff,Nat.reduceEqDiff],_,r3,fU nZ ps d e0.1 e0.2.1 s mv,_,t72,?_,rfl⟩;rw[List.take_succ_eq_append_getElem hj1,List.foldl_append,hj2,<-hs];rfl) [some (.f,eN nZ ps),some (.l .f,.lst (s0.1.map CT)),some (.d,.dct true ((s0.1.map (·.1)).map eM) (rv s0.1.length)),some (.l .f,.lst (s0.2.map eA)),some (.f,.int (d:Int)),some (.f,eM e0.1),t6,t7] ⟨s0,t6,t7,rfl,rfl⟩
 have es:cS nZ ps d s0=s:=by
  unfold cS;rw[hd,hs,List.take_length]
 rw[es];refine⟨KO,JD,?_⟩;unfold d5;rw[FK,<-hf];unfold eN;simp only[pv,↓reduceIte,Nat.reduceAdd,Nat.reduceLT,Nat.reduceLeDiff,Nat.reduceEqDiff,op,Gn]
theorem sV(env:PV.Env)(f g:FX):qk f g env=Res.bnd (f env) (f:=⟨fun p=>Res.bnd (g p.2) (f:=⟨fun q=>if dv true p.1.2 then .ok ((.d,.dct true [p.1.2] [q.1.2]),q.2) else .bad⟩)⟩):=id rfl
def L0(ps:List Pl):List Me:=[(ps.map (·.1),[],none)]
theorem j6(nZ:CZ)(ps:List Pl){L:List Me}(x:Ex nZ ps L)(d:Nat)(hd:d<L.length):Ex nZ ps (gv nZ ps d L)/\(gv nZ ps d L).length<=L.length+nZ.length:=by
 have e:L[d]?=some L[d]:=wV hd;unfold gv;rw[e];obtain⟨x1,m,em,lm⟩:=Ex.fold (d:=d) (e0:=L[d]) nZ x e;refine⟨x1,?_⟩;dsimp only;rw[em,wq];lia
theorem uE(nZ:CZ)(ps:List Pl):∀(f d:Nat) {L:List Me},Ex nZ ps L->Ex nZ ps (EV nZ ps f d L)
 | 0,_,_,x=>x
 |f+1,d,L,x=>by
  rw[EV];split
  ·rename_i h;exact uE nZ ps f (d+1) (j6 nZ ps x d h.1).1
  ·exact x
def Em(nZ:CZ)(ps:List Pl):Nat->Nat->List Me×List Ec->List Me×List Ec
 | 0,_,s=>s
 |f+1,d,s=>if d<s.1.length/\s.1.length<=12 then Em nZ ps f (d+1) (cS nZ ps d s) else s
theorem j7(nZ:CZ)(ps:List Pl):∀(f d:Nat) (s:List Me×List Ec),(Em nZ ps f d s).1=EV nZ ps f d s.1
 | 0,_,_=>rfl
 |f+1,d,s=>by
  rw[Em,EV];split
  ·rw[j7 nZ ps f,lq]
  ·rfl
def M0(ps:List Pl):List Me×List Ec:=(L0 ps,[])
theorem oA(nZ:CZ)(ps:List Pl)(d:Nat)(s:List Me×List Ec):(cS nZ ps d s).2.length<=s.2.length+nZ.length:=by
 unfold cS;split
 ·lia
 ·exact iV nZ ps d _ _ nZ s
theorem iW(nZ:CZ)(hn:nZ.length<=10)(ps:List Pl)(hl:ps.length<=100)(hp:∀p∈ps,GW p nZ.length):aU [eN nZ ps]=.ok (.f,.tup [.lst ((Em nZ ps 13 0 (M0 ps)).1.map CT),.lst ((Em nZ ps 13 0 (M0 ps)).2.map eA)]):=by
 have hfm:=wF nZ ps hl;have fM:=nu (ps.map (·.1));generalize hG:Em nZ ps 13 0 (M0 ps)=G;obtain⟨env',hw,d,t5,t6,t7,rfl⟩:=iS (c:=CF (kM JT JR (ao 4) (aq (bW gQ (ai (ao 1) aF))) (aq (aB (.int 12))))) (g:=dJ) (fun k env=>∃(s:List Me×List Ec) (d:Nat) (t5 t6 t7:Option R),d+k=13/\Ex nZ ps s.1/\s.1.length<=30/\s.2.length<=10*d/\Em nZ ps k d s=G/\
   env=[some (.f,eN nZ ps),some (.l .f,.lst (s.1.map CT)),some (.d,.dct true ((s.1.map (·.1)).map eM) (rv s.1.length)),some (.l .f,.lst (s.2.map eA)),some (.f,.int (d:Int)),t5,t6,t7])
  (fun env=>∃(d:Nat) (t5 t6 t7:Option R),env=[some (.f,eN nZ ps),some (.l .f,.lst (G.1.map CT)),some (.d,.dct true ((G.1.map (·.1)).map eM) (rv G.1.length)),some (.l .f,.lst (G.2.map eA)),some (.f,.int (d:Int)),t5,t6,t7]) (by
   rintro k env ⟨s,d,t5,t6,t7,hk,x,hL,ha,hg,rfl⟩;by_cases h:d<s.1.length/\s.1.length<=12
   ·obtain⟨k',rfl⟩:∃k',k=k'+1:=⟨k-1,by lia⟩
    rw[Em,Nc h]at hg;have hd:s.1[d]?=some s.1[d]:=wV h.1;obtain⟨x1,l1⟩:=j6 nZ ps x d h.1;have la:=oA nZ ps d s;rw[<-lq]at x1 l1;have c1:decide ((d:Int)<(s.1.length:Int))=true:=Nm (by lia);have c2:decide ((s.1.length:Int)<=12)=true:=Nm (by lia);generalize s.1[d]=e0 at hd;have EL:=oz hd;obtain⟨KO,JD,r3⟩:=y9 nZ hn ps hl hp s (by lia) x d e0 hd (by lia) t6 t7;refine .inr ⟨[some (.f,eN nZ ps),some (.l .f,.lst (s.1.map CT)),some (.d,.dct true ((s.1.map (·.1)).map eM) (rv s.1.length)),some (.l .f,.lst (s.2.map eA)),some (.f,.int (d:Int)),t5,t6,t7],?_,[some (.f,eN nZ ps),some (.l .f,.lst ((cS nZ ps d s).1.map CT)),some (.d,.dct true (((cS nZ ps d s).1.map (·.1)).map eM) (rv (cS nZ ps d s).1.length)),some (.l .f,.lst ((cS nZ ps d s).2.map eA)),some (.f,.int ((d+1:Nat):Int)),some (.f,eM e0.1),KO,JD],k',?_,Oc _,cS nZ ps d s,d+1,_,_,_,by lia,x1,by lia,by lia,hg,rfl⟩
    ·simp only[pv,↓reduceIte,Nat.reduceAdd,Nat.reduceLT,Nat.reduceLeDiff,Nat.reduceEqDiff,op,cm,c1,c2]
    ·unfold dJ;rw[ay (env':=[some (.f,eN nZ ps),some (.l .f,.lst (s.1.map CT)),some (.d,.dct true ((s.1.map (·.1)).map eM) (rv s.1.length)),some (.l .f,.lst (s.2.map eA)),some (.f,.int (d:Int)),some (.f,eM e0.1),t6,t7]) (by
      unfold CT at EL ⊢;simp only[pv,↓reduceIte,Nat.reduceAdd,Nat.reduceLT,Nat.reduceLeDiff,Nat.reduceEqDiff,op,EL,Gn])]
     rw[ay r3];unfold fN;simp only[pv,↓reduceIte,Nat.reduceAdd,Nat.reduceLT,Nat.reduceLeDiff,Nat.reduceEqDiff,op];rfl
   ·left;have hgL:s=G:=by
     cases k with
     |zero=>exact hg
     |succ k=>rw[Em,Ng h]at hg;exact hg
    subst hgL;refine⟨_,?_,d,t5,t6,t7,rfl⟩;by_cases h1:d<s.1.length
    ·have c1:decide ((d:Int)<(s.1.length:Int))=true:=Nm (by lia);have c2:decide ((s.1.length:Int)<=12)=false:=Nh (by lia);simp only[pv,↓reduceIte,Nat.reduceAdd,Nat.reduceLT,Nat.reduceLeDiff,Nat.reduceEqDiff,op,cm,c1,c2]
    ·have c1:decide ((d:Int)<(s.1.length:Int))=false:=Nh (by lia);simp only[pv,↓reduceIte,Nat.reduceAdd,Nat.reduceLT,Nat.reduceLeDiff,Nat.reduceEqDiff,op,cm,c1]) 100000 13 [some (.f,eN nZ ps),some (.l .f,.lst ((L0 ps).map CT)),some (.d,.dct true (((L0 ps).map (·.1)).map eM) [.int 0]),some (.l .f,.lst []),some (.f,.int ((0:Nat):Int)),none,none,none] (by decide) ⟨M0 ps,0,none,none,none,rfl,Ex.zero nZ ps,(by decide:1<=30),NG _,hG,rfl⟩
 unfold aU jn;rw[bH (h:=by rfl)];rw[ay (env':=[some (.f,eN nZ ps),some (.l .f,.lst ((L0 ps).map CT)),none,none,none,none,none,none]) (by
  simp only[pv,↓reduceIte,Nat.reduceAdd,Nat.reduceLT,Nat.reduceLeDiff,Nat.reduceEqDiff,hfm,cf,fM];rfl)]
 rw[ay (env':=[some (.f,eN nZ ps),some (.l .f,.lst ((L0 ps).map CT)),some (.d,.dct true (((L0 ps).map (·.1)).map eM) [.int 0]),none,none,none,none,none]) (by
  unfold L0 CT;simp only[pv,↓reduceIte,Nat.reduceAdd,Nat.reduceLT,Nat.reduceLeDiff,Nat.reduceEqDiff,op,sV,Gn,wW])]
 rw[ay (env':=[some (.f,eN nZ ps),some (.l .f,.lst ((L0 ps).map CT)),some (.d,.dct true (((L0 ps).map (·.1)).map eM) [.int 0]),some (.l .f,.lst []),none,none,none,none]) (by simp only[pv,↓reduceIte,Nat.reduceAdd,Nat.reduceLT,Nat.reduceLeDiff,Nat.reduceEqDiff])];rw[ay (env':=[some (.f,eN nZ ps),some (.l .f,.lst ((L0 ps).map CT)),some (.d,.dct true (((L0 ps).map (·.1)).map eM) [.int 0]),some (.l .f,.lst []),some (.f,.int ((0:Nat):Int)),none,none,none]) (by simp only[pv,↓reduceIte,Nat.reduceAdd,Nat.reduceLT,Nat.reduceLeDiff,Nat.reduceEqDiff];rfl)];unfold gD fO;rw[ay hw];simp only[pv,↓reduceIte,Nat.reduceAdd,Nat.reduceLT,Nat.reduceLeDiff,Nat.reduceEqDiff]
theorem oB(nZ:CZ)(hn:nZ.length<=10)(ps:List Pl)(hl:ps.length<=100)(hp:∀p∈ps,GW p nZ.length):∃ar:List D,aU [eN nZ ps]=.ok (.f,.tup [.lst ((EV nZ ps 13 0 (L0 ps)).map CT),.lst ar]):=by
 have h:=iW nZ hn ps hl hp;rw[j7]at h;exact⟨_,h⟩
theorem qJ{a:FG}{g:FS}(P:Nat->PV.Env->Prop)(r:Nat->Option R)(ds:List D)(h:∀i d env,ds[i]?=some d->P i env->∃B9,a d env=.ok B9/\((r i=none/\∃Cn,g B9=.ok (.nx Cn)/\P (i+1) Cn)\/∃v,r i=some v/\g B9=.ok (.rt v))):
  ∀env,P 0 env->((List.range ds.length).findSome? r=none/\∃env',i4 a g ds env=.ok (.nx env')/\P ds.length env')\/∃v,(List.range ds.length).findSome? r=some v/\i4 a g ds env=.ok (.rt v):=by
 have key:∀(l:List D) (k:Nat) (env:PV.Env),(∀i d,l[i]?=some d->ds[k+i]?=some d)->P k env->((List.range' k l.length).findSome? r=none/\∃env',i4 a g l env=.ok (.nx env')/\P (k+l.length) env')\/∃v,(List.range' k l.length).findSome? r=some v/\i4 a g l env=.ok (.rt v):=by
  intro l;induction l with
  |nil=>exact fun k env _ hp=>.inl ⟨rfl,env,rfl,hp⟩
  |cons d l ih=>
   intro k env hd hp;obtain⟨B9,h1,h2⟩:=h k d env (hd 0 d rfl) hp;rw[Nq,Pk,List.findSome?_cons];rcases h2 with⟨h2,Cn,h3,h4⟩|⟨v,h2,h3⟩
   ·rw[h2];dsimp only;have:=ih (k+1) Cn (fun i d e=>by have:=hd (i+1) d (by simpa using e);rw[show k+1+i=k+(i+1) by lia];exact this) h4;rw[El,h1,Dv,h3,Dv,show k+(l.length+1)=k+1+l.length by lia];exact this
   ·rw[h2];dsimp only;refine .inr ⟨v,rfl,?_⟩;rw[El,h1,Dv,h3,Dv]
 intro env hp;have:=key ds 0 env (fun i d e=>by rw[PN];exact e) hp;rw[PN,<-QL]at this;exact this
def lr(L:List Me)(mk:List Int):Nat->Option Nat->Option Nat
 |_,none=>none
 | 0,some _=>none
 |f+1,some a=>match L[a]? with
  |some e=>if Fx mk e.1 then some a else lr L mk f e.2.2
  |none=>none
def JY(w v:CZ):D:=.tup [.str [103,114,111,119,115],JW w,JW v]
def Ge(L:List Me)(k:Nat):Option R:=match L[k]? with
 |some e=>(match lr L e.1 k e.2.2 with
  |some a=>(match L[a]? with
   |some ea=>some (.f,JY ea.2.1 (e.2.1.drop ea.2.1.length))
   |none=>none)
  |none=>none)
 |none=>none
theorem uF(o:Option Nat):qO (Gd o) .non=.ok (.f,.bl o.isSome):=by cases o <;> rfl
theorem qK{nZ:CZ}{ps:List Pl}(hl:ps.length<=100){L:List Me}(hL:L.length<=100)(x:Ex nZ ps L){k:Nat}{e:Me}(hk:L[k]?=some e):aK [.lst (L.map CT),.int (k:Int)]=.ok (.f,Gd (lr L e.1 k e.2.2)):=by
 have hkl:=(uB hk).1;have EL:=oz hk;have hln:=x.ln e (NQ hk);have MS:∀a,e.2.2=some a->a<k:=fun a ha=>by
  rcases PR k with h|h
  ·subst h;rw[x.z]at hk;cases hk;cases ha
  ·obtain⟨a',_,_,h1,h2,_⟩:=x.up k e hk h;rw[ha]at h1;cases h1;exact h2
 generalize hG:lr L e.1 k e.2.2=G;obtain⟨env',hw,rfl⟩:=iS (c:=ya (CF (bV qO (ao 2) (aq (aB .non)))) (ib (CF (dj dM (ai (aq (aE Cq (aq (aE Cq (ao 0) (ao 1))) (aq (aB (.int 0))))) (ai (aq (aE Cq (aq (aE Cq (ao 0) (ao 2))) (aq (aB (.int 0))))) aF)))))) (g:=bt) (fun f env=>∃o:Option Nat,(∀a,o=some a->a<f)/\(∀a,o=some a->a<k)/\lr L e.1 f o=G/\env=[some (.f,.lst (L.map CT)),some (.f,.int (k:Int)),some (.f,Gd o)])
  (fun env=>env=[some (.f,.lst (L.map CT)),some (.f,.int (k:Int)),some (.f,Gd G)]) (by
   rintro f env ⟨o,ho,hok,hg,rfl⟩;have hi:=uF o;cases o with
   |none=>
    have hg:G=none:=by rw[<-hg];cases f <;> rfl
    subst hg;refine .inl ⟨_,?_,rfl⟩;simp only[pv,↓reduceIte,Nat.reduceAdd,Nat.reduceLT,Nat.reduceLeDiff,Nat.reduceEqDiff,hi,PQ,eI]
   |some a=>
    have haf:=ho a rfl;have hak:=hok a rfl;obtain⟨f',rfl⟩:∃f',f=f'+1:=⟨f-1,by lia⟩
    have ha:L[a]?=some L[a]:=wV (by lia);generalize L[a]=ea at ha;have EW:=oz ha;have Ln:=sU e.1 ea.1 (by lia);rw[lr,ha]at hg;dsimp only at hg;have hi:qO (.int (a:Int)) .non=.ok (.f,.bl true):=hi;cases hc:Fx e.1 ea.1 with
    |true=>
     rw[hc,Nc rfl]at hg;rw[hc]at Ln;subst hg;refine .inl ⟨_,?_,rfl⟩;unfold Gd;unfold CT at EL EW ⊢;simp only[pv,↓reduceIte,Nat.reduceAdd,Nat.reduceLT,Nat.reduceLeDiff,Nat.reduceEqDiff,op,hi,EL,EW,Gn,Ln,cf,iN,NP]
    |false=>
     rw[hc,Ng Nb]at hg;rw[hc]at Ln;refine .inr ⟨[some (.f,.lst (L.map CT)),some (.f,.int (k:Int)),some (.f,Gd (some a))],?_,[some (.f,.lst (L.map CT)),some (.f,.int (k:Int)),some (.f,Gd ea.2.2)],f',?_,Oc _,ea.2.2,?_,?_,hg,rfl⟩
     ·unfold Gd;unfold CT at EL EW ⊢;simp only[pv,↓reduceIte,Nat.reduceAdd,Nat.reduceLT,Nat.reduceLeDiff,Nat.reduceEqDiff,op,hi,EL,EW,Gn,Ln,cf,iN,QR]
     ·show bt [some (.f,.lst (L.map CT)),some (.f,.int (k:Int)),some (.f,.int (a:Int))]=_;unfold bt CT;unfold CT at EW;simp only[pv,↓reduceIte,Nat.reduceAdd,Nat.reduceLT,Nat.reduceLeDiff,Nat.reduceEqDiff,op,EW,at2]
     ·intro a' KP;rcases PR a with h|h
      ·subst h;rw[x.z]at ha;cases ha;cases KP
      ·obtain⟨a2,_,_,h1,h2,_⟩:=x.up a ea ha h;rw[KP]at h1;cases h1;lia
     ·intro a' KP;rcases PR a with h|h
      ·subst h;rw[x.z]at ha;cases ha;cases KP
      ·obtain⟨a2,_,_,h1,h2,_⟩:=x.up a ea ha h;rw[KP]at h1;cases h1;lia) 100000 k [some (.f,.lst (L.map CT)),some (.f,.int (k:Int)),some (.f,Gd e.2.2)] (by lia) ⟨e.2.2,MS,MS,hG,rfl⟩
 unfold aK dw;rw[bH (h:=by rfl)];rw[ay (env':=[some (.f,.lst (L.map CT)),some (.f,.int (k:Int)),some (.f,Gd e.2.2)]) (by
  unfold CT at EL ⊢;simp only[pv,↓reduceIte,Nat.reduceAdd,Nat.reduceLT,Nat.reduceLeDiff,Nat.reduceEqDiff,op,EL,at2])]
 unfold cN cE;rw[ay hw];simp only[pv,↓reduceIte,Nat.reduceAdd,Nat.reduceLT,Nat.reduceLeDiff,Nat.reduceEqDiff]
def sW(n:Nat):D:=.tup [.str [101,110,100,115],.int (n:Int)]
def zq:D:=.tup [.str [98,101,121,111,110,100]]
def sX(L:List Me):R:=if L.length<=12 then(.f,sW L.length) else(match(List.range 13).findSome? (Ge L) with
 |some v=>v
 |none=>(.f,zq))
theorem ma(nZ:CZ)(hn:nZ.length<=10)(ps:List Pl):∀(f d:Nat) {L:List Me},Ex nZ ps L->L.length<=22->(EV nZ ps f d L).length<=22
 | 0,_,_,_,h=>h
 |f+1,d,L,x,h=>by
  rw[EV];split
  ·rename_i z;obtain⟨x1,l1⟩:=j6 nZ ps x d z.1;exact ma nZ hn ps f (d+1) x1 (by lia)
  ·exact h
theorem lu(L:List Me)(mk:List Int):∀(f:Nat) (o:Option Nat) (a:Nat),lr L mk f o=some a->∃ea,L[a]?=some ea
 | 0,none,_,h=>by cases h
 | 0,some _,_,h=>by cases h
 |f+1,none,_,h=>by cases h
 |f+1,some b,a,h=>by
  rw[lr]at h;cases hb:L[b]? with
  |none=>rw[hb]at h;cases h
  |some e=>
   rw[hb]at h;dsimp only at h;split at h
   ·cases h;exact⟨e,hb⟩
   ·exact lu L mk f _ a h
theorem sY(nZ:CZ)(hn:nZ.length<=10)(ps:List Pl)(hl:ps.length<=100)(hp:∀p∈ps,GW p nZ.length):bB [eN nZ ps]=.ok (sX (EV nZ ps 13 0 (L0 ps))):=by
 obtain⟨ar,he⟩:=oB nZ hn ps hl hp;have x:=uE nZ ps 13 0 (Ex.zero nZ ps);have hL:(EV nZ ps 13 0 (L0 ps)).length<=100:=NF (ma nZ hn ps 13 0 (Ex.zero nZ ps) (by decide:1<=22)) (by decide);change Ex nZ ps (EV nZ ps 13 0 (L0 ps)) at x;generalize EV nZ ps 13 0 (L0 ps)=L at he x hL;unfold bB iJ sX;rw[bH (h:=by rfl)];rw[ay (env':=[some (.f,eN nZ ps),some (.f,.lst (L.map CT)),none,none,none]) (by simp only[pv,seval,op,he,Gn,nh,OP,y0,y1,ite_self])];by_cases Gf:L.length<=12
 ·have c1:decide ((L.length:Int)<=12)=true:=Nm (by lia);rw[Nc Gf];simp only[pv,seval,op,cm,c1];rfl
 ·have c1:decide ((L.length:Int)<=12)=false:=Nh (by lia);rw[Ng Gf];rw[ay (env':=[some (.f,eN nZ ps),some (.f,.lst (L.map CT)),none,none,none]) (by simp only[pv,seval,op,cm,c1,eI])];have ff:=qJ (a:=aM 2) (g:=ck) (fun _ env=>∃t2 t3 t4:Option R,env=[some (.f,eN nZ ps),some (.f,.lst (L.map CT)),t2,t3,t4]) (Ge L) ((List.range 13).map fun(k:Nat)=>D.int (k:Int)) (by
   rintro i d env hd ⟨t2,t3,t4,rfl⟩;rw[List.getElem?_map,Nr]at hd;obtain⟨k,hk,rfl⟩:=hd;obtain⟨h1,h2⟩:=uB hk;rw[Nt]at h1;rw[PM]at h2;subst h2;have Hu:L[i]?=some L[i]:=wV (by lia);generalize L[i]=e at Hu;have JZ:=qK hl hL x Hu;have EL:=oz Hu;refine⟨[some (.f,eN nZ ps),some (.f,.lst (L.map CT)),some (.f,.int (i:Int)),t3,t4],by simp only[pv,seval],?_⟩;unfold Ge;rw[Hu];dsimp only;have Mh:∀o:Option Nat,df (Gd o)=true:=fun o=>by cases o <;> rfl
   cases hN:lr L e.1 i e.2.2 with
   |none=>
    rw[hN]at JZ;have hi:=uF none;refine .inl ⟨rfl,[some (.f,eN nZ ps),some (.f,.lst (L.map CT)),some (.f,.int (i:Int)),some (.f,Gd none),t4],?_,_,_,_,rfl⟩;unfold ck;simp only[pv,seval,JZ,cf,Mh,hi,PQ,eI]
   |some a=>
    rw[hN]at JZ;obtain⟨ea,MT⟩:=lu L e.1 i e.2.2 a hN;have EW:=oz MT;have hi:qO (.int (a:Int)) .non=.ok (.f,.bl true):=rfl;have JZ:aK [.lst (L.map CT),.int (i:Int)]=.ok (.f,.int (a:Int)):=JZ;have Fq:ka (e.2.1.map D.str) (some (ea.2.1.length:Int)) none=(e.2.1.drop ea.2.1.length).map D.str:=by
     rw[sS,List.map_drop]
    dsimp only;rw[MT];refine .inr ⟨_,rfl,?_⟩;unfold ck;rw[ay (env':=[some (.f,eN nZ ps),some (.f,.lst (L.map CT)),some (.f,.int (i:Int)),some (.f,.int (a:Int)),t4]) (by simp only[pv,seval,JZ,cf,fS])];unfold JY JW;unfold CT JW at EL EW ⊢;simp only[pv,seval,op,hi,EL,EW,Ib,cm,Fq]) [some (.f,eN nZ ps),some (.f,.lst (L.map CT)),none,none,none] ⟨_,_,_,rfl⟩
  have hr:eZ (aq (aE fV (aq (aB (.int 12))) (aq (aB (.int 1))))) [some (.f,eN nZ ps),some (.f,.lst (L.map CT)),none,none,none]=.ok ((List.range 13).map fun(k:Nat)=>D.int (k:Int),[some (.f,eN nZ ps),some (.f,.lst (L.map CT)),none,none,none]):=BV (12+1) (by decide) (by decide) _ _ _ (.val (.int (12+1))) (by simp only[pv,seval,op]) rfl;rw[cm,Nt]at ff;unfold fP;rw[Ew,FK,hr,Dv];dsimp only;rcases ff with⟨f1,env',f2,t2,t3,t4,rfl⟩|⟨v,f1,f2⟩
  ·rw[f1,f2,Dv];unfold eT;simp only[pv,seval];rfl
  ·rw[f1,f2,Dv];rfl
theorem j8(x y z:D)(t1 t2 t3:Option R)(cj:PV.Env):lO 3 (aZ (aM 0) (aZ (aM 1) (aZ (aM 2) gc))) (.tup [x,y,z]) (t1::t2::t3::cj)=.ok (some (.f,x)::some (.f,y)::some (.f,z)::cj):=by
 rw[uA,Nc (by simp),fR,DF,Nc (by simp),Dv,fR,DF,Nc (by simp),Dv,fR,DF,Nc (by simp),Dv];rfl
theorem uG{g:FS}{x:FB}{env e:PV.Env}(h:g env=.ok (.nx e)):wR g x env=x e:=by
 unfold wR;rw[h]
theorem AL(nZ:CZ)(hn:nZ.length<=10)(ps:List Pl)(hl:ps.length<=100)(hp:∀p∈ps,GW p nZ.length):(12<(EV nZ ps 13 0 (L0 ps)).length/\x_run_of [eN nZ ps]=true)\/((EV nZ ps 13 0 (L0 ps)).length<=12/\x_run_of [eN nZ ps]=false/\bZ [eN nZ ps]=.ok (.f,.tup [.tup [.tup (nZ.map D.str),.lst ((Em nZ ps 13 0 (M0 ps)).2.map eA)],.lst (((EV nZ ps 13 0 (L0 ps)).map (·.1)).map eM)])):=by
 have he:=iW nZ hn ps hl hp;rw[j7]at he;generalize (Em nZ ps 13 0 (M0 ps)).2.map eA=ar at he;change aU [eN nZ ps]=.ok (.f,.tup [.lst ((EV nZ ps 13 0 (L0 ps)).map CT),.lst ar]) at he;have hL:(EV nZ ps 13 0 (L0 ps)).length<=100:=NF (ma nZ hn ps 13 0 (Ex.zero nZ ps) (by decide:1<=22)) (by decide);generalize EV nZ ps 13 0 (L0 ps)=L at he hL;have hc:dq (lO 3 (aZ (aM 0) (aZ (aM 1) (aZ (aM 2) gc)))) i5 (aV 0) (L.map CT) [none,none,none]=.ok ((L.map (·.1)).map eM):=by
  rw[Nv];refine c9 (fun env=>∃t u v,env=[t,u,v]) _ ?_ _ ⟨_,_,_,rfl⟩;rintro p _ env ⟨t,u,v,rfl⟩;refine⟨_,j8 _ _ _ _ _ _ _,?_⟩;simp only[pv,seval];exact⟨_,_,rfl,_,_,_,rfl⟩
 have Ij:((L.map (·.1)).map eM).length<=sizeLine:=line_le (by rw[cm,cm];lia);have KL:flatDs ((L.map (·.1)).map eM)=true:=by
  rw[dn,OF,NA];intro e _;exact nu e
 have s1:∃E:D,E=.tup [.lst (L.map CT),.lst ar]:=⟨_,rfl⟩
 obtain⟨E,hE⟩:=s1;have a1:cw 1 (dj aU (ai (ao 0) aF)) [some (.f,eN nZ ps),none,none]=.ok (.nx [some (.f,eN nZ ps),some (.f,E),none]):=by
  rw[hE];simp only[pv,seval,he,y0,y1,ite_self,nh,OP]
 have a2:cw 2 (fE (sJ (aE Cq (ao 1) (aq (aB (.int 0))))) [none,none,none] (lO 3 (aZ (aM 0) (aZ (aM 1) (aZ (aM 2) gc)))) i5 (aV 0)) [some (.f,eN nZ ps),some (.f,E),none]=.ok (.nx [some (.f,eN nZ ps),some (.f,E),some (.l .f,.lst ((L.map (·.1)).map eM))]):=by
  rw[hE];simp only[pv,seval,op,Gn,hc,Ij,KL]
 have hz:∀b,decide ((L.length:Int)>12)=b->CF (aE GA (aq (bW gQ (ai (ao 2) aF))) (aq (aB (.int 12)))) [some (.f,eN nZ ps),some (.f,E),some (.l .f,.lst ((L.map (·.1)).map eM))]=.ok (b,[some (.f,eN nZ ps),some (.f,E),some (.l .f,.lst ((L.map (·.1)).map eM))]):=by
  intro b hb;have hb:decide (12<(L.length:Int))=b:=hb;simp only[pv,seval,op,cm,hb]
 have hx:∀b,decide ((L.length:Int)>12)=b->x_run_of [eN nZ ps]=b:=by
  intro b hb;unfold x_run_of qo;rw[show(List.map (fun d=>some (O.f,d)) [eN nZ ps]++List.replicate 2 none:PV.Env)=[some (.f,eN nZ ps),none,none] from rfl,uG a1,uG a2];unfold Li;rw[hz b hb];cases b <;> rfl
 by_cases h:12<L.length
 ·exact .inl ⟨h,hx true (Nm (by lia))⟩
 ·refine .inr ⟨by lia,hx false (Nh (by lia)),?_⟩;have z:=hz false (Nh (by lia));unfold bZ m7;rw[bH (h:=by rfl),show(List.map (fun d=>some (O.f,d)) [eN nZ ps]++List.replicate 2 none:PV.Env)=[some (.f,eN nZ ps),none,none] from rfl,ay a1,ay a2];rw[ay (env':=[some (.f,eN nZ ps),some (.f,E),some (.l .f,.lst ((L.map (·.1)).map eM))]) (by rw[BW z];rfl)];rw[hE];unfold eN;simp only[pv,seval,op,Gn,Ib]
section
variable(mv:List Nat)(b t g:Int)
def aS:List Pl:=[(b,[t],[g])]
def CK(i:Nat):Int:=b+(i:Int)*(g-t)
def jb(i:Nat):Me:=([CK b t g i],List.replicate i mv,if i=0 then none else some (i-1))
def Dh(n:Nat):List Me:=(List.range (n+1)).map (jb mv b t g)
def Dw(n:Nat):List Ec:=(List.range n).map fun(i:Nat)=>((i:Int),mv,((i+1:Nat):Int))
theorem wJ(x:Int):di ([mv].idxOf mv) ([x].zip (aS b t g))=if x<t then none else some [x-t+g]:=by
 have e:[mv].idxOf mv=0:=by simp
 rw[e];show di 0 [(x,(b,[t],[g]))]=_;rw[di,di];show(if x<t then none else some [x-t+g])=_;rfl
theorem cR(n:Nat):(Dh mv b t g n).length=n+1:=by
 unfold Dh;rw[cm,Nt]
theorem gI{n i:Nat}(h:i<=n):(Dh mv b t g n)[i]?=some (jb mv b t g i):=by
 unfold Dh;rw[List.getElem?_map,List.getElem?_range (by lia)];rfl
theorem sZ(n:Nat):Dh mv b t g (n+1)=Dh mv b t g n++[jb mv b t g (n+1)]:=by
 unfold Dh;rw[OQ,Nu];rfl
theorem nE(n:Nat):Dw mv (n+1)=Dw mv n++[((n:Int),mv,((n+1:Nat):Int))]:=by
 unfold Dw;rw[OQ,Nu];rfl
theorem iX(n:Nat):(Dh mv b t g n).map (·.1)=(List.range (n+1)).map fun i=>[CK b t g i]:=by
 unfold Dh;rw[Nv];rfl
theorem uH(i:Nat):CK b t g i-t+g=CK b t g (i+1):=by
 unfold CK;rw[Int.natCast_add,Int.add_mul];lia
theorem AM(h:g≠t){i j:Nat}(e:CK b t g i=CK b t g j):i=j:=by
 unfold CK at e;have e2:(i:Int)*(g-t)=(j:Int)*(g-t):=by lia
 have:=Int.eq_of_mul_eq_mul_right (by lia:g-t≠0) e2;lia
theorem AN(FA:g≠t)(n:Nat)(hx:¬ CK b t g n<t):cS [mv] (aS b t g) n (Dh mv b t g n,Dw mv n)=(Dh mv b t g (n+1),Dw mv (n+1)):=by
 have KQ:[CK b t g (n+1)]∉(Dh mv b t g n).map (·.1):=by
  rw[iX,Of];rintro⟨i,hi,e⟩;have:=AM b t g FA (Oy e).1;have:=NH.mp hi;lia
 have hf:di ([mv].idxOf mv) ((jb mv b t g n).1.zip (aS b t g))=some [CK b t g (n+1)]:=by
  show di ([mv].idxOf mv) ([CK b t g n].zip (aS b t g))=_;rw[wJ,Ng hx,uH]
 have hp:=(l8 _ _ KQ).1;unfold cS;rw[gI mv b t g (M8 n)];show fU [mv] (aS b t g) n (jb mv b t g n).1 (jb mv b t g n).2.1 (Dh mv b t g n,Dw mv n) mv=_;unfold fU fg l9;dsimp only;rw[hf];dsimp only;rw[Ng KQ,hp,cm,cR,sZ,nE];congr 3
 unfold jb;rw[Ng (Nat.succ_ne_zero n),Nat.add_sub_cancel,List.replicate_succ']
theorem za(n:Nat)(hx:CK b t g n<t)(s:List Ec):cS [mv] (aS b t g) n (Dh mv b t g n,s)=(Dh mv b t g n,s):=by
 have hf:di ([mv].idxOf mv) ((jb mv b t g n).1.zip (aS b t g))=none:=by
  show di ([mv].idxOf mv) ([CK b t g n].zip (aS b t g))=_;rw[wJ,Nc hx]
 unfold cS;rw[gI mv b t g (M8 n)];show fU [mv] (aS b t g) n (jb mv b t g n).1 (jb mv b t g n).2.1 (Dh mv b t g n,s) mv=_;unfold fU fg l9;dsimp only;rw[hf];dsimp only;rw[Nz]
def iY(b t g:Int):Nat->Nat->Nat
 | 0,n=>n
 |m+1,n=>if CK b t g n<t then n else iY b t g m (n+1)
theorem qL:∀(m n:Nat),n<=iY b t g m n/\iY b t g m n<=n+m
 | 0,n=>⟨M8 _,M8 _⟩
 |m+1,n=>by
  unfold iY;split
  ·lia
  ·have:=qL m (n+1);lia
theorem A8(FA:g≠t):∀(m n:Nat),n+m=12->Em [mv] (aS b t g) (m+1) n (Dh mv b t g n,Dw mv n)=(Dh mv b t g (iY b t g m n),Dw mv (iY b t g m n))
 | 0,n,h=>by
  rw[Em,Ng (by rw[cR];lia)];rfl
 |m+1,n,h=>by
  rw[Em,Nc (by rw[cR];lia)];unfold iY;by_cases hx:CK b t g n<t
  ·rw[Nc hx,za mv b t g n hx,Em,Ng (by rw[cR];lia)]
  ·rw[Ng hx,AN mv b t g FA n hx];exact A8 FA m (n+1) (by lia)
theorem gJ:CK b t g 0=b:=by
 unfold CK;rw[Int.natCast_zero,Int.zero_mul,Int.add_zero]
theorem wK:M0 (aS b t g)=(Dh mv b t g 0,Dw mv 0):=by
 unfold M0 L0 Dh Dw;show([([b],[],none)],[])=([jb mv b t g 0],[])
 unfold jb;rw[gJ];rfl
theorem uI(FA:g≠t):Em [mv] (aS b t g) 13 0 (M0 (aS b t g))=(Dh mv b t g (iY b t g 12 0),Dw mv (iY b t g 12 0)):=by
 rw[wK mv];exact A8 mv b t g FA 12 0 rfl
theorem zb(h:¬ b<t):Em [mv] (aS b t t) 13 0 (M0 (aS b t t))=(Dh mv b t t 0,[((0:Int),mv,(0:Int))]):=by
 have hf:di ([mv].idxOf mv) ((jb mv b t t 0).1.zip (aS b t t))=some [b]:=by
  show di ([mv].idxOf mv) ([CK b t t 0].zip (aS b t t))=_;rw[gJ,wJ,Ng h];congr 2
  lia
 have hm:(Dh mv b t t 0).map (·.1)=[[b]]:=by
  rw[iX];show[[CK b t t 0]]=_;rw[gJ]
 rw[wK mv,Em,Nc (by rw[cR];lia)];have hs:cS [mv] (aS b t t) 0 (Dh mv b t t 0,Dw mv 0)=(Dh mv b t t 0,[((0:Int),mv,(0:Int))]):=by
  unfold cS;rw[gI mv b t t (M8 0)];show fU [mv] (aS b t t) 0 (jb mv b t t 0).1 (jb mv b t t 0).2.1 (Dh mv b t t 0,Dw mv 0) mv=_;unfold fU fg l9;dsimp only;rw[hf];dsimp only;rw[hm,Nc M7];have hp:pos [[b]] [b]=0:=by
   unfold pos;rw[Pd,Nm rfl];rfl
  rw[hp];rfl
 rw[hs,Em,Ng (by rw[cR];lia)]
theorem zc(h:b<t):Em [mv] (aS b t g) 13 0 (M0 (aS b t g))=(Dh mv b t g 0,[]):=by
 rw[wK mv,Em,Nc (by rw[cR];lia)];have:=za mv b t g 0 (by rw[gJ];exact h) (Dw mv 0);rw[this,Em,Ng (by rw[cR];lia)];rfl
theorem A9(x y:Int):Fx [x] [y]=decide (y<=x):=by
 unfold Fx;show(decide (y<=x)&&true)=_;rw[Pu]
theorem ze(h:t<g){n:Nat}(hn:1<=n):Ge (Dh mv b t g n) 1=some (.f,JY [] [mv]):=by
 have h0:=gI mv b t g (NG n);have h1:=gI mv b t g hn;unfold Ge;rw[h1];dsimp only;have GX:lr (Dh mv b t g n) (jb mv b t g 1).1 1 (jb mv b t g 1).2.2=some 0:=by
  show lr (Dh mv b t g n) [CK b t g 1] 1 (some 0)=_;rw[lr,h0];dsimp only;have hc:Fx [CK b t g 1] (jb mv b t g 0).1=true:=by
   show Fx [CK b t g 1] [CK b t g 0]=true;rw[A9,Nn];unfold CK;rw[Int.natCast_zero,Int.zero_mul,Int.natCast_one,Int.one_mul];lia
  rw[hc,Nc rfl]
 rw[GX];dsimp only;rw[h0];rfl
theorem AO(n:Nat):Ge (Dh mv b t g n) 0=none:=by
 unfold Ge;rw[gI mv b t g (NG n)];rfl
theorem lx(h:g<t){n k:Nat}(hk:k<=n):∀(f j:Nat),j<k->lr (Dh mv b t g n) [CK b t g k] f (some j)=none
 | 0,j,_=>rfl
 |f+1,j,hj=>by
  rw[lr,gI mv b t g (by lia)];dsimp only;have hc:Fx [CK b t g k] (jb mv b t g j).1=false:=by
   show Fx [CK b t g k] [CK b t g j]=false;rw[A9,ND];unfold CK;obtain⟨m,rfl⟩:∃m,k=j+1+m:=⟨k-(j+1),by lia⟩
   have h1:((j+1+m:Nat):Int)*(g-t)=(j:Int)*(g-t)+((1+m:Nat):Int)*(g-t):=by
    rw[<-Int.add_mul];congr 1
    lia
   have h2:((1+m:Nat):Int)*(g-t)<0:=Int.mul_neg_of_pos_of_neg (by lia) (by lia);lia
  rw[hc,Ng Nb];show lr (Dh mv b t g n) [CK b t g k] f (if j=0 then none else some (j-1))=none;by_cases hz:j=0
  ·rw[Nc hz];cases f <;> rfl
  ·rw[Ng hz];exact lx h hk f (j-1) (by lia)
theorem tf(h:g<t){n:Nat}(k:Nat):Ge (Dh mv b t g n) k=none:=by
 by_cases hk:k<=n
 ·unfold Ge;rw[gI mv b t g hk];dsimp only;have GX:lr (Dh mv b t g n) (jb mv b t g k).1 k (jb mv b t g k).2.2=none:=by
   show lr (Dh mv b t g n) [CK b t g k] k (if k=0 then none else some (k-1))=none;by_cases hz:k=0
   ·rw[Nc hz];cases k <;> rfl
   ·rw[Ng hz];exact lx mv b t g h hk k (k-1) (by lia)
  rw[GX]
 ·unfold Ge;rw[List.getElem?_eq_none (by rw[cR];lia)]
end
theorem p_whole(x:Int):m__law_whole [.int x]=.ok (.f,.bl true):=by
 unfold m__law_whole gG;rw[bH (h:=by rfl)];simp only[pv,seval,op,BY,BX,QR];try rfl
theorem tj(n:Nat)(l:List Ec):plainDs (n+2) (l.map eA)=true:=by
 induction l with
 |nil=>rfl
 |cons a l ih=>
  rw[nh,plainDs,ih,Pu];unfold eA;rw[plainD];simp only[plainDs,plainD,Pw]
theorem tm(n:Nat)(l:List (List Int)):plainDs (n+1) (l.map eM)=true:=by
 induction l with
 |nil=>rfl
 |cons a l ih=>
  rw[nh,plainDs,ih,Pu];unfold eM;rw[plainD];exact jo _ _
def Gg(mv:List Nat)(A:List Ec):D:=.tup [.tup [.str mv],.lst (A.map eA)]
theorem tq(mv:List Nat)(A:List Ec):plainD 40 (Gg mv A)=true:=by
 unfold Gg;rw[plainD];simp only[plainDs,plainD,tj 36 A,Pw]
theorem oC(mv:List Nat)(A:List Ec):a8 [Gg mv A,Gg mv A]=.ok (.f,.bl true):=by
 have FA:=fT _ (tq mv A);have i0:Cq (Gg mv A) (.int 0)=.ok (.f,.tup [.str mv]):=rfl;have i1:Cq (Gg mv A) (.int 1)=.ok (.f,.lst (A.map eA)):=rfl;have hl:gQ [Gg mv A]=.ok (.f,.int 2):=rfl;have ht:kX "tuple" (Gg mv A)=true:=rfl;have ht2:kX "tuple" (.tup [.str mv])=true:=rfl;have Lo:kX "list" (.lst (A.map eA))=true:=rfl;have Hk:kX "str" (.str mv)=true:=rfl;unfold a8 d8;rw[bH (h:=by rfl)];generalize Gg mv A=CH at FA i0 i1 hl ht ⊢;rw[ay (env':=[some (.f,CH),some (.f,CH),none,none]) (by
  simp only[pv,seval,op,ht,hl,i0,ht2,NP,eI];try rfl)]
 rw[ay (env':=[some (.f,CH),some (.f,CH),none,none]) (by
  simp only[pv,seval,op,i1,Lo,FA,NP,eI])]
 rw[ay (env':=[some (.f,CH),some (.f,CH),some (.f,.str mv),none]) (by
  unfold dA cZ;simp only[pv,seval,op,i0,Hk,NP,eI])]
 unfold c7;obtain⟨env',ef,t,rfl⟩:=for_list (a:=aM 3) (g:=b7) (e:=eA) A (fun _ env=>∃t:Option R,env=[some (.f,CH),some (.f,CH),some (.f,.str mv),t]) (by
  rintro k a env _ ⟨t,rfl⟩;have j0:Cq (eA a) (.int 0)=.ok (.f,.int a.1):=rfl;have j2:Cq (eA a) (.int 2)=.ok (.f,.int a.2.2):=rfl;have jt:kX "tuple" (eA a)=true:=rfl;have w1:=p_whole a.1;have w2:=p_whole a.2.2;refine⟨_,rfl,[some (.f,CH),some (.f,CH),some (.f,.str mv),some (.f,eA a)],?_,_,rfl⟩;unfold b7;generalize eA a=EA at j0 j2 jt ⊢;show(DE _ _ _) [some (.f,CH),some (.f,CH),some (.f,.str mv),some (.f,EA)]=_;simp only[pv,seval,op,jt,j0,j2,w1,w2,NP,eI]) [some (.f,CH),some (.f,CH),some (.f,.str mv),none] ⟨_,rfl⟩
 rw[ay (env':=[some (.f,CH),some (.f,CH),some (.f,.str mv),t]) (by
  unfold dy;generalize A.map eA=AA at i1 ef;simp only[pv,seval,op,i1];exact ef)]
 unfold cY;simp only[pv,seval,op]
theorem me(M:List (List Int)):aG [.lst (M.map eM),.lst (M.map eM)]=.ok (.f,.bl true):=by
 have FA:=fT (.lst (M.map eM)) (by rw[plainD];exact tm 38 M);have Lo:kX "list" (.lst (M.map eM))=true:=rfl;unfold aG cO;rw[bH (h:=by rfl)];obtain⟨env',ef,t,u,rfl⟩:=for_list (a:=aM 2) (g:=bG) (e:=eM) M (fun _ env=>∃t u:Option R,env=[some (.f,.lst (M.map eM)),some (.f,.lst (M.map eM)),t,u]) (by
  rintro k m env _ ⟨t,u,rfl⟩;have jt:kX "tuple" (eM m)=true:=rfl;generalize D.lst (M.map eM)=MM;obtain⟨Cn,MU,u',rfl⟩:=for_list (a:=aM 3) (g:=bF) (e:=D.int) m (fun _ env=>∃u:Option R,env=[some (.f,MM),some (.f,MM),some (.f,eM m),u]) (by
   rintro k2 x env _ ⟨u,rfl⟩;have w1:=p_whole x;refine⟨_,rfl,[some (.f,MM),some (.f,MM),some (.f,eM m),some (.f,.int x)],?_,_,rfl⟩;unfold bF;generalize eM m=EM;show(DE _ _ _) [some (.f,MM),some (.f,MM),some (.f,EM),some (.f,.int x)]=_;simp only[pv,seval,op,w1,NP,eI]) [some (.f,MM),some (.f,MM),some (.f,eM m),u] ⟨_,rfl⟩
  refine⟨[some (.f,MM),some (.f,MM),some (.f,eM m),u],rfl,[some (.f,MM),some (.f,MM),some (.f,eM m),u'],?_,_,_,rfl⟩;unfold bG;rw[ay (env':=[some (.f,MM),some (.f,MM),some (.f,eM m),u]) (by
   generalize eM m=EM at jt ⊢;simp only[pv,seval,op,jt,NP,eI])]
  unfold cp;unfold eM at MU ⊢;simp only[pv,seval,op];exact MU) [some (.f,.lst (M.map eM)),some (.f,.lst (M.map eM)),none,none] ⟨_,_,rfl⟩
 rw[ay (env':=[some (.f,.lst (M.map eM)),some (.f,.lst (M.map eM)),none,none]) (by
  generalize D.lst (M.map eM)=MM at FA Lo ⊢;simp only[pv,seval,op,Lo,FA,NP,eI])]
 rw[ay (env':=[some (.f,.lst (M.map eM)),some (.f,.lst (M.map eM)),t,u]) (by
  unfold cq;generalize M.map eM=MM at ef ⊢;simp only[pv,seval,op];exact ef)]
 unfold b9;simp only[pv,seval,op]
section
variable(mv:List Nat)(b t g:Int)
def DV(n:Nat):List (List Int):=(List.range (n+1)).map fun i=>[CK b t g i]
theorem iZ(n:Nat):(DV b t g n).length=n+1:=by
 unfold DV;rw[cm,Nt]
theorem tu(n:Nat):DV b t g (n+1)=DV b t g n++[[CK b t g (n+1)]]:=by
 unfold DV;rw[OQ,Nu];rfl
theorem wL(n:Nat):(Dw mv n).length=n:=by
 unfold Dw;rw[cm,Nt]
theorem AQ(hg:g<t)(i:Nat)(hi:i<12):bC [some (.f,.str mv),some (.f,.int (CK b t g i)),some (.f,.int t),some (.f,.int g),some (.l .f,.lst ((DV b t g i).map eM)),some (.l .f,.lst ((Dw mv i).map eA))]=.ok (.nx [some (.f,.str mv),some (.f,.int (CK b t g (i+1))),some (.f,.int t),some (.f,.int g),some (.l .f,.lst ((DV b t g (i+1)).map eM)),some (.l .f,.lst ((Dw mv (i+1)).map eA))]):=by
 have h1:decide (t<g)=false:=Nh (by lia);have IB:((DV b t g i).map eM).length=i+1:=by rw[cm,iZ]
 have Lm:((Dw mv i).map eA).length=i:=by rw[cm,wL]
 have h13:(((i+1:Nat):Int)==13)=false:=NU.mpr (by lia);have MV:((DV b t g i).map eM).length<sizeLine:=ll (by rw[IB];lia);have HB:((Dw mv i).map eA).length<sizeLine:=ll (by rw[Lm];lia);have hx:=uH b t g i;have e1:((i+1:Nat):Int)-1=(i:Int):=by lia
 have em:(DV b t g (i+1)).map eM=(DV b t g i).map eM++[.tup [.int (CK b t g (i+1))]]:=by
  rw[tu,Nu];rfl
 have ea:(Dw mv (i+1)).map eA=(Dw mv i).map eA++[.tup [.int (i:Int),.str mv,.int ((i+1:Nat):Int)]]:=by
  rw[nE,Nu];rfl
 rw[em,ea];unfold bC;generalize (DV b t g i).map eM=MM at IB MV ⊢;generalize (Dw mv i).map eA=AA at Lm HB ⊢;generalize CK b t g (i+1)=y at hx ⊢;generalize CK b t g i=x at hx ⊢;rw[ay (env':=[some (.f,.str mv),some (.f,.int x),some (.f,.int t),some (.f,.int g),some (.l .f,.lst MM),some (.l .f,.lst AA)]) (by
  simp only[pv,seval,op,Qa,h1,IB,h13,eI])]
 rw[ay (env':=[some (.f,.str mv),some (.f,.int y),some (.f,.int t),some (.f,.int g),some (.l .f,.lst MM),some (.l .f,.lst AA)]) (by
  simp only[pv,seval,op,hx])]
 rw[ay (env':=[some (.f,.str mv),some (.f,.int y),some (.f,.int t),some (.f,.int g),some (.l .f,.lst MM),some (.l .f,.lst (AA++[.tup [.int (i:Int),.str mv,.int ((i+1:Nat):Int)]]))]) (by
  simp only[pv,seval,op,IB,e1,HB])]
 simp only[pv,seval,op,MV]
theorem zf(hg:g<t):∀(m i F:Nat),i+m=12->m+1<=F->
  cB (CF (aE FC (ao 1) (ao 2))) bC F [some (.f,.str mv),some (.f,.int (CK b t g i)),some (.f,.int t),some (.f,.int g),some (.l .f,.lst ((DV b t g i).map eM)),some (.l .f,.lst ((Dw mv i).map eA))]=if iY b t g m i=12/\¬ CK b t g 12<t then .ok (.rt (.f,.non)) else .ok (.nx [some (.f,.str mv),some (.f,.int (CK b t g (iY b t g m i))),some (.f,.int t),some (.f,.int g),some (.l .f,.lst ((DV b t g (iY b t g m i)).map eM)),some (.l .f,.lst ((Dw mv (iY b t g m i)).map eA))])
 |m,i,0,_,hF=>by lia
 | 0,i,F+1,hi,hF=>by
  have e:i=12:=by lia
  subst e;unfold iY;by_cases hx:CK b t g 12<t
  ·have hc:(CF (aE FC (ao 1) (ao 2))) [some (.f,.str mv),some (.f,.int (CK b t g 12)),some (.f,.int t),some (.f,.int g),some (.l .f,.lst ((DV b t g 12).map eM)),some (.l .f,.lst ((Dw mv 12).map eA))]=.ok (false,[some (.f,.str mv),some (.f,.int (CK b t g 12)),some (.f,.int t),some (.f,.int g),some (.l .f,.lst ((DV b t g 12).map eM)),some (.l .f,.lst ((Dw mv 12).map eA))]):=by
    have:¬ t<=CK b t g 12:=by lia
    simp only[pv,seval,op,this,QC]
   rw[Ng (fun z=>z.2 hx),c8,hc,Dv];rfl
  ·have hc:(CF (aE FC (ao 1) (ao 2))) [some (.f,.str mv),some (.f,.int (CK b t g 12)),some (.f,.int t),some (.f,.int g),some (.l .f,.lst ((DV b t g 12).map eM)),some (.l .f,.lst ((Dw mv 12).map eA))]=.ok (true,[some (.f,.str mv),some (.f,.int (CK b t g 12)),some (.f,.int t),some (.f,.int g),some (.l .f,.lst ((DV b t g 12).map eM)),some (.l .f,.lst ((Dw mv 12).map eA))]):=by
    have:t<=CK b t g 12:=by lia
    simp only[pv,seval,op,this,Qd]
   have h1:decide (t<g)=false:=Nh (by lia);have IB:((DV b t g 12).map eM).length=13:=by rw[cm,iZ]
   have e13:(((13:Nat):Int)==13)=true:=rfl;rw[Nc ⟨rfl,hx⟩,c8,hc,Dv];dsimp only;rw[Nc rfl];unfold bC;generalize (DV b t g 12).map eM=MM at IB ⊢;simp only[pv,seval,op,Qa,h1,IB,e13,eI]
 |m+1,i,F+1,hi,hF=>by
  unfold iY;by_cases hx:CK b t g i<t
  ·have hc:(CF (aE FC (ao 1) (ao 2))) [some (.f,.str mv),some (.f,.int (CK b t g i)),some (.f,.int t),some (.f,.int g),some (.l .f,.lst ((DV b t g i).map eM)),some (.l .f,.lst ((Dw mv i).map eA))]=.ok (false,[some (.f,.str mv),some (.f,.int (CK b t g i)),some (.f,.int t),some (.f,.int g),some (.l .f,.lst ((DV b t g i).map eM)),some (.l .f,.lst ((Dw mv i).map eA))]):=by
    have:¬ t<=CK b t g i:=by lia
    simp only[pv,seval,op,this,QC]
   rw[Nc hx,Ng (fun z=>by lia),c8,hc,Dv];rfl
  ·have hc:(CF (aE FC (ao 1) (ao 2))) [some (.f,.str mv),some (.f,.int (CK b t g i)),some (.f,.int t),some (.f,.int g),some (.l .f,.lst ((DV b t g i).map eM)),some (.l .f,.lst ((Dw mv i).map eA))]=.ok (true,[some (.f,.str mv),some (.f,.int (CK b t g i)),some (.f,.int t),some (.f,.int g),some (.l .f,.lst ((DV b t g i).map eM)),some (.l .f,.lst ((Dw mv i).map eA))]):=by
    have:t<=CK b t g i:=by lia
    simp only[pv,seval,op,this,Qd]
   rw[Ng hx,c8,hc,Dv];dsimp only;rw[Nc rfl,AQ mv b t g hg i (by lia),Dv];exact zf hg m (i+1) F (by lia) (by lia)
def oD(A:List Ec)(M:List (List Int)):D:=.tup [.tup [.str mv],.lst (A.map eA),.lst (M.map eM)]
theorem tw(h:¬ b<t):bf [.str mv,.int b,.int t,.int t]=.ok (.f,oD mv [((0:Int),mv,(0:Int))] [[b]]):=by
 have h1:decide (t<=b)=true:=Nm (by lia);have h2:(t==t)=true:=N5 _;unfold bf gk;rw[bH (h:=by rfl)];rw[ay (env':=[some (.f,.str mv),some (.f,.int b),some (.f,.int t),some (.f,.int t),some (.l .f,.lst [.tup [.int b]]),none]) (by simp only[pv,seval,op])];rw[ay (env':=[some (.f,.str mv),some (.f,.int b),some (.f,.int t),some (.f,.int t),some (.l .f,.lst [.tup [.int b]]),some (.l .f,.lst [])]) (by simp only[pv,seval,op])];simp only[pv,seval,op,h1,h2];rfl
theorem j9(FA:g≠t\/b<t):bf [.str mv,.int b,.int t,.int g]=Res.bnd (sSeq cu cI [some (.f,.str mv),some (.f,.int b),some (.f,.int t),some (.f,.int g),some (.l .f,.lst [.tup [.int b]]),some (.l .f,.lst [])]) (f:=⟨fun o=>match o with | .rt r=>.ok r | .nx _=>.ok (.f,.non)|_=>.bad⟩):=by
 unfold bf gk;rw[bH (h:=by rfl)];rw[ay (env':=[some (.f,.str mv),some (.f,.int b),some (.f,.int t),some (.f,.int g),some (.l .f,.lst [.tup [.int b]]),none]) (by simp only[pv,seval,op])];rw[ay (env':=[some (.f,.str mv),some (.f,.int b),some (.f,.int t),some (.f,.int g),some (.l .f,.lst [.tup [.int b]]),some (.l .f,.lst [])]) (by simp only[pv,seval,op])];rw[ay (env':=[some (.f,.str mv),some (.f,.int b),some (.f,.int t),some (.f,.int g),some (.l .f,.lst [.tup [.int b]]),some (.l .f,.lst [])]) (by
  by_cases h1:t<=b
  ·have e1:decide (t<=b)=true:=Nm h1;have e2:(t==g)=false:=NU.mpr (fun z=>by rcases FA with hh|hh <;> lia);simp only[pv,seval,op,e1,e2,eI]
  ·have e1:decide (t<=b)=false:=Nh h1;simp only[pv,seval,op,e1,eI])]
theorem nF(x:Int)(M A:List D):Res.bnd (cI [some (.f,.str mv),some (.f,.int x),some (.f,.int t),some (.f,.int g),some (.l .f,.lst M),some (.l .f,.lst A)]) (f:=⟨fun o=>match o with | .rt r=>.ok r | .nx _=>.ok (.f,.non)|_=>.bad⟩)=.ok (.f,.tup [.tup [.str mv],.lst A,.lst M]):=by
 unfold cI;simp only[pv,seval,op]
theorem tF(h:b<t):bf [.str mv,.int b,.int t,.int g]=.ok (.f,oD mv [] [[b]]):=by
 rw[j9 mv b t g (.inr h),ay (env':=[some (.f,.str mv),some (.f,.int b),some (.f,.int t),some (.f,.int g),some (.l .f,.lst [.tup [.int b]]),some (.l .f,.lst [])]) (by
  have e1:decide (t<=b)=false:=Nh (by lia);unfold cu;rw[c8];simp only[pv,seval,op,e1,eI]),nF]
 rfl
theorem tG(h:¬ b<t)(hg:t<g):bf [.str mv,.int b,.int t,.int g]=.ok (.f,.non):=by
 have e1:decide (t<=b)=true:=Nm (by lia);have e2:decide (t<g)=true:=Nm hg;have hc:(CF (aE FC (ao 1) (ao 2))) [some (.f,.str mv),some (.f,.int b),some (.f,.int t),some (.f,.int g),some (.l .f,.lst [.tup [.int b]]),some (.l .f,.lst [])]=.ok (true,[some (.f,.str mv),some (.f,.int b),some (.f,.int t),some (.f,.int g),some (.l .f,.lst [.tup [.int b]]),some (.l .f,.lst [])]):=by
  simp only[pv,seval,op,e1]
 have hb:bC [some (.f,.str mv),some (.f,.int b),some (.f,.int t),some (.f,.int g),some (.l .f,.lst [.tup [.int b]]),some (.l .f,.lst [])]=.ok (.rt (.f,.non)):=by
  unfold bC;simp only[pv,seval,op,Qa,e2]
 rw[j9 mv b t g (.inl (by lia)),Ew];unfold cu;rw[c8,hc,Dv];dsimp only;rw[Nc rfl,hb,Dv];rfl
theorem AR:(DV b t g 0).map eM=[.tup [.int b]]:=by
 show[eM [CK b t g 0]]=_;rw[gJ];rfl
theorem oE(hg:g<t):bf [.str mv,.int b,.int t,.int g]=.ok (.f,if iY b t g 12 0=12/\¬ CK b t g 12<t then .non else oD mv (Dw mv (iY b t g 12 0)) (DV b t g (iY b t g 12 0))):=by
 have w:=zf mv b t g hg 12 0 100000 rfl (by decide);rw[AR,gJ]at w;have w:cu [some (.f,.str mv),some (.f,.int b),some (.f,.int t),some (.f,.int g),some (.l .f,.lst [.tup [.int b]]),some (.l .f,.lst [])]=_:=w;rw[j9 mv b t g (.inl (by lia))];by_cases hc:iY b t g 12 0=12/\¬ CK b t g 12<t
 ·rw[Nc hc]at w ⊢;rw[Ew,w,Dv];rfl
 ·rw[Ng hc]at w ⊢;rw[ay w,nF];rfl
end
theorem p_refused(N:D)(h:x_run_of [N]=true):m__law_refused [N]=.ok (.f,.bl true):=by
 unfold m__law_refused eW;rw[bH (h:=by rfl)];rw[ay (env':=[some (.f,N),some (.f,.bl false),none,none]) (by simp only[pv,seval,op])];rw[ay (env':=[some (.f,N),some (.f,.bl true),none,some (.f,.bl false)]) (by
  have ex:zm x_run_of (ai (ao 0) aF) [some (.f,N),some (.f,.bl false),none,none]=some [some (.f,N),some (.f,.bl false),none,none]:=by
   show(if x_run_of [N] then some [some (O.f,N),some (.f,.bl false),none,none] else none)=_;rw[h];rfl
  unfold mX;rw[ex];rfl)]
 simp only[pv,seval,op]
inductive Told(mv:List Nat)(b t g:Int)(EX gr:D):Prop
 |up:¬ b<t->t<g->EX=.non->gr=JY [] [mv]->x_run_of [eN [mv] (aS b t g)]=true->Told mv b t g EX gr
 |beyond:g<=t->(EX=.non\/∃A M,EX=oD mv A M/\12<M.length)->gr=zq->x_run_of [eN [mv] (aS b t g)]=true->Told mv b t g EX gr
 |run:∀A M,EX=oD mv A M->M.length<=12->gr=sW M.length->bZ [eN [mv] (aS b t g)]=.ok (.f,.tup [Gg mv A,.lst (M.map eM)])->Told mv b t g EX gr
theorem B2(mv:List Nat)(b t g:Int):∃EX gr,bf [.str mv,.int b,.int t,.int g]=.ok (.f,EX)/\bB [eN [mv] (aS b t g)]=.ok (.f,gr)/\Told mv b t g EX gr:=by
 have MW:∀p∈aS b t g,GW p [mv].length:=fun p hp=>by
  rw[zp hp];exact⟨rfl,rfl⟩
 have KR:=sY [mv] (by show 1<=10;decide) (aS b t g) (by show 1<=100;decide) MW;have GY:=AL [mv] (by show 1<=10;decide) (aS b t g) (by show 1<=100;decide) MW;have KS:=j7 [mv] (aS b t g) 13 0 (M0 (aS b t g));change _=EV [mv] (aS b t g) 13 0 (L0 (aS b t g)) at KS;rw[<-KS]at KR GY;have done:∀(n:Nat) (A:List Ec),n<=11->Em [mv] (aS b t g) 13 0 (M0 (aS b t g))=(Dh mv b t g n,A)->bB [eN [mv] (aS b t g)]=.ok (.f,sW (DV b t g n).length)/\bZ [eN [mv] (aS b t g)]=.ok (.f,.tup [Gg mv A,.lst ((DV b t g n).map eM)]):=fun n A hn e=>by
  rw[e]at KR GY;have hl:=cR mv b t g n;refine⟨?_,?_⟩
  ·rw[KR];unfold sX;rw[Nc (by rw[hl];lia),hl,iZ]
  ·rcases GY with⟨Gf,_⟩|⟨_,_,hr⟩
   ·rw[hl]at Gf;lia
   ·rw[hr,iX];rfl
 have great:Em [mv] (aS b t g) 13 0 (M0 (aS b t g))=(Dh mv b t g 12,Dw mv 12)->x_run_of [eN [mv] (aS b t g)]=true/\bB [eN [mv] (aS b t g)]=.ok (match(List.range 13).findSome? (Ge (Dh mv b t g 12)) with|some v=>v|none=>(.f,zq)):=fun e=>by
  rw[e]at KR GY;have hl:=cR mv b t g 12;refine⟨?_,?_⟩
  ·rcases GY with⟨_,hx⟩|⟨Gf,_⟩
   ·exact hx
   ·rw[hl]at Gf;lia
  ·rw[KR];unfold sX;rw[Ng (by rw[hl];lia)]
 by_cases hb:b<t
 ·obtain⟨h1,h2⟩:=done 0 [] (by decide) (zc mv b t g hb);have em:DV b t g 0=[[b]]:=by
   show[[CK b t g 0]]=_;rw[gJ]
  rw[em]at h1 h2;exact⟨_,_,tF mv b t g hb,h1,.run [] [[b]] rfl (by show 1<=12;decide) rfl h2⟩
 ·rcases Int.lt_trichotomy g t with hg|hg|hg
  ·have hd:=oE mv b t g hg;have hr:=uI mv b t g (by lia);have hle:=(qL b t g 12 0).2;by_cases Gf:iY b t g 12 0=12
   ·rw[Gf]at hr hd;obtain⟨hx,KU⟩:=great hr;have KW:(List.range 13).findSome? (Ge (Dh mv b t g 12))=none:=List.findSome?_eq_none_iff.mpr fun k _=>tf mv b t g hg k
    rw[KW]at KU;refine⟨_,_,hd,KU,.beyond (by lia) ?_ rfl hx⟩;by_cases hc:CK b t g 12<t
    ·rw[Ng (fun z=>z.2 hc)];exact .inr ⟨_,_,rfl,by rw[iZ];decide⟩
    ·rw[Nc ⟨rfl,hc⟩];exact .inl rfl
   ·obtain⟨h1,h2⟩:=done _ _ (by lia) hr;rw[Ng (fun z=>Gf z.1)]at hd;exact⟨_,_,hd,h1,.run _ _ rfl (by rw[iZ];lia) rfl h2⟩
  ·subst hg;obtain⟨h1,h2⟩:=done 0 _ (by decide) (zb mv b g hb);have em:DV b g g 0=[[b]]:=by
    show[[CK b g g 0]]=_;rw[gJ]
   rw[em]at h1 h2;exact⟨_,_,tw mv b g hb,h1,.run _ [[b]] rfl (by show 1<=12;decide) rfl h2⟩
  ·have hr:=uI mv b t g (by lia);have hx:∀i:Nat,¬ CK b t g i<t:=fun i=>by
    unfold CK;have:=Int.mul_nonneg (by lia:0<=(i:Int)) (by lia:0<=g-t);lia
   have Gs:∀m n:Nat,iY b t g m n=n+m:=by
    intro m;induction m with
    |zero=>intro n;rfl
    |succ m ih=>
     intro n;unfold iY;rw[Ng (hx n),ih];lia
   rw[Gs 12 0]at hr;obtain⟨hxr,KU⟩:=great hr;have KY:(List.range 13).findSome? (Ge (Dh mv b t g 12))=some (.f,JY [] [mv]):=by
    rw[show List.range 13=0::1::(List.range' 2 11) from rfl,List.findSome?_cons,AO];dsimp only;rw[List.findSome?_cons,ze mv b t g hg (by decide)]
   rw[KY]at KU;exact⟨_,_,tG mv b t g hb hg,KU,.up hb hg rfl rfl hxr⟩
noncomputable def AS:FS:=(sSeq (DE (ER (ib (CF (Fy "tuple" (ao 9)))) (CF (bV Fp (ao 7) (ao 6))))
  (cV (aB (.bl false)))
  bX)
  (sSeq (DE (ER (CF (bV Hj (ao 8) (aq (aB .non)))) (CF (aE GA (aq (bW gQ (ai (aq (aE Cq (ao 8) (aq (aB (.int 2))))) aF))) (aq (aB (.int 12))))))
  (sSeq (DE (CF (aE GA (ao 5) (ao 4)))
  (cV (rY (dj m__law_refused (ai (ao 7) aF)) (bV Fg (ao 9) (aq (dD (av (aB (.str [103,114,111,119,115])) (av (dD a7) (av (dD (av (aV 1) a7)) a7))))))))
  bX)
  (cV (rY (dj m__law_refused (ai (ao 7) aF)) (bV Fg (ao 9) (aq (dD (av (aB (.str [98,101,121,111,110,100])) a7)))))))
  bX)
  (sSeq (cw 10 (dj bZ (ai (ao 7) aF)))
  (sSeq (DE (ER (ib (CF (Fy "tuple" (ao 10)))) (ER (CF (bV Fp (aq (bW gQ (ai (ao 10) aF))) (aq (aB (.int 2))))) (ib (CF (dj a8 (ai (aq (aE Cq (ao 10) (aq (aB (.int 0))))) (ai (aq (dD (av (aE Cq (ao 8) (aq (aB (.int 0)))) (av (aE Cq (ao 8) (aq (aB (.int 1)))) a7)))) aF)))))))
  (cV (aB (.bl false)))
  bX)
  (sSeq (DE (ER (ib (CF (dj aG (ai (aq (aE Cq (ao 10) (aq (aB (.int 1))))) (ai (aq (aE Cq (ao 8) (aq (aB (.int 2))))) aF))))) (CF (bV Fp (ao 9) (aq (dD (av (aB (.str [101,110,100,115])) (av (bW gQ (ai (aq (aE Cq (ao 8) (aq (aB (.int 2))))) aF)) a7)))))))
  (cV (aB (.bl false)))
  bX)
  (cV (rY (dj m__law_whole (ai (aq (aE Cq (ao 9) (aq (aB (.int 1))))) aF)) (bV Fg (ao 7) (ao 6)))))))))
theorem zg(mv:List Nat)(f b t g:Int)(NS NE EX gr:D)(Lp:NE=eN [mv] (aS b t g))(h:Told mv b t g EX gr):AS [some (.f,NS),some (.f,.str mv),some (.f,.int f),some (.f,.int b),some (.f,.int t),some (.f,.int g),some (.f,NE),some (.f,NE),some (.f,EX),some (.f,gr),none]=.ok (.rt (.f,.bl true)):=by
 have C8:plainD 40 NE=true:=by
  rw[Lp];unfold eN aS;rw[plainD];rfl
 have Mi:=fT _ C8;have he1:=iR _ C8;have Lq:∀l:List D,kX "tuple" (.tup l)=true:=fun _=>rfl
 have isn:∀l:List D,Hj (.tup l) .non=.ok (.f,.bl false):=fun _=>rfl
 have MX:Hj .non .non=.ok (.f,.bl true):=rfl;unfold AS;rcases h with⟨hb,hg,rfl,rfl,hx⟩|⟨hg,hd,rfl,hx⟩|⟨A,M,rfl,hM,rfl,hr⟩
 ·rw[<-Lp]at hx;have Lr:=p_refused NE hx;have Ls:decide (t<g)=true:=Nm hg;have heq:Fg (.tup [.str [103,114,111,119,115],.tup [],.tup [.str mv]]) (.tup [.str [103,114,111,119,115],.tup [],.tup [.str mv]])=.ok (.f,.bl true):=iR _ (by
   rw[plainD];rfl)
  rw[show JY [] [mv]=.tup [.str [103,114,111,119,115],.tup [],.tup [.str mv]] from rfl];rw[ay (env':=[some (.f,NS),some (.f,.str mv),some (.f,.int f),some (.f,.int b),some (.f,.int t),some (.f,.int g),some (.f,NE),some (.f,NE),some (.f,.non),some (.f,.tup [.str [103,114,111,119,115],.tup [],.tup [.str mv]]),none]) (by
   simp only[pv,seval,op,Lq,Mi,NP,eI])]
  simp only[pv,seval,op,MX,Qa,Ls,Lr,heq]
 ·rw[<-Lp]at hx;have Lr:=p_refused NE hx;have Ls:decide (t<g)=false:=Nh (by lia);have heq:Fg (.tup [.str [98,101,121,111,110,100]]) (.tup [.str [98,101,121,111,110,100]])=.ok (.f,.bl true):=iR _ (by
   rw[plainD];rfl)
  rw[show zq=.tup [.str [98,101,121,111,110,100]] from rfl];rw[ay (env':=[some (.f,NS),some (.f,.str mv),some (.f,.int f),some (.f,.int b),some (.f,.int t),some (.f,.int g),some (.f,NE),some (.f,NE),some (.f,EX),some (.f,.tup [.str [98,101,121,111,110,100]]),none]) (by
   simp only[pv,seval,op,Lq,Mi,NP,eI])]
  rcases hd with rfl|⟨A,M,rfl,hM⟩
  ·simp only[pv,seval,op,MX,Qa,Ls,Lr,heq,eI]
  ·have i2:Cq (oD mv A M) (.int 2)=.ok (.f,.lst (M.map eM)):=rfl;have hi:Hj (oD mv A M) .non=.ok (.f,.bl false):=rfl;have hl:(M.map eM).length=M.length:=cm _;have Gf:decide ((12:Int)<(M.length:Int))=true:=Nm (by lia);generalize oD mv A M=DD at i2 hi ⊢;generalize M.map eM=MM at i2 hl;simp only[pv,seval,op,hi,i2,hl,Gf,Qa,Ls,Lr,heq,eI]
 ·rw[<-Lp]at hr;have i0:Cq (oD mv A M) (.int 0)=.ok (.f,.tup [.str mv]):=rfl;have i1:Cq (oD mv A M) (.int 1)=.ok (.f,.lst (A.map eA)):=rfl;have i2:Cq (oD mv A M) (.int 2)=.ok (.f,.lst (M.map eM)):=rfl;have hi:Hj (oD mv A M) .non=.ok (.f,.bl false):=rfl;have hl:(M.map eM).length=M.length:=cm _;have Gf:decide ((12:Int)<(M.length:Int))=false:=Nh (by lia);have pc:=oC mv A;have pm:=me M;have pw:=p_whole (M.length:Int);have Lu:df (.tup [Gg mv A,.lst (M.map eM)])=false:=by
   rw[j4];simp only[flatDs,df,QM,PZ]
  have heq:Fp (.tup [.str [101,110,100,115],.int (M.length:Int)]) (.tup [.str [101,110,100,115],.int (M.length:Int)])=.ok (.f,.bl false):=fT _ (by
   rw[plainD];rfl)
  have a0:∀x y:D,D4 (x::y::[]) (0:Int)=some x:=fun _ _=>rfl
  have a1:∀x y:D,D4 (x::y::[]) (1:Int)=some y:=fun _ _=>rfl
  rw[show sW M.length=.tup [.str [101,110,100,115],.int (M.length:Int)] from rfl];unfold Gg at pc hr Lu;generalize oD mv A M=DD at i0 i1 i2 hi ⊢;generalize M.map eM=MM at i2 hl pm hr Lu;generalize A.map eA=AA at i1 pc hr Lu;rw[ay (env':=[some (.f,NS),some (.f,.str mv),some (.f,.int f),some (.f,.int b),some (.f,.int t),some (.f,.int g),some (.f,NE),some (.f,NE),some (.f,DD),some (.f,.tup [.str [101,110,100,115],.int (M.length:Int)]),none]) (by
   simp only[pv,seval,op,Lq,Mi,NP,eI])]
  rw[ay (env':=[some (.f,NS),some (.f,.str mv),some (.f,.int f),some (.f,.int b),some (.f,.int t),some (.f,.int g),some (.f,NE),some (.f,NE),some (.f,DD),some (.f,.tup [.str [101,110,100,115],.int (M.length:Int)]),none]) (by
   simp only[pv,seval,op,hi,i2,hl,Gf,Qa,eI])]
  rw[ay (env':=[some (.f,NS),some (.f,.str mv),some (.f,.int f),some (.f,.int b),some (.f,.int t),some (.f,.int g),some (.f,NE),some (.f,NE),some (.f,DD),some (.f,.tup [.str [101,110,100,115],.int (M.length:Int)]),some (.f,.tup [.tup [.tup [.str mv],.lst AA],.lst MM])]) (by
   simp only[pv,seval,op,hr,Lu,y0,y1,eI])]
  rw[ay (env':=[some (.f,NS),some (.f,.str mv),some (.f,.int f),some (.f,.int b),some (.f,.int t),some (.f,.int g),some (.f,NE),some (.f,NE),some (.f,DD),some (.f,.tup [.str [101,110,100,115],.int (M.length:Int)]),some (.f,.tup [.tup [.tup [.str mv],.lst AA],.lst MM])]) (by
   simp only[pv,seval,op,Lq,a0,i0,i1,pc,NP,eI];try rfl)]
  rw[ay (env':=[some (.f,NS),some (.f,.str mv),some (.f,.int f),some (.f,.int b),some (.f,.int t),some (.f,.int g),some (.f,NE),some (.f,NE),some (.f,DD),some (.f,.tup [.str [101,110,100,115],.int (M.length:Int)]),some (.f,.tup [.tup [.tup [.str mv],.lst AA],.lst MM])]) (by
   simp only[pv,seval,op,a1,i2,pm,hl,heq,NP,eI])]
  simp only[pv,seval,op,a1,pw,he1]
theorem qM(ns:List Int)(h63:ns.length<=63):∃o,wa [.lst (ns.map D.int)]=.ok (o,.bl true):=by
 have c0:aw [.lst (ns.map D.int),.int 0]=.ok (.f,.int (cell ns 0)):=iT ns 0;have c1:aw [.lst (ns.map D.int),.int 1]=.ok (.f,.int (cell ns 1)):=iT ns 1;have c2:aw [.lst (ns.map D.int),.int 2]=.ok (.f,.int (cell ns 2)):=iT ns 2;have c3:aw [.lst (ns.map D.int),.int 3]=.ok (.f,.int (cell ns 3)):=iT ns 3;have c4:aw [.lst (ns.map D.int),.int 4]=.ok (.f,.int (cell ns 4)):=iT ns 4;have c5:aw [.lst (ns.map D.int),.int 5]=.ok (.f,.int (cell ns 5)):=iT ns 5;have c6:aw [.lst (ns.map D.int),.int 6]=.ok (.f,.int (cell ns 6)):=iT ns 6;obtain⟨l,h5,_,_,en⟩:=wD (cell ns 0);have b5:=gu (cell ns 1) 5 (by decide);obtain⟨i,ei⟩:=OI b5.1;have hi:i<l.length:=by lia
 have EL:=yX hi;have m5:=l7 (cell ns 1) 5 (by decide);rw[ei]at m5;generalize l[i]=mv at EL;have MY:wN (.int 10) (.int 50)=.ok (.f,.int (10 ^ 50)):=BR 50 (by decide);have MZ:=l7 (cell ns 2) (10 ^ 50) (by decide);have b50:=gu (cell ns 2) (10 ^ 50) (by decide);have m31:=l7 (cell ns 3) 31 (by decide);have b31:=gu (cell ns 3) 31 (by decide);have m4:=l7 (cell ns 4) 5 (by decide);have b4:=gu (cell ns 4) 5 (by decide);have m5':=l7 (cell ns 5) 5 (by decide);have b5':=gu (cell ns 5) 5 (by decide);generalize (10:Int) ^ 50=T at MY MZ b50;have hf:0<1+cell ns 2%T:=by lia
 have m6:=l7 (cell ns 6) (1+cell ns 2%T) hf;obtain⟨ff,M1⟩:∃ff,1+cell ns 2%T=ff:=⟨_,rfl⟩
 rw[M1]at hf m6;have u3:=AI ff (cell ns 3%31) (iQ _ (by lia) (by lia));have u4:=AI ff (cell ns 4%5) (iQ _ (by lia) (by lia));have u5:=AI ff (cell ns 5%5) (iQ _ (by lia) (by lia));obtain⟨b,eb⟩:∃b,ff*(cell ns 3%31)+cell ns 6%ff=b:=⟨_,rfl⟩
 generalize ff*(cell ns 3%31)=b0 at u3 eb;generalize ff*(cell ns 4%5)=t at u4;generalize ff*(cell ns 5%5)=g at u5;obtain⟨EX,gr,hd,hg,ht⟩:=B2 mv b t g;have e:=fun NS=>zg mv ff b t g NS (eN [mv] (aS b t g)) EX gr rfl ht
 have eNE:eN [mv] (aS b t g)=.tup [.tup [.str mv],.lst [.tup [.int b,.tup [.int t],.tup [.int g]]]]:=rfl;have ix1:Cq (eN [mv] (aS b t g)) (.int 1)=.ok (.f,.lst [.tup [.int b,.tup [.int t],.tup [.int g]]]):=rfl;have fl:flatDs (l.map D.str)=true:=PV.flat_strs l;unfold AS at e;refine⟨.f,?_⟩;unfold wa yK;rw[bH (h:=by rfl)];generalize D.lst (ns.map D.int)=NS at c0 c1 c2 c3 c4 c5 c6 ⊢;rw[ay (env':=[some (.f,NS),some (.f,.str mv),none,none,none,none,none,none,none,none,none]) (by
  simp only[pv,↓reduceIte,Nat.reduceAdd,Nat.reduceLT,Nat.reduceLeDiff,Nat.reduceEqDiff,op,c0,c1,en,m5,EL,fl])]
 rw[ay (env':=[some (.f,NS),some (.f,.str mv),some (.f,.int ff),none,none,none,none,none,none,none,none]) (by
  simp only[pv,↓reduceIte,Nat.reduceAdd,Nat.reduceLT,Nat.reduceLeDiff,Nat.reduceEqDiff,op,c2,MY,MZ,M1])]
 rw[ay (env':=[some (.f,NS),some (.f,.str mv),some (.f,.int ff),some (.f,.int b),none,none,none,none,none,none,none]) (by
  simp only[pv,↓reduceIte,Nat.reduceAdd,Nat.reduceLT,Nat.reduceLeDiff,Nat.reduceEqDiff,c3,c6,m31,m6,u3,cf,fS,qD,eb])]
 rw[ay (env':=[some (.f,NS),some (.f,.str mv),some (.f,.int ff),some (.f,.int b),some (.f,.int t),none,none,none,none,none,none]) (by
  simp only[pv,↓reduceIte,Nat.reduceAdd,Nat.reduceLT,Nat.reduceLeDiff,Nat.reduceEqDiff,c4,m4,u4,cf,fS])]
 rw[ay (env':=[some (.f,NS),some (.f,.str mv),some (.f,.int ff),some (.f,.int b),some (.f,.int t),some (.f,.int g),none,none,none,none,none]) (by
  simp only[pv,↓reduceIte,Nat.reduceAdd,Nat.reduceLT,Nat.reduceLeDiff,Nat.reduceEqDiff,c5,m5',u5,cf,fS])]
 rw[ay (env':=[some (.f,NS),some (.f,.str mv),some (.f,.int ff),some (.f,.int b),some (.f,.int t),some (.f,.int g),some (.f,eN [mv] (aS b t g)),none,none,none,none]) (by
  rw[eNE];simp only[pv,↓reduceIte,Nat.reduceAdd,Nat.reduceLT,Nat.reduceLeDiff,Nat.reduceEqDiff,op])]
 rw[ay (env':=[some (.f,NS),some (.f,.str mv),some (.f,.int ff),some (.f,.int b),some (.f,.int t),some (.f,.int g),some (.f,eN [mv] (aS b t g)),some (.f,eN [mv] (aS b t g)),none,none,none]) (by
  rw[show some (O.f,eN [mv] (aS b t g))=some (O.f,D.tup [.tup [.str mv],.lst [.tup [.int b,.tup [.int t],.tup [.int g]]]]) from rfl];simp only[pv,↓reduceIte,Nat.reduceAdd,Nat.reduceLT,Nat.reduceLeDiff,Nat.reduceEqDiff,op];try rfl)]
 generalize eN [mv] (aS b t g)=NE at hg e ⊢;rw[ay (env':=[some (.f,NS),some (.f,.str mv),some (.f,.int ff),some (.f,.int b),some (.f,.int t),some (.f,.int g),some (.f,NE),some (.f,NE),some (.f,EX),none,none]) (by
  cases KZ:df EX with
  |true=>simp only[pv,↓reduceIte,Nat.reduceAdd,Nat.reduceLT,Nat.reduceLeDiff,Nat.reduceEqDiff,op,hd,KZ]
  |false=>simp only[pv,↓reduceIte,Nat.reduceAdd,Nat.reduceLT,Nat.reduceLeDiff,Nat.reduceEqDiff,op,hd,KZ,y0,y1,eI])]
 rw[ay (env':=[some (.f,NS),some (.f,.str mv),some (.f,.int ff),some (.f,.int b),some (.f,.int t),some (.f,.int g),some (.f,NE),some (.f,NE),some (.f,EX),some (.f,gr),none]) (by
  cases KZ:df gr with
  |true=>simp only[pv,↓reduceIte,Nat.reduceAdd,Nat.reduceLT,Nat.reduceLeDiff,Nat.reduceEqDiff,op,hg,KZ]
  |false=>simp only[pv,↓reduceIte,Nat.reduceAdd,Nat.reduceLT,Nat.reduceLeDiff,Nat.reduceEqDiff,op,hg,KZ,y0,y1,eI])]
 rw[e NS,Dv]
end LW
namespace FIN
open PySem PySem.Spec PyProof.Rows L2 NX PV LW
theorem zh{l:PySem.W.OpenLaw}{w:World}{K:W.Frag}{h:Heap}{mg:Str->Option Value}{fa f:Addr}{od an:Option Addr}{sl:Array (Option Value)}{oc kV dc pm cd ct:Value}(X:K.In h)(G:h.Ns mainGlobals mg)(Mh:mg "law" = some (.ref fa))
  (aL:PySem.W.nsIn K mainGlobals "law" = some (some (.ref f))) (lL:K.lookup f=some ⟨oc,od,.func (PySem.W.fnOf "law" "law" (dE jY) (bY jY) (defScope jY) .none kV dc pm an cd ct),sl⟩) (cL:PySem.W.codeIn K cd "law" = true) (kL:PySem.W.keepIn K (.ref f)=true)
  (CW:Def K mg "first_marking" cP) (Ey:Def K mg "can_go" jS) (EY:Def K mg "moved" lY) (DN:Def K mg "explored" gm) (D1:Def K mg "run_of" g5) (Ez:Def K mg "covers" jT) (CP:Def K mg "nearest_covered" cb) (Dx:Def K mg "growth_of" e9) (C5:Def K mg "_law_cell_at" dg) (Dk:Def K mg "_law_mixed" d9) (Dl:Def K mg "_law_names" eg) (Dm:Def K mg "_law_whole" eh) (CY:Def K mg "_law_is_chart" cQ) (CG:Def K mg "_law_are_markings" bS) (DO:Def K mg "_law_due" gq) (C6:Def K mg "_law_refused" dh)
  (Cf:Gi mg "MOST_STATES" (12))
  (CO:PySem.W.nsIn K mainGlobals "ValueError" = some none) (Es:PySem.W.nsIn K mainGlobals "all" = some none) (Et:PySem.W.nsIn K mainGlobals "bool" = some none) (Fh:PySem.W.nsIn K mainGlobals "int" = some none) (Cb:PySem.W.nsIn K mainGlobals "isinstance" = some none) (Cw:PySem.W.nsIn K mainGlobals "len" = some none) (Dj:PySem.W.nsIn K mainGlobals "list" = some none) (C7:PySem.W.nsIn K mainGlobals "range" = some none) (Dr:PySem.W.nsIn K mainGlobals "sorted" = some none) (Fi:PySem.W.nsIn K mainGlobals "str" = some none) (Cv:PySem.W.nsIn K mainGlobals "tuple" = some none) (DZ:PySem.W.nsIn K mainGlobals "zip" = some none) {CU:Addr}(DP:PySem.W.nsIn K mainGlobals "NetError" = some (some (.ref CU))) {Dc:Addr}(EB:PySem.W.nsIn K mainGlobals "NoCase" = some (some (.ref Dc))) {C4:Addr}(Eb:PySem.W.nsIn K mainGlobals "NoChart" = some (some (.ref C4))) {Ds:Addr}(EZ:PySem.W.nsIn K mainGlobals "NoNet" = some (some (.ref Ds))) {Dt:Addr}(E1:PySem.W.nsIn K mainGlobals "NoRun" = some (some (.ref Dt))) {CN:Addr}(Dy:PySem.W.nsIn K mainGlobals "NoStretch" = some (some (.ref CN))) {De:Addr}(EC:PySem.W.nsIn K mainGlobals "NoText" = some (some (.ref De))) {CJ:Addr}(Dn:PySem.W.nsIn K mainGlobals "OtherMoves" = some (some (.ref CJ))) {Ce:Addr}(CA:PySem.W.nsIn K mainGlobals "TooGreat" = some (some (.ref Ce))) (DQ:PySem.W.excIn K Ce [.type "ValueError",.type "Exception",.type "BaseException",.type "object"] "ValueError.__new__" = true) (Ck:PySem.W.kitOne K (.ref Ce) (.type "ValueError")=some true) (B8:PySem.W.kitAny K (.ref Ce) [.ref Dc,.ref C4,.ref Ds,.ref Dt,.ref CN,.ref De,.ref CJ]=some false) (Co:PySem.W.kitOne K (.ref Ce) (.ref CU)=some true) (CL:Asks K Ce):
  ∃fd:FuncData,(∀(s:Shared) (v:Value),BindsTo s fd ⟨[v],[]⟩ [("_law_script",v)])/\∀base:Heap,K.In base->base.Ns mainGlobals mg->FnOk l.prog w K mg base Gu 6 fa fd ["_law_script"] (sr K):=by
 have e:=Mh.symm.trans (NT X G aL);cases e;have F:=tS (st:=jY) lL cL kL;have E2:=NB X G CO;have IC:=NB X G Es;have y_bool:=NB X G Et;have K0:=NB X G Fh;have CQ:=NB X G Cb;have Ed:=NB X G Cw;have FL:=NB X G Dj;have F2:=NB X G C7;have GZ:=NB X G Dr;have K1:=NB X G Fi;have D2:=NB X G Cv;have G0:=NB X G DZ;have FN:=NT X G DP;have G9:=NT X G EB;have Gh:=NT X G Eb;have Ik:=NT X G EZ;have Il:=NT X G E1;have Fm:=NT X G Dy;have Ha:=NT X G EC;have E3:=NT X G Dn;have JE:=NT X G CA;refine⟨PySem.W.fnOf "law" "law" (dE jY) (bY jY) (defScope jY) .none kV dc pm an cd ct,fun s v=>.of_eq rfl,fun base KB GB=>?_⟩;have ED:IX mg base "TooGreat" Ce:=⟨_,_,_,_,PySem.F.excBase_ValueError,xY KB GB CA DQ⟩
 have Ei:Ct l.prog w K mg base "first_marking" 1 (spF K bx):=gT CW D2;have Hb:Ct l.prog w K mg base "can_go" 1 (spF K eG):=qr Ey IC G0;have Im:Ct l.prog w K mg base "moved" 2 (spF K d4):=sL EY Hb D2 G0;have DR:Ct l.prog w K mg base "explored" 3 (spF K aU):=lZ DN Ei Im Cf Ed;have Fn:Ct l.prog w K mg base "run_of" 4 (spF K bZ):=qu D1 DR Cf Ed;have Gj:=ox (P:=l.prog) (w:=w) (K:=K) (mg:=mg) (base:=base) D1 DR ED Cf Ed;have Hc:Ct l.prog w K mg base "covers" 1 (spF K dM):=qw Ez IC G0;have D3:Ct l.prog w K mg base "nearest_covered" 2 (spF K aK):=fQ CP Hc;have Fo:Ct l.prog w K mg base "growth_of" 4 (spF K bB):=lh Dx DR D3 Cf Ed F2;have EE:Ct l.prog w K mg base "_law_cell_at" 1 (spF K aw):=iL C5 Ed;have E4:Ct l.prog w K mg base "_law_mixed" 1 (spF K bz):=jU Dk;have E5:Ct l.prog w K mg base "_law_names" 2 (spF K bU):=jV Dl E4 F2 GZ;have Dp:Ct l.prog w K mg base "_law_whole" 1 (spF K m__law_whole):=jX Dm y_bool K0 CQ;have Ej:Ct l.prog w K mg base "_law_is_chart" 2 (spF K a8):=gU CY Dp CQ Ed FL K1 D2;have DI:Ct l.prog w K mg base "_law_are_markings" 2 (spF K aG):=eQ CG Dp CQ FL D2;have FQ:Ct l.prog w K mg base "_law_due" 1 (spF K bf):=l0 DO Ed;have EF:Ct l.prog w K mg base "_law_refused" 5 (spF K m__law_refused):=iM C6 Gj Fn FN G9 Gh Ik Il Fm Ha E3 Ck B8 Co CL ED E2 CQ;exact(yL F DI EE FQ Ej E5 EF Dp Fo Fn CQ Ed FL D2).imp (yu qM)
end FIN
def PySem.W.Fast.tw10093318611016413803:=0
def PySem.W.Fast.tw1681408908316915654:=0
def PySem.W.Fast.tw3871538540369536577:=0
def PySem.W.Fast.tw4847704658987924747:=0
def PySem.W.Fast.tw8902369524173797324:=0
def PySem.W.Fast.tw10930474040590544756:=0
def PySem.W.Fast.tw5380279835153487362:=0
def PySem.W.Fast.tw3096147277979330588:=0
def PySem.W.Fast.tw3461028310810020909:=0
def PySem.W.Fast.tw16028727236697154280:=0
def PySem.W.Fast.tw12275655947621674757:=0
def PySem.W.Fast.tw15167902147955264632:=0
def PySem.W.Fast.tw11781758365084786488:=0
def PySem.W.Fast.tw12317991385506287354:=0
def PySem.W.Fast.tw15198661748477716774:=0
def PySem.W.Fast.tw15668335601380068176:=0
def PySem.W.Fast.tw844839814249019483:=0
def PySem.W.Fast.tw5864567763808990446:=0
def PySem.W.Fast.tw7160351809791718888:=0
def PySem.W.Fast.tw10398086160371021777:=0
def PySem.W.Fast.tw7583652831763438029:=0
def PySem.W.Fast.tw12742699890433536557:=0
def PySem.W.Fast.tw9644840911032807257:=0
def PySem.W.Fast.tw12301335962995325928:=0
def PySem.W.Fast.tw12404927102069288236:=0
def PySem.W.Fast.tw11779110435922545617:=0
def PySem.W.Fast.tw7760378439140075606:=0
def PySem.W.Fast.tw6665832662357112077:=0
open PySem PySem.W PyProof.Rows
set_option maxRecDepth 100000 in
set_option maxHeartbeats 0 in
theorem PySem.Challenge.cw_netfinder_k20_one_place_one_move_holds : PySem.Challenge.rw_netfinder_k20_one_place_one_move.Holds := by
  w_on; o_law; k_head; (case hw => w_witness2)
  k_fill
  refine PV.BI (l := PySem.Challenge.rw_netfinder_k20_one_place_one_move) (k := 6) (x := "_law_script") rfl rfl ⟨rfl, by decide, by decide⟩ (fun w h Y => PySem.W.kIn_of Y) ?F
  case F =>
    intro w mg fa h KX G Ka
    refine' FIN.zh KX G Ka ?aL ?lL ?cL ?kL ?CW ?Ey ?EY ?DN ?D1 ?Ez ?CP ?Dx ?C5 ?Dk ?Dl ?Dm ?CY ?CG ?DO ?C6 ?Cf ?CO ?Es ?Et ?Fh ?Cb ?Cw ?Dj ?C7 ?Dr ?Fi ?Cv ?DZ ?DP ?EB ?Eb ?EZ ?E1 ?Dy ?EC ?Dn ?CA ?DQ ?Ck ?B8 ?Co ?CL
    (case aL => k_is); (case lL => k_is); (case cL => k_is); (case kL => k_is)
    (case CW => (refine' PV.cD KX G ?a ?l ?c ?k; (case a => k_is); (case l => k_is); (case c => k_is); (case k => k_is)))
    (case Ey => (refine' PV.cD KX G ?a ?l ?c ?k; (case a => k_is); (case l => k_is); (case c => k_is); (case k => k_is)))
    (case EY => (refine' PV.cD KX G ?a ?l ?c ?k; (case a => k_is); (case l => k_is); (case c => k_is); (case k => k_is)))
    (case DN => (refine' PV.cD KX G ?a ?l ?c ?k; (case a => k_is); (case l => k_is); (case c => k_is); (case k => k_is)))
    (case D1 => (refine' PV.cD KX G ?a ?l ?c ?k; (case a => k_is); (case l => k_is); (case c => k_is); (case k => k_is)))
    (case Ez => (refine' PV.cD KX G ?a ?l ?c ?k; (case a => k_is); (case l => k_is); (case c => k_is); (case k => k_is)))
    (case CP => (refine' PV.cD KX G ?a ?l ?c ?k; (case a => k_is); (case l => k_is); (case c => k_is); (case k => k_is)))
    (case Dx => (refine' PV.cD KX G ?a ?l ?c ?k; (case a => k_is); (case l => k_is); (case c => k_is); (case k => k_is)))
    (case C5 => (refine' PV.cD KX G ?a ?l ?c ?k; (case a => k_is); (case l => k_is); (case c => k_is); (case k => k_is)))
    (case Dk => (refine' PV.cD KX G ?a ?l ?c ?k; (case a => k_is); (case l => k_is); (case c => k_is); (case k => k_is)))
    (case Dl => (refine' PV.cD KX G ?a ?l ?c ?k; (case a => k_is); (case l => k_is); (case c => k_is); (case k => k_is)))
    (case Dm => (refine' PV.cD KX G ?a ?l ?c ?k; (case a => k_is); (case l => k_is); (case c => k_is); (case k => k_is)))
    (case CY => (refine' PV.cD KX G ?a ?l ?c ?k; (case a => k_is); (case l => k_is); (case c => k_is); (case k => k_is)))
    (case CG => (refine' PV.cD KX G ?a ?l ?c ?k; (case a => k_is); (case l => k_is); (case c => k_is); (case k => k_is)))
    (case DO => (refine' PV.cD KX G ?a ?l ?c ?k; (case a => k_is); (case l => k_is); (case c => k_is); (case k => k_is)))
    (case C6 => (refine' PV.cD KX G ?a ?l ?c ?k; (case a => k_is); (case l => k_is); (case c => k_is); (case k => k_is)))
    (case Cf => (refine' PV.Ao KX G ?a; (case a => k_is)))
    (case CO => k_is)
    (case Es => k_is)
    (case Et => k_is)
    (case Fh => k_is)
    (case Cb => k_is)
    (case Cw => k_is)
    (case Dj => k_is)
    (case C7 => k_is)
    (case Dr => k_is)
    (case Fi => k_is)
    (case Cv => k_is)
    (case DZ => k_is)
    (case DP => k_is)
    (case EB => k_is)
    (case Eb => k_is)
    (case EZ => k_is)
    (case E1 => k_is)
    (case Dy => k_is)
    (case EC => k_is)
    (case Dn => k_is)
    (case CA => k_is)
    (case DQ => k_exc)
    (case Ck => kit_is)
    (case B8 => kit_is)
    (case Co => kit_is)
    (case CL => (refine' NX.Asks.mk ?a ?b ?c ?d ?e ?f ?g ?h; (case a => k_is); (case b => k_is); (case c => k_is); (case d => k_is); (case e => k_is); (case f => k_is); (case g => k_is); (case h => k_is)))
