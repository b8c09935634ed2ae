import PyProof.Rows.All
import Wide.All
import OpenK.AllK
import Wide.FinOn
import Lean
import PyProof.EqAt
import PyProof.EqKinds
import PyProof.TupleCall
import PySem.Challenge.RW_netfinder_k26_charts_held
set_option Elab.async false
set_option linter.all false
set_option maxRecDepth 100000
set_option compiler.extract_closed false
set_option bootstrap.genMatcherCode false
noncomputable section
theorem Zz{a b:Prop}(x:a)(y:b):a∧b:=⟨x,y⟩
def SH:=@PySem.wpAny_bind
def SI:=@List.mem_cons_self
def SJ:=@List.length_map
def SK:=@List.mem_append_right
def SM:=@List.mem_cons_of_mem
def SN:=@Bool.false_ne_true
def SO:=@PySem.wpAny_pure
def SQ:=@List.size_toArray
def SR:=@List.mem_append_left
def SS:=@Nat.le_refl
def SU:=@if_pos
def SV:=@List.mem_cons
def SW:=@PySem.Heap.lt_size
def SX:=@if_neg
def SY:=@Bool.and_eq_true
def S1:=@Nat.lt_of_lt_of_le
def S3:=@decide_eq_true_eq
def S4:=@List.length_cons
def S5:=@List.map_cons
def S6:=@List.map_append
def S7:=@List.mem_singleton
def S8:=@Nat.ne_of_lt
def S9:=@List.map_map
def Ta:=@List.mem_of_getElem?
def Tb:=@decide_eq_false
def Tc:=@Option.some.inj
def Td:=@Nat.le_trans
def Te:=@List.append_nil
def Tf:=@List.nodup_cons
def Tg:=@List.length_singleton
def Th:=@Bool.eq_iff_iff
def Ti:=@List.nodup_append
def Tj:=@List.mem_append
def Tn:=@PySem.PassesOwn.never
def To:=@List.length_append
def Tp:=@List.length_range
def Tq:=@List.all_eq_true
def Tr:=@decide_eq_true
def Ts:=@Option.map_eq_some_iff
def Tt:=@List.length_set
def Tu:=@beq_iff_eq
def Tv:=@Int.eq_ofNat_of_zero_le
def Tw:=@Nat.zero_le
def Tx:=@List.append_assoc
def Tz:=@List.map_nil
def TB:=@List.mem_range
def TC:=@List.length_take
def TF:=@Option.isSome_iff_exists
def TH:=@List.eq_nil_of_length_eq_zero
def TJ:=@List.not_mem_nil
def TK:=@PySem.wpAny_newObj_type
def TL:=@Bool.and_self
def TM:=@PySem.W.mg_none_of
def TN:=@beq_eq_false_iff_ne
def TQ:=@PySem.wpAny_call_entry
def TR:=@Int.toNat_natCast
def TU:=@decide_eq_false_iff_not
def TV:=@PySem.sizeLine_eq
def TX:=@List.mem_map
def TY:=@List.lookup_cons
def TZ:=@Array.length_toList
def T3:=@congrArg
def T4:=@PySem.wpAny_seqItems
def T5:=@Bool.not_false
def T6:=@PySem.wpAny_field
def T7:=@List.length_nil
def T8:=@List.zip_cons_cons
def T9:=@List.idxOf_lt_length_of_mem
def Ua:=@List.any_eq_true
def Ub:=@Ne.symm
def Uc:=@PyProof.Rows.slot_tuple_getitem
def Ud:=@List.replicate_succ
def Ue:=@List.map_congr_left
def Ug:=@List.nodup_nil
def Uh:=@List.mem_iff_getElem?
def Ui:=@List.set_set
def Uj:=@List.nil_append
def Uk:=@decide_false
def Ul:=@Bool.false_eq_true
def Um:=@beq_self_eq_true
def Uo:=@List.getElem_mem
def Up:=@PySem.wpAny_typeNameOfWhole_keyiter
def Uq:=@List.cons_append
def Ur:=@decide_true
def Us:=@PySem.F.slot_dict_keyiterator_next
def Ut:=@Option.bind_eq_some_iff
def Uu:=@List.all_map
def Uv:=@List.flatten_cons
def Uw:=@PyProof.Rows.callWith_type1
def Ux:=@PySem.mem_of_lookup
def Uy:=@PyProof.Rows.KeyOrd.kle_refl
def Uz:=@PySem.W.kia_one
def UA:=@List.take_of_length_le
def UB:=@PySem.F.slot_tuple_iterator_next
def UC:=@PySem.F.plain_max_loop
def UD:=@PySem.wpAny_pyIter_tuple
def UE:=@PySem.wpAny_holding
def UG:=@PySem.wpAny_setField_rec
def UH:=@Bool.not_true
def UI:=@List.mem_filter
def UJ:=@PySem.wpAny_passesOwn
def UK:=@PySem.wpAny_pyIter_list
def UL:=@List.of_mem_zip
def UM:=@PySem.F.slot_tuple_index
def UN:=@Option.some.injEq
def UO:=@List.filterMap_cons_none
def UP:=@List.filterMap_cons_some
def UQ:=@List.any_map
def UR:=@Nat.lt_irrefl
def US:=@List.cons.inj
def UT:=@PySem.F.slot_list_index
def UU:=@List.length_drop
def UW:=@Option.getD_none
def UX:=@Nat.lt_succ_self
def UY:=@PySem.Heap.size_push
def UZ:=@PySem.wpAny_Call_Name_kw
def U0:=@List.pairwise_cons
def U1:=@Int.cast_ofNat_Int
def U2:=@List.foldl_cons
def U3:=@Classical.choose_spec
def U4:=@PySem.wpAny_truthy_bool
def U5:=@List.take_add_one
def U6:=@of_decide_eq_true
def U7:=@List.ext_getElem?
def U8:=@List.all_cons
def U9:=@List.nodup_iff_pairwise_ne
def Va:=@PySem.Calls.call_function_entry
def Vb:=@List.drop_eq_getElem_cons
def Vc:=@List.take_length
def Vd:=@Nat.le_succ
def Ve:=@PySem.wpAny_letGo
def Vf:=@PySem.Heap.SameBut.update
def Vg:=@PySem.wpAny_mono
def Vh:=@PySem.F.args_tuple_add_2
def Vi:=@PySem.wpAny_typeOf
def Vj:=@PySem.F.type_tuple_index
def Vk:=@PySem.F.entry_tuple_add
def Vl:=@if_false
def Vm:=@if_true
def Vn:=@PySem.Obj.data_mapFields
def Vo:=@PySem.tupleKind_room_in1
def Vp:=@List.length_zip
def Vq:=@PySem.F.type_list_index
def Vr:=@PySem.F.slot_tuple_add
def Vs:=@PyProof.Rows.KeyOrd.kle_of_klt
def Vt:=@PySem.wpAny_dictEntries
def Vu:=@List.pairwise_map
def Vv:=@Bool.eq_false_iff
def Vx:=@Bool.false_and
def Vy:=@PySem.wpAny_tryCatch
def Vz:=@List.take_zero
def VA:=@PySem.F.args_dict_keyiterator_next_1
def VB:=@Option.getD_some
def VC:=@PyProof.Rows.KeyOrd.kle_trans
def VD:=@PySem.F.entry_dict_keyiterator_next
def VE:=@PySem.Around.under_plainId
def VF:=@PySem.wpAny_updateSeq_pair
def VG:=@List.mem_of_mem_take
def VH:=@PySem.Paired.length
def VI:=@PySem.F.args_tuple_iterator_next_1
def VJ:=@Bool.and_true
def VL:=@Bool.true_and
def VM:=@List.filterMap_cons
def VN:=@PySem.wpAny_execs_nil
def VO:=@List.toList_toArray
def VP:=@List.getElem_of_mem
def VQ:=@List.length_pos_iff
def VR:=@PySem.F.entry_tuple_iterator_next
def VS:=@PySem.F.slot_zip_next
def VT:=@Array.getD_eq_getD_getElem?
def VU:=@Option.map_some
def VW:=@Nat.min_eq_left
def VX:=@Int.natCast_add
def VY:=@PySem.Calls.Name_function_global
def VZ:=@List.mem_filterMap
def V0:=@Option.isSome_some
def V1:=@Nat.zero_add
def V2:=@Option.isNone_some
def V3:=@PySem.wpAny_setField
def V4:=@List.pairwise_iff_getElem
def V5:=@Bool.and_false
def V6:=@List.mem_or_eq_of_mem_set
def V7:=@List.take_sublist
def V8:=@PySem.wpAny_getItem_list_slice
def V9:=@bne_self_eq_false
def Wa:=@PySem.wpAny_comprehension_free
def Wb:=@Nat.lt_succ_of_lt
def Wc:=@Option.isSome_map
def Wd:=@PySem.AutoSeq1.sub_tuple_tuple
def We:=@List.length_erase_of_mem
def Wf:=@PySem.plainId_quiet
def Wg:=@PySem.wpAny_onRaise
def Wh:=@PySem.wpAny_attempt
def Wi:=@List.not_lt
def Wj:=@PySem.F.plainAttrs_list
def Wl:=@List.map_take
def Wm:=@PySem.noFill_tuple_add
def Wn:=@PySem.F.entry_max_loop
def Wo:=@PySem.wpAny_forIn_list
def Wq:=@List.drop_length
def Wr:=@PySem.W.cellsFrom_some
def Wx:=@List.Perm.append_right
def Wy:=@List.drop_eq_nil_of_le
def Wz:=@List.length_pos_of_mem
def WA:=@Nat.le_of_lt
def WC:=@PySem.concat_meets
def WD:=@List.forIn_cons
def WE:=@Bool.or_eq_true
def WG:=@PySem.codeAny_builtin
def WH:=@PySem.wpAny_updateSeq
def WJ:=@PySem.wpAny_dictEpoch
def WL:=@List.Perm.append_left
def WM:=@List.perm_append_comm
def WN:=@Nat.not_lt_zero
def WO:=@List.length_filter_le
def WQ:=@Nat.sub_self
def WR:=@PySem.typeIs_str
def WS:=@PySem.typeIs_int
def WT:=@PySem.wpAny_rule
def WX:=@List.getElem_toArray
def WY:=@List.findIdx_getElem
def WZ:=@List.drop_zero
def W4:=@List.take_succ_cons
def W5:=@List.drop_succ_cons
def W8:=@PySem.wpAny_standAt
def W9:=@PySem.seq_tuple_add
def Xc:=@or_false
def Xe:=@PySem.wpAny_newList
def Xf:=@of_decide_eq_false
def Xg:=@List.any_cons
def Xh:=@List.getElem_range
def Xi:=@List.sum_cons
def Xj:=@Option.isNone_none
def Xw:=@Nat.ne_of_gt
def XA:=@Nat.mul_comm
def X2:=@Int.le_refl
def Yu:=@bne_iff_ne
namespace L2
open PySem PySem.Spec PyProof.Rows
def IsTupN(h:Heap)(a:Addr)(items:Array Value):Prop:=∃o,h.get? a=some o/\o.cls=.type "tuple"/\(∃n,o.data=.seq items n)/\o.dict=none
theorem IsTupN.tup{h:Heap}{a:Addr}{items:Array Value}(p:IsTupN h a items):IsTup h a items:=by
 obtain⟨o,e,c,n,_⟩:=p;exact⟨o,e,c,n⟩
theorem IsTupN.new(h:Heap)(items:Array Value):IsTupN (h.push {cls:=.type "tuple",data:=.seq items}) h.objs.size items:=⟨_,Heap.get?_push_size _ rfl,rfl,⟨_,rfl⟩,rfl⟩
abbrev Key:=Sum Int Str
def pR:Key->Value->Bool
 | .inl k,v=>Value.isInt k v
 | .inr x,v=>Value.isStrOf x v
def Ga(w:World):Key->Int
 | .inl k=>hashInt k
 | .inr x=>hashStr w x
theorem bZ:∀{k:Key}{v:Value},pR k v=true->(∃i t,k=Sum.inl i/\v=Value.int i t)\/(∃x t,k=Sum.inr x/\v=Value.str x t)
 | .inl i,v,h=>by
  obtain⟨t,e⟩:=Value.isInt_shape (k:=i) (v:=v) h;exact .inl ⟨i,t,rfl,e⟩
 | .inr x,v,h=>by
  obtain⟨t,e⟩:=Value.isStrOf_shape (x:=x) (v:=v) h;exact .inr ⟨x,t,rfl,e⟩
theorem tH(i:Int)(t:Tok):pR (.inl i) (.int i t)=true:=by simp[pR,Value.isInt]
theorem tI(x:Str)(t:Tok):pR (.inr x) (.str x t)=true:=by simp[pR,Value.isStrOf]
theorem BA(a b:Int):decide ((Sum.inl a:Key)=Sum.inl b)=(a==b):=by
 by_cases e:a=b
 ·subst e;simp
 ·have h:¬ (Sum.inl a:Key)=Sum.inl b:=fun q=>e (Sum.inl.inj q)
  rw[Tb h];exact(TN.mpr e).symm
theorem BB(a b:Str):decide ((Sum.inr a:Key)=Sum.inr b)=decide (a=b):=by
 by_cases e:a=b
 ·subst e;simp
 ·have h:¬ (Sum.inr a:Key)=Sum.inr b:=fun q=>e (Sum.inr.inj q)
  rw[Tb h,Tb e]
theorem BC(a:Int)(b:Str):decide ((Sum.inl a:Key)=Sum.inr b)=false:=Tb (fun q=>nomatch q)
theorem BD(a:Str)(b:Int):decide ((Sum.inr a:Key)=Sum.inl b)=false:=Tb (fun q=>nomatch q)
noncomputable def mixKind(prog:Program)(w:World):PySem.KeyKind prog w Key where
 is:=pR
 hash:=Ga w
 inj:=fun v a b ha hb=>by
  rcases bZ ha with⟨i,t,rfl,rfl⟩|⟨x,t,rfl,rfl⟩
  ·rcases bZ hb with⟨j,u,rfl,e⟩|⟨y,u,rfl,e⟩
   ·injection e with e1 _;rw[e1]
   ·exact nomatch e
  ·rcases bZ hb with⟨j,u,rfl,e⟩|⟨y,u,rfl,e⟩
   ·exact nomatch e
   ·injection e with e1 _;rw[e1]
 byValue:=fun k v h=>by
  rcases bZ h with⟨i,t,rfl,rfl⟩|⟨x,t,rfl,rfl⟩ <;> rfl
 pyHash:=fun hv h=>by
  rcases bZ hv with⟨i,t,rfl,rfl⟩|⟨x,t,rfl,rfl⟩
  ·exact wpAny_pyHash_int h
  ·exact wpAny_pyHash_str h
 eqBool:=fun hu hv h=>by
  rcases bZ hu with⟨i,t,rfl,rfl⟩|⟨x,t,rfl,rfl⟩
  ·rcases bZ hv with⟨j,u,rfl,rfl⟩|⟨y,u,rfl,rfl⟩
   ·rw[BA]at h;exact wpAny_eqBool_int h
   ·rw[BC]at h;exact SeqAt.EqAt.int_str i t y u _ _ _ _ h
  ·rcases bZ hv with⟨j,u,rfl,rfl⟩|⟨y,u,rfl,rfl⟩
   ·rw[BD]at h;exact SeqAt.EqAt.str_int x t j u _ _ _ _ h
   ·rw[BB]at h;exact wpAny_eqBool_str h
 «strs»:=fun k x t v h=>by
  rcases bZ h with⟨i,u,rfl,e⟩|⟨y,u,rfl,e⟩
  ·exact nomatch e
  ·injection e with e1 _;subst e1;cases v <;> rfl
theorem sj(prog:Program)(w:World)(k:Key)(v:Value):(mixKind prog w).is k v=pR k v:=rfl
theorem pS(prog:Program)(w:World)(i:Int)(t:Tok):(mixKind prog w).is (.inl i) (.int i t)=true:=tH i t
theorem pT(prog:Program)(w:World)(x:Str)(t:Tok):(mixKind prog w).is (.inr x) (.str x t)=true:=tI x t
inductive V where
 |non|bl (b:Bool)|int (i:Int)|str (x:Str)|byt (b:Array UInt8)|flt (b:UInt64)|ref (a:Addr)|ty (n:String)
 deriving DecidableEq
noncomputable def RelV:V->Value->Prop
 | .non,u=>u=Value.none
 | .bl b,u=>u=Value.bool b
 | .int i,u=>∃t,u=Value.int i t
 | .str x,u=>∃t,u=Value.str x t
 | .byt b,u=>∃t,u=Value.bytes b t
 | .flt b,u=>∃t,u=Value.float b t
 | .ref a,u=>u=Value.ref a
 | .ty n,u=>u=Value.type n
abbrev Vals:List V->List Value->Prop:=Paired RelV
theorem Vals.length{xs:List V}{us:List Value}(r:Vals xs us):xs.length=us.length:=VH r
theorem Vals.get:∀{xs:List V}{us:List Value}{i:Nat}{x:V},Vals xs us->xs[i]?=some x->∃u,us[i]?=some u/\RelV x u
 |_,_,_,_,.nil,e=>by simp at e
 |_,_,0,_,.cons r _,e=>by simp at e;subst e;exact⟨_,rfl,r⟩
 |_,_,i+1,x,.cons _ t,e=>by
  obtain⟨u,h1,h2⟩:=Vals.get (i:=i) (x:=x) t (by simpa using e);exact⟨u,by simpa using h1,h2⟩
theorem Vals.set{x:V}{u:Value}(r:RelV x u):∀{xs:List V}{us:List Value}(i:Nat),Vals xs us->Vals (xs.set i x) (us.set i u)
 |_,_,_,.nil=>.nil
 |_,_,0,.cons _ t=>.cons r t
 |_,_,i+1,.cons q t=>.cons q (Vals.set r i t)
theorem Vals.append:∀{xs ys:List V}{us ws:List Value},Vals xs us->Vals ys ws->Vals (xs++ys) (us++ws)
 |_,_,_,_,.nil,s=>s
 |_,_,_,_,.cons r t,s=>.cons r (Vals.append t s)
theorem Vals.take:∀{xs:List V}{us:List Value}(n:Nat),Vals xs us->Vals (xs.take n) (us.take n)
 |_,_,0,_=>.nil
 |_,_,_+1,.nil=>.nil
 |_,_,n+1,.cons r t=>.cons r (Vals.take n t)
theorem Vals.drop:∀{xs:List V}{us:List Value}(n:Nat),Vals xs us->Vals (xs.drop n) (us.drop n)
 |_,_,0,r=>r
 |_,_,_+1,.nil=>.nil
 |_,_,n+1,.cons _ t=>Vals.drop n t
theorem Vals.none_of:∀{xs:List V}{us:List Value}{i:Nat},Vals xs us->xs[i]?=none->us[i]?=none:=fun{xs us i} r e=>by
 have h1:=r.length;have h2:xs.length<=i:=List.getElem?_eq_none_iff.mp e;exact List.getElem?_eq_none_iff.mpr (by lia)
def RelO:Option V->Option Value->Prop
 |some v,some u=>RelV v u
 |none,none=>True
 |_,_=>False
def KV{κ:Type}:List (κ×V)->List (κ×Value)->Prop:=Paired fun(p:κ×V) (q:κ×Value)=>p.1=q.1/\RelV p.2 q.2
def kV:Key->V
 | .inl i=>.int i
 | .inr x=>.str x
inductive HO where
 |lst (xs:List V)
 |tup (xs:List V)
 |dK (kvs:List (Key×V))|dT (kvs:List (List Key×V))
 |set (S:Int->Bool) (n:Nat)
 |ins (C dx:Addr) (fs:List (Str×V))
 |own (x:Addr)
 |xd (fs:List (Str×V))
 |met (f x:Addr)
 |rng (lo hi:Int)
 |frz (o:Obj) (u:HO)
 |tbl (ps:Array Value)
 |ext (φ:Heap->Prop)
abbrev Hp:=Addr->Option HO
def upd(H:Hp)(a:Addr)(o:HO):Hp:=fun b=>if b=a then some o else H b
theorem aY{H:Hp}{a:Addr}{o:HO}:upd H a o a=some o:=by unfold upd;rw[SU rfl]
theorem aE{H:Hp}{a b:Addr}{o:HO}(h:b≠a):upd H a o b=H b:=by unfold upd;rw[SX h]
theorem Em{H:Hp}{a b:Addr}{o u:HO}(h:H a=some o)(h':H b=some u)(d:o≠u):a≠b:=by
 intro e;subst e;rw[h]at h';exact d (Tc h')
theorem bc{H:Hp}{a b:Addr}{o:HO}(h:H a=some o)(h':H b=none):a≠b:=by
 intro e;subst e;rw[h]at h';cases h'
section
variable(P:Program)(w:World)
noncomputable def ObjOk(H:Hp)(h:Heap)(a:Addr):HO->Prop
 | .lst xs=>xs.length<=sizeLine/\∃(Hj:List Value) (n:Nat),Vals xs Hj/\h.get? a=some {cls:=.type "list",data:=.seq Hj.toArray n}
 | .tup xs=>xs.length<=sizeLine/\∃Hj:List Value,Vals xs Hj/\IsTupN h a Hj.toArray
 | .dK kvs=>kvs.length<=sizeLine/\(a==sysModules)=false/\∃vs,KV kvs vs/\h.DictOf (mixKind P w) a vs
 | .dT kvs=>kvs.length<=sizeLine/\(a==sysModules)=false/\∃xs:List (List Key×Addr×Value),
   Paired (fun(p:List Key×V) (q:List Key×Addr×Value)=>p.1=q.1/\H q.2.1=some (.tup (p.1.map kV))/\RelV p.2 q.2.2) kvs xs/\
   ∃o es ep,h.get? a=some o/\o.ExactDict/\o.data=.dict es ep/\es.toList=xs.map (entryOfKey (tupleKind (mixKind P w)))/\(xs.map (·.1)).Nodup
 | .set S n=>h.SetOf (intKind P w) a S n
 | .ins C dx fs=>H dx=some (.own a)/\fs.length<=1000/\dx≠a/\h.get? a=some (PySem.W.instObj C dx)/\
   ∃mA,h.Ns1 dx mA/\(∀f,RelO (fs.lookup f) (mA f))/\PySem.Within mA (fs.map (·.1))
 | .own _=>∃o,h.get? a=some o
 | .xd fs=>∃mA,h.Ns1 a mA/\∀f,RelO (fs.lookup f) (mA f)
 | .rng lo hi=>∃t u v,h.get? a=some {cls:=.type "range",data:=.fields #[.int lo t,.int hi u,.int 1 v]}
 | .frz o u=>h.get? a=some o/\ObjOk H h a u
 | .tbl ps=>h.get? a=some {cls:=.none,data:=.fields ps}
 | .met f x=>h.get? a=some (PySem.W.methodObj (.ref f) (.ref x))
 | .ext φ=>φ h/\(∃o,h.get? a=some o)/\∀h1 h2:Heap,φ h1->(∀o,h1.get? a=some o->h2.get? a=some o)->φ h2
def HOk(H:Hp)(h:Heap):Prop:=∀a o,H a=some o->ObjOk P w H h a o
end
section
variable{P:Program}{w:World}{H H':Hp}{h h':Heap}{a:Addr}{o:HO}
theorem ObjOk.lt(x:ObjOk P w H h a o):a<h.objs.size:=by
 cases o with
 |lst xs=>obtain⟨_,_,_,_,e⟩:=x;exact SW e
 |tup xs=>obtain⟨_,_,_,p⟩:=x;exact p.tup.lt
 |dK kvs=>obtain⟨_,_,_,_,o,_,_,e,_⟩:=x;exact SW e
 |dT kvs=>obtain⟨_,_,_,_,o,_,_,e,_⟩:=x;exact SW e
 |set S n=>obtain⟨o,_,_,_,e,_⟩:=x;exact SW e
 |ins C dx fs=>obtain⟨_,_,_,e,_⟩:=x;exact SW e
 |own y=>obtain⟨_,e⟩:=x;exact SW e
 |xd fs=>obtain⟨_,⟨_,_,_,e,_⟩,_⟩:=x;exact SW e
 |rng lo hi=>obtain⟨_,_,_,e⟩:=x;exact SW e
 |frz ob u=>obtain⟨e,_⟩:=x;exact SW e
 |tbl ps=>exact SW (show h.get? a=some _ from x)
 |met f y=>exact SW (show h.get? a=some _ from x)
 |ext φ=>obtain⟨_,⟨_,e⟩,_⟩:=x;exact SW e
theorem Paired.mapP{α β:Type}{F G:α->β->Prop}:∀{l₁:List α}{l₂:List β},Paired F l₁ l₂->(∀a b,F a b->G a b)->Paired G l₁ l₂
 |_,_,.nil,_=>.nil
 |_,_,.cons r t,f=>.cons (f _ _ r) (Paired.mapP t f)
theorem ObjOk.stay(x:ObjOk P w H h a o)(k:∀b u,(b=a\/H b=some (.own a))->h.get? b=some u->h'.get? b=some u)
  (ho:∀b,H b=some (.own a)->H' b=some (.own a)) (ht:∀b xs,H b=some (.tup xs)->H' b=some (.tup xs)):ObjOk P w H' h' a o:=by
 induction o with
 |lst xs=>obtain⟨z,Hj,n,r,e⟩:=x;exact⟨z,Hj,n,r,k _ _ (.inl rfl) e⟩
 |tup xs=>obtain⟨z,Hj,r,ob,e,c⟩:=x;exact⟨z,Hj,r,ob,k _ _ (.inl rfl) e,c⟩
 |dK kvs=>obtain⟨z,y,vs,r,ob,es,ep,e,c⟩:=x;exact⟨z,y,vs,r,ob,es,ep,k _ _ (.inl rfl) e,c⟩
 |dT kvs=>
  obtain⟨z,y,xs,r,ob,es,ep,e,c⟩:=x;exact⟨z,y,xs,Paired.mapP r fun p q z=>⟨z.1,ht _ _ z.2.1,z.2.2⟩,ob,es,ep,k _ _ (.inl rfl) e,c⟩
 |set S n=>obtain⟨ob,es,ep,t,e,c⟩:=x;exact⟨ob,es,ep,t,k _ _ (.inl rfl) e,c⟩
 |ins C dx fs=>
  obtain⟨d,z,ne,e,mA,⟨od,es,ep,e2,c⟩,r⟩:=x;exact⟨ho _ d,z,ne,k _ _ (.inl rfl) e,mA,⟨od,es,ep,k _ _ (.inr d) e2,c⟩,r⟩
 |own y=>obtain⟨ob,e⟩:=x;exact⟨ob,k _ _ (.inl rfl) e⟩
 |xd fs=>obtain⟨mA,⟨od,es,ep,e,c⟩,r⟩:=x;exact⟨mA,⟨od,es,ep,k _ _ (.inl rfl) e,c⟩,r⟩
 |rng lo hi=>obtain⟨t,u,v,e⟩:=x;exact⟨t,u,v,k _ _ (.inl rfl) e⟩
 |frz ob u ih=>obtain⟨e,q⟩:=x;exact⟨k _ _ (.inl rfl) e,ih q⟩
 |tbl ps=>
  have e:h.get? a=some {cls:=.none,data:=.fields ps}:=x;show h'.get? a=some {cls:=.none,data:=.fields ps};exact k a _ (.inl rfl) e
 |met f y=>
  have e:h.get? a=some (PySem.W.methodObj (.ref f) (.ref y)):=x;show h'.get? a=some (PySem.W.methodObj (.ref f) (.ref y));exact k a _ (.inl rfl) e
 |ext φ=>obtain⟨p,⟨o,e⟩,st⟩:=x;exact⟨st _ _ p fun o q=>k _ _ (.inl rfl) q,⟨o,k _ _ (.inl rfl) e⟩,st⟩
theorem HOk.lt(x:HOk P w H h)(e:H a=some o):a<h.objs.size:=(x a o e).lt
theorem HOk.fresh(x:HOk P w H h)(e:h.objs.size<=a):H a=none:=by
 cases q:H a with
 |none=>rfl
 |some u=>exact absurd (S1 (x.lt q) e) (UR _)
theorem HOk.kept(x:HOk P w H h)(k:∀b u,h.get? b=some u->h'.get? b=some u):HOk P w H h':=fun a o e=>
 (x a o e).stay (fun b u _ q=>k b u q) (fun _ q=>q) fun _ _ q=>q
theorem HOk.laid(x:HOk P w H h)(k:∀b u,h.get? b=some u->h'.get? b=some u)(hp:h.objs.size<=a)(new:ObjOk P w (upd H a o) h' a o):HOk P w (upd H a o) h':=fun b u e=>by
 have hn:=x.fresh hp;by_cases hb:b=a
 ·subst hb;rw[aY]at e;cases e;exact new
 ·rw[aE hb]at e;exact(x b u e).stay (fun c v _ q=>k c v q) (fun c q=>by rw[aE (bc q hn)];exact q) fun c xs q=>by rw[aE (bc q hn)];exact q
end
def Rd(H:Hp)(a:Addr)(u:HO):Prop:=H a=some u\/∃o,H a=some (.frz o u)
theorem Rd.ok{P:Program}{w:World}{H:Hp}{h:Heap}{a:Addr}{u:HO}(r:Rd H a u)(x:HOk P w H h):ObjOk P w H h a u:=by
 rcases r with r|⟨o,r⟩
 ·exact x a u r
 ·obtain⟨_,q⟩:=x a _ r;exact q
def OW:Option HO->Prop
 |some (.lst _)=>True
 |some (.dK _)=>True
 |some (.dT _)=>True
 |some (.set _ _)=>True
 |some (.ins _ _ _)=>True
 |some (.ext _)=>True
 |_=>False
section
variable{P:Program}{w:World}{H:Hp}{h h':Heap}{x e:Addr}{o':HO}
theorem HOk.write(ok:HOk P w H h)(mu:OW (H x))(he:e=x\/H e=some (.own x))(k:∀b u,b≠e->h.get? b=some u->h'.get? b=some u)(OG:∃u,h'.get? e=some u)
  (new:ObjOk P w (upd H x o') h' x o'):HOk P w (upd H x o') h':=fun b u q=>by
 have Ld:∀c y,H c=some (.own y)->c≠x:=fun c y r z=>by subst z;rw[r]at mu;exact mu
 have ntup:∀c xs,H c=some (.tup xs)->c≠x:=fun c xs r z=>by subst z;rw[r]at mu;exact mu
 by_cases hb:b=x
 ·subst hb;rw[aY]at q;cases q;exact new
 ·rw[aE hb]at q;by_cases hbe:b=e
  ·have q':H b=some (.own x):=by
    rcases he with z|z
    ·exact absurd (hbe.trans z) hb
    ·rw[hbe];exact z
   rw[q]at q';cases q';obtain⟨v,hv⟩:=OG;exact⟨v,by rw[hbe];exact hv⟩
  ·refine(ok b u q).stay (fun c v hc r=>k c v ?_ r) (fun c r=>by rw[aE (Ld c b r)];exact r) fun c xs r=>by rw[aE (ntup c xs r)];exact r
   rcases hc with rfl|hc
   ·exact hbe
   ·rintro rfl;rcases he with z|z
    ·exact Ld c b hc z
    ·rw[hc]at z;cases z;exact hb rfl
end
structure Un(fs ex:List Addr)(H H':Hp)(h h':Heap):Prop where
 keep:∀b o,h.get? b=some o->H b=none->b∉fs->b∉ex->h'.get? b=some o
 slot:∀b o,h.get? b=some o->H b=none->b∈fs->b∉ex->∃sl,h'.get? b=some {o with slots:=sl}
 free:∀b o,h.get? b=some o->H b=none->b∉ex->H' b=none
 there:∀b o,h.get? b=some o->b∉ex->∃o',h'.get? b=some o'
 tups:∀b xs,H b=some (.tup xs)->H' b=some (.tup xs)
 frzs:∀b o u,H b=some (.frz o u)->H' b=some (.frz o u)
 tbls:∀b ps,H b=some (.tbl ps)->∃more,H' b=some (.tbl (ps++more))
section
variable{fs fs' ex ex':List Addr}{H H1 H2:Hp}{h h1 h2 h':Heap}{a x e:Addr}{o:HO}
theorem Un.any(u:Un fs ex H H1 h h1){b:Addr}{ob:Obj}(q:h.get? b=some ob)(n:H b=none)(hx:b∉ex):∃sl,h1.get? b=some {ob with slots:=sl}:=by
 by_cases hb:b∈fs
 ·exact u.slot b ob q n hb hx
 ·exact⟨ob.slots,u.keep b ob q n hb hx⟩
theorem Un.kept(k:∀b u,h.get? b=some u->h'.get? b=some u):Un fs ex H H h h':=
 ⟨fun b ob q _ _ _=>k b ob q,fun b ob q _ _ _=>⟨ob.slots,k b ob q⟩,fun _ _ _ n _=>n,fun b ob q _=>⟨ob,k b ob q⟩,fun _ _ q=>q,fun _ _ _ q=>q,fun _ ps q=>⟨#[],by rw[q];simp⟩⟩
theorem Un.refl:Un fs ex H H h h:=Un.kept fun _ _ q=>q
theorem Un.laid(k:∀b u,h.get? b=some u->h'.get? b=some u)(hp:h.objs.size<=a)(hn:H a=none):Un fs ex H (upd H a o) h h' where
 keep:=fun b u q _ _ _=>k b u q
 slot:=fun b u q _ _ _=>⟨u.slots,k b u q⟩
 free:=fun b u q n _=>by rw[aE (S8 (S1 (SW q) hp))];exact n
 there:=fun b u q _=>⟨u,k b u q⟩
 tups:=fun b xs q=>by rw[aE (bc q hn)];exact q
 frzs:=fun b u xs q=>by rw[aE (bc q hn)];exact q
 tbls:=fun b ps q=>⟨#[],by rw[aE (bc q hn),q];simp⟩
theorem Un.write(mu:OW (H x))(he:e=x\/H e=some (.own x))(k:∀b u,b≠e->h.get? b=some u->h'.get? b=some u)(OG:∃u,h'.get? e=some u):Un fs ex H (upd H x o) h h':=by
 have hx:∀b,H b=none->b≠x:=fun b n z=>by subst z;rw[n]at mu;exact mu
 have hb:∀b,H b=none->b≠e:=fun b n z=>by
  subst z;rcases he with r|r
  ·exact hx b n r
  ·rw[n]at r;cases r
 have hm:∀b u,H b=some u->¬ OW (some u)->b≠x:=fun b u q nm z=>by subst z;rw[q]at mu;exact nm mu
 refine⟨fun b u q n _ _=>k b u (hb b n) q,fun b u q n _ _=>⟨u.slots,k b u (hb b n) q⟩,fun b u q n _=>by rw[aE (hx b n)];exact n,fun b u q _=>?_,
  fun b xs q=>by rw[aE (hm b _ q fun z=>z)];exact q,fun b u xs q=>by rw[aE (hm b _ q fun z=>z)];exact q,fun b ps q=>⟨#[],by rw[aE (hm b _ q fun z=>z),q];simp⟩⟩
 by_cases hbe:b=e
 ·subst hbe;exact OG
 ·exact⟨u,k b u hbe q⟩
end
def trk(h:Heap)(H:Hp):List Addr:=(List.range h.objs.size).filter fun a=>(H a).isSome
def wN(h:Heap)(H:Hp):Heap:=PySem.W.hideAll h (trk h H)
theorem tJ(h:Heap)(H:Hp):(wN h H).objs.size=h.objs.size:=PySem.W.hideAll_size _ _
theorem wO{h:Heap}{H:Hp}{b:Addr}{o:Obj}(e:h.get? b=some o)(n:H b=none):(wN h H).get? b=some o:=
 PySem.W.hideAll_get _ e fun hm=>by
  have q:(H b).isSome=true:=(UI.mp hm).2;rw[n]at q;simp at q
theorem yX{h:Heap}{H:Hp}{b:Addr}{o:Obj}(e:(wN h H).get? b=some o):h.get? b=some o/\H b=none:=by
 have e':h.get? b=some o:=PySem.W.of_hideAll (trk h H) e;refine⟨e',?_⟩;cases q:H b with
 |none=>rfl
 |some x=>
  have hm:b∈trk h H:=UI.mpr ⟨TB.mpr (SW e'),by simp[q]⟩;have z:(wN h H).get? b=none:=PySem.W.hideAll_none (trk h H) hm;rw[z]at e;cases e
def yY(g h:Heap)(L:Addr):List (Addr×Obj):=(List.range h.objs.size).filterMap fun a=>if a=L\/(g.get? a).isSome=true then none else(h.get? a).map fun o=>(a,o)
def dA(g h:Heap)(L d:Addr):List (Addr×Obj):=(yY g h L).filter fun p=>decide (p.1≠d)
structure Mod(K:W.Frag)(mg:Str->Option Value)(base:Heap):Prop where
 kin:K.In base
 glob:base.Ns mainGlobals mg
 blt:∃mb,base.Ns builtinsNs mb/\∀x:Str,x≠"__name__"->mb x=bootBuiltins x
 nolimit:base.NoLimit
structure Cx where
 prog:Program
 w:World
 K:W.Frag
 mg:Str->Option Value
 base:Heap
 A:Around
 N:List Str
 s₀:Shared
 H₀:Hp
 env:Env
 outer:List Env
 stack:List Env
 ex:List Addr
 fn:Str->Bool
 calm:Bool
 pn:List (Addr×Obj)
 xe:Value->Shared->Prop
def Lw(l:List Env):List Addr:=l.filterMap (·.frame)
abbrev Cx.fs(X:Cx):List Addr:=Lw X.outer
def QN(sc:Scope)(x:Str):Prop:=sc.names.lookup x=some .local\/sc.names.lookup x=some .cell\/sc.names.lookup x=some .free
def Loc(sc:Scope)(x:Str):Prop:=sc.names.lookup x=some .local\/sc.names.lookup x=some .cell
def FF(sc:Scope)(x:Str):Bool:=match sc.names.lookup x with
 |some .local=>true
 |some .cell=>true
 |_=>false
theorem lo{sc:Scope}{x:Str}(h:FF sc x=true):Loc sc x:=by
 unfold FF at h;split at h
 ·exact .inl (by assumption)
 ·exact .inr (by assumption)
 ·cases h

def Gb(env:Env)(h:Heap)(m:Str->Option Value)(x:Str)(u:Value):Prop:=
 (env.kindOf x=some .local/\m x=some u)\/((env.kindOf x=some .cell\/env.kindOf x=some .free)/\∃c,env.cells.lookup x=some c/\h.IsCell c (some u))
structure Cx.Ok(X:Cx):Prop where
 mod:Mod X.K X.mg X.base
 kind:X.env.scope.kind=.function
 glob:X.env.globals=mainGlobals
 blt:X.env.builtins=builtinsNs
 above:X.s₀.heap.objs.size<=X.env.locals
 inj:∀x y c,X.env.cells.lookup x=some c->X.env.cells.lookup y=some c->x=y
 has:∀x,(X.env.kindOf x=some .cell\/X.env.kindOf x=some .free)->∃c,X.env.cells.lookup x=some c
 cab:∀x c,X.fn x=true->X.env.cells.lookup x=some c->X.s₀.heap.objs.size<=c
 hd:X.calm=true->X.A.handled=none
 frames:X.A.frames=some X.stack
 stk:X.stack=X.outer\/(X.stack=X.env::X.outer/\X.env.frame=some X.env.locals)
 exf:∀b∈X.ex,b≠X.env.locals/\∀x c,X.env.cells.lookup x=some c->c≠b
 bs:∀b o,X.base.get? b=some o->X.s₀.heap.get? b=some o/\X.H₀ b=none
 bsz:X.base.objs.size<=X.s₀.heap.objs.size
 noex:∀b o,X.base.get? b=some o->b∉X.ex
 exfs:∀b∈X.ex,b∉X.fs
 funs:X.s₀.heap.FunFrames X.base X.outer
 frf:∀b∈X.fs,X.H₀ b=none
structure Inv(X:Cx)(pr:List (Addr×Obj))(σ:List (Option V))(H:Hp)(s:Shared):Prop where
 ok:X.Ok
 os:s.os=X.s₀.os
 bare:AllBare s.gens
 base:Un X.fs X.ex X.H₀ H X.s₀.heap s.heap
 loc:∃m,s.heap.Ns X.env.locals m/\∀(i:Nat) (x:Str) (v:V),X.N[i]?=some x->σ[i]?=some (some v)->QN X.env.scope x->∃u,RelV v u/\Gb X.env s.heap m x u
 cell:∀x c,X.env.cells.lookup x=some c->∃v,s.heap.IsCell c v
 free:H X.env.locals=none
 freeC:∀x c,X.env.cells.lookup x=some c->H c=none
 pin:∀p∈X.pn++pr,s.heap.get? p.1=some p.2/\H p.1=none/\p.1≠X.env.locals/\p.1∉X.fs/\∀v,p.2.data≠.cell v
 hok:HOk X.prog X.w H s.heap
 len:σ.length=X.N.length
section
variable{X:Cx}{pr:List (Addr×Obj)}{σ:List (Option V)}{H H':Hp}{s:Shared}{h':Heap}
theorem Cx.Ok.nofr(ok:X.Ok){b:Addr}{o:Obj}(e:X.base.get? b=some o):b∉X.fs:=fun hb=>by
 have:=(ok.funs.mem hb).1;rw[e]at this;cases this
theorem Inv.bs(I:Inv X pr σ H s):∀b o,X.base.get? b=some o->s.heap.get? b=some o/\H b=none:=fun b o e=>
 ⟨I.base.keep b o (I.ok.bs b o e).1 (I.ok.bs b o e).2 (I.ok.nofr e) (I.ok.noex b o e),I.base.free b o (I.ok.bs b o e).1 (I.ok.bs b o e).2 (I.ok.noex b o e)⟩
theorem Inv.bk(I:Inv X pr σ H s):∀b o,X.base.get? b=some o->s.heap.get? b=some o:=fun b o e=>(I.bs b o e).1
theorem Inv.mod(I:Inv X pr σ H s):Mod X.K X.mg X.base:=I.ok.mod
theorem Inv.kIn(I:Inv X pr σ H s):X.K.In s.heap:=I.ok.mod.kin.keeps I.bk
theorem Inv.lt(I:Inv X pr σ H s):X.env.locals<s.heap.objs.size:=let⟨_,hn,_⟩:=I.loc;hn.lt
theorem Inv.sz(I:Inv X pr σ H s):X.s₀.heap.objs.size<=s.heap.objs.size:=Td I.ok.above (WA I.lt)
theorem Inv.nofs(I:Inv X pr σ H s){a:Addr}(h:s.heap.objs.size<=a):a∉X.fs:=fun hb=>by
 obtain⟨_,o,ho,_⟩:=I.ok.funs.mem hb;exact absurd (S1 (SW ho) (Td I.sz h)) (UR _)
theorem Inv.cne(I:Inv X pr σ H s):∀x c,X.env.cells.lookup x=some c->c≠X.env.locals:=fun x c e z=>by
 obtain⟨v,o,ho,hd⟩:=I.cell x c e;obtain⟨m,⟨o',es,ep,Mn,Nu,_⟩,_⟩:=I.loc;rw[z,Mn]at ho;cases ho;rw[Nu]at hd;cases hd
theorem Inv.funs(I:Inv X pr σ H s):s.heap.FunFrames X.base X.outer:=by
 have all:∀(l:List Env),(∀b∈Lw l,b∈X.fs)->X.s₀.heap.FunFrames X.base l->s.heap.FunFrames X.base l:=by
  intro l;induction l with
  |nil=>intro _ _;trivial
  |cons env r ih=>
   intro hs hl;obtain⟨hk,⟨L,o,hf,hn,ho,hd⟩,hr⟩:=hl;have hL:L∈X.fs:=hs L (by unfold Lw;rw[VM,hf];exact SI);obtain⟨sl,e⟩:=I.base.slot L o ho (I.ok.frf L hL) hL fun z=>I.ok.exfs L z hL
   exact⟨hk,⟨L,_,hf,hn,e,hd⟩,ih (fun b hb=>hs b (by unfold Lw;rw[VM,hf];exact SM _ hb)) hr⟩
 exact all X.outer (fun _ hb=>hb) I.ok.funs
theorem Inv.stack(I:Inv X pr σ H s):s.heap.FunFrames X.base X.stack:=by
 rcases I.ok.stk with e|⟨e,hf⟩
 ·rw[e];exact I.funs
 ·rw[e];obtain⟨m,hn,_⟩:=I.loc;refine .cons (by rw[I.ok.kind];decide) hf hn ?_ I.funs;exact Heap.get?_none_of_le (Td I.ok.bsz I.ok.above)
theorem Inv.stkSub(I:Inv X pr σ H s):∀b∈Lw X.stack,b∈X.env.locals::X.fs:=fun b hb=>by
 rcases I.ok.stk with e|⟨e,hf⟩
 ·rw[e]at hb;exact SM _ hb
 ·rw[e]at hb;unfold Lw at hb;rw[VM,hf]at hb;exact hb
theorem Inv.stkFree(I:Inv X pr σ H s):∀b∈Lw X.stack,H b=none:=fun b hb=>by
 rcases SV.mp (I.stkSub b hb) with e|hb
 ·rw[e];exact I.free
 ·obtain⟨_,o,ho,_⟩:=I.ok.funs.mem hb;exact I.base.free b o ho (I.ok.frf b hb) fun z=>I.ok.exfs b z hb
theorem Inv.step{g':Array GenState}{t':Nat}{d':Drawn}{ch:List Addr}(I:Inv X pr σ H s)
  (Md:∀b∈ch,(b∈X.ex\/X.s₀.heap.objs.size<=b)/\b≠X.env.locals/\(∀x c,X.env.cells.lookup x=some c->c≠b)/\∀p∈X.pn++pr,p.1≠b)
  (keep:∀b o,b≠X.env.locals->b∉X.fs->b∉ch->s.heap.get? b=some o->H b=none->h'.get? b=some o)
  (slot:∀b o,b≠X.env.locals->b∈X.fs->b∉ch->s.heap.get? b=some o->H b=none->∃sl,h'.get? b=some {o with slots:=sl}) (free:∀b o,b∉ch->s.heap.get? b=some o->H b=none->H' b=none)
  (there:∀b o,b∉ch->s.heap.get? b=some o->∃o',h'.get? b=some o')
  (tups:∀b xs,H b=some (.tup xs)->H' b=some (.tup xs)) (frzs:∀b o u,H b=some (.frz o u)->H' b=some (.frz o u)) (tbls:∀b ps,H b=some (.tbl ps)->∃more,H' b=some (.tbl (ps++more)))
  (ns:∀m,s.heap.Ns X.env.locals m->h'.Ns X.env.locals m) (hok:HOk X.prog X.w H' h') (hg:AllBare g'):
  Inv X pr σ H' {s with heap:=h',gens:=g',drawn:=d',toks:=t'}:=by
 have RS:∀b o,X.s₀.heap.get? b=some o->b≠X.env.locals:=fun b o e=>S8 (S1 (SW e) I.ok.above)
 have Qj:∀b o,X.s₀.heap.get? b=some o->b∉X.ex->b∉ch:=fun b o e hx hb=>by
  rcases(Md b hb).1 with z|z
  ·exact hx z
  ·exact absurd (S1 (SW e) z) (UR _)
 have cellK:∀x c,X.env.cells.lookup x=some c->∀v,s.heap.IsCell c v->h'.IsCell c v:=fun x c e v Hs=>by
  obtain⟨o,ho,hd⟩:=Hs;have OX:c∉ch:=fun z=>(Md c z).2.2.1 x c e rfl
  by_cases hc:c∈X.fs
  ·obtain⟨sl,q⟩:=slot c o (I.cne x c e) hc OX ho (I.freeC x c e);exact⟨_,q,hd⟩
  ·exact⟨o,keep c o (I.cne x c e) hc OX ho (I.freeC x c e),hd⟩
 refine⟨I.ok,I.os,hg,⟨fun b o e n hb hx=>?_,fun b o e n hb hx=>?_,fun b o e n hx=>?_,fun b o e hx=>?_,fun b xs e=>tups b xs (I.base.tups b xs e),fun b o xs e=>frzs b o xs (I.base.frzs b o xs e),fun b ps e=>?_⟩,?_,fun x c e=>?_,?_,fun x c e=>?_,fun p hp=>?_,hok,I.len⟩
 ·exact keep b o (RS b o e) hb (Qj b o e hx) (I.base.keep b o e n hb hx) (I.base.free b o e n hx)
 ·obtain⟨sl,e1⟩:=I.base.slot b o e n hb hx;obtain⟨sl',e2⟩:=slot b _ (RS b o e) hb (Qj b o e hx) e1 (I.base.free b o e n hx);exact⟨sl',e2⟩
 ·obtain⟨o',e1⟩:=I.base.there b o e hx;exact free b o' (Qj b o e hx) e1 (I.base.free b o e n hx)
 ·obtain⟨o',e1⟩:=I.base.there b o e hx;exact there b o' (Qj b o e hx) e1
 ·obtain⟨m1,e1⟩:=I.base.tbls b ps e;obtain⟨m2,e2⟩:=tbls b _ e1;exact⟨m1++m2,by rw[e2,Array.append_assoc]⟩
 ·obtain⟨m,hn,hl⟩:=I.loc;refine⟨m,ns m hn,fun i x v e1 e2 e3=>?_⟩;obtain⟨u,r,l⟩:=hl i x v e1 e2 e3;refine⟨u,r,?_⟩;rcases l with l|⟨k,c,e,z⟩
  ·exact .inl l
  ·exact .inr ⟨k,c,e,cellK x c e _ z⟩
 ·obtain⟨v,z⟩:=I.cell x c e;exact⟨v,cellK x c e v z⟩
 ·obtain⟨m,⟨o,_,_,ho,_⟩,_⟩:=I.loc;exact free _ o (fun z=>(Md _ z).2.1 rfl) ho I.free
 ·obtain⟨v,o,ho,hd⟩:=I.cell x c e;exact free c o (fun z=>(Md c z).2.2.1 x c e rfl) ho (I.freeC x c e)
 ·obtain⟨e,n,ne,nf,d⟩:=I.pin p hp;have OX:p.1∉ch:=fun z=>(Md p.1 z).2.2.2 p hp rfl
  exact⟨keep p.1 p.2 ne nf OX e n,free p.1 p.2 OX e n,ne,nf,d⟩
theorem Inv.un{t':Nat}(I:Inv X pr σ H s)(u:Un X.fs [] H H' s.heap h')(hok:HOk X.prog X.w H' h'):Inv X pr σ H' {s with heap:=h',toks:=t'}:=by
 obtain⟨m,⟨o,es,ep,ho,r⟩,_⟩:=id I.loc;obtain⟨sl,hL⟩:=u.any ho I.free (by simp);exact I.step (g':=s.gens) (d':=s.drawn) (ch:=[]) (fun _ z=>nomatch z) (fun b o _ hb _ e n=>u.keep b o e n hb (by simp)) (fun b o _ hb _ e n=>u.slot b o e n hb (by simp)) (fun b o _ e n=>u.free b o e n (by simp)) (fun b o _ e=>u.there b o e (by simp)) u.tups u.frzs u.tbls (fun m' hm=>by
  obtain⟨o',JG,Nv,Mn,r'⟩:=hm;rw[ho]at Mn;cases Mn;exact⟨_,JG,Nv,hL,r'⟩) hok I.bare
theorem Inv.call{g':Array GenState}{t':Nat}{d':Drawn}{ch:List Addr}(I:Inv X pr σ H s)(u:Un (Lw X.stack) ch H H' s.heap h')(hok:HOk X.prog X.w H' h')(hg:AllBare g')
  (Md:∀b∈ch,(b∈X.ex\/X.s₀.heap.objs.size<=b)/\b≠X.env.locals/\(∀x c,X.env.cells.lookup x=some c->c≠b)/\∀p∈X.pn++pr,p.1≠b):
  Inv X pr σ H' {s with heap:=h',gens:=g',drawn:=d',toks:=t'}:=by
 obtain⟨m,⟨o,es,ep,ho,r⟩,_⟩:=id I.loc;obtain⟨sl,hL⟩:=u.any ho I.free fun z=>(Md _ z).2.1 rfl
 exact I.step (ch:=ch) Md (fun b o hL hb hc e n=>u.keep b o e n (fun z=>(SV.mp (I.stkSub b z)).elim hL hb) hc) (fun b o _ _ hc e n=>u.any e n hc) (fun b o hc e n=>u.free b o e n hc) (fun b o hc e=>u.there b o e hc) u.tups u.frzs u.tbls (fun m' hm=>by
  obtain⟨o',JG,Nv,Mn,r'⟩:=hm;rw[ho]at Mn;cases Mn;exact⟨_,JG,Nv,hL,r'⟩) hok hg
theorem Inv.turned{t':Nat}{it:Addr}(I:Inv X pr σ H s)(k:∀b o,b≠it->s.heap.get? b=some o->h'.get? b=some o)(hn:H it=none)(hL:it≠X.env.locals)
  (h1:it∈X.ex\/X.s₀.heap.objs.size<=it) (h2:∀x c,X.env.cells.lookup x=some c->c≠it) (h3:∀p∈X.pn++pr,p.1≠it):Inv X pr σ H {s with heap:=h',toks:=t'}:=by
 have RT:∀b u,H b=some u->b≠it:=fun b u e z=>by rw[z,hn]at e;cases e
 refine I.step (g':=s.gens) (d':=s.drawn) (ch:=[it]) (fun b hb=>?_) (fun b o _ _ hc e _=>k b o (fun z=>hc (by simp[z])) e) (fun b o _ _ hc e _=>⟨o.slots,k b o (fun z=>hc (by simp[z])) e⟩) (fun _ _ _ _ n=>n)
  (fun b o hc e=>⟨o,k b o (fun z=>hc (by simp[z])) e⟩) (fun _ _ e=>e) (fun _ _ _ e=>e) (fun b ps e=>⟨#[],by rw[e];simp⟩) (fun m hm=>?_) (fun b u e=>?_) I.bare
 ·have e:b=it:=by simpa using hb
  subst e;exact⟨h1,hL,h2,h3⟩
 ·obtain⟨o,es,ep,ho,r⟩:=hm;exact⟨o,es,ep,k _ o (Ub hL) ho,r⟩
 ·refine(I.hok b u e).stay (fun c v hc q=>k c v ?_ q) (fun _ q=>q) fun _ _ q=>q
  rcases hc with z|z
  ·rw[z];exact RT b u e
  ·exact RT c _ z
theorem Inv.tok(I:Inv X pr σ H s)(t:Nat):Inv X pr σ H {s with toks:=t}:=I.un (h':=s.heap) (t':=t) Un.refl I.hok
theorem Inv.kept{t':Nat}(I:Inv X pr σ H s)(k:∀b u,s.heap.get? b=some u->h'.get? b=some u):Inv X pr σ H {s with heap:=h',toks:=t'}:=I.un (Un.kept k) (I.hok.kept k)
theorem Inv.laid{a:Addr}{o:HO}{t':Nat}(I:Inv X pr σ H s)(k:∀b u,s.heap.get? b=some u->h'.get? b=some u)(hp:s.heap.objs.size<=a)(new:ObjOk X.prog X.w (upd H a o) h' a o):
  Inv X pr σ (upd H a o) {s with heap:=h',toks:=t'}:=I.un (Un.laid k hp (I.hok.fresh hp)) (I.hok.laid k hp new)
theorem Inv.write{x e:Addr}{o:HO}{t':Nat}(I:Inv X pr σ H s)(mu:OW (H x))(he:e=x\/H e=some (.own x))(k:∀b u,b≠e->s.heap.get? b=some u->h'.get? b=some u)(OG:∃u,h'.get? e=some u)
  (new:ObjOk X.prog X.w (upd H x o) h' x o):Inv X pr σ (upd H x o) {s with heap:=h',toks:=t'}:=I.un (Un.write mu he k OG) (I.hok.write mu he k OG new)
theorem Inv.pins_of{M8:List (Addr×Obj)}(I:Inv X pr σ H s)(h:∀p∈M8,s.heap.get? p.1=some p.2/\H p.1=none/\p.1≠X.env.locals/\p.1∉X.fs/\∀v,p.2.data≠.cell v):Inv X M8 σ H s:=
 ⟨I.ok,I.os,I.bare,I.base,I.loc,I.cell,I.free,I.freeC,fun p hp=>(Tj.mp hp).elim (fun z=>I.pin p (SR _ z)) (h p),I.hok,I.len⟩
theorem qy{N:List Str}(hN:N.Nodup){i j:Nat}{x:Str}(a:N[i]?=some x)(b:N[j]?=some x):i=j:=by
 obtain⟨h1,e1⟩:=List.getElem?_eq_some_iff.mp a;obtain⟨h2,e2⟩:=List.getElem?_eq_some_iff.mp b;exact(List.getElem_inj hN).mp (e1.trans e2.symm)
theorem nU{M:Model}{A:Around}{E:Value->Shared->Prop}{i:Nat}{x:Str}{v:V}{u:Value}{Q:Unit->Shared->Prop}(I:Inv X pr σ H s)(hN:X.N.Nodup)(hi:X.N[i]?=some x)(hx:Loc X.env.scope x)(r:RelV v u)
  (h:∀s',Inv X pr (σ.set i (some v)) H s'->(∃a,Heap.SameBut a s.heap s'.heap/\(a=X.env.locals\/X.env.cells.lookup x=some a))->Q () s') (hf:X.fn x=true\/X.env.scope.names.lookup x=some .local:=by first|exact .inl rfl|exact .inr rfl|assumption):wpAny M A (storeName X.env x u) Q E s:=by
 obtain⟨m,hn,hl⟩:=id I.loc;have hcls:(X.env.scope.kind==.class||(X.env.scope.kind==.module&&X.env.locals != X.env.globals))=false:=by rw[I.ok.kind];rfl
 have hiσ:i<σ.length:=by rw[I.len];exact(List.getElem?_eq_some_iff.mp hi).1
 have cne:=I.cne;have tracked:∀{a:Addr}{h':Heap},(∃o,s.heap.get? a=some o/\H a=none)->Heap.SameBut a s.heap h'->HOk X.prog X.w H h':=fun{a h'} ha hs b ob e=>by
  obtain⟨_,_,M9⟩:=ha;refine(I.hok b ob e).stay (fun c w' hc q=>(hs.2 c ?_).trans q) (fun _ q=>q) fun _ _ q=>q
  rintro rfl;rcases hc with rfl|hc
  ·rw[M9]at e;cases e
  ·rw[M9]at hc;cases hc
 rcases hx with hk|hk
 ·refine wpAny_storeName_local hk hn (fun h' hn' hs=>?_) hcls;obtain⟨oL,_,_,hoL,_⟩:=id hn;refine h _ ⟨I.ok,I.os,I.bare,⟨fun b o e n hb hx=>?_,fun b o e n hb hx=>?_,I.base.free,fun b o e hx=>?_,I.base.tups,I.base.frzs,I.base.tbls⟩,⟨_,hn',fun j y v' e1 e2 e3=>?_⟩,fun y c e=>?_,I.free,I.freeC,fun p hp=>?_,tracked ⟨oL,hoL,I.free⟩ hs,by simpa using I.len⟩ ⟨_,hs,.inl rfl⟩
  ·exact(hs.2 b (S8 (S1 (SW e) I.ok.above))).trans (I.base.keep b o e n hb hx)
  ·obtain⟨sl,e1⟩:=I.base.slot b o e n hb hx;exact⟨sl,(hs.2 b (S8 (S1 (SW e) I.ok.above))).trans e1⟩
  ·obtain⟨o',e1⟩:=I.base.there b o e hx;exact⟨o',(hs.2 b (S8 (S1 (SW e) I.ok.above))).trans e1⟩
  ·by_cases hj:j=i
   ·subst hj;rw[hi]at e1;cases e1;rw[List.getElem?_set_self hiσ]at e2;cases e2;exact⟨u,r,.inl ⟨hk,by simp⟩⟩
   ·rw[List.getElem?_set_ne (Ub hj)]at e2;obtain⟨u',r',q⟩:=hl j y v' e1 e2 e3;refine⟨u',r',?_⟩;rcases q with⟨k,e⟩|⟨k,c,e,z⟩
    ·refine .inl ⟨k,?_⟩;have:y≠x:=fun e=>hj (qy hN e1 (e▸hi))
     simp[this,e]
    ·exact .inr ⟨k,c,e,z.sameBut hs (cne y c e)⟩
  ·obtain⟨w',z⟩:=I.cell y c e;exact⟨w',z.sameBut hs (cne y c e)⟩
  ·obtain⟨e,n,ne,nf,d⟩:=I.pin p hp;exact⟨(hs.2 p.1 ne).trans e,n,ne,nf,d⟩
 ·have Le:X.fn x=true:=by
   rcases hf with z|z
   ·exact z
   ·rw[z]at hk;cases hk
  obtain⟨c,hc⟩:=I.ok.has x (.inl hk);obtain⟨w',z⟩:=I.cell x c hc;refine wpAny_storeName_cell I.ok.kind hk hc z (fun h' OH hs=>?_);obtain⟨oc,RU,hocd⟩:=id z;refine h {s with heap:=h'} ⟨I.ok,I.os,I.bare,⟨fun b o e n hb hx=>?_,fun b o e n hb hx=>?_,I.base.free,fun b o e hx=>?_,I.base.tups,I.base.frzs,I.base.tbls⟩,⟨m,hn.sameBut hs (Ub (cne x c hc)),fun j y v' e1 e2 e3=>?_⟩,fun y c' e=>?_,I.free,I.freeC,fun p hp=>?_,tracked ⟨oc,RU,I.freeC x c hc⟩ hs,by simpa using I.len⟩ ⟨c,hs,.inr hc⟩
  ·exact(hs.2 b (S8 (S1 (SW e) (I.ok.cab x c Le hc)))).trans (I.base.keep b o e n hb hx)
  ·obtain⟨sl,e1⟩:=I.base.slot b o e n hb hx;exact⟨sl,(hs.2 b (S8 (S1 (SW e) (I.ok.cab x c Le hc)))).trans e1⟩
  ·obtain⟨o',e1⟩:=I.base.there b o e hx;exact⟨o',(hs.2 b (S8 (S1 (SW e) (I.ok.cab x c Le hc)))).trans e1⟩
  ·by_cases hj:j=i
   ·subst hj;rw[hi]at e1;cases e1;rw[List.getElem?_set_self hiσ]at e2;cases e2;exact⟨u,r,.inr ⟨.inl hk,c,hc,OH⟩⟩
   ·rw[List.getElem?_set_ne (Ub hj)]at e2;obtain⟨u',r',q⟩:=hl j y v' e1 e2 e3;refine⟨u',r',?_⟩;rcases q with q|⟨k,c',e,z'⟩
    ·exact .inl q
    ·refine .inr ⟨k,c',e,z'.sameBut hs ?_⟩;rintro rfl;exact hj (qy hN e1 (I.ok.inj _ _ _ e hc▸hi))
  ·by_cases OY:c'=c
   ·subst OY;exact⟨_,OH⟩
   ·obtain⟨w2,z2⟩:=I.cell y c' e;exact⟨w2,z2.sameBut hs OY⟩
  ·obtain⟨e,n,ne,nf,d⟩:=I.pin p hp;refine⟨(hs.2 p.1 ?_).trans e,n,ne,nf,d⟩;intro q;rw[q,RU]at e;have q':oc=p.2:=Tc e;exact d w' (by rw[<-q'];exact hocd)
theorem qz{M:Model}{A:Around}{E:Value->Shared->Prop}{i:Nat}{x:Str}{v:V}{u:Value}{Q:Unit->Shared->Prop}(I:Inv X pr σ H s)(hN:X.N.Nodup)(hi:X.N[i]?=some x)(hx:Loc X.env.scope x)(r:RelV v u)
  (h:∀s',Inv X pr (σ.set i (some v)) H s'->Q () s') (hf:X.fn x=true\/X.env.scope.names.lookup x=some .local:=by first|exact .inl rfl|exact .inr rfl|assumption):wpAny M A (storeName X.env x u) Q E s:=
 nU I hN hi hx r (fun s' I' _=>h s' I') hf
theorem Inv.call'{s':Shared}{ch:List Addr}(I:Inv X pr σ H s)(ho:s'.os=s.os)(u:Un (Lw X.stack) ch H H' s.heap s'.heap)(hok:HOk X.prog X.w H' s'.heap)(hg:AllBare s'.gens)
  (Md:∀b∈ch,(b∈X.ex\/X.s₀.heap.objs.size<=b)/\b≠X.env.locals/\(∀x c,X.env.cells.lookup x=some c->c≠b)/\∀p∈X.pn++pr,p.1≠b):Inv X pr σ H' s':=by
 obtain⟨h',g',d',t',o'⟩:=s';have e:o'=s.os:=ho;subst e;exact I.call (g':=g') (t':=t') (d':=d') u hok hg Md
end
abbrev XK:=Value->Option Addr->Hp->Prop
abbrev St:=List (Option V)
abbrev VK:=V->Hp->Prop
abbrev TE:=St->Hp->VK->Prop
abbrev TT:=St->Hp->(Bool->Hp->Prop)->Prop
abbrev TA:=St->Hp->(List V->Hp->Prop)->Prop
structure Ends where
 nx:St->Hp->Prop
 rt:VK
 bk:St->Hp->Prop:=fun _ _=>False
 ct:St->Hp->Prop:=fun _ _=>False
abbrev TS:=Ends->St->Hp->Prop
def EP(X:Cx)(pr:List (Addr×Obj))(σ:St)(Q:VK)(u:Value)(s':Shared):Prop:=∃v H',Inv X pr σ H' s'/\RelV v u/\Q v H'
def TP(X:Cx)(pr:List (Addr×Obj))(σ:St)(Q:Bool->Hp->Prop)(b:Bool)(s':Shared):Prop:=∃H',Inv X pr σ H' s'/\Q b H'
def AP(X:Cx)(pr:List (Addr×Obj))(σ:St)(Q:List V->Hp->Prop)(us:List Value)(s':Shared):Prop:=∃vs H',Inv X pr σ H' s'/\Vals vs us/\Q vs H'
def SP(X:Cx)(pr:List (Addr×Obj))(D:Ends)(f:Flow)(s':Shared):Prop:=
 match f with
 | .next=>∃σ' H',Inv X pr σ' H' s'/\D.nx σ' H'
 | .brk=>∃σ' H',Inv X pr σ' H' s'/\D.bk σ' H'
 | .cont=>∃σ' H',Inv X pr σ' H' s'/\D.ct σ' H'
 | .ret u=>∃v σ' H',Inv X pr σ' H' s'/\RelV v u/\D.rt v H'
def PE(X:Cx)(e:Expr)(t:TE):Prop:=
 ∀(pr:List (Addr×Obj)) (s:Shared) (σ:St) (H:Hp) (Q:VK),Inv X pr σ H s->t σ H Q->wpAny (model X.prog X.w) X.A (eval e X.env) (EP X pr σ Q) X.xe s
def PT(X:Cx)(e:Expr)(t:TT):Prop:=
 ∀(pr:List (Addr×Obj)) (s:Shared) (σ:St) (H:Hp) (Q:Bool->Hp->Prop),Inv X pr σ H s->t σ H Q->wpAny (model X.prog X.w) X.A (isTrue e X.env (eval e X.env)) (TP X pr σ Q) X.xe s
def PW(X:Cx)(e:Expr)(t:TT):Prop:=
 ∀(whole:Sem Value) (pr:List (Addr×Obj)) (s:Shared) (σ:St) (H:Hp) (Q:Bool->Hp->Prop),Inv X pr σ H s->t σ H Q->wpAny (model X.prog X.w) X.A (isTrue e X.env whole) (TP X pr σ Q) X.xe s
theorem PW.pt{X:Cx}{e:Expr}{t:TT}(h:PW X e t):PT X e t:=h _
def PA(X:Cx)(es:List Expr)(t:TA):Prop:=
 ∀(pos:Pos) (pr:List (Addr×Obj)) (s:Shared) (σ:St) (H:Hp) (Q:List V->Hp->Prop),Inv X pr σ H s->t σ H Q->wpAny (model X.prog X.w) X.A (spliced (backTo pos (starEach es X.env))) (AP X pr σ Q) X.xe s
def PS(X:Cx)(st:Stmt)(t:TS):Prop:=
 ∀(pr:List (Addr×Obj)) (s:Shared) (σ:St) (H:Hp) (D:Ends),Inv X pr σ H s->t D σ H->wpAny (model X.prog X.w) X.A (exec st X.env) (SP X pr D) X.xe s
def PSs(X:Cx)(st:List Stmt)(t:TS):Prop:=
 ∀(pr:List (Addr×Obj)) (s:Shared) (σ:St) (H:Hp) (D:Ends),Inv X pr σ H s->t D σ H->wpAny (model X.prog X.w) X.A (execs st X.env) (SP X pr D) X.xe s
theorem HA{α:Type}{t:Sem α}{Q Q':α->Shared->Prop}{M:Model}{A:Around}{E:Value->Shared->Prop}{s:Shared}(h:wpAny M A t Q E s)(hQ:∀a s,Q a s->Q' a s):wpAny M A t Q' E s:=Vg h hQ fun _ _ x=>x
section
variable{X:Cx}
theorem bin{a b:Expr}{ta tb:TE}(ha:PE X a ta)(hb:PE X b tb){pr:List (Addr×Obj)}{s:Shared}{σ:St}{H:Hp}{R:V->V->Hp->Prop}(I:Inv X pr σ H s)(h:ta σ H fun x H1=>tb σ H1 fun y H2=>R x y H2)
  {α:Type}{Q:α->Shared->Prop}{f:Value->Value->Sem α}
  (hf:∀v u s2 x y H2,Inv X pr σ H2 s2->RelV x v->RelV y u->R x y H2->wpAny (model X.prog X.w) X.A (f v u) Q X.xe s2):
  wpAny (model X.prog X.w) X.A (eval a X.env) (fun v s₁=>wpAny (model X.prog X.w) X.A (eval b X.env) (fun u s₂=>wpAny (model X.prog X.w) X.A (f v u) Q X.xe s₂) X.xe s₁) X.xe s:=by
 refine HA (ha pr s σ H _ I h) fun v s1 HD=>?_
 obtain⟨x,H1,I1,r1,q1⟩:=HD;refine HA (hb pr s1 σ H1 _ I1 q1) fun u s2 HD=>?_
 obtain⟨y,H2,I2,r2,q2⟩:=HD;exact hf v u s2 x y H2 I2 r1 r2 q2
def tL(i:Nat):TE:=fun σ H Q=>∃v,σ[i]?=some (some v)/\Q v H
def tC(v:V):TE:=fun _ H Q=>Q v H
theorem BE{i:Nat}{x:Str}{pos:Pos}(hN:X.N[i]?=some x)(hv:QN X.env.scope x)(hd:(x==("__debug__" : Str))=false:=by decide)(LC:(x==("__classdict__" : Str))=false:=by decide):PE X (.Name x pos) (tL i):=by
 intro pr s σ H Q I h;obtain⟨v,e,h⟩:=h;obtain⟨m,hn,hl⟩:=I.loc;obtain⟨u,r,l⟩:=hl i x v hN e hv;have fin:EP X pr σ Q u s:=⟨v,H,I,r,h⟩
 rcases l with⟨hk,hm⟩|⟨hk,c,hc,Ic⟩
 ·exact wpAny_Name (wpAny_loadName_local I.ok.kind hk hn hm fin) hd
 ·rcases hk with hk|hk
  ·exact wpAny_Name (wpAny_loadName_cell I.ok.kind hk hc Ic fin) hd
  ·exact wpAny_Name (wpAny_loadName_free I.ok.kind hk hc Ic fin LC) hd
theorem BF{i j pos}:PE X (.Constant (.int i) j pos) (tC (.int i)):=fun _ _ _ H _ I h=>wpAny_Constant_int ⟨.int i,H,I.tok _,⟨_,rfl⟩,h⟩
theorem En{b j pos}:PE X (.Constant (.bool b) j pos) (tC (.bl b)):=fun _ _ _ H _ I h=>Constant_bool ⟨.bl b,H,I,rfl,h⟩
theorem BG{j pos}:PE X (.Constant .none j pos) (tC .non):=fun _ _ _ H _ I h=>Constant_none ⟨.non,H,I,rfl,h⟩
theorem BH{x j pos}:PE X (.Constant (.str x) j pos) (tC (.str x)):=fun _ _ _ H _ I h=>Calls.Constant_str ⟨.str x,H,I.tok _,⟨_,rfl⟩,h⟩
def Gl(X:Cx)(x:Str):Prop:=X.env.kindOf x=some .globalImplicit
theorem yZ{E:Value->Shared->Prop}{pr:List (Addr×Obj)}{s:Shared}{σ:St}{H:Hp}{x:Str}{u:Value}{pos:Pos}{Q:Value->Shared->Prop}(I:Inv X pr σ H s)(hg:Gl X x)(hm:X.mg x=some u)(h:Q u s)
  (hd:(x==("__debug__" : Str))=false:=by decide):wpAny (model X.prog X.w) X.A (eval (.Name x pos) X.env) Q E s:=
 VY I.ok.kind hg (Calls.loadGlobal_global (by rw[I.ok.glob];exact I.mod.glob.keeps I.bk) hm h) hd
theorem kA{E:Value->Shared->Prop}{pr:List (Addr×Obj)}{s:Shared}{σ:St}{H:Hp}{x:Str}{u:Value}{pos:Pos}{Q:Value->Shared->Prop}(I:Inv X pr σ H s)(hg:Gl X x)(hm:X.mg x=none)(hv:bootBuiltins x=some u)(h:Q u s)
  (hn:x≠"__name__":=by decide) (hd:(x==("__debug__" : Str))=false:=by decide):wpAny (model X.prog X.w) X.A (eval (.Name x pos) X.env) Q E s:=by
 obtain⟨mb,h1,h2⟩:=I.mod.blt;exact VY I.ok.kind hg (Calls.loadGlobal_builtin (by rw[I.ok.glob];exact I.mod.glob.keeps I.bk) hm (by rw[I.ok.blt];exact h1.keeps I.bk) ((h2 x hn).trans hv) h) hd
theorem y0{x:Str}{v:V}{u:Value}{pos:Pos}(hg:Gl X x)(hm:X.mg x=none)(hv:bootBuiltins x=some u)(r:RelV v u)(hn:x≠"__name__":=by decide)(hd:(x==("__debug__" : Str))=false:=by decide):PE X (.Name x pos) (tC v):=
 fun _ _ _ H _ I h=>kA I hg hm hv ⟨v,H,I,r,h⟩ hn hd
variable{a b:Expr}{ta tb:TE}{pos:Pos}
def PC(X:Cx)(op:CmpOp)(a b:Expr)(t:TE):Prop:=
 ∀(pr:List (Addr×Obj)) (s:Shared) (σ:St) (H:Hp) (Q:VK),Inv X pr σ H s->t σ H Q->
  wpAny (model X.prog X.w) X.A (eval a X.env) (fun v s₁=>wpAny (model X.prog X.w) X.A (eval b X.env) (fun u s₂=>wpAny (model X.prog X.w) X.A (compareOp op v u) (EP X pr σ Q) X.xe s₂) X.xe s₁) X.xe s
theorem wQ(b:Expr){op:CmpOp}(h:op≠.In)(h2:op≠.NotIn):behindInMarks op b=false:=by
 have e1:(op==CmpOp.In)=false:=by cases op <;> first|rfl|exact absurd rfl h
 have e2:(op==CmpOp.NotIn)=false:=by cases op <;> first|rfl|exact absurd rfl h2
 cases b <;> simp[behindInMarks,e1,e2]
def tB(t:TE):TT:=fun σ H Q=>t σ H fun x H1=>∃c,x=.bl c/\Q c H1
theorem FH{op:CmpOp}{t:TE}(h:PC X op a b t)(h1:behindInMarks op b=false:=by first|exact wQ _ (by decide) (by decide)|rfl):PT X (.Compare a [op] [b] pos) (tB t):=by
 intro pr s σ H Q I hw;refine wpAny_isTrue_Compare1 (HA (h pr s σ H _ I hw) fun v s1 h1=>HA h1 fun u s2 h2=>HA h2 fun c s3 ⟨x,H1,I1,r1,q1⟩=>?_) h1;obtain⟨d,rfl,q⟩:=q1;cases r1;exact U4 ⟨H1,I1,q⟩
theorem BI{e:Expr}{t:TE}(h:PE X e t)(he:∀whole,isTrue e X.env whole=(do let v <-whole;standAt e.pos;holding [v] (truthy v)):=by intro _;rfl):PT X e (tB t):=by
 intro pr s σ H Q I hw;refine isTrue_plain (HA (h pr s σ H _ I hw) fun v s1 ⟨x,H1,I1,r1,q1⟩=>?_) (he _);obtain⟨d,rfl,q⟩:=q1;cases r1;exact U4 ⟨H1,I1,q⟩
variable{tA Qk:TT}{dA:List Expr}
def Gd(t u:TT):TT:=fun σ H Q=>t σ H fun c H1=>if c=true then u σ H1 Q else Q false H1
def tOr(t u:TT):TT:=fun σ H Q=>t σ H fun c H1=>if c=true then Q true H1 else u σ H1 Q
def Ge(t:TT):TT:=fun σ H Q=>t σ H fun c H1=>Q (!c) H1
theorem y1(ha:PT X a tA):PW X (.BoolOp .And [a] pos) tA:=by
 intro wh pr s σ H Q I h;refine isTrue_and (HA (ha pr s σ H Q I h) fun c s1 e=>?_);cases c with
 |true=>exact isTrue_and_nil e
 |false=>exact e
theorem BJ(ha:PT X a tA):PW X (.BoolOp .Or [a] pos) tA:=by
 intro wh pr s σ H Q I h;refine isTrue_or (HA (ha pr s σ H Q I h) fun c s1 e=>?_);cases c with
 |false=>exact isTrue_or_nil e
 |true=>exact e
theorem BK(ha:PT X a tA)(hb:PW X (.BoolOp .And (b::dA) pos) Qk):PW X (.BoolOp .And (a::b::dA) pos) (Gd tA Qk):=by
 intro wh pr s σ H Q I h;refine isTrue_and (HA (ha pr s σ H _ I h) fun c s1 HD=>?_);obtain⟨H1,I1,q1⟩:=HD;cases c with
 |true=>exact hb wh pr s1 σ H1 Q I1 q1
 |false=>exact⟨H1,I1,q1⟩
theorem Eo(ha:PT X a tA)(hb:PW X (.BoolOp .Or (b::dA) pos) Qk):PW X (.BoolOp .Or (a::b::dA) pos) (tOr tA Qk):=by
 intro wh pr s σ H Q I h;refine isTrue_or (HA (ha pr s σ H _ I h) fun c s1 HD=>?_);obtain⟨H1,I1,q1⟩:=HD;cases c with
 |true=>exact⟨H1,I1,q1⟩
 |false=>exact hb wh pr s1 σ H1 Q I1 q1
theorem BL(ha:PT X a tA):PT X (.UnaryOp .Not a pos) (Ge tA):=by
 intro pr s σ H Q I h;exact isTrue_not (ha pr s σ H (fun c H1=>Q (!c) H1) I h)
end
def SqL(K:W.Frag)(H:Hp)(a:Addr)(xs:List V):Prop:=
 Rd H a (.lst xs)\/
  ∃(o:Obj) (Hj:Array Value) (n:Nat),K.lookup a=some o/\o.cls=.type "list"/\o.dict=none/\o.data=.seq Hj n/\Hj.size<=sizeLine/\Vals xs Hj.toList
def SqT(K:W.Frag)(H:Hp)(a:Addr)(xs:List V):Prop:=
 Rd H a (.tup xs)\/
  ∃(o:Obj) (Hj:Array Value) (n:Nat),K.lookup a=some o/\o.cls=.type "tuple"/\o.dict=none/\o.data=.seq Hj n/\Hj.size<=sizeLine/\Vals xs Hj.toList
def Gf:Value->Option V
 | .none=>some .non
 | .bool b=>some (.bl b)
 | .int i _=>some (.int i)
 | .str x _=>some (.str x)
 | .bytes b _=>some (.byt b)
 | .float b _=>some (.flt b)
 | .ref a=>some (.ref a)
 | .type n=>some (.ty n)
 |_=>none
theorem RelV.abs{x:V}{u:Value}(r:RelV x u):Gf u=some x:=by
 cases x with
 |non=>cases r;rfl
 |bl _=>cases r;rfl
 |int _=>obtain⟨t,rfl⟩:=r;rfl
 |str _=>obtain⟨t,rfl⟩:=r;rfl
 |byt _=>obtain⟨t,rfl⟩:=r;rfl
 |flt _=>obtain⟨t,rfl⟩:=r;rfl
 |ref _=>cases r;rfl
 |ty _=>cases r;rfl
theorem RelV.inj{x y:V}{u:Value}(r:RelV x u)(q:RelV y u):x=y:=Tc (r.abs.symm.trans q.abs)
theorem Vals.inj:∀{xs ys:List V}{us:List Value},Vals xs us->Vals ys us->xs=ys
 |_,_,_,.nil,.nil=>rfl
 |_,_,_,.cons r t,.cons r' t'=>by rw[r.inj r',Vals.inj t t']
section
variable{X:Cx}{pr:List (Addr×Obj)}{σ:St}{H:Hp}{s:Shared}{a:Addr}{xs ys:List V}
theorem SqL.of{K:W.Frag}(h:H a=some (.lst xs)):SqL K H a xs:=.inl (.inl h)
theorem SqT.of{K:W.Frag}(h:H a=some (.tup xs)):SqT K H a xs:=.inl (.inl h)
theorem Inv.list(I:Inv X pr σ H s)(h:SqL X.K H a xs):∃Hj:List Value,Vals xs Hj/\PlainL s.heap a Hj.toArray/\xs.length<=sizeLine:=by
 rcases h with h|⟨o,Hj,n,hk,hc,hd,hs,hz,r⟩
 ·obtain⟨z,Hj,n,r,e⟩:=h.ok I.hok;exact⟨Hj,r,⟨_,n,e,rfl,rfl,rfl⟩,z⟩
 ·refine⟨Hj.toList,r,⟨o,n,I.kIn a o hk,hc,hd,by simpa using hs⟩,?_⟩;have e:=r.length;simp only[TZ]at e;lia
theorem Inv.tupleN(I:Inv X pr σ H s)(h:SqT X.K H a xs):∃Hj:List Value,Vals xs Hj/\IsTupN s.heap a Hj.toArray/\xs.length<=sizeLine:=by
 rcases h with h|⟨o,Hj,n,hk,hc,hdn,hs,hz,r⟩
 ·obtain⟨z,Hj,r,p⟩:=h.ok I.hok;exact⟨Hj,r,p,z⟩
 ·refine⟨Hj.toList,r,⟨o,I.kIn a o hk,hc,⟨n,by simpa using hs⟩,hdn⟩,?_⟩;have e:=r.length;simp only[TZ]at e;lia
theorem Inv.tuple(I:Inv X pr σ H s)(h:SqT X.K H a xs):∃Hj:List Value,Vals xs Hj/\IsTup s.heap a Hj.toArray/\xs.length<=sizeLine:=by
 obtain⟨Hj,r,p,z⟩:=I.tupleN h;exact⟨Hj,r,p.tup,z⟩
theorem Inv.list_inj(I:Inv X pr σ H s)(h:SqL X.K H a xs)(h':SqL X.K H a ys):xs=ys:=by
 obtain⟨Hj,r,⟨o,n,e,_,_,d⟩,_⟩:=I.list h;obtain⟨its',r',⟨o',n',e',_,_,d'⟩,_⟩:=I.list h';rw[e]at e';cases e';rw[d]at d';injection d' with d1 _;have:Hj=its':=by simpa using T3 Array.toList d1
 subst this;exact r.inj r'
theorem Inv.tuple_inj(I:Inv X pr σ H s)(h:SqT X.K H a xs)(h':SqT X.K H a ys):xs=ys:=by
 obtain⟨Hj,r,⟨o,e,_,n,d⟩,_⟩:=I.tuple h;obtain⟨its',r',⟨o',e',_,n',d'⟩,_⟩:=I.tuple h';rw[e]at e';cases e';rw[d]at d';injection d' with d1 _;have:Hj=its':=by simpa using T3 Array.toList d1
 subst this;exact r.inj r'
end
abbrev Cx.wish(X:Cx)(E:Value->Shared->Prop):Cx:={X with xe:=E}
abbrev Cx.nox(X:Cx):Cx:=X.wish fun _ _=>False
theorem Cx.Ok.wish{X:Cx}(ok:X.Ok)(E:Value->Shared->Prop):(X.wish E).Ok:=
 ⟨ok.mod,ok.kind,ok.glob,ok.blt,ok.above,ok.inj,ok.has,ok.cab,ok.hd,ok.frames,ok.stk,ok.exf,ok.bs,ok.bsz,ok.noex,ok.exfs,ok.funs,ok.frf⟩
theorem Cx.Ok.unwish{X:Cx}{E:Value->Shared->Prop}(ok:(X.wish E).Ok):X.Ok:=
 ⟨ok.mod,ok.kind,ok.glob,ok.blt,ok.above,ok.inj,ok.has,ok.cab,ok.hd,ok.frames,ok.stk,ok.exf,ok.bs,ok.bsz,ok.noex,ok.exfs,ok.funs,ok.frf⟩
section
variable{X:Cx}{pr:List (Addr×Obj)}{σ:St}{H:Hp}{s:Shared}{E:Value->Shared->Prop}
theorem Inv.wish(I:Inv X pr σ H s)(E:Value->Shared->Prop):Inv (X.wish E) pr σ H s:=⟨I.ok.wish E,I.os,I.bare,I.base,I.loc,I.cell,I.free,I.freeC,I.pin,I.hok,I.len⟩
theorem Inv.unwish(I:Inv (X.wish E) pr σ H s):Inv X pr σ H s:=⟨I.ok.unwish,I.os,I.bare,I.base,I.loc,I.cell,I.free,I.freeC,I.pin,I.hok,I.len⟩
theorem SP.unwish{D:Ends}{f:Flow}{s':Shared}(h:SP (X.wish E) pr D f s'):SP X pr D f s':=by
 cases f with
 |next=>obtain⟨σ',H',I,q⟩:=h;exact⟨σ',H',I.unwish,q⟩
 |brk=>obtain⟨σ',H',I,q⟩:=h;exact⟨σ',H',I.unwish,q⟩
 |cont=>obtain⟨σ',H',I,q⟩:=h;exact⟨σ',H',I.unwish,q⟩
 |ret u=>obtain⟨v,σ',H',I,r,q⟩:=h;exact⟨v,σ',H',I.unwish,r,q⟩
theorem PSs.nox{st:List Stmt}{t:TS}(h:PSs X.nox st t):PSs X st t:=fun pr s σ H D I hw=>
 Vg (h pr s σ H D (I.wish _) hw) (fun _ _ q=>q.unwish) fun _ _ z=>False.elim z
end
section
variable{X:Cx}{st:Stmt}{dA:List Stmt}{t u:TS}{e:Expr}{te:TE}{pos:Pos}
def Ep:TS:=fun D σ H=>D.nx σ H
def Gg(t u:TS):TS:=fun D σ H=>t {D with nx:=u D} σ H
theorem y3:PSs X [] Ep:=fun _ _ σ H _ I h=>VN ⟨σ,H,I,h⟩
theorem wR(h1:PS X st t)(h2:PSs X dA u):PSs X (st::dA) (Gg t u):=by
 intro pr s σ H D I h;refine wpAny_execs_cons (HA (h1 pr s σ H {D with nx:=u D} I h) fun f s1 q=>?_);cases f with
 |next=>
  obtain⟨σ',H',I',q⟩:=q;exact h2 pr s1 σ' H' D I' q
 |ret v=>exact q
 |brk=>exact q
 |cont=>exact q
theorem y4(h1:PS X st t):PSs X [st] t:=by
 intro pr s σ H D I h;refine wpAny_execs_cons (HA (h1 pr s σ H D I h) fun f s1 q=>?_);cases f with
 |next=>exact VN q
 |ret v=>exact q
 |brk=>exact q
 |cont=>exact q
theorem Inv.quiet{pr:List (Addr×Obj)}{σ:St}{H:Hp}{s:Shared}(I:Inv X pr σ H s):interactive X.env=false:=by simp[interactive,I.ok.kind]
def Er(te:TE):TS:=fun D σ H=>te σ H fun _ H1=>D.nx σ H1
theorem y6(he:PE X e te)(hs:swapsWith e none pos.line X.env=pure false:=by rfl):PS X (.Expr e pos) (Er te):=by
 intro pr s σ H D I h;exact wpAny_Expr_any (HA (he pr s σ H _ I h) fun v s1 ⟨x,H1,I1,r1,q1⟩=>⟨σ,H1,I1,q1⟩) I.quiet hs
def Gh(te:TE):TS:=fun D σ H=>te σ H D.rt
theorem yj(he:PE X e te):PS X (.Return (some e) pos) (Gh te):=by
 intro pr s σ H D I h;exact wpAny_Return_some (HA (he pr s σ H _ I h) fun v s1 ⟨x,H1,I1,r1,q1⟩=>⟨x,σ,H1,I1,r1,q1⟩)
def Gi(c:TT)(t u:TS):TS:=fun D σ H=>c σ H fun b H1=>if b=true then t D σ H1 else u D σ H1
theorem Es{c:Expr}{a b:List Stmt}{tc:TT}(hc:PT X c tc)(ha:PSs X a t)(hb:PSs X b u):PS X (.If c a b pos) (Gi tc t u):=by
 intro pr s σ H D I h;refine wpAny_If (HA (hc pr s σ H _ I h) fun d s1 HD=>?_);obtain⟨H1,I1,q1⟩:=HD;cases d with
 |true=>exact ha pr s1 σ H1 D I1 q1
 |false=>exact hb pr s1 σ H1 D I1 q1
def BM:TS:=fun _ _ _=>False
theorem wU:PS X st BM:=fun _ _ _ _ _ _ h=>h.elim
end
abbrev TG:=V->St->Hp->(St->Hp->Prop)->Prop
abbrev Na:=List V->St->Hp->(St->Hp->Prop)->Prop
def PG(X:Cx)(target:Expr)(t:TG):Prop:=
 ∀(pr:List (Addr×Obj)) (s:Shared) (σ:St) (H:Hp) (v:V) (u:Value) (Q:St->Hp->Prop),Inv X pr σ H s->RelV v u->t v σ H Q->
  wpAny (model X.prog X.w) X.A (assign target X.env u) (fun _ s'=>∃σ' H',Inv X pr σ' H' s'/\Q σ' H') X.xe s
def Nw(X:Cx)(ts:List Expr)(t:Na):Prop:=
 ∀(pr:List (Addr×Obj)) (s:Shared) (σ:St) (H:Hp) (vs:List V) (us:List Value) (Q:St->Hp->Prop),Inv X pr σ H s->Vals vs us->t vs σ H Q->
  wpAny (model X.prog X.w) X.A (assignInOrder ((assignEach ts X.env).map (·.2)) us) (fun _ s'=>∃σ' H',Inv X pr σ' H' s'/\Q σ' H') X.xe s
abbrev Gj:=V->V->V->Hp->(Hp->Prop)->Prop
def Gk(X:Cx)(t:Gj):Prop:=
 ∀(pr:List (Addr×Obj)) (s:Shared) (σ:St) (H:Hp) (o i v:V) (ov iv u:Value) (Q:Hp->Prop),Inv X pr σ H s->RelV o ov->RelV i iv->RelV v u->t o i v H Q->
  wpAny (model X.prog X.w) X.A (setItem ov iv u) (fun _ s'=>∃H',Inv X pr σ H' s'/\Q H') X.xe s
section
variable{X:Cx}{pos:Pos}
def BN(i:Nat):TG:=fun v σ H Q=>Q (σ.set i (some v)) H
theorem y7{i:Nat}{x:Str}(hN:X.N.Nodup)(hi:X.N[i]?=some x)(hx:Loc X.env.scope x)(hf:X.fn x=true\/X.env.scope.names.lookup x=some .local:=by first|exact .inl rfl|exact .inr rfl|assumption):PG X (.Name x pos) (BN i):=by
 intro pr s σ H v u Q I r h;exact wpAny_assign_Name (qz I hN hi hx r (fun s' I'=>⟨_,H,I',h⟩) hf)
def Gm:Na:=fun vs σ H Q=>vs=[]/\Q σ H
def Et(t:TG)(u:Na):Na:=fun vs σ H Q=>∃v r,vs=v::r/\t v σ H fun σ' H'=>u r σ' H' Q
theorem y8:Nw X [] Gm:=by
 intro pr s σ H vs us Q I r h;obtain⟨e,h⟩:=h;subst e;cases r;exact assignInOrder_nil ⟨σ,H,I,h⟩
theorem wV{e:Expr}{es:List Expr}{t:TG}{u:Na}(h1:PG X e t)(h2:Nw X es u)
  (hs:(assignEach (e::es) X.env).map (·.2)=assign e X.env::(assignEach es X.env).map (·.2):=by rfl):Nw X (e::es) (Et t u):=by
 intro pr s σ H vs us Q I r h;obtain⟨v,vr,e1,h⟩:=h;subst e1;cases r with
 |cons r rr=>
  rw[hs];refine assignInOrder_cons (HA (h1 pr s σ H _ _ _ I r h) fun _ s1 HD=>?_);obtain⟨σ1,H1,I1,q1⟩:=HD;exact h2 pr s1 σ1 H1 _ _ Q I1 rr q1
def Gn(K:W.Frag)(n:Nat)(t:Na):TG:=fun v σ H Q=>∃a xs,v=.ref a/\SqT K H a xs/\xs.length=n/\t xs σ H Q
theorem BO{es:List Expr}{k:Nat}{t:Na}{n:Nat}(hc:X.calm=true)(h:Nw X es t)
  (hn:(assignEach es X.env).length=n:=by rfl) (KC:(assignEach es X.env).findIdx? (·.1)=none:=by rfl):PG X (.Tuple es k pos) (Gn X.K n t):=by
 intro pr s σ H v u Q I r hw;obtain⟨a,xs,e1,hq,hl,hw⟩:=hw;subst e1;cases r;obtain⟨Hj,rv,ht,hz⟩:=I.tuple hq;refine assign_Tuple_tuple (I.ok.hd hc) ht (by simp[hn,<-hl,rv.length]) KC fun h' hx=>?_
 have I1:Inv X pr σ H {s with heap:=h'}:=I.kept (t':=s.toks) fun b o e=>hx b o (S8 (SW e)) e
 exact h pr _ σ H xs _ Q I1 (by simpa using rv) hw
def FJ(te:TE)(g:TG):TS:=fun D σ H=>te σ H fun x H1=>g x σ H1 D.nx
theorem BP{tg e:Expr}{te:TE}{g:TG}(he:PE X e te)(hg:PG X tg g)(hs:swapsWithSole [tg] e pos.line X.env=pure false:=by rfl)(hw:swappedStores [tg] e X.env=pure none:=by rfl)
  (h1:(assignEach [tg] X.env).map (·.2)=[assign tg X.env]:=by rfl):PS X (.Assign [tg] e pos) (FJ te g):=by
 intro pr s σ H D I h;refine wpAny_Assign_stores (HA (he pr s σ H _ I h) fun v s1 ⟨x,H1,I1,r1,q1⟩=>?_) hs hw;rw[h1];exact HA (hg pr s1 σ H1 x v _ I1 r1 q1) fun _ s2 q=>q
theorem BQ{i:Nat}{x:Str}{e:Expr}{te:TE}{pos':Pos}(hN:X.N.Nodup)(hi:X.N[i]?=some x)(hx:Loc X.env.scope x)(he:PE X e te)(hs:swapsWith e (some (.Name x pos')) pos.line X.env=pure false:=by rfl)(hf:X.fn x=true\/X.env.scope.names.lookup x=some .local:=by first|exact .inl rfl|exact .inr rfl|assumption):
  PS X (.Assign [.Name x pos'] e pos) (FJ te (BN i)):=by
 intro pr s σ H D I h;refine wpAny_Assign_Name (HA (he pr s σ H _ I h) fun v s1 ⟨y,H1,I1,r1,q1⟩=>?_) hs;exact qz I1 hN hi hx r1 (fun s2 I2=>⟨_,H1,I2,q1⟩) hf
end
section
variable{X:Cx}{pos:Pos}
def BR(c:TT)(tb:TS):TS:=fun D σ H=>∃W:Nat->St->Hp->Prop,(∃m,W m σ H)/\∀m σ H,W m σ H->
 c σ H fun b H1=>if b=true then ∃N:St->Hp->Prop,(∀σ' H',N σ' H'->∃m',m'<m/\W m' σ' H')/\tb {D with nx:=N,ct:=N,bk:=D.nx} σ H1 else D.nx σ H1
theorem wW{c:Expr}{body:List Stmt}{tc:TT}{tb:TS}(hp:PassesOwn (model X.prog X.w) X.A X.env X.xe)(hc:PT X c tc)(hb:PSs X body tb):PS X (.While c body [] pos) (BR tc tb):=by
 intro pr s σ H D I h;obtain⟨W,⟨m0,w0⟩,turn⟩:=h;refine wpAny_While (codeAny_whileLoop (fun n s'=>∃σ' H',Inv X pr σ' H' s'/\W n σ' H') ?_ m0 ⟨σ,H,I,w0⟩);rintro n s1 ⟨σ1,H1,I1,w1⟩;refine UJ hp (HA (hc pr s1 σ1 H1 _ I1 (turn n σ1 H1 w1)) fun b s2 HD=>?_);obtain⟨H2,I2,q2⟩:=HD;cases b with
 |true=>
  obtain⟨N,hN,q2⟩:=q2;rw[SU rfl];refine UJ hp (HA (hb pr s2 σ1 H2 _ I2 q2) fun f s3 q3=>?_);cases f with
  |next=>
   obtain⟨σ3,H3,I3,n3⟩:=q3;obtain⟨m',hm,w3⟩:=hN σ3 H3 n3;exact⟨m',hm,σ3,H3,I3,w3⟩
  |cont=>
   obtain⟨σ3,H3,I3,n3⟩:=q3;obtain⟨m',hm,w3⟩:=hN σ3 H3 n3;exact⟨m',hm,σ3,H3,I3,w3⟩
  |brk=>exact q3
  |ret v=>exact q3
 |false=>
  rw[SX SN];exact VN ⟨σ1,H2,I2,q2⟩
end
structure It where
 go:Nat->Hp->Prop
 yld:Nat->Hp->V->Hp->Prop
 stop:Nat->Hp->Prop
def tq(X:Cx)(pr:List (Addr×Obj))(H:Hp)(b:Addr):Prop:=
 H b=none/\b≠X.env.locals/\b∉X.fs/\(b∈X.ex\/X.s₀.heap.objs.size<=b)/\(∀x c,X.env.cells.lookup x=some c->c≠b)/\∀p∈X.pn++pr,p.1≠b
theorem Inv.fpOk{X:Cx}{pr:List (Addr×Obj)}{σ:St}{H H':Hp}{s:Shared}{b:Addr}(I:Inv X pr σ H s)(hb:s.heap.objs.size<=b)(hn:H' b=none):tq X pr H' b:=by
 refine⟨hn,Xw (S1 I.lt hb),I.nofs hb,.inr (Td I.sz hb),fun x c e z=>?_,fun p hp z=>?_⟩
 ·obtain⟨v,q⟩:=I.cell x c e;exact absurd (S1 q.lt (by rw[z];exact hb)) (UR _)
 ·exact absurd (S1 (SW (I.pin p hp).1) (by rw[z];exact hb)) (UR _)
structure Turn(P:Program)(w:World)(K:W.Frag)(tg:Expr)(J:It)(fp:List Addr)(it:Addr)(tn:Nat->Heap->Prop):Prop where
 mem:it∈fp
 obj:∀i h,tn i h->∀b∈fp,∃o,h.get? b=some o/\∀v,o.data≠.cell v
 keep:∀i h h',tn i h->(∀b∈fp,∀o,h.get? b=some o->h'.get? b=some o)->tn i h'
 item:∀(X:Cx),X.prog=P->X.w=w->X.K=K->X.calm=true->∀(i:Nat) (pr:List (Addr×Obj)) (s:Shared) (σ:St) (H:Hp) (E:Value->Shared->Prop),Inv X pr σ H s->(∀b∈fp,tq X pr H b)->tn i s.heap->J.go i H->
  wpAny (model P w) X.A (pyNext (.ref it)) (fun r s1=>∃u,r=some u/\
   wpAny (model P w) X.A (letOwnedTupleGo tg (.ref it) u) (fun _ s2=>∃x H',Inv X pr σ H' s2/\RelV x u/\J.yld i H x H'/\tn (i+1) s2.heap/\∀b∈fp,H' b=none) E s1) E s
 done:∀(X:Cx),X.prog=P->X.w=w->X.K=K->X.calm=true->∀(i:Nat) (pr:List (Addr×Obj)) (s:Shared) (σ:St) (H:Hp) (E:Value->Shared->Prop),Inv X pr σ H s->(∀b∈fp,tq X pr H b)->tn i s.heap->J.stop i H->
  wpAny (model P w) X.A (pyNext (.ref it)) (fun r s1=>r=none/\Inv X pr σ H s1) E s
 self:∀(A:Around) (i:Nat) (s:Shared) (Q:Value->Shared->Prop) (E:Value->Shared->Prop),tn i s.heap->Q (.ref it) s->wpAny (model P w) A (pyIter (.ref it)) Q E s
abbrev TI:=St->Hp->(It->Hp->Prop)->Prop
def RV(X:Cx)(pr:List (Addr×Obj))(σ:St)(tg:Expr)(R:It->Hp->Prop)(Ql:Value)(s2:Shared):Prop:=
 ∃(it:Addr) (fp:List Addr) (tn:Nat->Heap->Prop) (J:It) (H':Hp),Ql=.ref it/\Inv X pr σ H' s2/\Turn X.prog X.w X.K tg J fp it tn/\tn 0 s2.heap/\(∀b∈fp,tq X pr H' b)/\R J H'
def PI(X:Cx)(tg iter:Expr)(wi:TI):Prop:=
 ∀(pr:List (Addr×Obj)) (s:Shared) (σ:St) (H:Hp) (R:It->Hp->Prop),Inv X pr σ H s->wi σ H R->
  wpAny (model X.prog X.w) X.A (eval iter X.env) (fun v s1=>wpAny (model X.prog X.w) X.A (pyIter v) (RV X pr σ tg R) X.xe s1) X.xe s
theorem tM {M : Model} {A : Around} {E : Value -> Shared -> Prop} {s : Shared} {tg : Expr} {it : Addr} {u : Value} {o : Obj} {n : String} {vs : Array Value} {Q : Unit -> Shared -> Prop} (ho : s.heap.get? it = some o) (hc : o.cls = .type n) (hd : o.data = .fields vs)
    (hn : ["enumerate", "zip", "dict_itemiterator", "dict_reverseitemiterator", "odict_iterator", "itertools.zip_longest", "itertools.pairwise"].contains n = false) (hQ : Q () s) : wpAny M A (letOwnedTupleGo tg (.ref it) u) Q E s := by
  unfold letOwnedTupleGo
  cases tg <;> first
    | exact SO hQ
    | (cases u <;> first
        | exact SO hQ
        | (refine SH (wpAny_load ho ?_)
           rw [hc, hd]
           show wpAny M A (if (["enumerate", "zip", "dict_itemiterator", "dict_reverseitemiterator", "odict_iterator", "itertools.zip_longest", "itertools.pairwise"].contains n && vs[0]? == some (rawInt _)) = true then _ else _) Q E s
           rw [SX (by intro h; rw [hn, Vx] at h; cases h)]
           exact SO hQ))
def OI(K:W.Frag)(a:Addr):It:=
 ⟨fun i H=>∃xs x,SqL K H a xs/\xs[i]?=some x,fun i H x H'=>H'=H/\∀xs,SqL K H a xs->xs[i]?=some x,fun i H=>∃xs,SqL K H a xs/\xs.length<=i⟩
def QQ(K:W.Frag)(a:Addr):It:=
 ⟨fun i H=>∃xs x,SqT K H a xs/\xs[i]?=some x,fun i H x H'=>H'=H/\∀xs,SqT K H a xs->xs[i]?=some x,fun i H=>∃xs,SqT K H a xs/\xs.length<=i⟩
def OZ(lo:Int)(n:Nat):It:=⟨fun i _=>i<n,fun i H x H'=>H'=H/\x=.int (lo+i),fun i _=>n<=i⟩
theorem tN{P:Program}{w:World}{K:W.Frag}{tg:Expr}(a it:Addr):Turn P w K tg (OI K a) [it] it (fun i h=>h.IsListIter it a i) where
 mem:=by simp
 obj:=fun i h st b hb=>by
  have e:b=it:=by simpa using hb
  subst e;obtain⟨o,e,c,d⟩:=st;exact⟨o,e,fun v z=>by rw[d]at z;cases z⟩
 keep:=fun i h h' st k=>st.at fun o e=>k it (by simp) o e
 item:=by
  intro X hP hw hK hc i pr s σ H E I hf st hg;subst hP hw hK;obtain⟨xs,x,hq,hx⟩:=hg;obtain⟨Hj,rv,p,hz⟩:=I.list hq;obtain⟨u,hu,ru⟩:=rv.get hx;obtain⟨f0,f1,f2,f3,f4,f5⟩:=hf it (by simp);refine wpAny_pyNext_list_item st p.isList (x:=u) (by simpa using hu) fun h' Jr sb=>?_
  have I1:Inv X pr σ H {s with heap:=h'}:=I.turned (t':=s.toks) (fun b o hb e=>(sb.2 b hb).trans e) f0 f1 f3 f4 f5;obtain⟨o,e,c,d⟩:=id Jr;exact⟨u,rfl,tM (s:={s with heap:=h'}) e c d (by decide) ⟨x,H,I1,ru,⟨rfl,fun ys hy=>by rw[I.list_inj hy hq];exact hx⟩,Jr,fun b hb=>(hf b hb).1⟩⟩
 done:=by
  intro X hP hw hK hc i pr s σ H E I hf st hg;subst hP hw hK;obtain⟨xs,hq,hx⟩:=hg;obtain⟨Hj,rv,p,hz⟩:=I.list hq;obtain⟨f0,f1,f2,f3,f4,f5⟩:=hf it (by simp);have hl:=rv.length;exact wpAny_pyNext_list_end (I.ok.hd hc) st p.isList (by simp;lia) fun h' eb=>⟨rfl,I.turned (t':=s.toks) (fun b o hb e=>eb b o hb e) f0 f1 f3 f4 f5⟩
 self:=fun _ _ _ _ _ st h=>wpAny_pyIter_listiter st h
theorem sk{P:Program}{w:World}{K:W.Frag}{tg:Expr}(a it:Addr):Turn P w K tg (QQ K a) [it] it (fun i h=>h.IsTupleIter it a i) where
 mem:=by simp
 obj:=fun i h st b hb=>by
  have e:b=it:=by simpa using hb
  subst e;obtain⟨o,e,c,d⟩:=st;exact⟨o,e,fun v z=>by rw[d]at z;cases z⟩
 keep:=fun i h h' st k=>st.at fun o e=>k it (by simp) o e
 item:=by
  intro X hP hw hK hc i pr s σ H E I hf st hg;subst hP hw hK;obtain⟨xs,x,hq,hx⟩:=hg;obtain⟨Hj,rv,p,hz⟩:=I.tuple hq;obtain⟨u,hu,ru⟩:=rv.get hx;obtain⟨f0,f1,f2,f3,f4,f5⟩:=hf it (by simp);refine wpAny_pyNext_tuple_item st (show s.heap.IsTuple a Hj.toArray from p) (x:=u) (by simpa using hu) fun h' Jr sb=>?_
  have I1:Inv X pr σ H {s with heap:=h'}:=I.turned (t':=s.toks) (fun b o hb e=>(sb.2 b hb).trans e) f0 f1 f3 f4 f5;obtain⟨o,e,c,d⟩:=id Jr;exact⟨u,rfl,tM (s:={s with heap:=h'}) e c d (by decide) ⟨x,H,I1,ru,⟨rfl,fun ys hy=>by rw[I.tuple_inj hy hq];exact hx⟩,Jr,fun b hb=>(hf b hb).1⟩⟩
 done:=by
  intro X hP hw hK hc i pr s σ H E I hf st hg;subst hP hw hK;obtain⟨xs,hq,hx⟩:=hg;obtain⟨Hj,rv,p,hz⟩:=I.tuple hq;obtain⟨f0,f1,f2,f3,f4,f5⟩:=hf it (by simp);have hl:=rv.length;exact wpAny_pyNext_tuple_end (I.ok.hd hc) st (show s.heap.IsTuple a Hj.toArray from p) (by simp;lia) fun h' eb=>⟨rfl,I.turned (t':=s.toks) (fun b o hb e=>eb b o hb e) f0 f1 f3 f4 f5⟩
 self:=fun _ _ _ _ _ st h=>wpAny_pyIter_tupleiter st h
theorem so{P:Program}{w:World}{K:W.Frag}{tg:Expr}(it:Addr)(lo:Int)(n:Nat):Turn P w K tg (OZ lo n) [it] it (fun i h=>IsRangeIter h it (lo+(i:Nat)*1) ((n:Int)-(i:Nat)) 1) where
 mem:=by simp
 obj:=fun i h st b hb=>by
  have e:b=it:=by simpa using hb
  subst e;exact⟨_,st,fun v z=>by
   have z':Data.fields _=Data.cell v:=z;cases z'⟩
 keep:=fun i h h' st k=>k it (by simp) _ st
 item:=by
  intro X hP hw hK hc i pr s σ H E I hf st hg;subst hP hw hK;obtain⟨f0,f1,f2,f3,f4,f5⟩:=hf it (by simp);have W:=Walks.range (prog:=X.prog) (w:=X.w) (I.ok.hd hc) it lo 1 n;refine W.item i s _ _ hg st fun v h' tk hv Jr kk=>?_
  obtain⟨t,rfl⟩:=hv;have I1:Inv X pr σ H {s with heap:=h',toks:=tk}:=I.turned (fun b o hb e=>kk b o (by simpa using hb) e) f0 f1 f3 f4 f5;refine⟨_,rfl,tM (s:={s with heap:=h',toks:=tk}) (n:="range_iterator") Jr rfl rfl (by decide) ⟨.int (lo+i),H,I1,⟨t,?_⟩,⟨rfl,rfl⟩,Jr,fun b hb=>(hf b hb).1⟩⟩;rw[Int.mul_one]
 done:=by
  intro X hP hw hK hc i pr s σ H E I hf st hg;subst hP hw hK;obtain⟨f0,f1,f2,f3,f4,f5⟩:=hf it (by simp);exact wpAny_pyNext_range_end (I.ok.hd hc) st (by have:n<=i:=hg;lia) fun h' eb=>⟨rfl,I.turned (t':=s.toks) (fun b o hb e=>eb b o hb e) f0 f1 f3 f4 f5⟩
 self:=fun _ _ _ _ _ st h=>wpAny_pyIter_rangeiter st h
section
variable{X:Cx}{tg:Expr}
def Eu(K:W.Frag)(tl:TE):TI:=fun σ H R=>tl σ H fun x H1=>∃a,x=.ref a/\(∃xs,SqL K H1 a xs)/\R (OI K a) H1
def Gp(K:W.Frag)(tl:TE):TI:=fun σ H R=>tl σ H fun x H1=>∃a,x=.ref a/\(∃xs,SqT K H1 a xs)/\R (QQ K a) H1
theorem tP{l:Expr}{tl:TE}(hl:PE X l tl):PI X tg l (Eu X.K tl):=by
 intro pr s σ H R I h;refine HA (hl pr s σ H _ I h) fun v s1 HD=>?_
 obtain⟨x,H1,I1,r1,q1⟩:=HD;obtain⟨a,e,⟨xs,hq⟩,q⟩:=q1;subst e;cases r1;obtain⟨Hj,rv,p,hz⟩:=I1.list hq;refine UK p.isList ?_;refine⟨s1.heap.objs.size,[s1.heap.objs.size],_,_,H1,rfl,I1.kept (t':=s1.toks) fun b o e=>Heap.get?_push_of_some _ e,tN a _,⟨_,Heap.get?_push_size _ rfl,rfl,rfl⟩,fun b hb=>?_,q⟩;have e:b=s1.heap.objs.size:=by simpa using hb
 subst e;exact I1.fpOk (SS _) (I1.hok.fresh (SS _))
theorem BS{l:Expr}{tl:TE}(hl:PE X l tl):PI X tg l (Gp X.K tl):=by
 intro pr s σ H R I h;refine HA (hl pr s σ H _ I h) fun v s1 HD=>?_
 obtain⟨x,H1,I1,r1,q1⟩:=HD;obtain⟨a,e,⟨xs,hq⟩,q⟩:=q1;subst e;cases r1;obtain⟨Hj,rv,p,hz⟩:=I1.tuple hq;refine UD (show s1.heap.IsTuple a Hj.toArray from p) ?_;refine⟨s1.heap.objs.size,[s1.heap.objs.size],_,_,H1,rfl,I1.kept (t':=s1.toks) fun b o e=>Heap.get?_push_of_some _ e,sk a _,⟨_,Heap.get?_push_size _ rfl,rfl,rfl⟩,fun b hb=>?_,q⟩;have e:b=s1.heap.objs.size:=by simpa using hb
 subst e;exact I1.fpOk (SS _) (I1.hok.fresh (SS _))
theorem qA{pr:List (Addr×Obj)}{σ:St}{H:Hp}{s:Shared}{R:It->Hp->Prop}{E:Value->Shared->Prop}{lo hi:Int}{t u v:Tok}{tk:Nat}(I:Inv X pr σ H s)(h1:-(2 ^ 62)<=lo)(h2:lo<2 ^ 62)(h3:-(2 ^ 62)<=hi)(h4:hi<2 ^ 62)
  (q:R (OZ lo (hi-lo).toNat) H):wpAny (model X.prog X.w) X.A (pyIter (.ref s.heap.objs.size)) (RV X pr σ tg R) E {s with heap:=s.heap.push {cls:=.type "range",data:=.fields #[.int lo t,.int hi u,.int 1 v]},toks:=tk}:=by
 refine wpAny_pyIter_range (IsRange.new ..) (small_one h1 h2 h3 h4) ?_;have I1:Inv X pr σ H {s with heap:=s.heap.push {cls:=.type "range",data:=.fields #[.int lo t,.int hi u,.int 1 v]},toks:=tk}:=I.kept fun b o e=>Heap.get?_push_of_some _ e
 refine⟨(s.heap.push {cls:=.type "range",data:=.fields #[.int lo t,.int hi u,.int 1 v]}).objs.size,[(s.heap.push {cls:=.type "range",data:=.fields #[.int lo t,.int hi u,.int 1 v]}).objs.size],_,_,H,rfl,
  I1.kept (t':=tk) fun b o e=>Heap.get?_push_of_some _ e,so _ lo (hi-lo).toNat,?_,fun b hb=>?_,q⟩
 ·have e1:lo+((0:Nat):Int)*1=lo:=by simp
  have e2:(((hi-lo).toNat:Nat):Int)-((0:Nat):Int)=Builtin.Range.rangeSize lo hi 1:=by rw[rangeSize_one];split <;> lia
  show IsRangeIter _ _ (lo+((0:Nat):Int)*1) ((((hi-lo).toNat:Nat):Int)-((0:Nat):Int)) 1;rw[e1,e2];exact Heap.get?_push_size _ rfl
 ·have e:b=(s.heap.push {cls:=.type "range",data:=.fields #[.int lo t,.int hi u,.int 1 v]}).objs.size:=by simpa using hb
  subst e;exact I1.fpOk (SS _) (I1.hok.fresh (SS _))
def Ew(ta:TA):TI:=fun σ H R=>ta σ H fun vs H1=>∃j:Int,vs=[.int j]/\-(2 ^ 62)<=j/\j<2 ^ 62/\R (OZ 0 j.toNat) H1
def Ex(ta:TA):TI:=fun σ H R=>ta σ H fun vs H1=>∃i j:Int,vs=[.int i,.int j]/\(-(2 ^ 62)<=i/\i<2 ^ 62/\-(2 ^ 62)<=j/\j<2 ^ 62)/\R (OZ i (j-i).toNat) H1
theorem tR{a:Expr}{ta:TA}{p pos:Pos}(hg:Gl X "range")(hm:X.mg "range" = none)(ha:PA X [a] ta)(hs:starEach [a] X.env=[(false,eval a X.env)]:=by rfl):PI X tg (.Call (.Name "range" p) [a] [] pos) (Ew ta):=by
 intro pr s σ H R I h;refine Call_ (kA I hg hm boot_range (Uw (HA (ha pos pr s σ H _ I h) fun us s1 ⟨vs,H1,I1,r1,q1⟩=>?_) hs rfl));obtain⟨j,e,q1,q2,q⟩:=q1;subst e;cases r1 with
 |cons r rr=>
  cases rr;obtain⟨t,rfl⟩:=r;exact call_range_1 (qA I1 (by lia) (by lia) q1 q2 (by simpa using q))
theorem tS{a b:Expr}{ta:TA}{p pos:Pos}(hg:Gl X "range")(hm:X.mg "range" = none)(ha:PA X [a,b] ta)(hs:starEach [a,b] X.env=[(false,eval a X.env),(false,eval b X.env)]:=by rfl)(OJ:starEach [b] X.env=[(false,eval b X.env)]:=by rfl):
  PI X tg (.Call (.Name "range" p) [a,b] [] pos) (Ex ta):=by
 intro pr s σ H R I h;refine Call_ (kA I hg hm boot_range (Uw (HA (ha pos pr s σ H _ I h) fun us s1 ⟨vs,H1,I1,r1,q1⟩=>?_) (by rw[hs,OJ]) (by rw[OJ];rfl)));obtain⟨i,j,e,⟨q1,q2,q3,q4⟩,q⟩:=q1;subst e;cases r1 with
 |cons r rr=>
  cases rr with
  |cons r' rr=>
   cases rr;obtain⟨t,rfl⟩:=r;obtain⟨t',rfl⟩:=r';exact call_range_2 (qA I1 q1 q2 q3 q4 q)
noncomputable def Gq(wi:TI)(g:TG)(tb:TS):TS:=fun D σ H=>wi σ H fun J H1=>∃W:Nat->Nat->St->Hp->Prop,(∃m,W 0 m σ H1)/\∀i m σ H,W i m σ H->
 (J.stop i H/\D.nx σ H)\/(J.go i H/\∃N:St->Hp->Prop,(∀σ' H',N σ' H'->∃m',m'<m/\W (i+1) m' σ' H')/\∀x H',J.yld i H x H'->g x σ H' fun σ2 H2=>tb {D with nx:=N,ct:=N,bk:=D.nx} σ2 H2)
def nV(fp:List Addr)(h:Heap):List (Addr×Obj):=fp.filterMap fun b=>(h.get? b).map fun o=>(b,o)
theorem gY{fp:List Addr}{h:Heap}{b:Addr}{o:Obj}(hb:b∈fp)(e:h.get? b=some o):(b,o)∈nV fp h:=VZ.mpr ⟨b,hb,by rw[e];rfl⟩
theorem tU{fp:List Addr}{h:Heap}{p:Addr×Obj}(hp:p∈nV fp h):p.1∈fp/\h.get? p.1=some p.2:=by
 obtain⟨b,hb,e⟩:=VZ.mp hp;cases q:h.get? b with
 |none=>rw[q]at e;cases e
 |some o=>
  rw[q]at e;have e':(b,o)=p:=Tc e;subst e';exact⟨hb,q⟩
theorem Inv.pinned{pr:List (Addr×Obj)}{σ:St}{H:Hp}{s:Shared}{fp:List Addr}(I:Inv X pr σ H s)(hf:∀b∈fp,tq X pr H b)(ho:∀b∈fp,∃o,s.heap.get? b=some o/\∀v,o.data≠.cell v):Inv X (pr++nV fp s.heap) σ H s:=
 I.pins_of fun p hp=>(Tj.mp hp).elim (fun z=>I.pin p (SK _ z)) fun z=>by
  obtain⟨hb,e⟩:=tU z;obtain⟨f0,f1,f2,_⟩:=hf p.1 hb;obtain⟨o,e',d⟩:=ho p.1 hb;rw[e]at e';cases e';exact⟨e,f0,f1,f2,d⟩
theorem Inv.unpinned{pr pl:List (Addr×Obj)}{σ:St}{H:Hp}{s:Shared}(I:Inv X (pr++pl) σ H s):Inv X pr σ H s:=I.pins_of fun p hp=>I.pin p (SK _ (SR _ hp))
theorem yk{iter:Expr}{body:List Stmt}{wi:TI}{g:TG}{tb:TS}{pos:Pos}(hp:PassesOwn (model X.prog X.w) X.A X.env X.xe)(hc:X.calm=true)(hi:PI X tg iter wi)(hg:PG X tg g)(hb:PSs X body tb)
  (hs:∀x,foldedSetIterable iter X.env x=pure x:=by intro _;rfl):PS X (.For tg iter body [] pos) (Gq wi g tb):=by
 intro pr s σ H D I h;refine wpAny_For (HA (hi pr s σ H _ I h) fun v s1 h1=>HA h1 fun Ql s2 h2=>?_) hs;obtain⟨it,fp,tn,J,H2,e,I2,T,Hn,f2,W,⟨m0,w0⟩,turn⟩:=h2;subst e;have KD:∀{H':Hp},(∀b∈fp,H' b=none)->∀b∈fp,tq X pr H' b:=fun hn b hb=>⟨hn b hb,(f2 b hb).2⟩
 refine codeAny_forLoop_any (fun n s'=>∃i σ' H',Inv X pr σ' H' s'/\tn i s'.heap/\(∀b∈fp,H' b=none)/\W i n σ' H') ?_ m0 ⟨0,σ,H2,I2,Hn,fun b hb=>(f2 b hb).1,w0⟩;rintro n s3 ⟨i,σ3,H3,I3,HM,O0,w3⟩;rcases turn i n σ3 H3 w3 with⟨stop,qn⟩|⟨go,N,hN,step⟩
 ·refine UJ hp (HA (T.done X rfl rfl rfl hc i pr s3 σ3 H3 X.xe I3 (KD O0) HM stop) fun r s4 HD=>?_);obtain⟨hr,I4⟩:=HD;subst hr;exact VN ⟨σ3,H3,I4,qn⟩
 ·refine UJ hp (HA (T.item X rfl rfl rfl hc i pr s3 σ3 H3 X.xe I3 (KD O0) HM go) fun r s4 HD=>?_);obtain⟨u,hr,h4⟩:=HD;subst hr;refine UJ hp (HA h4 fun _ s5 HD=>?_);obtain⟨x,H5,I5,r5,y5,Js,QR⟩:=HD;have QU:=I5.pinned (KD QR) (T.obj _ _ Js);refine UJ hp (HA (hg _ s5 σ3 H5 x u _ QU r5 (step x H5 y5)) fun _ s6 HD=>?_);obtain⟨σ6,H6,I6,q6⟩:=HD;refine UJ hp (HA (hb _ s6 σ6 H6 _ I6 q6) fun f s7 q7=>?_);have again:∀{σ7:St}{H7:Hp},Inv X (pr++nV fp s5.heap) σ7 H7 s7->N σ7 H7->∃m,m<n/\∃i σ' H',Inv X pr σ' H' s7/\tn i s7.heap/\(∀b∈fp,H' b=none)/\W i m σ' H':=fun{σ7 H7} I7 n7=>by
   obtain⟨m',hm,w7⟩:=hN σ7 H7 n7;refine⟨m',hm,i+1,σ7,H7,I7.unpinned,T.keep _ _ _ Js fun b hb o e=>(I7.pin (b,o) (SK _ (SK _ (gY hb e)))).1,fun b hb=>?_,w7⟩;obtain⟨o,e,d⟩:=T.obj _ _ Js b hb;exact(I7.pin (b,o) (SK _ (SK _ (gY hb e)))).2.1
  cases f with
  |next=>obtain⟨σ7,H7,I7,n7⟩:=q7;exact again I7 n7
  |cont=>obtain⟨σ7,H7,I7,n7⟩:=q7;exact again I7 n7
  |brk=>obtain⟨σ7,H7,I7,q7⟩:=q7;exact⟨σ7,H7,I7.unpinned,q7⟩
  |ret v=>obtain⟨x7,σ7,H7,I7,r7,q7⟩:=q7;exact⟨x7,σ7,H7,I7.unpinned,r7,q7⟩
end
theorem for_list{K:W.Frag}{a:Addr}{xs:List V}{g:TG}{tb:TS}{D:Ends}{σ:St}{H:Hp}(Pv:Nat->St->Hp->Prop)(h0:Pv 0 σ H)(hl:∀i σ H,i<=xs.length->Pv i σ H->SqL K H a xs)
  (hs:∀i x σ H,xs[i]?=some x->Pv i σ H->g x σ H fun σ2 H2=>tb {D with nx:=Pv (i+1),ct:=Pv (i+1),bk:=D.nx} σ2 H2) (hd:∀σ H,Pv xs.length σ H->D.nx σ H):
  ∃W:Nat->Nat->St->Hp->Prop,(∃m,W 0 m σ H)/\∀i m σ H,W i m σ H->
   ((OI K a).stop i H/\D.nx σ H)\/((OI K a).go i H/\∃N:St->Hp->Prop,(∀σ' H',N σ' H'->∃m',m'<m/\W (i+1) m' σ' H')/\∀x H',(OI K a).yld i H x H'->g x σ H' fun σ2 H2=>tb {D with nx:=N,ct:=N,bk:=D.nx} σ2 H2):=by
 refine⟨fun i m σ H=>m=xs.length-i/\i<=xs.length/\Pv i σ H,⟨xs.length,by simp,Tw _,h0⟩,?_⟩;rintro i m σ H ⟨rfl,hi,p⟩;have q:=hl i σ H hi p;by_cases HW:i<xs.length
 ·refine .inr ⟨⟨xs,xs[i],q,by simp[HW]⟩,Pv (i+1),fun σ' H' p'=>⟨xs.length-(i+1),by lia,rfl,HW,p'⟩,fun x H' y=>?_⟩;obtain⟨e,y⟩:=y;subst e;exact hs i x σ _ (y xs q) p
 ·have e:i=xs.length:=by lia
  subst e;exact .inl ⟨⟨xs,q,SS _⟩,hd σ H p⟩
abbrev R2:=V->V->Hp->VK->Prop
def HX(X:Cx)(f:Value->Value->Sem Value)(r:R2):Prop:=
 ∀(pr:List (Addr×Obj)) (s:Shared) (σ:St) (H:Hp) (x y:V) (v u:Value) (Q:VK),Inv X pr σ H s->RelV x v->RelV y u->r x y H Q->
  wpAny (model X.prog X.w) X.A (f v u) (EP X pr σ Q) X.xe s
def dm(X:Cx)(f:Value)(r:List V->Hp->VK->Prop):Prop:=
 ∀(pr:List (Addr×Obj)) (s:Shared) (σ:St) (H:Hp) (xs:List V) (us:List Value) (Q:VK),Inv X pr σ H s->Vals xs us->r xs H Q->
  wpAny (model X.prog X.w) X.A (call f us) (EP X pr σ Q) X.xe s
def OK(r:R2)(ta tb:TE):TE:=fun σ H Q=>ta σ H fun x H1=>tb σ H1 fun y H2=>r x y H2 Q
def rI(C:Int->Int->Prop)(g:Int->Int->V):R2:=fun x y H Q=>∃i j,x=.int i/\y=.int j/\C i j/\Q (g i j) H
def Nx(g:Int->Int->V):R2:=fun x y H Q=>∃i j,x=.int i/\y=.int j/\Q (g i j) H
section
variable{X:Cx}{a b c:Expr}{ta tb tc:TE}{pos:Pos}
theorem Ey(ha:PE X a ta)(hb:PE X b tb){pr:List (Addr×Obj)}{s:Shared}{σ:St}{H:Hp}{R:V->V->Hp->Prop}(I:Inv X pr σ H s)
  (h:ta σ H fun x H1=>tb σ H1 fun y H2=>R x y H2) {Q:Value->Shared->Prop}{f:Value->Value->Sem Value}
  (hf:∀v u s2 x y H2,Inv X pr σ H2 s2->RelV x v->RelV y u->R x y H2->wpAny (model X.prog X.w) X.A (f v u) Q X.xe s2):
  wpAny (model X.prog X.w) X.A (eval a X.env) (fun v s₁=>wpAny (model X.prog X.w) X.A (eval b X.env) (fun u s₂=>wpAny (model X.prog X.w) X.A (f v u) Q X.xe s₂) X.xe s₁) X.xe s:=by
 refine HA (ha pr s σ H _ I h) fun v s1 HD=>?_
 obtain⟨x,H1,I1,r1,q1⟩:=HD;refine HA (hb pr s1 σ H1 _ I1 q1) fun u s2 HD=>?_
 obtain⟨y,H2,I2,r2,q2⟩:=HD;exact hf v u s2 x y H2 I2 r1 r2 q2
theorem Ez{op:Operator}{r:R2}(ho:HX X (binaryOp op) r)(ha:PE X a ta)(hb:PE X b tb):PE X (.BinOp a op b pos) (OK r ta tb):=by
 intro pr s σ H Q I h;exact wpAny_BinOp (Ey ha hb I h fun v u s2 x y H2 I2 rx ry q=>ho pr s2 σ H2 x y v u Q I2 rx ry q)
theorem O3{f:Value->Value->Sem Value}{C:Int->Int->Prop}{g:Int->Int->Int}
  (rule:∀(i j:Int) (t u:Tok) (s:Shared) (Q:Value->Shared->Prop) (E:Value->Shared->Prop),C i j->Q (.int (g i j) s.toks) {s with toks:=s.toks+1}->wpAny (model X.prog X.w) X.A (f (.int i t) (.int j u)) Q E s):
  HX X f (rI C fun i j=>.int (g i j)):=by
 intro pr s σ H x y v u Q I rx ry h;obtain⟨i,j,rfl,rfl,hc,q⟩:=h;obtain⟨t,rfl⟩:=rx;obtain⟨t',rfl⟩:=ry;exact rule i j t t' s _ _ hc ⟨.int (g i j),H,I.tok _,⟨_,rfl⟩,q⟩
theorem FK{f:Value->Value->Sem Value}{g:Int->Int->Int}
  (rule:∀(i j:Int) (t u:Tok) (s:Shared) (Q:Value->Shared->Prop) (E:Value->Shared->Prop),Q (.int (g i j) s.toks) {s with toks:=s.toks+1}->wpAny (model X.prog X.w) X.A (f (.int i t) (.int j u)) Q E s):
  HX X f (Nx fun i j=>.int (g i j)):=by
 intro pr s σ H x y v u Q I rx ry h;obtain⟨i,j,rfl,rfl,q⟩:=h;obtain⟨t,rfl⟩:=rx;obtain⟨t',rfl⟩:=ry;exact rule i j t t' s _ _ ⟨.int (g i j),H,I.tok _,⟨_,rfl⟩,q⟩
theorem EA{f:Value->Value->Sem Value}{g:Int->Int->Bool}
  (rule:∀(i j:Int) (t u:Tok) (s:Shared) (Q:Value->Shared->Prop) (E:Value->Shared->Prop),Q (.bool (g i j)) s->wpAny (model X.prog X.w) X.A (f (.int i t) (.int j u)) Q E s):
  HX X f (Nx fun i j=>.bl (g i j)):=by
 intro pr s σ H x y v u Q I rx ry h;obtain⟨i,j,rfl,rfl,q⟩:=h;obtain⟨t,rfl⟩:=rx;obtain⟨t',rfl⟩:=ry;exact rule i j t t' s _ _ ⟨.bl (g i j),H,I,rfl,q⟩
def Gs(i j:Int):Prop:=0<j/\j<1073741824
def Gu(i j:Int):Prop:=0<=j/\j<=1000000/\i.natAbs<2 ^ 64
def CMul(i j:Int):Prop:=(-(2 ^ 64)<i/\i<2 ^ 64)\/(-(2 ^ 64)<j/\j<2 ^ 64)
theorem CMul.ok{i j:Int}(h:CMul i j):IntMulOk i j:=by
 rcases h with⟨h1,h2⟩|⟨h1,h2⟩
 ·exact .of_left (intBits_le_64 h1 h2)
 ·exact .of_right (intBits_le_64 h1 h2)
theorem BU:HX X (binaryOp .Add) (Nx fun i j=>.int (i+j)):=FK fun _ _ _ _ _ _ _ q=>add_int q
theorem BV:HX X (binaryOp .Sub) (Nx fun i j=>.int (i-j)):=FK fun _ _ _ _ _ _ _ q=>sub_int q
theorem BW:HX X (binaryOp .Mult) (rI CMul fun i j=>.int (i*j)):=O3 fun _ _ _ _ _ _ _ hc q=>mul_int q hc.ok
theorem y9:HX X (binaryOp .FloorDiv) (rI Gs fun i j=>.int (i / j)):=O3 fun i j _ _ _ _ _ hc q=>by
 have h1:(0:Int)<j:=hc.1;have h2:j<1073741824:=hc.2;exact floordiv_int (by lia) (by rw[Int.fdiv_eq_ediv_of_nonneg i (by lia)];exact q) (.inl (PyProof.noPylong_small (by lia)))
theorem BX:HX X (binaryOp .Mod) (rI (fun _ j=>0<j) fun i j=>.int (i%j)):=O3 fun i j _ _ _ _ _ hc q=>by
 have h1:(0:Int)<j:=hc;exact mod_int' (by lia) (by rw[Int.fmod_eq_emod_of_nonneg i (by lia)];exact q)
theorem BY:HX X (binaryOp .Pow) (rI Gu fun i j=>.int (i ^ j.toNat)):=O3 fun _ _ _ _ _ _ _ hc q=>pow_int_small hc.1 hc.2.1 hc.2.2 q
end
section
variable{X:Cx}{a b c:Expr}{ta tb tc:TE}{pos:Pos}
theorem tV{pr:List (Addr×Obj)}{σ:St}{H:Hp}{s:Shared}{Q:VK}{k k':Bool}(I:Inv X pr σ H s)(q:Q (.bl k) H)(e:k=k'):EP X pr σ Q (.bool k') s:=by
 subst e;exact⟨.bl k,H,I,rfl,q⟩
theorem EB:HX X (compareOp .Lt) (Nx fun i j=>.bl (decide (i<j))):=EA fun _ _ _ _ _ _ _ q=>lt_int q
theorem EC:HX X (compareOp .Gt) (Nx fun i j=>.bl (decide (j<i))):=EA fun _ _ _ _ _ _ _ q=>gt_int q
theorem ED:HX X (compareOp .GtE) (Nx fun i j=>.bl (decide (j<=i))):=EA fun _ _ _ _ _ _ _ q=>ge_int q
theorem tW:HX X (compareOp .Lt) (fun x y H Q=>∃i j,x=.str i/\y=.str j/\Q (.bl (decide (i.cps.toList<j.cps.toList))) H):=by
 intro pr s σ H x y v u Q I rx ry h;obtain⟨i,j,rfl,rfl,q⟩:=h;obtain⟨t,rfl⟩:=rx;obtain⟨t',rfl⟩:=ry;exact lt_str (tV I q rfl)
theorem tX:HX X (compareOp .In) (fun x y H Q=>∃i j,x=.str i/\y=.str j/\Q (.bl (!(Builtin.Str.occurrences j i 0 j.length 1).isEmpty)) H):=by
 intro pr s σ H x y v u Q I rx ry h;obtain⟨i,j,rfl,rfl,q⟩:=h;obtain⟨t,rfl⟩:=rx;obtain⟨t',rfl⟩:=ry;exact in_str (tV I q rfl)
theorem nW:HX X (compareOp .NotIn) (fun x y H Q=>∃i j,x=.str i/\y=.str j/\Q (.bl (!(!(Builtin.Str.occurrences j i 0 j.length 1).isEmpty))) H):=by
 intro pr s σ H x y v u Q I rx ry h;obtain⟨i,j,rfl,rfl,q⟩:=h;obtain⟨t,rfl⟩:=rx;obtain⟨t',rfl⟩:=ry;exact notIn_str (tV I q rfl)
theorem aV(b:Expr){op:CmpOp}(h:op≠.In:=by decide)(h2:op≠.NotIn:=by decide):behindInMarks op b=false:=by
 have e1:(op==CmpOp.In)=false:=by cases op <;> first|rfl|exact absurd rfl h
 have e2:(op==CmpOp.NotIn)=false:=by cases op <;> first|rfl|exact absurd rfl h2
 cases b <;> simp[behindInMarks,e1,e2]
theorem tY{op:CmpOp}{r:R2}(ho:HX X (compareOp op) r)(ha:PE X a ta)(hb:PE X b tb)(hm:behindInMarks op b=false):PE X (.Compare a [op] [b] pos) (OK r ta tb):=by
 intro pr s σ H Q I h;exact wpAny_Compare1 (Ey ha hb I h fun v u s2 x y H2 I2 rx ry q=>ho pr s2 σ H2 x y v u Q I2 rx ry q) hm
def EF(t:TE):TT:=fun σ H Q=>t σ H fun x H'=>∃k,x=.bl k/\Q k H'
theorem tZ{op:CmpOp}{r:R2}(ho:HX X (compareOp op) r)(ha:PE X a ta)(hb:PE X b tb)(hm:behindInMarks op b=false):PT X (.Compare a [op] [b] pos) (EF (OK r ta tb)):=by
 intro pr s σ H Q I h;refine wpAny_isTrue_Compare1 (HA (ha pr s σ H _ I h) fun v s1 ⟨x,H1,I1,r1,q1⟩=>HA (hb pr s1 σ H1 _ I1 q1) fun u s2 ⟨y,H2,I2,r2,q2⟩=>
  HA (ho pr s2 σ H2 x y v u _ I2 r1 r2 q2) fun c s3 ⟨z,H3,I3,r3,k,e,q3⟩=>?_) hm
 subst e;cases r3;exact U4 ⟨H3,I3,q3⟩
theorem lR:(sizeLine:Nat)<2 ^ 63:=by rw[TV];decide
theorem sr:HX X (binaryOp .Add) (fun x y H Q=>∃i j,x=.str i/\y=.str j/\i.length+j.length<=sizeLine/\Q (.str (i++j)) H):=by
 intro pr s σ H x y v u Q I rx ry h;obtain⟨i,j,rfl,rfl,hz,q⟩:=h;obtain⟨t,rfl⟩:=rx;obtain⟨t',rfl⟩:=ry;exact add_str (fun t' tk=>⟨.str (i++j),H,I.tok _,⟨_,rfl⟩,q⟩) hz
theorem gk{x:V}{us:List Value}(r:Vals [x] us):∃u,us=[u]/\RelV x u:=by
 cases r with
 |cons r1 r2=>cases r2;exact⟨_,rfl,r1⟩
theorem wX{x y:V}{us:List Value}(r:Vals [x,y] us):∃u w',us=[u,w']/\RelV x u/\RelV y w':=by
 cases r with
 |cons r1 r2=>
  cases r2 with
  |cons r3 r4=>cases r4;exact⟨_,_,rfl,r1,r3⟩
theorem ub(hc:X.calm=true):dm X (.builtin "min") (fun xs H Q=>∃i j,xs=[.int i,.int j]/\Q (.int (if j<i then j else i)) H):=by
 intro pr s σ H xs us Q I r h;obtain⟨i,j,rfl,q⟩:=h;obtain⟨u,w',rfl,⟨t,rfl⟩,⟨t',rfl⟩⟩:=wX r;refine min_two_ints (I.ok.hd hc) fun h' tk k=>⟨_,H,I.kept k,?_,q⟩
 by_cases hj:j<i
 ·rw[SU hj,SU hj];exact⟨_,rfl⟩
 ·rw[SX hj,SX hj];exact⟨_,rfl⟩
end
section
variable{prog:Program}{w:World}{A:Around}{E:Value->Shared->Prop}{s:Shared}{K:W.Frag}{x dx C f:Addr}{mA:Str->Option Value}{name:Str}{v:Value}
end
theorem RelO.some_of{v:V}{o:Option Value}(r:RelO (some v) o):∃u,o=some u/\RelV v u:=by
 cases o with
 |none=>exact(show False from r).elim
 |some u=>exact⟨u,rfl,r⟩
section
variable{P:Program}{w:World}{H H':Hp}{h h':Heap}{a C dx:Addr}{fs fs':List (Str×V)}
end
section
variable{X:Cx}{pr:List (Addr×Obj)}{σ:St}{H:Hp}{s:Shared}{a C dx:Addr}{fs:List (Str×V)}{f:Str}{v:V}{A:Around}{E:Value->Shared->Prop}
end
section
variable{X:Cx}{o e value:Expr}{f:Str}{pos pos' tpos:Pos}{ta tv:TE}
end
section
variable{X:Cx}{pr:List (Addr×Obj)}{σ:St}{H:Hp}{s:Shared}{A:Around}{E:Value->Shared->Prop}{Q:Value->Shared->Prop}{c:Value}{b:Bool}
end
structure Room(k:Nat)(A:Around):Prop where
 hd:A.handled=none
 dp:A.depth+3*k+5<recursionLimit
 un:A.units+16*k+200<cLine
theorem Room.mono{j k:Nat}{A:Around}(r:Room k A)(h:j<=k):Room j A:=⟨r.hd,by have:=r.dp;lia,by have:=r.un;lia⟩
theorem Room.m{j k:Nat}{A:Around}(r:Room k A)(h:j<=k:=by decide):Room j A:=r.mono h
theorem Room.deeper{k:Nat}{A:Around}(r:Room (k+1) A)(env:Env):Room k (A.deeper env):=
 ⟨r.hd,by have:=r.dp;show A.depth+1+3*k+5<_;lia,by have:=r.un;show A.units+3+16*k+200<_;lia⟩
theorem Room.depth{k:Nat}{A:Around}(r:Room k A):A.depth<recursionLimit:=by have:=r.dp;lia
theorem Room.units{k:Nat}{A:Around}(r:Room k A):A.units+64<cLine:=by have:=r.un;lia
theorem Room.units0{k:Nat}{A:Around}(r:Room k A):A.units<cLine:=by have:=r.un;lia
def Ef:TA:=fun _ H Q=>Q [] H
def wY(ta:TE)(tr:TA):TA:=fun σ H Q=>ta σ H fun x H1=>tr σ H1 fun xs H2=>Q (x::xs) H2
section
variable{X:Cx}{e:Expr}{es:List Expr}{te:TE}{t:TA}{pos:Pos}
theorem nX:PA X [] Ef:=fun _ _ _ _ H Q I h=>Calls.spliced_nil ⟨[],H,I,.nil,h⟩
theorem gq(ha:PE X e te)(hr:PA X es t)(hs:starEach (e::es) X.env=(false,eval e X.env)::starEach es X.env:=by rfl):PA X (e::es) (wY te t):=by
 intro pos pr s σ H Q I h;rw[hs];show wpAny _ _ (spliced ((false,eval e X.env)::backTo pos (starEach es X.env))) _ _ s;refine Calls.spliced_cons (HA (ha pr s σ H _ I h) fun u s1 HD=>?_);obtain⟨x,H1,I1,r1,q1⟩:=HD;exact HA (hr pos pr s1 σ H1 _ I1 q1) fun us s2 ⟨xs,H2,I2,r2,q2⟩=>⟨x::xs,H2,I2,.cons r1 r2,q2⟩
def Gv(t:TA):TE:=fun σ H Q=>t σ H fun xs H1=>xs.length<=sizeLine/\∀p,H1 p=none->Q (.ref p) (upd H1 p (.tup xs))
def Gw(t:TA):TE:=fun σ H Q=>t σ H fun xs H1=>xs.length<=sizeLine/\∀p,H1 p=none->Q (.ref p) (upd H1 p (.lst xs))
theorem ym{x1}(h:PA X es t):PE X (.Tuple es x1 pos) (Gv t):=by
 intro pr s σ H Q I hq;refine wpAny_Tuple_spliced (HA (h pos pr s σ H _ I hq) fun us s1 ⟨xs,H1,I1,r,z,q⟩=>⟨by rw[<-r.length];exact z,?_⟩);have hf:H1 s1.heap.objs.size=none:=I1.hok.fresh (SS _);refine⟨.ref s1.heap.objs.size,upd H1 s1.heap.objs.size (.tup xs),I1.laid (t':=s1.toks) (fun b u e=>Heap.get?_push_of_some _ e) (SS _) ?_,rfl,q _ hf⟩;exact⟨z,us,r,⟨_,Heap.get?_push_size _ rfl,rfl,⟨_,rfl⟩,rfl⟩⟩
theorem BZ(h:PA X es t):PE X (.List es pos) (Gw t):=by
 intro pr s σ H Q I hq;refine wpAny_List_spliced (HA (h pos pr s σ H _ I hq) fun us s1 ⟨xs,H1,I1,r,z,q⟩=>⟨by rw[<-r.length];exact z,?_⟩);have hf:H1 s1.heap.objs.size=none:=I1.hok.fresh (SS _);refine⟨.ref s1.heap.objs.size,upd H1 s1.heap.objs.size (.lst xs),I1.laid (t':=s1.toks) (fun b u e=>Heap.get?_push_of_some _ e) (SS _) ?_,rfl,q _ hf⟩;exact⟨z,us,0,r,Heap.get?_push_size _ rfl⟩
end
abbrev Sp:=List V->Hp->VK->XK->Prop
abbrev Lx:=List Env->Hp->Shared->XK->Value->Shared->Prop
structure Env0(P:Program)(w:World)(K:W.Frag)(mg:Str->Option Value)(base:Heap)(A:Around)(outer:List Env)(s:Shared)(H:Hp):Prop where
 frames:A.frames=some outer
 mod:Mod K mg base
 bs:∀b o,base.get? b=some o->s.heap.get? b=some o/\H b=none
 bsz:base.objs.size<=s.heap.objs.size
 funs:s.heap.FunFrames base outer
 frf:∀b∈Lw outer,H b=none
 hok:HOk P w H s.heap
 bare:AllBare s.gens
def CE(outer:List Env)(P:Program)(w:World)(H:Hp)(s:Shared)(Q:VK)(u:Value)(s':Shared):Prop:=
 ∃v H',s'.os=s.os/\AllBare s'.gens/\Un (Lw outer) [] H H' s.heap s'.heap/\HOk P w H' s'.heap/\RelV v u/\Q v H'
def CR(CX:Lx)(outer:List Env)(P:Program)(w:World)(H:Hp)(s:Shared)(Q:VK)(E:XK)(r:Result)(s':Shared):Prop:=
 match r with
 | .ok (.ret u)=>CE outer P w H s Q u s'
 | .ok _=>False
 | .error e=>CX outer H s E e s'
structure FnOk(P:Program)(w:World)(K:W.Frag)(mg:Str->Option Value)(base:Heap)(CX:Lx)(k:Nat)(f:Addr)(fd:FuncData)(ps:List Str)(sp:Sp):Prop where
 len:∀vs H Q E,sp vs H Q E->vs.length=ps.length
 run:∀(A:Around) (outer:List Env) (s:Shared) (H:Hp) (args:Args) (us:List Value) (vs:List V) (Q:VK) (E:XK),Room k A->Env0 P w K mg base A outer s H->BindsTo s fd args (ps.zip us)->Vals vs us->sp vs H Q E->
  codeAny (model P w) A (.call (.ref f) args) (CR CX outer P w H s Q E) s
theorem FnOk.imp{P:Program}{w:World}{K:W.Frag}{mg:Str->Option Value}{base:Heap}{CX:Lx}{k:Nat}{f:Addr}{fd:FuncData}{ps:List Str}{sp RW:Sp}(F:FnOk P w K mg base CX k f fd ps sp)
  (h:∀vs H Q E,RW vs H Q E->sp vs H Q E):FnOk P w K mg base CX k f fd ps RW:=
 ⟨fun vs H Q E q=>F.len vs H Q E (h _ _ _ _ q),fun A outer s H args us vs Q E hr he hb hv hs=>F.run A outer s H args us vs Q E hr he hb hv (h _ _ _ _ hs)⟩
section
variable{X:Cx}{pr:List (Addr×Obj)}{σ:St}{H:Hp}{s s':Shared}
theorem Inv.env0(I:Inv X pr σ H s):Env0 X.prog X.w X.K X.mg X.base X.A X.stack s H:=
 ⟨I.ok.frames,I.ok.mod,I.bs,Td I.ok.bsz I.sz,I.stack,I.stkFree,I.hok,I.bare⟩
theorem Inv.after{Q:VK}{u:Value}(I:Inv X pr σ H s)(h:CE X.stack X.prog X.w H s Q u s'):EP X pr σ Q u s':=by
 obtain⟨v,H',os,bare,un,hok,r,q⟩:=h;obtain⟨hh,g,d,t,RX⟩:=s';obtain rfl:RX=s.os:=os;exact⟨v,H',I.call (h':=hh) (g':=g) (d':=d) (t':=t) (ch:=[]) un hok bare (fun b z=>absurd z (by simp)),r,q⟩
end
def tCall(sp:Sp)(Nb:List V)(E:XK)(t:TA):TE:=fun σ H Q=>t σ H fun vs H1=>sp (vs++Nb) H1 Q E
def Binds(K:W.Frag)(fd:FuncData)(ps:List Str)(ds:List Value):Prop:=
 ∀(s:Shared) (us:List Value),K.In s.heap->(us++ds).length=ps.length->BindsTo s fd ⟨us,[]⟩ (ps.zip (us++ds))
theorem Binds.all{K:W.Frag}{fd:FuncData}{ps:List Str}(h:∀us:List Value,us.length=ps.length->bindArgs fd ⟨us,[]⟩=pure (ps.zip us)):Binds K fd ps []:=fun s us _ hl=>by
 rw[Te]at hl ⊢;exact .of_eq (h us hl)
def uc(CX:Lx)(X:Cx)(E:XK):Prop:=∀(pr:List (Addr×Obj)) (σ:St) (H:Hp) (s:Shared) (e:Value) (s':Shared),Inv X pr σ H s->CX X.stack H s E e s'->X.xe e s'
section
variable{X:Cx}{CX:Lx}{k:Nat}{f C:Addr}{fd:FuncData}{ps:List Str}{sp:Sp}{Nb:List V}{ds:List Value}{E:XK}{x m:Str}{p pos apos:Pos}{e o:Expr}{es:List Expr}{ta:TE}{t:TA}
theorem B1{pr:List (Addr×Obj)}{σ:St}{H:Hp}{s:Shared}{Q:VK}{us:List Value}{vs:List V}(F:FnOk X.prog X.w X.K X.mg X.base CX k f fd ps sp)(hr:Room k X.A)(hb:Binds X.K fd ps ds)(hd:Vals Nb ds)(hx:uc CX X E)
  (I:Inv X pr σ H s) (r:Vals vs us) (h:sp (vs++Nb) H Q E):wpAny (model X.prog X.w) X.A (call (.ref f) us) (EP X pr σ Q) X.xe s:=by
 have r2:Vals (vs++Nb) (us++ds):=r.append hd;have hl:(us++ds).length=ps.length:=by rw[<-r2.length];exact F.len _ _ _ _ h
 refine wpAny_call (codeAny_mono (F.run X.A X.stack s H ⟨us,[]⟩ (us++ds) (vs++Nb) Q E hr I.env0 (hb s us I.kIn hl) r2 h) fun r s' hq=>?_);cases r with
 |error e=>exact hx pr σ H s e s' I hq
 |ok fl=>
  cases fl with
  |ret u=>exact I.after hq
  |next=>exact False.elim hq
  |brk=>exact False.elim hq
  |cont=>exact False.elim hq
theorem za(F:FnOk X.prog X.w X.K X.mg X.base CX k f fd ps sp)(hr:Room k X.A)(hg:Gl X x)(hm:X.mg x=some (.ref f))(hk:PySem.W.keepIn X.K (.ref f)=true)(hb:Binds X.K fd ps ds)(hd:Vals Nb ds)(hx:uc CX X E)
  (ha:PA X (e::es) t) (JA:(x==("__debug__" : Str))=false:=by decide) (he:starEach (e::es) X.env=(false,eval e X.env)::starEach es X.env:=by rfl) (IZ:(backTo pos (starEach es X.env)).any (·.1)=false:=by rfl):
  PE X (.Call (.Name x p) (e::es) [] pos) (tCall sp Nb E t):=by
 intro pr s σ H Q I h;refine UZ (yZ I hg hm ?_ JA);refine PySem.W.callWith_K (h₀:=X.base) I.ok.mod.kin hk (HA (ha pos pr s σ H _ I h) fun us s1 ⟨vs,H1,I1,r,q⟩=>⟨I1.kIn,?_⟩) he IZ;exact B1 F hr hb hd hx I1 r q
end
def PK(X:Cx)(O4:List Keyword)(t:TA):Prop:=
 ∀(pos:Pos) (pr:List (Addr×Obj)) (s:Shared) (σ:St) (H:Hp) (Q:List V->Hp->Prop),Inv X pr σ H s->t σ H Q->wpAny (model X.prog X.w) X.A (evalAll ((backToKw pos (keywordEach O4 X.env)).map (·.2))) (AP X pr σ Q) X.xe s
section
variable{X:Cx}{CX:Lx}{k:Nat}{f C:Addr}{fd:FuncData}{ps ks:List Str}{sp:Sp}{E:XK}{x m:Str}{p pos apos Lf:Pos}{e o:Expr}{es:List Expr}{O4:List Keyword}{te ta:TE}{t tk:TA}{nm:Option Str}
theorem B2:PK X [] Ef:=fun _ _ _ _ H Q I h=>wpAny_evalAll_nil ⟨[],H,I,.nil,h⟩
theorem zb(ha:PE X e te)(hr:PK X O4 t):PK X (⟨nm,e,Lf⟩::O4) (wY te t):=by
 intro pos pr s σ H Q I h;show wpAny _ _ (evalAll ((do let v <-eval e X.env;standAt pos;pure v)::(backToKw pos (keywordEach O4 X.env)).map (·.2))) _ _ s;refine wpAny_evalAll_cons (SH (HA (ha pr s σ H _ I h) fun u s1 ⟨x,H1,I1,r1,q1⟩=>SH (W8 (SO ?_))));exact HA (hr pos pr s1 σ H1 _ I1 q1) fun us s2 ⟨xs,H2,I2,r2,q2⟩=>⟨x::xs,H2,I2,.cons r1 r2,q2⟩
variable{g:List Value->List Value->List Value}{gV:List V->List V->List V}
end
structure FnScope(N P:List Str)(sc:Scope):Prop where
 kind:sc.kind=.function
 co:sc.isCoroutine=false
 gen:sc.isGenerator=false
 nd:N.Nodup
 pre:N.take P.length=P
 par:∀x∈P,sc.names.lookup x=some .local\/sc.names.lookup x=some .cell
 nofree:∀y∈sc.names,y.2≠.free
theorem fs{N P:List Str}{sc:Scope}(a:sc.kind=.function:=by rfl)(b:sc.isCoroutine=false:=by rfl)(c:sc.isGenerator=false:=by rfl)(d:N.Nodup:=by decide +kernel)(e:N.take P.length=P:=by rfl)(f:∀x∈P,sc.names.lookup x=some .local\/sc.names.lookup x=some .cell:=by decide +kernel)(g:∀y∈sc.names,y.2≠.free:=by decide +kernel):FnScope N P sc:=⟨a,b,c,d,e,f,g⟩
theorem nY{kindOf:Str->Option NameKind}{x:Str}:∀{binds:List (Str×Value)}{m:Str->Option Value},(∀v,(x,v)∉binds)->bindL kindOf binds m x=m x
 |[],_,_=>rfl
 |(n,v)::r,m,h=>by
  unfold bindL;rw[nY fun w hw=>h w (SM _ hw)];split
  ·have:x≠n:=by rintro rfl;exact h v SI
   simp[this]
  ·rfl
theorem nZ{kindOf:Str->Option NameKind}{x:Str}:∀{binds:List (Str×Value)}{m:Str->Option Value},(∀v,(x,v)∉binds)->bindC kindOf binds m x=m x
 |[],_,_=>rfl
 |(n,v)::r,m,h=>by
  unfold bindC;rw[nZ fun w hw=>h w (SM _ hw)];split
  ·rfl
  ·have:x≠n:=by rintro rfl;exact h v SI
   simp[this]
theorem og{kindOf:Str->Option NameKind}{x:Str}{v:Value}:∀{P:List Str}{vs:List Value}{i:Nat}{m:Str->Option Value},P.Nodup->P[i]?=some x->vs[i]?=some v->kindOf x=some .local->
  bindL kindOf (P.zip vs) m x=some v
 |[],_,_,_,_,h,_,_=>by simp at h
 |_::_,[],_,_,_,_,h,_=>by simp at h
 |p::P,w::vs,0,m,nd,h1,h2,hk=>by
  simp at h1 h2;subst h1;subst h2;show bindL kindOf ((p,w)::P.zip vs) m p=_;unfold bindL;rw[nY fun v hv=>(Tf.mp nd).1 (UL hv).1,SU hk];simp
 |p::P,w::vs,i+1,m,nd,h1,h2,hk=>by
  show bindL kindOf ((p,w)::P.zip vs) m x=_;unfold bindL;exact og (i:=i) (Tf.mp nd).2 (by simpa using h1) (by simpa using h2) hk
theorem oh{kindOf:Str->Option NameKind}{x:Str}{v:Value}:∀{P:List Str}{vs:List Value}{i:Nat}{m:Str->Option Value},P.Nodup->P[i]?=some x->vs[i]?=some v->kindOf x≠some .local->
  bindC kindOf (P.zip vs) m x=some v
 |[],_,_,_,_,h,_,_=>by simp at h
 |_::_,[],_,_,_,_,h,_=>by simp at h
 |p::P,w::vs,0,m,nd,h1,h2,hk=>by
  simp at h1 h2;subst h1;subst h2;show bindC kindOf ((p,w)::P.zip vs) m p=_;unfold bindC;rw[nZ fun v hv=>(Tf.mp nd).1 (UL hv).1,SX hk];simp
 |p::P,w::vs,i+1,m,nd,h1,h2,hk=>by
  show bindC kindOf ((p,w)::P.zip vs) m x=_;unfold bindC;exact oh (i:=i) (Tf.mp nd).2 (by simpa using h1) (by simpa using h2) hk
def j8(N:List Str)(vs:List V):St:=vs.map some++List.replicate (N.length-vs.length) none
noncomputable def wH(CX:Lx)(P:Program)(w:World)(K:W.Frag)(mg:Str->Option Value)(base:Heap)(N:List Str)(qual:Str)(scope:Scope)(f:Addr)(cd:Value)(A:Around)(outer:List Env)(s:Shared)(H:Hp)(E:XK):Cx where
 prog:=P
 w:=w
 K:=K
 mg:=mg
 base:=base
 A:=A.deeper (envOfC qual scope s.heap.objs.size f cd)
 N:=N
 s₀:=s
 H₀:=H
 env:=envOfC qual scope s.heap.objs.size f cd
 outer:=outer
 stack:=envOfC qual scope s.heap.objs.size f cd::outer
 ex:=[]
 calm:=true
 fn:=fun _=>true
 pn:=[]
 xe:=fun e s'=>wpAny (model P w) (A.deeper (envOfC qual scope s.heap.objs.size f cd)) (leaving (envOfC qual scope s.heap.objs.size f cd) e) (fun _ QV=>CX outer H s E e QV) (fun e' QV=>CX outer H s E e' QV) s'
theorem qB{sc:Scope}{n:Nat}{x:Str}(h:sc.names.lookup x=some .cell):∃c,(cellsFrom n sc.names []).lookup x=some c:=by
 have q:=Wr sc.names n [] (.inl h);exact TF.mp q
theorem ud{CX:Lx}{P:Program}{w:World}{K:W.Frag}{mg:Str->Option Value}{base:Heap}{N ps:List Str}{qual:Str}{scope:Scope}{f:Addr}{cd:Value}{A:Around}{outer:List Env}{s s1:Shared}{H:Hp}{E:XK}{us:List Value}{vs:List V}
  (S:FnScope N ps scope) (hd:A.handled=none) (e0:Env0 P w K mg base A outer s H) (hl:vs.length=ps.length) (r:Vals vs us)
  (x:InCallC s s.heap.objs.size (bindL (envOfC qual scope s.heap.objs.size f cd).kindOf (ps.zip us) fun _=>none) (cellsFrom (s.heap.objs.size+1) scope.names []) (bindC (envOfC qual scope s.heap.objs.size f cd).kindOf (ps.zip us) fun _=>none) s1):
  Inv (wH CX P w K mg base N qual scope f cd A outer s H E) [] (j8 N vs) H s1:=by
 have IZ:ps.length<=N.length:=by have:=T3 List.length S.pre;rw[TC]at this;lia
 obtain⟨h1,tk,rfl,hk⟩:=x.done;have O5:∀b:Addr,b∉(wH CX P w K mg base N qual scope f cd A outer s H E).ex:=fun b z=>absurd (show b∈([]:List Addr) from z) (by simp)
 refine⟨⟨e0.mod,S.kind,rfl,rfl,SS _,fun y z c h1 h2=>?_,fun y hy=>?_,fun y c _ h=>?_,fun _=>hd,Around.frames_deeper e0.frames,.inr ⟨rfl,rfl⟩,fun b z=>absurd z (O5 b),e0.bs,e0.bsz,fun b _ _=>O5 b,fun b z=>absurd z (O5 b),e0.funs,e0.frf⟩,
  rfl,e0.bare,Un.kept hk,⟨_,x.toInCall.ns,fun i y v h1 h2 h3=>?_⟩,fun y c h=>⟨_,x.cell y c h⟩,e0.hok.fresh (SS _),fun y c h=>?_,fun p hp=>absurd (show p∈([]:List (Addr×Obj)) from hp) (by simp),e0.hok.kept hk,?_⟩
 ·exact name_of_addr x.apart (Ux h1) (Ux h2)
 ·have hy:scope.names.lookup y=some .cell\/scope.names.lookup y=some .free:=hy;rcases hy with hy|hy
  ·exact qB hy
  ·exact absurd rfl (S.nofree _ (Ux hy))
 ·exact WA (x.above y c (Ux h))
 ·have hi:i<vs.length:=by
   unfold j8 at h2;by_cases hi:i<vs.length
   ·exact hi
   ·rw[List.getElem?_append_right (by simpa using hi)]at h2;rw[List.getElem?_replicate]at h2;split at h2 <;> cases h2
  have ha:vs[i]?=some v:=by
   unfold j8 at h2;rw[List.getElem?_append_left (by simpa using hi),List.getElem?_map]at h2;cases e:vs[i]? with
   |none=>rw[e]at h2;cases h2
   |some a=>rw[e]at h2;cases h2;rfl
  obtain⟨u,hu,rv⟩:=r.get ha;have hp:ps[i]?=some y:=by
   rw[<-S.pre,List.getElem?_take_of_lt (by lia)];exact h1
  have RY:ps.Nodup:=by rw[<-S.pre];exact S.nd.sublist (V7 _ _)
  refine⟨u,rv,?_⟩;rcases S.par y (Ta hp) with k|k
  ·exact .inl ⟨k,og RY hp hu k⟩
  ·obtain⟨c,e⟩:=qB (n:=s.heap.objs.size+1) k;refine .inr ⟨.inl k,c,e,?_⟩;have q:=x.cell y c e;rw[oh RY hp hu (by show scope.names.lookup y≠_;rw[k];decide)]at q;exact q
 ·exact e0.hok.fresh (WA (x.above y c (Ux h)))
 ·unfold j8;show _=N.length;rw[To,SJ,List.length_replicate];lia
theorem EG{CX:Lx}{P:Program}{w:World}{K:W.Frag}{mg:Str->Option Value}{base:Heap}{k:Nat}{f:Addr}{name qual:Str}{params:Arguments}{body:List Stmt}{scope:Scope}{dV kV doc pm HG ct oc:Value}{an od:Option Addr}
  {Me:Array (Option Value)}{N ps:List Str}{sp:Sp}(lk:K.lookup f=some ⟨oc,od,.func (PySem.W.fnOf name qual params body scope dV kV doc pm an HG ct),Me⟩) (LC:PySem.W.codeIn K HG qual=true) (S:FnScope N ps scope)
  (len:∀vs H Q E,sp vs H Q E->vs.length=ps.length)
  (LD:∀(A:Around) (outer:List Env) (s:Shared) (H:Hp) (vs:List V) (Q:VK) (E:XK),Room k (A.deeper (envOfC qual scope s.heap.objs.size f HG))->sp vs H Q E->
   ∃t,PSs (wH CX P w K mg base N qual scope f HG A outer s H E) body t/\t {nx:=fun _ H'=>Q .non H',rt:=Q} (j8 N vs) H):
  FnOk P w K mg base CX (k+1) f (PySem.W.fnOf name qual params body scope dV kV doc pm an HG ct) ps sp:=by
 refine⟨len,fun A outer s H args us vs Q E hr e0 hb r LF=>?_⟩;have hl:=len _ _ _ _ LF;have KX:K.In s.heap:=e0.mod.kin.keeps fun b o e=>(e0.bs b o e).1
 have lim:s.heap.NoLimit:=e0.mod.nolimit.keeps fun b o e=>(e0.bs b o e).1
 have JI:∀y∈ps.zip us,scope.names.lookup y.1=some .local\/(scope.names.lookup y.1=some .cell/\((cellsFrom (s.heap.objs.size+1) scope.names []).lookup y.1).isSome=true):=fun Hs hy=>by
  obtain⟨n,v⟩:=Hs;rcases S.par n (UL hy).1 with q|q
  ·exact .inl q
  ·exact .inr ⟨q,Wr _ _ _ (.inl q)⟩
 refine codeAny_call_function hr.depth (KX _ _ lk) rfl S.co S.gen rfl (PySem.W.codeRec_of KX LC) (hb _ _ _ _ ?_);refine wpAny_newFunctionEnv_cells S.kind JI fun env he s1 x=>?_
 subst he;refine⟨lim.keeps x.toInCall.keep,codeAny_func ?_⟩;obtain⟨t,ht,hq⟩:=LD A outer s H vs Q E (hr.deeper _) LF;have I:Inv (wH CX P w K mg base N qual scope f HG A outer s H E) [] (j8 N vs) H s1:=ud S hr.hd e0 hl r x;refine Vg (ht [] s1 (j8 N vs) H _ I hq) (fun fl s' hs=>?_) fun e s' hs=>hs
 have fin:∀{σ':St}{H':Hp}{v:V}{u:Value},Inv (wH CX P w K mg base N qual scope f HG A outer s H E) [] σ' H' s'->RelV v u->Q v H'->CE outer P w H s Q u s':=
  fun{σ' H' v u} J rv q=>⟨v,H',J.os,J.bare,J.base,J.hok,rv,q⟩
 cases fl with
 |ret u=>
  obtain⟨v,σ',H',J,rv,q⟩:=hs;exact fin J rv q
 |next=>
  obtain⟨σ',H',J,q⟩:=hs;exact fin (v:=V.non) (u:=Value.none) J rfl q
 |brk=>
  obtain⟨_,_,_,q⟩:=hs;exact False.elim q
 |cont=>
  obtain⟨_,_,_,q⟩:=hs;exact False.elim q
section
variable{X:Cx}{x:Str}{p pos:Pos}{e:Expr}{es:List Expr}{t:TA}{id T:String}{r:List V->Hp->VK->Prop}
def QX(r:List V->Hp->VK->Prop)(t:TA):TE:=fun σ H Q=>t σ H fun vs H1=>r vs H1 Q
theorem qC(hc:dm X (.builtin id) r)(hg:Gl X x)(hm:X.mg x=none)(hv:bootBuiltins x=some (.builtin id))(ha:PA X (e::es) t)(hn:x≠"__name__":=by decide)(JA:(x==("__debug__" : Str))=false:=by decide)
  (he:starEach (e::es) X.env=(false,eval e X.env)::starEach es X.env:=by rfl) (IZ:(backTo pos (starEach es X.env)).any (·.1)=false:=by rfl):PE X (.Call (.Name x p) (e::es) [] pos) (QX r t):=by
 intro pr s σ H Q I h;refine UZ (kA I hg hm hv ?_ hn JA);exact PyProof.Rows.callWith_builtin1 (HA (ha pos pr s σ H _ I h) fun us s1 ⟨vs,H1,I1,r1,q1⟩=>hc pr s1 σ H1 vs us Q I1 r1 q1) he IZ
theorem ue(hc:dm X (.type T) r)(hg:Gl X x)(hm:X.mg x=none)(hv:bootBuiltins x=some (.type T))(ha:PA X (e::es) t)(hn:x≠"__name__":=by decide)(JA:(x==("__debug__" : Str))=false:=by decide)
  (he:starEach (e::es) X.env=(false,eval e X.env)::starEach es X.env:=by rfl) (IZ:(backTo pos (starEach es X.env)).any (·.1)=false:=by rfl):PE X (.Call (.Name x p) (e::es) [] pos) (QX r t):=by
 intro pr s σ H Q I h;refine UZ (kA I hg hm hv ?_ hn JA);exact Uw (HA (ha pos pr s σ H _ I h) fun us s1 ⟨vs,H1,I1,r1,q1⟩=>hc pr s1 σ H1 vs us Q I1 r1 q1) he IZ
end
end L2
namespace HT
open PySem PyProof.Rows
section
open PySem.SeqAt
open PySem.AutoSeq1 (wpAny_loadPart')
open PySem.MeetsSeq PySem.MeetsSeq2 PySem.MeetsSeq3
end
section
variable{prog:Program}{w:World}{A:Around}{E:Value->Shared->Prop}{s:Shared}
theorem zc{t b:Addr}{vs ws:List Value}{Q:Value->Shared->Prop}(ht:IsTup s.heap t vs.toArray)(hb:IsTup s.heap b ws.toArray)(hv:vs≠[])
  (h1:ws=[]->Q (.ref t) s) (h2:ws≠[]->Q (.ref s.heap.objs.size) {s with heap:=s.heap.push {cls:=.type "tuple",data:=.seq (vs++ws).toArray}})
  (hsz:vs.length+ws.length<=sizeLine):wpAny (model prog w) A (binaryOp .Add (.ref t) (.ref b)) Q E s:=by
 obtain⟨⟨cls,dd,data,sl⟩,ho,hc,n,hd⟩:=id ht;obtain⟨⟨Mo,K5,data2,K6⟩,Jd,Ko,n2,hd2⟩:=id hb;simp only at hc hd Ko hd2;subst hc hd Ko hd2;have e:vs.toArray++ws.toArray=(vs++ws).toArray:=by simp
 by_cases hw:ws=[]
 ·exact WC ⟨_,ho,rfl⟩ ⟨_,Jd,rfl⟩ Wm W9 Vr Vk (Vh _ _)
   (tuple_addW1 t b vs.toArray ws.toArray n n2 dd K5 sl K6 (by simpa using hv) (by simp[hw])) ⟨ho,Jd,h1 hw⟩
 ·refine WC ⟨_,ho,rfl⟩ ⟨_,Jd,rfl⟩ Wm W9 Vr Vk (Vh _ _)
   (tuple_addW2 t b vs.toArray ws.toArray n n2 dd K5 sl K6 (by simpa using hv) (by simpa using hw) (by rw[SQ,SQ];exact hsz)) ⟨ho,Jd,?_⟩
  rw[e];exact h2 hw
def sIx(n d:Nat):Option Int->Nat
 |none=>d
 |some v=>if v<0 then(v+(n:Int)).toNat else min v.toNat n
theorem qD(n d:Nat):sIx n d none=d:=rfl
theorem mx(n d k:Nat):sIx n d (some (k:Int))=min k n:=by
 show(if(k:Int)<0 then((k:Int)+(n:Int)).toNat else min (k:Int).toNat n)=min k n;rw[SX (by lia),TR]
theorem uf(n d:Nat)(hd:d<=n)(o:Option Int):sIx n d o<=n:=by
 cases o with
 |none=>exact hd
 |some v=>
  show(if v<0 then(v+(n:Int)).toNat else min v.toNat n)<=n;by_cases hv:v<0
  ·rw[SU hv];lia
  ·rw[SX hv];exact Nat.min_le_right _ _
theorem ug(v:Int)(n d:Nat):(if v<0 then max (v+(n:Int)) 0 else min v (n:Int))=((sIx n d (some v):Nat):Int):=by
 show(if v<0 then max (v+(n:Int)) 0 else min v (n:Int))=(((if v<0 then(v+(n:Int)).toNat else min v.toNat n):Nat):Int)
 by_cases hv:v<0
 ·simp only[SU hv];lia
 ·simp only[SX hv];lia
theorem su(lo hi:Option Int)(n:Nat):Builtin.Slice.sliceAdjust lo hi 1 (n:Int)=(((sIx n 0 lo:Nat):Int),((sIx n n hi:Nat):Int)):=by
 have h1:¬ ((1:Int)<0):=by lia
 unfold Builtin.Slice.sliceAdjust;simp only[h1,Vl];refine Prod.ext ?_ ?_
 ·cases lo with
  |none=>rfl
  |some v=>exact ug v n 0
 ·cases hi with
  |none=>rfl
  |some v=>exact ug v n n
theorem sv(i j:Nat):Builtin.Slice.slicePlaces (i:Int) (j:Int) 1=j-i:=by
 unfold Builtin.Slice.slicePlaces;have h1:(1:Int)>0:=by lia
 simp only[h1,Vm,Int.ediv_one];split <;> lia
theorem lS{v:Value}{o:Option Int}{Q:Option Int->Shared->Prop}(p:IsPart v o)(h:Q o s):wpAny (model prog w) A (Builtin.Slice.slicePartIndex v) Q E s:=by
 cases p with
 |none=>exact slicePart_none h
 |int i t=>exact slicePart_int h
theorem fY{sl:Addr}{vl vu:Value}{lo hi:Option Int}{n:Nat}{Q:Int×Int×Nat->Shared->Prop}(hs:s.heap.IsSliceOf sl vl vu .none)(pl:IsPart vl lo)(pu:IsPart vu hi)
  (h:Q (((sIx n 0 lo:Nat):Int),1,sIx n n hi-sIx n 0 lo) s):wpAny (model prog w) A (Builtin.Slice.sliceApplied (.ref sl) (pure (n:Int))) Q E s:=by
 obtain⟨os,Mp,Qm,Ny⟩:=id hs;unfold Builtin.Slice.sliceApplied Builtin.Slice.sliceFields;refine SH (SH (T6 Mp Ny (x:=vl) rfl (SH (T6 Mp Ny (x:=vu) rfl (SH (T6 Mp Ny (x:=.none) rfl (SO ?_)))))));refine SH (slicePart_none ?_);show wpAny _ _ (if((1:Int)==0)=true then _ else _) _ _ s;rw[SX (by decide)];refine SH (lS pl (SH (lS pu (SH (SO ?_)))));show wpAny _ _ (match Builtin.Slice.sliceAdjust lo hi 1 (n:Int) with|(lo,hi)=>pure (lo,(1:Int),Builtin.Slice.slicePlaces lo hi 1)) _ _ s;rw[su lo hi n];show wpAny _ _ (pure (((sIx n 0 lo:Nat):Int),(1:Int),Builtin.Slice.slicePlaces ((sIx n 0 lo:Nat):Int) ((sIx n n hi:Nat):Int) 1)) _ _ s;rw[sv];exact SO h
theorem wZ(xs:Array Value)(i k:Nat):((List.range k).filterMap fun(m:Nat)=>xs[((i:Int)+(m:Int)*1).toNat]?).toArray=((xs.toList.drop i).take k).toArray:=by
 have e:(fun(m:Nat)=>xs[((i:Int)+(m:Int)*1).toNat]?)=fun m=>xs[i+m]?:=by
  funext m
  have:((i:Int)+(m:Int)*1).toNat=i+m:=by lia
  rw[this]
 rw[e];have:=pick_run xs i k;rw[List.filterMap_map]at this;have e2:((fun x=>xs[x]?)∘fun x=>i+x)=fun m=>xs[i+m]?:=rfl
 rw[e2]at this;rw[this]
theorem jC{t sl:Addr}{items:Array Value}{vl vu:Value}{lo hi:Option Int}{Q:Value->Shared->Prop}(ht:IsTup s.heap t items)(hs:s.heap.IsSliceOf sl vl vu .none)(pl:IsPart vl lo)(pu:IsPart vu hi)
  (hw:¬ (sIx items.size 0 lo=0/\sIx items.size items.size hi=items.size))
  (h:Q (.ref s.heap.objs.size) {s with heap:=s.heap.push {cls:=.type "tuple",data:=.seq ((items.toList.drop (sIx items.size 0 lo)).take (sIx items.size items.size hi-sIx items.size 0 lo)).toArray}})
  (hsz:items.size<=sizeLine):wpAny (model prog w) A (getItem (.ref t) (.ref sl)) Q E s:=by
 have K7:sizeOk (.seq ((items.toList.drop (sIx items.size 0 lo)).take (sIx items.size items.size hi-sIx items.size 0 lo)).toArray):=by
  show((items.toList.drop (sIx items.size 0 lo)).take (sIx items.size items.size hi-sIx items.size 0 lo)).toArray.size<=sizeLine;rw[SQ,TC,UU,TZ];lia
 have hj:sIx items.size items.size hi<=items.size:=uf _ _ (SS _) hi;obtain⟨os,Mp,Qm,Ny⟩:=id hs;have QY:s.TypeIs (.ref sl) "slice":=⟨os,Mp,Qm⟩
 unfold getItem;try with_reducible refine UE ?_
 first|refine SH (SO ?_)|skip
 refine SH (wpAny_sequenceKey ht.typeIs (by decide) ?_);refine SH (wpAny_callSpecial?_slot (name:=Str.ofString "__getitem__") ht.typeIs Uc
  (TQ Uc ht.typeIs entry_tuple_getitem ?_ (args_tuple_getitem _ _)))
 show wpAny _ _ (Builtin.Tuple.tupleItemsOf (.ref t) >>= _) _ _ s;refine SH (tupleItemsOf_ ht ?_);refine SH (Vi QY ?_);rw[SU (by decide)];refine SH (fY hs pl pu ?_);have RZ:¬ ((((sIx items.size 0 lo:Nat):Int)==0&&(1:Int)==1&&(sIx items.size items.size hi-sIx items.size 0 lo)==items.size)=true):=by
  intro q;rw[SY,SY]at q;have q1:((sIx items.size 0 lo:Nat):Int)=0:=eq_of_beq q.1.1;have q2:sIx items.size items.size hi-sIx items.size 0 lo=items.size:=eq_of_beq q.2;exact hw ⟨by lia,by lia⟩
 show wpAny _ _ (if(((sIx items.size 0 lo:Nat):Int)==0&&(1:Int)==1&&(sIx items.size items.size hi-sIx items.size 0 lo)==items.size)=true then _ else _) _ _ s;rw[SX RZ,wZ];first
  |exact SH (m:=Builtin.Tuple.tupleExact _) (TK (SO ⟨_,rfl,SO h⟩) K7)
  |exact SH (m:=Builtin.Tuple.tupleExact _) (TK (SH (SO (SO ⟨_,rfl,SO h⟩))) K7)
  |exact SH (SH (m:=Builtin.Tuple.tupleExact _) (TK (SO (SO ⟨_,rfl,SO h⟩)) K7))
  |exact SH (SH (m:=Builtin.Tuple.tupleExact _) (TK (SO ⟨_,rfl,SO h⟩) K7))
end
end HT
namespace L2
open PySem PySem.Spec PyProof.Rows
abbrev TO:=St->Hp->(Option Int->Hp->Prop)->Prop
def PO(X:Cx)(e:Option Expr)(t:TO):Prop:=
 ∀(pr:List (Addr×Obj)) (s:Shared) (σ:St) (H:Hp) (Q:Option Int->Hp->Prop),Inv X pr σ H s->t σ H Q->
  wpAny (model X.prog X.w) X.A (evalPart e X.env) (fun u s'=>∃o H',Inv X pr σ H' s'/\IsPart u o/\Q o H') X.xe s
def zd:TO:=fun _ H Q=>Q none H
def EH(t:TE):TO:=fun σ H Q=>t σ H fun x H1=>∃i,x=.int i/\Q (some i) H1
section
variable{X:Cx}{e:Expr}{te:TE}{lo hi:Option Expr}{tl th:TO}{pos p2:Pos}
theorem ze:PO X none zd:=by
 intro pr s σ H Q I h;rw[evalPart_none];exact SO ⟨none,H,I,.none,h⟩
theorem zf(h:PE X e te):PO X (some e) (EH te):=by
 intro pr s σ H Q I hw;rw[evalPart_some];refine HA (h pr s σ H _ I hw) fun u s1 HD=>?_
 obtain⟨x,H1,I1,r1,q1⟩:=HD;obtain⟨i,rfl,q⟩:=q1;obtain⟨t,rfl⟩:=r1;exact⟨some i,H1,I1,.int i t,q⟩
def Nz(X:Cx)(r:V->Option Int->Option Int->Hp->VK->Prop):Prop:=
 ∀(pr:List (Addr×Obj)) (s:Shared) (σ:St) (H:Hp) (x:V) (v vl vu:Value) (lo hi:Option Int) (sl:Addr) (Q:VK),Inv X pr σ H s->RelV x v->s.heap.IsSliceOf sl vl vu .none->IsPart vl lo->IsPart vu hi->r x lo hi H Q->
  ∃T id,typeLookup (.type T) "__getitem__" = pure (some (.builtin id))/\s.TypeIs v T/\wpAny (model X.prog X.w) X.A (getItem v (.ref sl)) (EP X pr σ Q) X.xe s
def tSl(r:V->Option Int->Option Int->Hp->VK->Prop)(te:TE)(tl th:TO):TE:=fun σ H Q=>te σ H fun x H1=>tl σ H1 fun l H2=>th σ H2 fun u H3=>r x l u H3 Q
theorem w5{r:V->Option Int->Option Int->Hp->VK->Prop}(hr:Nz X r)(he:PE X e te)(hl:PO X lo tl)(hu:PO X hi th):PE X (.Subscript e (.Slice lo hi none p2) pos) (tSl r te tl th):=by
 intro pr s σ H Q I h;refine Subscript_ (HA (he pr s σ H _ I h) fun v s1 HD=>?_);obtain⟨x,H1,I1,r1,q1⟩:=HD;refine wpAny_Slice (HA (hl pr s1 σ H1 _ I1 q1) fun vl s2 ⟨l,H2,I2,pl,q2⟩=>HA (hu pr s2 σ H2 _ I2 q2) fun vu s3 HD=>?_);obtain⟨u,H3,I3,pu,q3⟩:=HD;rw[evalPart_none];refine SO ?_;have I4:Inv X pr σ H3 {s3 with heap:=s3.heap.push {cls:=.type "slice",data:=.fields #[vl,vu,.none]}}:=I3.kept (t':=s3.toks) fun b ob q=>Heap.get?_push_of_some _ q
 obtain⟨T,id,hT,ht,hg⟩:=hr pr {s3 with heap:=s3.heap.push {cls:=.type "slice",data:=.fields #[vl,vu,.none]}} σ H3 x v vl vu l u s3.heap.objs.size Q I4 r1 (Heap.IsSliceOf.new ..) pl pu q3;show wpAny (model X.prog X.w) X.A (subscriptTail e (.Slice lo hi none p2) v (.ref s3.heap.objs.size)) (EP X pr σ Q) X.xe {s3 with heap:=s3.heap.push {cls:=.type "slice",data:=.fields #[vl,vu,.none]}};exact tail_any (ops:=[.ref s3.heap.objs.size,v]) ht hT hg (by with_unfolding_all rfl)
def yn(xs:List V)(lo hi:Option Int):List V:=(xs.drop (HT.sIx xs.length 0 lo)).take (HT.sIx xs.length xs.length hi-HT.sIx xs.length 0 lo)
theorem kB(xs:List V)(lo hi:Option Int):(yn xs lo hi).length<=xs.length:=by
 unfold yn;rw[TC,UU];lia
def Gx(K:W.Frag):V->Option Int->Option Int->Hp->VK->Prop:=fun x lo hi H Q=>∃a xs,x=.ref a/\SqT K H a xs/\
 ¬ (HT.sIx xs.length 0 lo=0/\HT.sIx xs.length xs.length hi=xs.length)/\∀p,H p=none->Q (.ref p) (upd H p (.tup (yn xs lo hi)))
theorem B6:Nz X (Gx X.K):=by
 intro pr s σ H x v vl vu lo hi sl Q I rx hs pl pu h;obtain⟨a,xs,rfl,hx,hw,q⟩:=h;cases rx;obtain⟨Hj,r,ht,hz⟩:=I.tuple hx;have hlen:Hj.toArray.size=xs.length:=by rw[SQ];exact r.length.symm
 refine⟨"tuple",_,PyProof.Rows.slot_tuple_getitem.lookup,ht.typeIs,?_⟩;refine HT.jC ht hs pl pu (by rw[hlen];exact hw) ?_ (by rw[hlen];exact hz);rw[hlen];refine⟨.ref s.heap.objs.size,_,I.laid (t':=s.toks) (o:=.tup (yn xs lo hi)) (fun b ob q=>Heap.get?_push_of_some _ q) (SS _) ?_,rfl,q _ (I.hok.fresh (SS _))⟩;exact⟨Td (kB xs lo hi) hz,_,(r.drop (HT.sIx xs.length 0 lo)).take (HT.sIx xs.length xs.length hi-HT.sIx xs.length 0 lo),IsTupN.new _ _⟩
def EI(K:W.Frag):R2:=fun x y H Q=>∃a b xs ys,x=.ref a/\y=.ref b/\SqT K H a xs/\SqT K H b ys/\xs≠[]/\xs.length+ys.length<=sizeLine/\
 (ys=[]->Q (.ref a) H)/\(ys≠[]->∀p,H p=none->Q (.ref p) (upd H p (.tup (xs++ys))))
theorem Vals.nil_iff{xs:List V}{us:List Value}(r:Vals xs us):us=[]<->xs=[]:=by
 cases r with
 |nil=>simp
 |cons _ _=>simp
theorem zg:HX X (binaryOp .Add) (EI X.K):=by
 intro pr s σ H x y v u Q I rx ry h;obtain⟨a,b,xs,ys,rfl,rfl,ha,hb,hx,hz,q1,q2⟩:=h;cases rx;cases ry;obtain⟨Hj,r1,p1,_⟩:=I.tuple ha;obtain⟨KG,r2,p2,_⟩:=I.tuple hb;refine HT.zc p1 p2 (fun z=>hx (r1.nil_iff.mp z)) (fun z=>⟨.ref a,H,I,rfl,q1 (r2.nil_iff.mp z)⟩) (fun z=>?_) (by rw[<-r1.length,<-r2.length];exact hz);refine⟨.ref s.heap.objs.size,_,I.laid (t':=s.toks) (o:=.tup (xs++ys)) (fun b ob q=>Heap.get?_push_of_some _ q) (SS _) ?_,rfl,q2 (fun w=>z (r2.nil_iff.mpr w)) _ (I.hok.fresh (SS _))⟩;exact⟨by rw[To];exact hz,_,r1.append r2,IsTupN.new _ _⟩
end
def ixN(n:Nat)(i:Int):Option Nat:=if 0<=i then(if i<n then some i.toNat else none) else if -(n:Int)<=i then some (i+n).toNat else none
def Iy{α:Type}(xs:List α)(i:Int):Option α:=(ixN xs.length i).bind fun j=>xs[j]?
theorem uh{n:Nat}{i:Int}{j:Nat}(h:ixN n i=some j):seqIndex? i n=some j/\j<n/\-(n:Int)<=i/\i<n:=by
 unfold ixN at h;by_cases h0:0<=i
 ·rw[SU h0]at h;by_cases h1:i<n
  ·rw[SU h1]at h;have e:i.toNat=j:=Tc h;exact⟨by rw[seqIndex_of h0 h1,e],by lia,by lia,h1⟩
  ·rw[SX h1]at h;cases h
 ·rw[SX h0]at h;by_cases h1:-(n:Int)<=i
  ·rw[SU h1]at h;have e:(i+n).toNat=j:=Tc h;exact⟨by rw[seqIndex_neg (by lia) h1,e],by lia,h1,by lia⟩
  ·rw[SX h1]at h;cases h
theorem pU{α:Type}{xs:List α}{i:Int}{v:α}(h:Iy xs i=some v):∃j,seqIndex? i xs.length=some j/\xs[j]?=some v/\j<xs.length/\-(xs.length:Int)<=i/\i<xs.length:=by
 unfold Iy at h;cases e:ixN xs.length i with
 |none=>rw[e]at h;cases h
 |some j=>
  rw[e]at h;obtain⟨h1,h2,h3,h4⟩:=uh e;exact⟨j,h1,h,h2,h3,h4⟩
theorem eZ{α:Type}{xs:List α}{j:Nat}{v:α}(h:xs[j]?=some v):Iy xs (j:Int)=some v:=by
 have hj:j<xs.length:=(List.getElem?_eq_some_iff.mp h).1;have e:ixN xs.length (j:Int)=some j:=by
  unfold ixN;rw[SU (by lia),SU (by lia)];simp
 unfold Iy;rw[e];exact h
def uk(b:Expr):Prop:=∀o i,subscripted b false o i=operate [o,i] (getItem o i)
def O6(X:Cx)(r:R2):Prop:=
 ∀(value slice:Expr) (pr:List (Addr×Obj)) (s:Shared) (σ:St) (H:Hp) (x y:V) (v u:Value) (Q:VK),Inv X pr σ H s->RelV x v->RelV y u->r x y H Q->
  subscripted slice false v u=operate [v,u] (getItem v u)->wpAny (model X.prog X.w) X.A (subscriptTail value slice v u) (EP X pr σ Q) X.xe s
def Nd(X:Cx)(id:String)(r:V->List V->Hp->VK->Prop):Prop:=
 ∀(pr:List (Addr×Obj)) (s:Shared) (σ:St) (H:Hp) (x:V) (xs:List V) (v:Value) (us:List Value) (Q:VK),Inv X pr σ H s->RelV x v->Vals xs us->r x xs H Q->
  wpAny (model X.prog X.w) X.A (call (.builtin id) (v::us)) (EP X pr σ Q) X.xe s
section
variable{X:Cx}{a b:Expr}{ta tb:TE}{pos:Pos}
theorem EJ{r:R2}(hr:O6 X r)(ha:PE X a ta)(hb:PE X b tb)(hs:uk b):PE X (.Subscript a b pos) (OK r ta tb):=by
 intro pr s σ H Q I h;exact Subscript_ (Ey ha hb I h fun v u s2 x y H2 I2 rx ry q=>hr a b pr s2 σ H2 x y v u Q I2 rx ry q (hs _ _))
def Gy(K:W.Frag):R2:=fun x y H Q=>∃p xs i v,x=.ref p/\y=.int i/\SqL K H p xs/\Iy xs i=some v/\Q v H
def Gz(K:W.Frag):R2:=fun x y H Q=>∃p xs i v,x=.ref p/\y=.int i/\SqT K H p xs/\Iy xs i=some v/\Q v H
def GA:R2:=fun x y H Q=>∃z i c,x=.str z/\y=.int i/\z.length<=sizeLine/\Iy z.cps.toList i=some c/\Q (.str ⟨#[c]⟩) H
theorem zh:O6 X (Gy X.K):=by
 intro value slice pr s σ H x y v u Q I rx ry h hs;obtain⟨p,xs,i,z,rfl,rfl,hq,he,q⟩:=h;cases rx;obtain⟨t,rfl⟩:=ry;obtain⟨Hj,r,pl,hz⟩:=I.list hq;obtain⟨j,h1,h2,h3,h4,h5⟩:=pU he;obtain⟨w,ew,Lg⟩:=r.get h2;have hl:=r.length;have hn:=lR;have fin:EP X pr σ Q w s:=⟨z,H,I,Lg,q⟩
 by_cases h0:0<=i
 ·have hj:i.toNat=j:=by
   rw[seqIndex_of h0 h5]at h1;exact Tc h1
  exact item_listR pl.isList h0 (by lia) (by rw[hj];simpa using ew) fin hs
 ·have hj:(i+(Hj.toArray.size:Int)).toNat=j:=by
   rw[seqIndex_neg (by lia) h4]at h1;rw[SQ,<-hl];exact Tc h1
  exact subscriptTail_builtinR (x:=w) pl.isList.typeIs slot_list_getitem.lookup
   (wpAny_getItem_list_neg (Q:=fun r s'=>r=w/\EP X pr σ Q r s') pl.isList (by lia) (by rw[SQ] <;> lia) (by lia) (by rw[hj];simpa using ew) ⟨rfl,fin⟩) hs
theorem B7:O6 X (Gz X.K):=by
 intro value slice pr s σ H x y v u Q I rx ry h hs;obtain⟨p,xs,i,z,rfl,rfl,hq,he,q⟩:=h;cases rx;obtain⟨t,rfl⟩:=ry;obtain⟨Hj,r,pl,hz⟩:=I.tuple hq;obtain⟨j,h1,h2,h3,h4,h5⟩:=pU he;obtain⟨w,ew,Lg⟩:=r.get h2;have hl:=r.length;have hn:=lR;have fin:EP X pr σ Q w s:=⟨z,H,I,Lg,q⟩
 exact subscriptTail_builtinR (x:=w) pl.typeIs slot_tuple_getitem.lookup
  (getItem_tuple (j:=j) (Q:=fun r s'=>r=w/\EP X pr σ Q r s') pl (by lia) (by lia) (by rw[SQ,<-hl];exact h1) (by simpa using ew) ⟨rfl,fin⟩) hs
theorem B8:O6 X GA:=by
 intro value slice pr s σ H x y v u Q I rx ry h hs;obtain⟨z,i,c,rfl,rfl,hz,he,q⟩:=h;obtain⟨t,rfl⟩:=rx;obtain⟨t',rfl⟩:=ry;obtain⟨j,h1,h2,h3,h4,h5⟩:=pU he;have hl:z.cps.toList.length=z.length:=by simp[Str.length]
 rw[hl]at h1 h4 h5;have hn:=lR;exact tail_any (WR s z t) slot_str_getitem.lookup (getItem_str (c:=c) (by
  have e1:decide (i < -(2 ^ 63:Int))=false:=Tb (by lia);have e2:decide (i>=2 ^ 63)=false:=Tb (by lia);rw[e1,e2,Bool.or_false]) (by rw[h1];simpa using h2) ⟨.str ⟨#[c]⟩,H,I.tok _,⟨_,rfl⟩,q⟩) hs
theorem sx(Hj:List Value)(n j:Nat)(u:Value):Obj.mapSeq (·.setIfInBounds j u) {cls:=.type "list",data:=.seq Hj.toArray n}={cls:=.type "list",data:=.seq (Hj.set j u).toArray n}:=by
 simp[Obj.mapSeq]
theorem Inv.lst{pr:List (Addr×Obj)}{σ:St}{H:Hp}{s:Shared}{p:Addr}{xs:List V}(I:Inv X pr σ H s)(h:H p=some (.lst xs)):
  ∃(Hj:List Value) (n:Nat),Vals xs Hj/\s.heap.get? p=some {cls:=.type "list",data:=.seq Hj.toArray n}/\xs.length<=sizeLine:=by
 obtain⟨z,Hj,n,r,e⟩:=I.hok p _ h;exact⟨Hj,n,r,e,z⟩
theorem Inv.lstUpd{pr:List (Addr×Obj)}{σ:St}{H:Hp}{s:Shared}{p:Addr}{xs ys:List V}{Hj its':List Value}{n n':Nat}{f:Obj->Obj}(I:Inv X pr σ H s)(h:H p=some (.lst xs))
  (ho:s.heap.get? p=some {cls:=.type "list",data:=.seq Hj.toArray n}) (hf:f {cls:=.type "list",data:=.seq Hj.toArray n}={cls:=.type "list",data:=.seq its'.toArray n'}) (r:Vals ys its') (hz:ys.length<=sizeLine) (t:Nat):
  Inv X pr σ (upd H p (.lst ys)) {s with heap:=s.heap.update p f,toks:=t}:=by
 have e:(s.heap.update p f).get? p=some {cls:=.type "list",data:=.seq its'.toArray n'}:=by
  rw[Heap.get?_update_self f ho (by rw[hf] <;> rfl),hf]
 refine I.write (x:=p) (e:=p) (by rw[h];trivial) (.inl rfl) (fun b u hb q=>(Heap.get?_update_other _ _ (Ub hb)).trans q) ⟨_,e⟩ ?_;exact⟨hz,its',n',r,e⟩
def B9:V->V->V->Hp->(Hp->Prop)->Prop:=fun o i v H Q=>∃p xs k j,o=.ref p/\i=.int k/\H p=some (.lst xs)/\ixN xs.length k=some j/\Q (upd H p (.lst (xs.set j v)))
theorem xa:Gk X B9:=by
 intro pr s σ H o i v ov iv u Q I ro ri rv h;obtain⟨p,xs,k,j,rfl,rfl,hp,hj,q⟩:=h;cases ro;obtain⟨t,rfl⟩:=ri;obtain⟨Hj,n,r,ho,hz⟩:=I.lst hp;obtain⟨h1,h2,h3,h4⟩:=uh hj;have hl:=r.length;have hn:=lR;have I':Inv X pr σ (upd H p (.lst (xs.set j v))) {s with heap:=s.heap.update p (Obj.mapSeq (·.setIfInBounds j u))}:=
  I.lstUpd hp ho (sx Hj n j u) (r.set rv j) (by rw[Tt];exact hz) s.toks
 by_cases h0:0<=k
 ·have hk:k.toNat=j:=by
   rw[seqIndex_of h0 h4]at h1;exact Tc h1
  exact PySem.W.ki_setAt ho h0 (by lia) (by rw[SQ,<-hl];exact h4) (by rw[hk];exact⟨_,I',q⟩)
 ·have hk:(k+(Hj.toArray.size:Int)).toNat=j:=by
   rw[seqIndex_neg (by lia) h3]at h1;rw[SQ,<-hl];exact Tc h1
  exact PySem.W.ki_setBack ho (by lia) (by rw[SQ,<-hl];exact h3) (by lia) (by rw[hk];exact⟨_,I',q⟩)
theorem oi(lo hi:Option Int)(n:Nat):(sliceBounds lo hi none n).1=((HT.sIx n 0 lo:Nat):Int)/\(sliceBounds lo hi none n).2.1=((HT.sIx n n hi:Nat):Int)/\(sliceBounds lo hi none n).2.2=1:=by
 refine⟨?_,?_,rfl⟩
 ·cases lo with
  |none=>simp[sliceBounds,HT.sIx]
  |some i=>
   simp only[sliceBounds,HT.sIx,UW,show(1:Int)>0 by decide,Vm];by_cases h:i<0
   ·simp only[h,Vm] <;> lia
   ·simp only[h,Vl] <;> lia
 ·cases hi with
  |none=>simp[sliceBounds,HT.sIx]
  |some i=>
   simp only[sliceBounds,HT.sIx,UW,show(1:Int)>0 by decide,Vm];by_cases h:i<0
   ·simp only[h,Vm] <;> lia
   ·simp only[h,Vl] <;> lia
theorem my(Hj:List Value)(lo hi:Option Int):slicePick Hj.toArray lo hi none=((Hj.drop (HT.sIx Hj.length 0 lo)).take (HT.sIx Hj.length Hj.length hi-HT.sIx Hj.length 0 lo)).toArray:=by
 obtain⟨h1,h2,h3⟩:=oi lo hi Hj.toArray.size;unfold slicePick;rw[h1,h2,h3];simp only[sliceRange_one,pick_run,SQ] <;> rfl
def GC(K:W.Frag):V->Option Int->Option Int->Hp->VK->Prop:=fun x lo hi H Q=>∃a xs,x=.ref a/\SqL K H a xs/\∀p,H p=none->Q (.ref p) (upd H p (.lst (yn xs lo hi)))
theorem zi:Nz X (GC X.K):=by
 intro pr s σ H x v vl vu lo hi sl Q I rx hs pl pu h;obtain⟨a,xs,rfl,hx,q⟩:=h;cases rx;obtain⟨Hj,r,ht,hz⟩:=I.list hx;have hlen:=r.length;refine⟨"list",_,slot_list_getitem.lookup,ht.isList.typeIs,?_⟩;refine V8 ht.isList hs pl pu .none (by simp) ?_ (by rw[SQ] <;> lia);rw[my,<-hlen];refine⟨.ref s.heap.objs.size,_,I.laid (t':=s.toks) (o:=.lst (yn xs lo hi)) (fun b ob q=>Heap.get?_push_of_some _ q) (SS _) ?_,rfl,q _ (I.hok.fresh (SS _))⟩;exact⟨Td (kB xs lo hi) hz,_,0,(r.drop (HT.sIx xs.length 0 lo)).take (HT.sIx xs.length xs.length hi-HT.sIx xs.length 0 lo),Heap.get?_push_size _ rfl⟩
def xb:V->Bool
 | .non=>true
 | .bl _=>true
 | .int _=>true
 | .str _=>true
 |_=>false
def QZ:V->V->Bool
 | .non,.non=>true
 | .bl a,.bl b=>a==b
 | .bl a,.int b=>(if a then 1 else 0)==b
 | .int a,.bl b=>a==(if b then 1 else 0)
 | .int a,.int b=>a==b
 | .str a,.str b=>a==b
 |_,_=>false
theorem yo{A:Around}{s:Shared}{y x:V}{u v:Value}(ry:RelV y u)(rx:RelV x v)(fy:xb y=true)(fx:xb x=true):SeqAt.EqAt A s u v (QZ y x):=by
 cases y with
 |non=>
  cases ry;cases x with
  |non=>cases rx;exact SeqAt.EqAt.same _
  |bl b=>cases rx;exact SeqAt.EqAt.none_bool b
  |int b=>obtain⟨t,rfl⟩:=rx;exact SeqAt.EqAt.none_int b t
  |str b=>obtain⟨t,rfl⟩:=rx;exact SeqAt.EqAt.none_str b t
  |_=>exact absurd (show false=true from fx) SN
 |bl a=>
  cases ry;cases x with
  |non=>cases rx;exact SeqAt.EqAt.bool_none a
  |bl b=>cases rx;exact SeqAt.EqAt.bool_bool a b
  |int b=>obtain⟨t,rfl⟩:=rx;exact SeqAt.EqAt.bool_int a b t
  |str b=>obtain⟨t,rfl⟩:=rx;exact SeqAt.EqAt.bool_str a b t
  |_=>exact absurd (show false=true from fx) SN
 |int a=>
  obtain⟨t',rfl⟩:=ry;cases x with
  |non=>cases rx;exact SeqAt.EqAt.int_none a t'
  |bl b=>cases rx;exact SeqAt.EqAt.int_bool a t' b
  |int b=>obtain⟨t,rfl⟩:=rx;exact SeqAt.EqAt.int_int a t' b t
  |str b=>obtain⟨t,rfl⟩:=rx;exact SeqAt.EqAt.int_str a t' b t
  |_=>exact absurd (show false=true from fx) SN
 |str a=>
  obtain⟨t',rfl⟩:=ry;cases x with
  |non=>cases rx;exact SeqAt.EqAt.str_none a t'
  |bl b=>cases rx;exact SeqAt.EqAt.str_bool a t' b
  |int b=>obtain⟨t,rfl⟩:=rx;exact SeqAt.EqAt.str_int a t' b t
  |str b=>obtain⟨t,rfl⟩:=rx;exact SeqAt.EqAt.str_str a t' b t
  |_=>exact absurd (show false=true from fx) SN
 |_=>exact absurd (show false=true from fy) SN
theorem jR:dm X (.builtin "len") (fun xs H Q=>∃p ys,xs=[.ref p]/\(SqL X.K H p ys\/SqT X.K H p ys)/\Q (.int ys.length) H):=by
 intro pr s σ H xs us Q I r h;obtain⟨p,ys,rfl,hq,q⟩:=h;obtain⟨u,rfl,rx⟩:=gk r;cases rx;have hn:=lR;rcases hq with hq|hq
 ·obtain⟨Hj,r',pl,hz⟩:=I.list hq;have hlen:=r'.length;exact Calls.call_len_list pl.isList (by simp only[SQ] <;> lia) ⟨.int ys.length,H,I.tok _,⟨s.toks+1,by rw[SQ,hlen]⟩,q⟩
 ·obtain⟨Hj,r',pl,hz⟩:=I.tuple hq;have hlen:=r'.length;exact len_tuple pl (by simp only[SQ] <;> lia) ⟨.int ys.length,H,I.tok _,⟨s.toks+1,by rw[SQ,hlen]⟩,q⟩
theorem oj:dm X (.builtin "len") (fun xs H Q=>∃z,xs=[.str z]/\z.length<=sizeLine/\Q (.int z.length) H):=by
 intro pr s σ H xs us Q I r h;obtain⟨z,rfl,hz,q⟩:=h;obtain⟨u,rfl,t,rfl⟩:=gk r;have hn:=lR;exact len_str (by lia) ⟨.int z.length,H,I.tok _,⟨_,rfl⟩,q⟩
theorem jS:dm X (.type "list") (fun xs H Q=>∃p ys,xs=[.ref p]/\(SqL X.K H p ys\/SqT X.K H p ys)/\∀l,H l=none->Q (.ref l) (upd H l (.lst ys))):=by
 intro pr s σ H xs us Q I r h;obtain⟨p,ys,rfl,hq,q⟩:=h;obtain⟨u,rfl,rx⟩:=gk r;cases rx;have fin:∀(Hj:List Value),Vals ys Hj->ys.length<=sizeLine->∀(h':Heap) (c':Nat),(∀b o',s.heap.get? b=some o'->h'.get? b=some o')->
   h'.get? s.heap.objs.size=some {cls:=.type "list",dict:=none,data:=.seq Hj.toArray c',slots:=#[]}->EP X pr σ Q (.ref s.heap.objs.size) {s with heap:=h'}:=fun Hj r' hz h' c' kp e=>
  ⟨.ref s.heap.objs.size,_,I.laid (t':=s.toks) kp (SS _) (show ObjOk X.prog X.w _ h' _ (.lst ys) from⟨hz,Hj,c',r',e⟩),rfl,q _ (I.hok.fresh (SS _))⟩
 rcases hq with hq|hq
 ·obtain⟨Hj,r',pl,hz⟩:=I.list hq;have hlen:=r'.length;obtain⟨o,ho,hc,n,hd⟩:=pl.isList;exact call_list_seq p (.inl rfl) ho hc hd (fun h' c' kp e=>fin Hj r' hz h' c' kp e) (by simp only[SQ] <;> lia)
 ·obtain⟨Hj,r',pl,hz⟩:=I.tuple hq;have hlen:=r'.length;obtain⟨o,ho,hc,n,hd⟩:=pl;exact call_list_seq p (.inr rfl) ho hc hd (fun h' c' kp e=>fin Hj r' hz h' c' kp e) (by simp only[SQ] <;> lia)
theorem iS:dm X (.type "tuple") (fun xs H Q=>∃p ys,xs=[.ref p]/\((SqL X.K H p ys/\∀l,H l=none->Q (.ref l) (upd H l (.tup ys)))\/(SqT X.K H p ys/\Q (.ref p) H))):=by
 intro pr s σ H xs us Q I r h;obtain⟨p,ys,rfl,h⟩:=h;obtain⟨u,rfl,rx⟩:=gk r;cases rx;rcases h with⟨hq,q⟩|⟨hq,q⟩
 ·obtain⟨Hj,r',pl,hz⟩:=I.list hq;have hlen:=r'.length;refine call_tuple_list pl.isList (fun h' kp=>?_) (by simp only[SQ] <;> lia);have I1:Inv X pr σ H {s with heap:=h'}:=I.kept (t':=s.toks) kp;have I2:Inv X pr σ (upd H h'.objs.size (.tup ys)) {s with heap:=h'.push {cls:=.type "tuple",data:=.seq Hj.toArray}}:=
   I1.laid (t':=s.toks) (fun b o e=>Heap.get?_push_of_some _ e) (SS _) (show ObjOk X.prog X.w _ _ _ (.tup ys) from⟨hz,Hj,r',IsTupN.new _ _⟩)
  exact⟨.ref h'.objs.size,_,I2,rfl,q _ (I1.hok.fresh (SS _))⟩
 ·obtain⟨Hj,r',pl,hz⟩:=I.tuple hq;exact call_tuple_same pl ⟨.ref p,H,I,rfl,q⟩
def Q0(K:W.Frag)(T:String)(x:V)(H:Hp):Prop:=match x with
 | .str _=>T = "str"
 | .int _=>T = "int"
 | .ref p=>(T = "list"/\∃xs,SqL K H p xs)\/(T = "tuple"/\∃o,K.lookup p=some o/\o.cls=.type "tuple"/\o.dict=none)\/
   (T = "dict"/\((∃kvs,H p=some (.dK kvs))\/∃kvs,H p=some (.dT kvs)))\/(T = "set"/\∃S n,H p=some (.set S n))
 |_=>False
theorem Ca{pr:List (Addr×Obj)}{σ:St}{H:Hp}{s:Shared}{T:String}{x:V}{v:Value}(I:Inv X pr σ H s)(r:RelV x v)(ty:Q0 X.K T x H):
  s.TypeIs v T/\∀a,v=.ref a->∃ob,s.heap.get? a=some ob/\ob.dict=none:=by
 cases x with
 |str z=>
  obtain⟨t,rfl⟩:=r;cases(show T = "str" from ty);exact⟨WR s z t,fun _ e=>nomatch e⟩
 |int i=>
  obtain⟨t,rfl⟩:=r;cases(show T = "int" from ty);exact⟨WS s i t,fun _ e=>nomatch e⟩
 |ref p=>
  cases r;rcases ty with⟨rfl,xs,hq⟩|⟨rfl,o,hk,hc,hd⟩|⟨rfl,hk⟩|⟨rfl,S,n,hk⟩
  ·obtain⟨Hj,_,pl,_⟩:=I.list hq;refine⟨pl.isList.typeIs,fun a e=>?_⟩;cases e;obtain⟨o,n,e,c,hd,_⟩:=pl;exact⟨o,e,hd⟩
  ·refine⟨⟨o,I.kIn p o hk,hc⟩,fun a e=>?_⟩;cases e;exact⟨o,I.kIn _ o hk,hd⟩
  ·have z:∃o,s.heap.get? p=some o/\o.ExactDict:=by
    rcases hk with⟨kvs,hk⟩|⟨kvs,hk⟩
    ·obtain⟨_,_,_,_,o,_,_,e,ex,_⟩:=I.hok p _ hk;exact⟨o,e,ex⟩
    ·obtain⟨_,_,_,_,o,_,_,e,ex,_⟩:=I.hok p _ hk;exact⟨o,e,ex⟩
   obtain⟨o,e,ex⟩:=z;refine⟨⟨o,e,ex.1⟩,fun a e2=>?_⟩;cases e2;exact⟨o,e,ex.2.1⟩
  ·obtain⟨o,_,_,_,e,ex,_⟩:=I.hok p _ hk;refine⟨⟨o,e,ex.1⟩,fun a e2=>?_⟩;cases e2;exact⟨o,e,ex.2.1⟩
 |_=>exact False.elim ty
def tBM(K:W.Frag)(T:String)(r:V->List V->Hp->VK->Prop)(to:TE)(t:TA):TE:=fun σ H Q=>to σ H fun x H1=>Q0 K T x H1/\t σ H1 fun xs H2=>r x xs H2 Q
variable{o e:Expr}{es:List Expr}{to:TE}{t:TA}{name:Str}{apos HE:Pos}{T id:String}{r:V->List V->Hp->VK->Prop}
theorem zj(pa:PlainAttrs T)(slot:Slot T name id)(LG:typeOf (.builtin id)=pure (.type "method_descriptor"))(hm:Nd X id r)(ho:PE X o to)(ha:PA X (e::es) t)
  (IL:attributeBase o name X.env (eval o X.env)=eval o X.env:=by rfl)
  (JJ:((backTo HE (starEach (e::es) X.env)).all (fun x=>!x.1)&&(backToKw HE (keywordEach [] X.env)).all (fun x=>x.1.isSome)
   && decide ((e::es).length+([]:List Keyword).length+(if([]:List Keyword).isEmpty then 0 else 1)<30))=true:=by rfl)
  (IM:(apos.endLine==HE.line)=true:=by rfl) (hs:starEach (e::es) X.env=(false,eval e X.env)::starEach es X.env:=by rfl) (Ie:(backTo HE (starEach es X.env)).any (·.1)=false:=by rfl):
  PE X (.Call (.Attribute o name apos) (e::es) [] HE) (tBM X.K T r to t):=by
 intro pr s σ H Q I h;refine wpAny_Call_method_late IL JJ IM rfl (HA (ho pr s σ H _ I h) fun v s1 HD=>?_);obtain⟨x,H1,I1,r1,ty,q1⟩:=HD;obtain⟨h1,h2⟩:=Ca I1 r1 ty;refine⟨T,id,pa,slot,LG,h1,h2,?_⟩;have hA:=ha HE pr s1 σ H1 _ I1 q1;rw[hs]at hA ⊢;refine Calls.callWith_builtin (by show(false||(backTo HE (starEach es X.env)).any (·.1))=false;rw[Ie] <;> rfl) (Calls.evalArgs_plain ?_);exact HA hA fun us s2 ⟨vs,H2,I2,r2,q2⟩=>hm pr s2 σ H2 x vs v us Q I2 r1 r2 q2
end
def MtM(X:Cx)(id:String)(r:V->List V->Hp->VK->Prop):Prop:=
 ∀(pr:List (Addr×Obj)) (s:Shared) (σ:St) (H:Hp) (x:V) (xs:List V) (v:Value) (us:List Value) (Q:VK),Inv X pr σ H s->RelV x v->Vals xs us->r x xs H Q->
  wpAny (model X.prog X.w) X.A (call (.builtin id) (v::us)) (EP X pr σ Q) X.xe s
theorem Vals.one:∀{x:V}{us:List Value},Vals [x] us->∃u,us=[u]/\RelV x u
 |_,_,.cons r .nil=>⟨_,rfl,r⟩
theorem Vals.rep{xs:List V}{us:List Value}(h:Vals xs us):∀k:Nat,Vals (List.replicate k xs).flatten (List.replicate k us).flatten
 | 0=>.nil
 |k+1=>by
  rw[Ud,Ud,Uv,Uv];exact Vals.append h (Vals.rep h k)
theorem om(Hj:List Value):∀(k:Nat) (acc:List Value),
  List.foldl (fun x1 x2=>x1++x2) acc.toArray (List.replicate k Hj.toArray)=(acc++(List.replicate k Hj).flatten).toArray
 | 0,acc=>by simp
 |k+1,acc=>by
  have e:acc.toArray++Hj.toArray=(acc++Hj).toArray:=by simp
  have e2:(acc++Hj)++(List.replicate k Hj).flatten=acc++(List.replicate (k+1) Hj).flatten:=by
   rw[Ud,Uv,Tx]
  rw[<-e2,<-om Hj k (acc++Hj),<-e,Ud,U2]
section
variable{X:Cx}{pr:List (Addr×Obj)}{σ:St}{H:Hp}{s:Shared}{l b:Addr}{xs ys zs:List V}
theorem Inv.lset{Hj its':List Value}{n:Nat}{f:Array Value->Array Value}{t':Nat}(I:Inv X pr σ H s)(hH:H l=some (.lst xs))
  (e:s.heap.get? l=some {cls:=.type "list",data:=.seq Hj.toArray n}) (hf:f Hj.toArray=its'.toArray) (hv:Vals ys its') (hz:ys.length<=sizeLine):
  Inv X pr σ (upd H l (.lst ys)) {s with heap:=s.heap.update l (Obj.mapSeq f),toks:=t'}:=by
 have q:=PySem.IsL.update e f;rw[hf]at q;refine I.write (x:=l) (e:=l) (by rw[hH];exact trivial) (.inl rfl) (fun b' u hb hu=>(Heap.get?_update_other s.heap (Obj.mapSeq f) (Ub hb)).trans hu) ⟨_,q⟩ ?_;exact⟨hz,its',_,hv,q⟩
theorem Inv.lnew{Hj:List Value}{t':Nat}(I:Inv X pr σ H s)(hv:Vals ys Hj)(hz:ys.length<=sizeLine):
  Inv X pr σ (upd H s.heap.objs.size (.lst ys)) {s with heap:=s.heap.push {cls:=.type "list",data:=.seq Hj.toArray},toks:=t'}:=
 I.laid (fun _ _ q=>Heap.get?_push_of_some _ q) (SS _) ⟨hz,Hj,0,hv,Heap.get?_push_size _ rfl⟩
theorem Inv.fresh(I:Inv X pr σ H s):H s.heap.objs.size=none:=I.hok.fresh (SS _)
theorem Inv.lstM(I:Inv X pr σ H s)(hH:H l=some (.lst xs)):xs.length<=sizeLine/\∃(Hj:List Value) (n:Nat),Vals xs Hj/\xs.length=Hj.length/\s.heap.get? l=some {cls:=.type "list",data:=.seq Hj.toArray n}:=by
 obtain⟨z,Hj,n,r,e⟩:=I.hok l _ hH;exact⟨z,Hj,n,r,r.length,e⟩
theorem xc{n:Nat}(h:n<=sizeLine):Builtin.List.listTooLong n=false:=by
 unfold Builtin.List.listTooLong;exact Tb (by lia)
end
section
variable{X:Cx}
def zk:V->List V->Hp->VK->Prop:=fun x vs H Q=>∃l xs y,x=.ref l/\vs=[y]/\H l=some (.lst xs)/\xs.length<sizeLine/\Q .non (upd H l (.lst (xs++[y])))
theorem oq:MtM X "list.append" zk:=by
 intro pr s σ H x vs v us Q I rx rv h;obtain⟨l,xs,y,rfl,rfl,hH,hz,q⟩:=h;cases rx;obtain⟨u,rfl,ru⟩:=rv.one;obtain⟨z,Hj,n,r,hl,e⟩:=I.lstM hH;refine call_meets F.slot_list_append ⟨_,e,rfl⟩ F.entry_list_append (F.args_list_append_2 _ _) (PySem.list_append l Hj.toArray n u (by rw[SQ];lia)) ⟨e,?_⟩;refine⟨.non,_,I.lset (its':=Hj++[u]) hH e (by simp) (r.append (.cons ru .nil)) ?_,rfl,q⟩;rw[To,Tg];lia
theorem mz{α:Type}(xs:List α)(k:Nat):(List.replicate k xs).flatten.length=k*xs.length:=by
 induction k with
 |zero=>simp
 |succ k ih=>rw[Ud,Uv,To,ih,Nat.succ_mul,Nat.add_comm]
end
section
variable{prog:Program}{w:World}{A:Around}{E:Value->Shared->Prop}{s:Shared}
end
section
variable{X:Cx}
end
end L2
namespace Att
open PySem PySem.W PySem.Calls PyProof.Rows
theorem kC{P:Params}{h:Heap}:∀(ns:List Int) (vs:List Value),WellAll P h vs (ns.map WData.int)->IntsAre vs ns:=by
 intro ns;induction ns with
 |nil=>
  intro vs w;rw[Tz]at w;cases w;exact .nil
 |cons n ns ih=>
  intro vs w;rw[S5]at w;cases w with
  |cons a b=>
   cases a;exact .cons _ _ (ih _ b)
theorem um{l:OpenLaw}{n:Nat}(hn:l.most=some n){P:Params}{h:Heap}{args:List WData}{vals:List Value}
  (Mq:l.row.toRowW.claim.pre args=true) (Nf:WellAll P h vals args):
  ∃a vs ns,vals=[Value.ref a]/\args=[WData.list (ns.map WData.int)]/\h.get? a=some {cls:=.type "list",data:=.seq vs.toArray}/\IntsAre vs ns/\ns.length<=n:=by
 have hsh:WShape.hasAll [] args [.list .int]=true:=(pre_splitW Mq).1;have hc:l.pre.holds [] {args:=args}=true:=(pre_splitW Mq).2;obtain⟨d,r,rfl,h1,h2⟩:=hasAllW_cons hsh;obtain rfl:=hasAllW_nil h2;obtain⟨xs,rfl,h3⟩:=hasW_list h1;obtain⟨ns,rfl⟩:=items_int h3;have hlen:ns.length<=n:=by
  unfold OpenLaw.pre at hc;have h4:(WTm.not (.lt (.lit (.int (n:Int))) (.len (.arg 0)))).holds [] {args:=[.list (ns.map .int)]}=true:=by
   have h4:=(holds_andW hc).1;rw[hn]at h4;exact h4
  have h5:=condW_of h4 (w_not (w_lt w_lit (w_len_list (w_arg rfl))));rw[SJ]at h5;refine Nat.le_of_not_lt fun q=>?_
  have q':(n:Int)<((ns.length:Nat):Int):=by lia
  first
   |(rw[Tr q']at h5;exact absurd h5 (by decide))
   |(simp at h5;lia)
 cases Nf with
 |cons w1 w2=>
  cases w2;cases w1 with
  |list ho LH=>exact⟨_,_,ns,rfl,rfl,ho,kC ns _ LH,hlen⟩
theorem uo(l:OpenLaw)(args:List WData):l.row.toRowW.claim.post args (.bool true) args=true:=
 postW_of (r:=l.row.toRowW) (X:=(true==true))
  (show WShape.has [] (.bool true) .bool=true by first|rfl|decide|simp[WShape.has,WShape.arms,WShape.armsAll])
  (show(WTm.eq .res (.lit (.bool true))).value [] {args:=args,res:=some (.bool true),after:=args}=some (.bool (true==true)) from w_eq_bool (w_res rfl) w_lit) rfl
theorem attach_call{l:OpenLaw}{n:Nat}{q:Program}{loose:List Str}{XP:(Str->Option Value)->Heap->Prop}{YP:World->Heap->Prop}{d:DefRec}
  (hn:l.most=some n) (O7:d.params.defaults=[])
  (call:∀(w:World) (s₀ s₁:Shared) (mg mb:Str->Option Value) (fa:Addr) (o:Obj) (pm cd doc:Value) (a:Addr) (vs:List Value) (ns:List Int),
   Ground q loose [] XP w s₀ mg mb s₁.heap->YP w s₁.heap->
   s₁.heap.get? fa=some o->o.data=.func (docDef d.name d.params d.body d.scope pm cd doc)->s₁.heap.CodeRec cd d.name->mg d.name=some (.ref fa)->
   s₁.heap.get? a=some {cls:=.type "list",data:=.seq vs.toArray}->IntsAre vs ns->ns.length<=n->s₁.gens = #[]->
   codeAny (model l.prog w) callerA (.call (.ref fa) ⟨[.ref a],[]⟩) (fun r s'=>r=.ok (.ret (.bool true))/\OldK s₁.heap s'.heap/\s'.os=s₁.os/\AllBare s'.gens) s₁):
  WalkO q loose XP YP l.row.toRowW d [] (fun f vs=>PySem.call f vs):=by
 intro w s₀ s₁ mg mb G Y fa o pm cd doc dV kV ho hd LC hD O8 hg args vals as Mq hlay hrd Nf R0;obtain rfl:dV=.none:=Dflts.none hD O7;obtain rfl:kV=.none:=Dflts.noKw hD;obtain⟨a,vs,ns,rfl,rfl,NA,hints,hlen⟩:=um hn Mq Nf;refine enter_call (codeAny_mono (call w s₀ s₁ mg mb fa o pm cd doc a vs ns G Y ho (fd_plain hd) LC O8 NA hints hlen hg) fun r s' hq=>?_);obtain⟨rfl,h2,h3,h4⟩:=hq;exact⟨.inl ⟨.bool true,.bool true,[],rfl,fun _=>rfl,.bool true,uo l _,fun _=>⟨List.Pairwise.nil,fun _ hm=>(nomatch hm)⟩⟩,h2,h3,h4⟩
section
variable{prog:Program}{w:World}{A:Around}{E:Value->Shared->Prop}{s:Shared}{K:Frag}
end
end Att
namespace L2
open PySem PySem.Spec PyProof.Rows
theorem ou:∀{vs:List Value}{ns:List Int},IntsAre vs ns->Vals (ns.map V.int) vs
 |_,_,.nil=>.nil
 |_,_,.cons n t h=>.cons ⟨t,rfl⟩ (ou h)
def EK(H:Hp):Prop:=∀b,H b=none\/∃o xs,H b=some (.frz o (.lst xs))
theorem xf{P:Program}{w:World}{K:W.Frag}{mg mb:Str->Option Value}{CX:Lx}{k:Nat}{fa a:Addr}{fd:FuncData}{x:Str}{sp:Sp}{s₁:Shared}{vs:List Value}{ns:List Int}
  (KX:K.In s₁.heap) (OL:s₁.heap.Ns mainGlobals mg) (hb:s₁.heap.Ns builtinsNs mb) (LI:∀x:Str,x≠"__name__"->mb x=bootBuiltins x) (hlim:s₁.heap.NoLimit) (hg:s₁.gens = #[])
  (ha:s₁.heap.get? a=some {cls:=.type "list",data:=.seq vs.toArray}) (hi:IntsAre vs ns) (hl:ns.length<=sizeLine) (hr:Room k callerA)
  (F:∀base:Heap,K.In base->base.Ns mainGlobals mg->FnOk P w K mg base CX k fa fd [x] sp) (O9:∀(s:Shared) (u:Value),BindsTo s fd ⟨[u],[]⟩ [(x,u)])
  (LF:∀H:Hp,EK H->SqL K H a (ns.map V.int)->sp [.ref a] H (fun v _=>v=.bl true) fun _ _ _=>False)
  (Q1:∀H e s',CX [] H s₁ (fun _ _ _=>False) e s'->False):
  codeAny (model P w) callerA (.call (.ref fa) ⟨[.ref a],[]⟩) (fun r s'=>r=.ok (.ret (.bool true))/\OldK s₁.heap s'.heap/\s'.os=s₁.os/\AllBare s'.gens) s₁:=by
 have rv:=ou hi;have lenV:=hi.length;have core:∀H:Hp,EK H->SqL K H a (ns.map V.int)->HOk P w H s₁.heap->(∀b,H b≠none->b=a)->(H a≠none->K.lookup a=none)->
   codeAny (model P w) callerA (.call (.ref fa) ⟨[.ref a],[]⟩) (fun r s'=>r=.ok (.ret (.bool true))/\OldK s₁.heap s'.heap/\s'.os=s₁.os/\AllBare s'.gens) s₁:=by
  intro H hO hS hok hA hK;have K8:∀{b:Addr}{o:Obj},s₁.heap.get? b=some o->H b=none->(wN s₁.heap H).get? b=some o:=fun e n=>wO e n
  have O5:∀{b:Addr}{o:Obj}{es:Array DictEntry}{ep:Nat},s₁.heap.get? b=some o->o.data=.dict es ep->H b=none:=fun{b o es ep} e d=>by
   cases q:H b with
   |none=>rfl
   |some u=>
    have e':b=a:=hA b (by rw[q];simp);subst e';rw[ha]at e;cases e;have d':Data.seq vs.toArray _=Data.dict es ep:=d;cases d'
  have Qn:∀{b:Addr}{m:Str->Option Value},s₁.heap.Ns b m->(wN s₁.heap H).Ns b m:=fun{b m} ⟨o,es,ep,e,d,r⟩=>⟨o,es,ep,K8 e (O5 e d),d,r⟩
  have R1:K.In (wN s₁.heap H):=fun b o e=>K8 (KX b o e) (by
   cases q:H b with
   |none=>rfl
   |some u=>
    have e':b=a:=hA b (by rw[q];simp);subst e';rw[hK (by rw[q];simp)]at e;cases e)
  have hM:Mod K mg (wN s₁.heap H):=⟨R1,Qn OL,⟨mb,Qn hb,LI⟩,let⟨mc,h1,h2⟩:=hlim;⟨mc,Qn h1,h2⟩⟩
  have e0:Env0 P w K mg (wN s₁.heap H) callerA [] s₁ H:=⟨rfl,hM,fun b o e=>yX e,Nat.le_of_eq (tJ _ _),trivial,fun b hb=>absurd (show b∈([]:List Addr) from hb) (by simp),hok,.of_eq hg⟩
  refine codeAny_mono ((F _ R1 (Qn OL)).run callerA [] s₁ H ⟨[.ref a],[]⟩ [.ref a] [.ref a] _ _ hr e0 (O9 s₁ (.ref a)) (.cons rfl .nil) (LF H hO hS)) fun r s' h=>?_
  cases r with
  |error e=>exact(Q1 H e s' h).elim
  |ok fl=>
   cases fl with
   |next=>exact False.elim h
   |brk=>exact False.elim h
   |cont=>exact False.elim h
   |ret u=>
    obtain⟨v,H',os,bare,un,hok',r',q⟩:=h;have q':v=.bl true:=q;subst q';obtain rfl:u=Value.bool true:=r';refine⟨rfl,OldK.of_keep fun b o e=>?_,os,bare⟩;cases q:H b with
    |none=>exact un.keep b o e q (by intro z;exact absurd (show b∈([]:List Addr) from z) (by simp)) (by simp)
    |some u=>
     rcases hO b with z|⟨ob,xs,z⟩
     ·rw[q]at z;cases z
     ·have z2:=un.frzs b ob _ z;obtain⟨e1,_⟩:=hok b _ z;obtain⟨e2,_⟩:=hok' b _ z2;rw[e]at e1;cases e1;exact e2
 cases hk:K.lookup a with
 |some o=>
  have e:=KX a o hk;rw[ha]at e;cases e;refine core (fun _=>none) (fun _=>.inl rfl) (.inr ⟨_,vs.toArray,_,hk,rfl,rfl,rfl,by rw[SQ,lenV];exact hl,by simpa using rv⟩) (fun b u z=>by have z':(none:Option HO)=some u:=z;cases z') (fun b z=>absurd rfl z) fun z=>absurd rfl z
 |none=>
  refine core (fun b=>if b=a then some (.frz {cls:=.type "list",data:=.seq vs.toArray} (.lst (ns.map V.int))) else none) (fun b=>?_) (.inl (.inr ⟨{cls:=.type "list",data:=.seq vs.toArray},SU rfl⟩)) (fun b u z=>?_) (fun b z=>?_) fun _=>hk
  ·by_cases hb:b=a
   ·exact .inr ⟨_,_,SU hb⟩
   ·exact .inl (SX hb)
  ·by_cases hb:b=a
   ·have z':=(SU hb).symm.trans z;cases z';subst hb;exact⟨ha,by rw[SJ];exact hl,vs,_,rv,ha⟩
   ·have z':=(SX hb).symm.trans z;cases z'
  ·by_cases hb:b=a
   ·exact hb
   ·exact absurd (SX hb) z
theorem zl{l:PySem.W.OpenLaw}{n k:Nat}{q:Program}{loose:List Str}{XP:(Str->Option Value)->Heap->Prop}{YP:World->Heap->Prop}{d:DefRec}{K:Params->W.Frag}{CX:World->Lx}{sp:World->Sp}{x:Str}
  (hn:l.most=some n) (Ng:n<=sizeLine) (O7:d.params.defaults=[]) (hr:Room k callerA)
  (hY:∀(w:World) (h:Heap),YP w h->(K w.params).In h)
  (F:∀(w:World) (mg:Str->Option Value) (fa:Addr) (h:Heap),(K w.params).In h->h.Ns mainGlobals mg->mg d.name=some (.ref fa)->
   ∃fd:FuncData,(∀(s:Shared) (u:Value),BindsTo s fd ⟨[u],[]⟩ [(x,u)])/\
    ∀base:Heap,(K w.params).In base->base.Ns mainGlobals mg->FnOk l.prog w (K w.params) mg base (CX w) k fa fd [x] (sp w))
  (LF:∀(w:World) (H:Hp) (a:Addr) (ns:List Int),ns.length<=n->EK H->SqL (K w.params) H a (ns.map V.int)->sp w [.ref a] H (fun v _=>v=.bl true) fun _ _ _=>False)
  (Q1:∀(w:World) (H:Hp) (s:Shared) (e:Value) (s':Shared),CX w [] H s (fun _ _ _=>False) e s'->False):
  PySem.W.WalkO q loose XP YP l.row.toRowW d [] (fun f vs=>PySem.call f vs):=by
 refine Att.attach_call hn O7 fun w s₀ s₁ mg mb fa o pm cd doc a vs ns G Y ho hd LC O8 NA hints hlen hg=>?_
 have KX:=hY w _ Y;obtain⟨fd,hb,hF⟩:=F w mg fa _ KX G.T.g O8;exact xf KX G.T.g G.T.b G.T.builtins G.T.nolimit hg NA hints (Td hlen Ng) hr hF hb (fun H hO hS=>LF w H a ns hlen hO hS) fun H e s'=>Q1 w H s₁ e s'
def e7(s:Stmt):Arguments:=match s with
 | .FunctionDef _ a _ _ _ _ _ _ _ _=>a
 |_=>{posonlyargs:=[],args:=[],vararg:=none,kwonlyargs:=[],kw_defaults:=[],kwarg:=none,defaults:=[]}
def cW(s:Stmt):List Stmt:=match s with
 | .FunctionDef _ _ b _ _ _ _ _ _ _=>b
 |_=>[]
def defScope(s:Stmt):Scope:=match s with
 | .FunctionDef _ _ _ _ _ _ sc _ _ _=>sc
 |_=>{kind:=.function,names:=[],isGenerator:=false,isCoroutine:=false}
abbrev Lh:Lx:=fun _ _ _ _ _ _=>False
abbrev E0:XK:=fun _ _ _=>False
theorem EL{X:Cx}:uc Lh X E0:=fun _ _ _ _ _ _ _ h=>h.elim
structure Fun(K:W.Frag)(x qual:Str)(st:Stmt)(f:Addr)(fd:FuncData):Prop where
 ex:∃(oc:Value) (od:Option Addr) (kV doc pm:Value) (an:Option Addr) (HG ct:Value) (Me:Array (Option Value)),
  fd=PySem.W.fnOf x qual (e7 st) (cW st) (defScope st) .none kV doc pm an HG ct/\K.lookup f=some ⟨oc,od,.func fd,Me⟩/\PySem.W.codeIn K HG qual=true
 kp:PySem.W.keepIn K (.ref f)=true
section
variable{P:Program}{w:World}{K:W.Frag}{mg:Str->Option Value}{base:Heap}
theorem Fun.ok{x qual:Str}{st:Stmt}{f:Addr}{fd:FuncData}{N ps:List Str}{k:Nat}{sp:Sp}(F:Fun K x qual st f fd)(S:FnScope N ps (defScope st))(len:∀vs H Q E,sp vs H Q E->vs.length=ps.length)
  (LD:∀(HG:Value) (A:Around) (outer:List Env) (s:Shared) (H:Hp) (vs:List V) (Q:VK) (E:XK),Room k (A.deeper (envOfC qual (defScope st) s.heap.objs.size f HG))->sp vs H Q E->
   ∃t,PSs (wH Lh P w K mg base N qual (defScope st) f HG A outer s H E).nox (cW st) t/\t {nx:=fun _ H'=>Q .non H',rt:=Q} (j8 N vs) H):FnOk P w K mg base Lh (k+1) f fd ps sp:=by
 obtain⟨oc,od,kV,doc,pm,an,HG,ct,Me,rfl,lk,LC⟩:=F.ex;refine EG lk LC S len fun A outer s H vs Q E hr LF=>?_
 obtain⟨t,h,q⟩:=LD HG A outer s H vs Q E hr LF;exact⟨t,h.nox,q⟩
theorem Fun.binds{x qual:Str}{st:Stmt}{f:Addr}{fd:FuncData}{ps:List Str}(F:Fun K x qual st f fd)
  (h:∀(kV doc pm:Value) (an:Option Addr) (HG ct:Value) (us:List Value),us.length=ps.length->bindArgs (PySem.W.fnOf x qual (e7 st) (cW st) (defScope st) .none kV doc pm an HG ct) ⟨us,[]⟩=pure (ps.zip us)):Binds K fd ps []:=by
 obtain⟨oc,od,kV,doc,pm,an,HG,ct,Me,rfl,lk,LC⟩:=F.ex;exact .all (h kV doc pm an HG ct)
theorem yp{x qual:Str}{st:Stmt}{f:Addr}{oc:Value}{od an:Option Addr}{Me:Array (Option Value)}{kV doc pm HG ct:Value}(l:K.lookup f=some ⟨oc,od,.func (PySem.W.fnOf x qual (e7 st) (cW st) (defScope st) .none kV doc pm an HG ct),Me⟩)
  (c:PySem.W.codeIn K HG qual=true) (k:PySem.W.keepIn K (.ref f)=true):Fun K x qual st f (PySem.W.fnOf x qual (e7 st) (cW st) (defScope st) .none kV doc pm an HG ct):=⟨⟨oc,od,kV,doc,pm,an,HG,ct,Me,rfl,l,c⟩,k⟩
end
theorem hu_of{A:Around}{k:Nat}(hr:Room k A):A.units+1<cLine:=Nat.lt_of_le_of_lt (Nat.add_le_add_left (by decide:1<=64) _) hr.units
section
variable{X:Cx}
theorem pv(i:Nat){x:Str}{pos:Pos}(hN:X.N[i]?=some x:=by rfl)(hv:QN X.env.scope x:=by first|exact Or.inl rfl|exact Or.inr (Or.inl rfl)|exact Or.inr (Or.inr rfl))(hd:(x==("__debug__" : Str))=false:=by decide)
  (LC:(x==("__classdict__" : Str))=false:=by decide):PE X (.Name x pos) (tL i):=BE hN hv hd LC
end
theorem iteF{A B:Prop}(h:B):if false=true then A else B:=by
 rw[SX SN];exact h
theorem EM{A B:Prop}(h:A):if true=true then A else B:=by
 rw[SU rfl];exact h
def Same(H H':Hp):Prop:=∀b o,H b=some o->H' b=some o
theorem Same.refl(H:Hp):Same H H:=fun _ _ h=>h
theorem Same.trans{H H1 H2:Hp}(a:Same H H1)(b:Same H1 H2):Same H H2:=fun c o h=>b c o (a c o h)
end L2
set_option maxHeartbeats 4000000
namespace NX
open PySem PySem.Spec PyProof.Rows L2
section
variable{X:Cx}
theorem xg(v:Int)(n:Nat):max (0:Int) (min (if v<0 then v+(n:Int) else v) (n:Int))=((HT.sIx n 0 (some v):Nat):Int):=by
 show _=(((if v<0 then(v+(n:Int)).toNat else min v.toNat n):Nat):Int)
 split <;> lia
theorem Cb(a b:Nat):sliceRange (a:Int) (b:Int) 1=(List.range (b-a)).map (fun k=>a+k):=by
 unfold sliceRange;rw[SU (by decide:(1:Int)>0)];by_cases HW:(a:Int)<b
 ·have e3:(((b:Int)-a+1-1) / 1).toNat=b-a:=by first|lia|(simp;done)|(simp;lia)
  simp only[HW,Vm,e3];refine Ue fun k _=>?_
  lia
 ·have:b-a=0:=by lia
  simp[HW,this]
theorem GD(lo hi:Option Int)(n:Nat):Builtin.Str.strSliceIndices lo hi 1 n=(List.range (HT.sIx n n hi-HT.sIx n 0 lo)).map (fun k=>HT.sIx n 0 lo+k):=by
 rw[<-Cb];unfold Builtin.Str.strSliceIndices;simp only[show(1:Int)>0 from by decide,Vm];cases lo with
 |none=>
  cases hi with
  |none=>rfl
  |some v=>exact T3 (fun z=>sliceRange 0 z 1) (xg v n)
 |some u=>
  cases hi with
  |none=>exact T3 (fun z=>sliceRange z (n:Int) 1) (xg u n)
  |some v=>exact(T3 (fun z=>sliceRange z _ 1) (xg u n)).trans (T3 (fun z=>sliceRange _ z 1) (xg v n))
def Cc(xs:List Nat)(lo hi:Option Int):List Nat:=(xs.drop (HT.sIx xs.length 0 lo)).take (HT.sIx xs.length xs.length hi-HT.sIx xs.length 0 lo)
theorem yq{α:Type}(l:List α):∀(n a:Nat),a+n<=l.length->((List.range n).map (fun k=>a+k)).filterMap (l[·]?)=(l.drop a).take n
 | 0,_,_=>by simp
 |n+1,a,h=>by
  have HW:a+n<l.length:=by lia
  rw[List.range_succ,S6,List.filterMap_append,yq l n a (by lia),U5,List.getElem?_drop];simp[List.getElem?_eq_getElem HW]
theorem uq(x:Str)(lo hi:Option Int):(Txt.slice x lo hi).cps.toList=Cc x.cps.toList lo hi:=by
 have hl:x.cps.toList.length=x.length:=TZ;have ha:=HT.uf x.length 0 (Tw _) lo;have hb:=HT.uf x.length x.length (SS _) hi;unfold Txt.slice Cc;rw[GD,hl];split
 ·rename_i h;have h2:HT.sIx x.length x.length hi-HT.sIx x.length 0 lo=x.length:=by simpa using h
  have ez:HT.sIx x.length 0 lo=0\/x.length=0:=by lia
  rcases ez with e|e
  ·rw[h2,e,WZ,UA (by lia)]
  ·have:x.cps.toList=[]:=TH (by lia);rw[this];simp
 ·have hk:∀(f:List Nat),f.filterMap (x.cps[·]?)=f.filterMap (x.cps.toList[·]?):=fun f=>by
   congr 1
   funext i
   simp
  show(List.filterMap _ _).toArray.toList=_;rw[VO,hk];by_cases hle:HT.sIx x.length 0 lo<=HT.sIx x.length x.length hi
  ·rw[yq _ _ _ (by lia)]
  ·have e0:HT.sIx x.length x.length hi-HT.sIx x.length 0 lo=0:=by lia
   rw[e0];rfl
abbrev S(l:List Nat):Str:=⟨l.toArray⟩
theorem ox(x:Str):S x.cps.toList=x:=by cases x;simp[S]
theorem S_inj{a b:List Nat}(h:S a=S b):a=b:=by
 have:=T3 (fun z:Str=>z.cps.toList) h;simpa[S] using this
theorem lK(l:List Nat):(S l).length=l.length:=by simp[S,Str.length]
theorem dC(l:List Nat):(S l).cps.toList=l:=by simp[S]
theorem EN(a b:List Nat):S a++S b=S (a++b):=by
 rw[<-ox (S a++S b),PySem.W.KT.app_list,dC,dC]
def GF:V->Option Int->Option Int->Hp->VK->Prop:=fun x lo hi H Q=>∃l,x=.str (S l)/\l.length<=sizeLine/\Q (.str (S (Cc l lo hi))) H
theorem Cd:Nz X GF:=by
 intro pr s σ H x v vl vu lo hi sl Q I rx hs pl pu h;obtain⟨l,rfl,hz,q⟩:=h;obtain⟨t,rfl⟩:=rx;have hz':(S l).length<=sizeLine:=by rw[lK];exact hz
 have e:∀t' k,EP X pr σ Q (.str (Txt.slice (S l) lo hi) t') {s with toks:=k}:=fun t' k=>by
  refine⟨.str (S (Cc l lo hi)),H,I.tok _,⟨t',?_⟩,q⟩;have e1:=uq (S l) lo hi;rw[dC]at e1;rw[<-e1,ox]
 refine⟨"str",_,PySem.F.slot_str_getitem.lookup,WR _ _ _,?_⟩;have key:∀(NB Qo:Option (Int×Tok)),partValue NB=vl->partValue Qo=vu->NB.map (·.1)=lo->Qo.map (·.1)=hi->
   wpAny (model X.prog X.w) X.A (getItem (.str (S l) t) (.ref sl)) (EP X pr σ Q) X.xe s:=by
  rintro NB Qo rfl rfl rfl rfl;exact wpAny_getItem_str_slice (l:=NB) (u:=Qo) (st:=none) hs rfl (post_val_or_str ⟨Td (Txt.slice_le (S l) _ _) hz',fun t' k=>e t' k⟩)
 cases pl with
 |none=>
  cases pu with
  |none=>exact key none none rfl rfl rfl rfl
  |int j uj=>exact key none (some (j,uj)) rfl rfl rfl rfl
 |int i ui=>
  cases pu with
  |none=>exact key (some (i,ui)) none rfl rfl rfl rfl
  |int j uj=>exact key (some (i,ui)) (some (j,uj)) rfl rfl rfl rfl
theorem zm{xs:List V}{j:Nat}{x:V}(h:xs[j]?=some x):xs.getD j .non=x:=by rw[List.getD_eq_getElem?_getD,h];rfl
end
def Def(K:W.Frag)(mg:Str->Option Value)(x:Str)(st:Stmt):Prop:=∃f fd,Fun K x x st f fd/\mg x=some (.ref f)
def Ct(P:Program)(w:World)(K:W.Frag)(mg:Str->Option Value)(base:Heap)(x:Str)(k:Nat)(sp:Sp):Prop:=
 ∃f fd ps,FnOk P w K mg base Lh k f fd ps sp/\mg x=some (.ref f)/\PySem.W.keepIn K (.ref f)=true/\Binds K fd ps []
section
variable{X:Cx}{e:Expr}{es:List Expr}{t:TA}{x:Str}{p pos:Pos}{k:Nat}{sp:Sp}
theorem zo(C:Ct X.prog X.w X.K X.mg X.base x k sp)(hr:Room k X.A)(hg:Gl X x)(ha:PA X (e::es) t)(JA:(x==("__debug__" : Str))=false:=by decide)
  (he:starEach (e::es) X.env=(false,eval e X.env)::starEach es X.env:=by rfl) (IZ:(backTo pos (starEach es X.env)).any (·.1)=false:=by rfl):
  PE X (.Call (.Name x p) (e::es) [] pos) (tCall sp [] E0 t):=by
 obtain⟨f,fd,ps,G,m,kp,b⟩:=C;exact za G hr hg m kp b .nil EL ha JA he IZ
end
theorem bt_len:bootBuiltins "len" = some (.builtin "len"):=by decide +kernel
theorem mB:bootBuiltins "isinstance" = some (.builtin "isinstance"):=by decide +kernel
theorem mC:bootBuiltins "list" = some (.type "list"):=by decide +kernel
theorem df:bootBuiltins "tuple" = some (.type "tuple"):=by decide +kernel
theorem line_eq:sizeLine=16777216:=TV
theorem flat_strs(a:List (List Nat)):(a.map fun l=>V.str (S l)).all xb=true:=by
 rw[Tq];intro v hv;obtain⟨l,_,rfl⟩:=TX.mp hv;rfl
section
variable{X:Cx}{e:Expr}{st:Stmt}
end
def clOf(scope:Scope)(env:Env):List (Str×Addr):=scope.names.foldl (fun cs y=>if y.2==NameKind.free then(y.1,(env.cells.lookup y.1).getD 0)::cs else cs) []
def iT(scope:Scope)(env:Env):Bool:=scope.names.all fun y=>y.2 != NameKind.free||env.kindOf y.1==some .cell||env.kindOf y.1==some .free
theorem gZ(env:Env):∀(l:List (Str×NameKind)) (cs:List (Str×Addr)),(∀y∈l,y.2=.free->∃c,env.cells.lookup y.1=some c)->
  (forIn l cs fun(y:Str×NameKind) (r:List (Str×Addr))=>(do
   if y.2==NameKind.free then
    let a <-cellOf env y.1
    pure (ForInStep.yield ((y.1,a)::r))
   else pure (ForInStep.yield r):Sem (ForInStep (List (Str×Addr)))))=pure (l.foldl (fun cs y=>if y.2==NameKind.free then(y.1,(env.cells.lookup y.1).getD 0)::cs else cs) cs)
 |[],cs,_=>by simp
 |y::l,cs,h=>by
  rw[WD,U2];by_cases k:y.2=.free
  ·obtain⟨c,e⟩:=h y SI k;have e2:cellOf env y.1=pure c:=by unfold cellOf;rw[e]
   simp only[k,Um,Vm,e2,e,VB,pure_bind];exact gZ env l _ fun z hz=>h z (SM _ hz)
  ·have kb:(y.2==NameKind.free)=false:=by simpa using k
   simp only[kb,Ul,Vl,pure_bind];exact gZ env l _ fun z hz=>h z (SM _ hz)
theorem ig(env:Env)(x:Str)(c:Addr):∀(l:List (Str×NameKind)) (cs:List (Str×Addr)),(∀y∈l,y.2=.free->∃c,env.cells.lookup y.1=some c)->(cs.lookup x=some c->env.cells.lookup x=some c)->
  (l.foldl (fun cs y=>if y.2==NameKind.free then(y.1,(env.cells.lookup y.1).getD 0)::cs else cs) cs).lookup x=some c->env.cells.lookup x=some c
 |[],_,_,h,e=>h e
 |y::l,cs,hf,h,e=>by
  rw[U2]at e;refine ig env x c l _ (fun z hz=>hf z (SM _ hz)) (fun q=>?_) e;split at q
  ·rename_i k;have k:y.2=.free:=by simpa using k
   obtain⟨d,ed⟩:=hf y SI k;rw[TY]at q;cases hx:x==y.1 with
   |true=>
    rw[hx]at q;have exy:x=y.1:=by simpa using hx
    rw[ed,VB]at q;rw[exy,ed];exact q
   |false=>
    rw[hx]at q;exact h q
  ·exact h q
theorem kF(env:Env)(x:Str):∀(l:List (Str×NameKind)) (cs:List (Str×Addr)),((∃d,cs.lookup x=some d)\/(x,NameKind.free)∈l)->
  ∃d,(l.foldl (fun cs y=>if y.2==NameKind.free then(y.1,(env.cells.lookup y.1).getD 0)::cs else cs) cs).lookup x=some d
 |[],_,h=>by
  rcases h with h|h
  ·exact h
  ·cases h
 |y::l,cs,h=>by
  rw[U2];refine kF env x l _ ?_;rcases h with⟨d,h⟩|h
  ·refine .inl ?_;split
   ·rw[TY];cases hx:x==y.1 with
    |true=>exact⟨_,rfl⟩
    |false=>exact⟨d,h⟩
   ·exact⟨d,h⟩
  ·rcases SV.mp h with h|h
   ·refine .inl ?_;rw[<-h];refine⟨(env.cells.lookup x).getD 0,?_⟩;show List.lookup x ((x,_)::cs)=_;rw[TY,Um]
   ·exact .inr h
noncomputable def cp(X:Cx)(scope:Scope)(N:List Str)(C:Addr)(s:Shared)(H:Hp)(fp:List Addr)(pn:List (Addr×Obj)):Cx:=
 {X with N:=N,s₀:=s,H₀:=H,env:=compEnvC scope (clOf scope X.env) C X.env,outer:=X.stack,ex:=fp,fn:=fun _=>false,pn:=pn,xe:=fun _ _=>False}
def lT(ix:List (Option Nat))(σ:L2.St):L2.St:=ix.map fun i=>i.bind fun i=>(σ[i]?).bind id
noncomputable def zp(wi:TI)(ix:List (Option Nat))(g:TG)(tc:TT)(te:TE):TE:=fun σ H Q=>wi σ H fun J H1=>∀D,H1 D=none->∃W:Nat->Nat->L2.St->Hp->Prop,(∃m,W 0 m (lT ix σ) (upd H1 D (.lst [])))/\
 ∀i m σ1 H2,W i m σ1 H2->(J.stop i H2/\Q (.ref D) H2)\/(J.go i H2/\∀x H3,J.yld i H2 x H3->g x σ1 H3 fun σ2 H4=>tc σ2 H4 fun b H5=>if b=true then te σ2 H5 fun v H6=>
  ∃ys,H6 D=some (.lst ys)/\ys.length<sizeLine/\∃m',m'<m/\W (i+1) m' σ2 (upd H6 D (.lst (ys++[v]))) else ∃m',m'<m/\W (i+1) m' σ2 H5)
abbrev Mr:Value->Shared->Prop:=fun _ _=>False
theorem OM{α:Type}{M:Model}{A:Around}{t:Sem α}{Q Q':α->Shared->Prop}{E:Value->Shared->Prop}{s:Shared}(h:wpAny M A t Q Mr s)(k:∀a s,Q a s->Q' a s):wpAny M A t Q' E s:=Vg h k fun _ _ z=>z.elim
theorem ur{prog:Program}{w:World}{A:Around}{R:Result->Shared->Prop}{s:Shared}{elt target iter:Expr}{ifs:List Expr}{scope:Scope}{pos:Pos}{it acc:Value}{env:Env}(I:Nat->Shared->Prop)
  (turn:∀n s,I n s->wpAny (model prog w) A (pyNext it) (fun r s₁=>match r with
   |none=>R (.ok .next) s₁
   |some v=>wpAny (model prog w) A (letOwnedTupleGo target it v) (fun _ s₂=>wpAny (model prog w) A (assign target env v) (fun _ s₃=>
     wpAny (model prog w) A (forIn ifs true fun c r=>if r=true then do let ok <-isTrue c env (eval c env);pure (ForInStep.yield ok) else pure (ForInStep.yield r)) (fun ok s₄=>
      if ok=true then wpAny (model prog w) A (eval elt env) (fun x s₅=>
       wpAny (model prog w) A (call (.builtin "list.append") [acc,x]) (fun _ s₆=>∃m,m<n/\I m s₆) Mr s₅) Mr s₄
      else ∃m,m<n/\I m s₄) Mr s₃) Mr s₂) Mr s₁) Mr s)
  (n:Nat) (h:I n s):codeAny (model prog w) A (.compLoop (.ListComp elt [⟨target,iter,ifs,0⟩] scope pos) 0 it acc env) R s:=by
 refine codeAny_loop rfl I (fun n s hI=>?_) n h;show wpAny _ A ((compTurn (.ListComp elt [⟨target,iter,ifs,0⟩] scope pos) 0 it acc env).onRaise (fun x=>do noteFrame x env;theTreesLotGoes x)) _ _ s;refine wpAny_noted ?_;rw[compTurn_list];refine SH (W8 (SH (OM (turn n s hI) fun r s₁ h₁=>?_)));cases r with
 |none=>exact SO h₁
 |some v=>
  refine SH (OM h₁ fun _ s₂ h₂=>SH (OM h₂ fun _ s₃ h₃=>SH (OM h₃ fun ok s₄ h₄=>?_)));cases ok with
  |false=>exact SO ⟨rfl,h₄⟩
  |true=>exact SH (SH (OM h₄ fun x s₅ h₅=>SH (OM h₅ fun _ s₆ h₆=>SO (SO ⟨rfl,h₆⟩))))
def ON(X:Cx)(ifs:List Expr)(t:TT):Prop:=
 ∀(pr:List (Addr×Obj)) (s:Shared) (σ:L2.St) (H:Hp) (Q:Bool->Hp->Prop),Inv X pr σ H s->t σ H Q->
  wpAny (model X.prog X.w) X.A (forIn ifs true fun c r=>if r=true then do let ok <-isTrue c X.env (eval c X.env);pure (ForInStep.yield ok) else pure (ForInStep.yield r)) (TP X pr σ Q) X.xe s
def GH:TT:=fun _ H Q=>Q true H
theorem zq{X:Cx}:ON X [] GH:=fun _ _ _ H _ I h=>wpAny_tests_nil ⟨H,I,h⟩
theorem zr{X:Cx}{c:Expr}{t:TT}(h:PT X c t):ON X [c] t:=fun pr s σ H Q I k=>wpAny_tests_one (h pr s σ H Q I k)
def yr(X:Cx)(scope:Scope)(N:List Str)(ix:List (Option Nat)):Bool:=
 N.length==ix.length&&(N.zip ix).all fun y=>match y.2 with
  |none=>true
  |some j=>X.N[j]?==some y.1&&scope.names.lookup y.1==some .free
theorem oy{scope:Scope}{env:Env}{x:Str}(h:scope.names.lookup x=some .free):(relabel scope env).names.lookup x=some .cell\/(relabel scope env).names.lookup x=some .free:=by
 unfold relabel;dsimp only;generalize scope.names=l at h;induction l with
 |nil=>cases h
 |cons y l ih=>
  obtain⟨n,k⟩:=y;rw[TY]at h;rw[S5];cases hx:x==n with
  |true=>
   rw[hx]at h;have hk:k=.free:=Tc h;subst hk;dsimp only;split
   ·exact .inl (by rw[TY,hx])
   ·exact .inr (by rw[TY,hx])
  |false=>
   rw[hx]at h;dsimp only;split
   ·rw[TY,hx];exact ih h
   ·rw[TY,hx];exact ih h
theorem oz{scope:Scope}{env:Env}{x:Str}(hc:∀y∈scope.names,y.2≠.cell)(h:(relabel scope env).names.lookup x=some .cell\/(relabel scope env).names.lookup x=some .free):(x,NameKind.free)∈scope.names:=by
 unfold relabel at h;dsimp only at h;generalize scope.names=l at h hc;induction l with
 |nil=>rcases h with h|h <;> cases h
 |cons y l ih=>
  obtain⟨n,k⟩:=y;rw[S5]at h;dsimp only at h;have nk:k≠.cell:=hc (n,k) SI;have R3:=ih (hc:=fun z hz=>hc z (SM _ hz));by_cases cnd:(k==NameKind.free&&env.scope.kind==.function&&env.kindOf n==some .cell)=true
  ·rw[SU cnd,TY]at h;have kf:k=.free:=by
    have:(k==NameKind.free)=true:=by
     simp only[SY]at cnd;exact cnd.1.1
    simpa using this
   cases hx:x==n with
   |true=>
    have:x=n:=by simpa using hx
    rw[this,kf];exact SI
   |false=>
    rw[hx]at h;exact SM _ (R3 h)
  ·rw[SX cnd,TY]at h;cases hx:x==n with
   |true=>
    rw[hx]at h;have:x=n:=by simpa using hx
    rcases h with h|h
    ·exact absurd (Tc h) nk
    ·rw[this,<-Tc h];exact SI
   |false=>
    rw[hx]at h;exact SM _ (R3 h)
section
variable{X:Cx}{pr:List (Addr×Obj)}{σ:L2.St}{H:Hp}{s:Shared}{scope:Scope}{N:List Str}{ix:List (Option Nat)}{fp:List Addr}
theorem mD(ok:X.Ok)(hf:iT scope X.env=true):∀y∈scope.names,y.2=.free->∃c,X.env.cells.lookup y.1=some c:=fun y hy k=>by
 have:=Tq.mp hf y hy;rw[k]at this;simp only[V9,Bool.false_or,WE,Tu]at this;exact ok.has y.1 this
theorem kG(ok:X.Ok)(hf:iT scope X.env=true){x:Str}{c:Addr}(h:(clOf scope X.env).lookup x=some c):X.env.cells.lookup x=some c:=
 ig X.env x c scope.names [] (mD ok hf) (fun z=>nomatch z) h
theorem uu(ok:X.Ok)(hf:iT scope X.env=true){x:Str}(h:(x,NameKind.free)∈scope.names):∃c,(clOf scope X.env).lookup x=some c/\X.env.cells.lookup x=some c:=by
 obtain⟨c,e⟩:=kF X.env x scope.names [] (.inr h);exact⟨c,e,kG ok hf e⟩
theorem _root_.L2.Inv.block(I:Inv X pr σ H s)(hf:iT scope X.env=true)(hk:scope.kind=.function)(Ic:∀y∈scope.names,y.2≠.cell)(Ja:yr X scope N ix=true)(fo:∀b∈fp,tq X pr H b)(fin:∀b∈fp,∃o,s.heap.get? b=some o)
  {h1:Heap}{t1:Nat}{D C:Addr}(hD:D=s.heap.objs.size) (hC:C=s.heap.objs.size+1) (old:∀b o,s.heap.get? b=some o->h1.get? b=some o) {n:Nat}(acc:h1.get? D=some {cls:=.type "list",data:=.seq #[] n})
  {m:Str->Option Value}(ns:h1.Ns C m):Inv (cp X scope N C s H fp (X.pn++pr)) [] (lT ix σ) (upd H D (.lst [])) {s with heap:=h1,toks:=t1}:=by
 have KH:s.heap.objs.size<=C:=by rw[hC];exact Vd _
 have freshD:s.heap.objs.size<=D:=by rw[hD];exact SS _
 have nD:H D=none:=I.hok.fresh freshD;have DC:D≠C:=by rw[hD,hC];exact S8 (UX _)
 have NC:∀b,H b=none->b≠D->upd H D (.lst []) b=none:=fun b n z=>by rw[aE z];exact n
 have OO:∀b o,s.heap.get? b=some o->b≠D:=fun b o e=>S8 (S1 (SW e) freshD)
 have Ms:∀b o,s.heap.get? b=some o->b≠C:=fun b o e=>S8 (S1 (SW e) KH)
 have cellAt:∀x c,(clOf scope X.env).lookup x=some c->∃v o,s.heap.get? c=some o/\o.data=.cell v:=fun x c e=>by
  obtain⟨v,o,ho,hd⟩:=I.cell x c (kG I.ok hf e);exact⟨v,o,ho,hd⟩
 have okY:(cp X scope N C s H fp (X.pn++pr)).Ok:=by
  refine⟨I.ok.mod,hk,I.ok.glob,I.ok.blt,KH,fun x y c e1 e2=>?_,fun x hx=>?_,fun x c z _=>?_,I.ok.hd,I.ok.frames,.inl rfl,fun b hb=>?_,I.bs,?_,fun b o e hb=>?_,fun b hb hs=>?_,I.stack,I.stkFree⟩
  ·exact I.ok.inj x y c (kG I.ok hf e1) (kG I.ok hf e2)
  ·obtain⟨c,e,_⟩:=uu I.ok hf (oz Ic hx);exact⟨c,e⟩
  ·exact absurd (show false=true from z) SN
  ·obtain⟨f0,f1,f2,f3,f4,f5⟩:=fo b hb;refine⟨?_,fun x c e=>f4 x c (kG I.ok hf e)⟩;intro z;have z:b=C:=z;obtain⟨o,ho⟩:=fin b hb;exact Ms b o ho z
  ·exact Td I.ok.bsz I.sz
  ·obtain⟨f0,f1,f2,f3,f4,f5⟩:=fo b hb;rcases f3 with q|q
   ·exact I.ok.noex b o e q
   ·exact absurd (S1 (SW e) (Td I.ok.bsz q)) (UR _)
  ·obtain⟨f0,f1,f2,_⟩:=fo b hb;exact(SV.mp (I.stkSub b hs)).elim f1 f2
 refine⟨okY,rfl,I.bare,Un.laid old freshD nD,⟨m,ns,fun i x v e1 e2 e3=>?_⟩,fun x c e=>?_,?_,fun x c e=>?_,fun p hp=>?_,I.hok.laid old freshD ⟨Tw _,[],n,.nil,acc⟩,?_⟩
 ·
  have e2:(ix.map fun i=>i.bind fun i=>(σ[i]?).bind id)[i]?=some (some v):=e2;have e1:N[i]?=some x:=e1;unfold yr at Ja;rw[SY]at Ja;rw[List.getElem?_map]at e2;cases q:ix[i]? with
  |none=>rw[q]at e2;cases e2
  |some o=>
   rw[q]at e2;have e2:(o.bind fun i=>(σ[i]?).bind id)=some v:=Tc e2;cases o with
   |none=>cases e2
   |some j=>
    have e2:(σ[j]?).bind id=some v:=e2;have hσ:σ[j]?=some (some v):=by
     cases w':σ[j]? with
     |none=>rw[w']at e2;cases e2
     |some y=>rw[w']at e2;exact T3 some e2
    have hz:(N.zip ix)[i]?=some (x,some j):=by
     rw[List.getElem?_zip_eq_some];exact⟨e1,q⟩
    have hy:=Tq.mp Ja.2 _ (Ta hz);simp only[SY,Tu]at hy;have ND:(x,NameKind.free)∈scope.names:=Ux hy.2;obtain⟨c,c1,c2⟩:=uu I.ok hf ND;have Pa:X.env.kindOf x=some .cell\/X.env.kindOf x=some .free:=by
     have:=Tq.mp hf _ ND;simpa using this
    obtain⟨mo,RZ,R0⟩:=I.loc;obtain⟨u,r,l⟩:=R0 j x v hy.1 hσ (.inr Pa);refine⟨u,r,.inr ⟨oy hy.2,c,c1,?_⟩⟩;rcases l with⟨k1,_⟩|⟨_,c',e',Mn⟩
    ·rcases Pa with k2|k2 <;> (rw[k1]at k2;cases k2)
    ·rw[c2]at e';cases e';obtain⟨o,ho,hd⟩:=Mn;exact⟨o,old c o ho,hd⟩
 ·obtain⟨v,o,ho,hd⟩:=cellAt x c e;exact⟨v,o,old c o ho,hd⟩
 ·exact NC C (I.hok.fresh KH) (Ub DC)
 ·obtain⟨v,o,ho,hd⟩:=cellAt x c e;exact NC c (I.freeC x c (kG I.ok hf e)) (OO c o ho)
 ·have hp:p∈X.pn++pr:=by
   have:p∈(X.pn++pr)++[]:=hp
   rwa [Te]at this
  obtain⟨e,nn,ne,nf,d⟩:=I.pin p hp;refine⟨old _ _ e,NC _ nn (OO _ _ e),Ms _ _ e,fun z=>?_,d⟩;exact(SV.mp (I.stkSub p.1 z)).elim ne nf
 ·unfold yr at Ja;rw[SY]at Ja;have:N.length=ix.length:=by simpa using Ja.1
  show(ix.map _).length=N.length;rw[SJ,this]
theorem _root_.L2.Inv.unblock{C:Addr}{σ1:L2.St}{H1:Hp}{s1:Shared}{h2:Heap}(I:Inv X pr σ H s)(fo:∀b∈fp,tq X pr H b)(hC:s.heap.objs.size<=C)(J:Inv (cp X scope N C s H fp (X.pn++pr)) [] σ1 H1 s1)(hs:Heap.SameBut C s1.heap h2):
  Inv X pr σ H1 {s1 with heap:=h2}:=by
 have Ms:∀b o,s.heap.get? b=some o->b≠C:=fun b o e=>S8 (S1 (SW e) hC)
 have bb:Un (Lw X.stack) fp H H1 s.heap s1.heap:=J.base;have jf:H1 C=none:=J.free;refine I.call' (s':={s1 with heap:=h2}) (ch:=fp) J.os ⟨fun b o e n hb hx=>?_,fun b o e n hb hx=>?_,bb.free,fun b o e hx=>?_,bb.tups,bb.frzs,bb.tbls⟩ (fun b ob e=>?_) J.bare fun b hb=>?_
 ·exact(hs.2 b (Ms b o e)).trans (bb.keep b o e n hb hx)
 ·obtain⟨sl,q⟩:=bb.slot b o e n hb hx;exact⟨sl,(hs.2 b (Ms b o e)).trans q⟩
 ·obtain⟨o',q⟩:=bb.there b o e hx;exact⟨o',(hs.2 b (Ms b o e)).trans q⟩
 ·refine(J.hok b ob e).stay (fun c w' hc q=>(hs.2 c ?_).trans q) (fun _ q=>q) fun _ _ q=>q
  rintro rfl;rcases hc with rfl|hc
  ·rw[jf]at e;cases e
  ·rw[jf]at hc;cases hc
 ·obtain⟨f0,f1,f2,f3,f4,f5⟩:=fo b hb;exact⟨f3,f1,f4,f5⟩
end
section
variable{X:Cx}{scope:Scope}{N:List Str}{ix:List (Option Nat)}{tg iter elt:Expr}{ifs:List Expr}{pos:Pos}{wi:TI}{g:TG}{tc:TT}{te:TE}
theorem lU{pr:List (Addr×Obj)}{σ:L2.St}{H2:Hp}{s2:Shared}{J:It}{fp:List Addr}{it:Addr}{tn:Nat->Heap->Prop}{Q:VK}{RR:Value->Addr->Result->Shared->Prop}{E:Value->Shared->Prop}
  (hc:X.calm=true) (I2:Inv X pr σ H2 s2) (T:Turn X.prog X.w X.K tg J fp it tn) (Hn:tn 0 s2.heap) (f2:∀b∈fp,tq X pr H2 b)
  (hg:∀C s H fp pn,PG (cp X scope N C s H fp pn) tg g) (ht:∀C s H fp pn,ON (cp X scope N C s H fp pn) ifs tc) (he:∀C s H fp pn,PE (cp X scope N C s H fp pn) elt te)
  (hf:iT scope X.env=true) (hk:scope.kind=.function) (Ic:∀y∈scope.names,y.2≠.cell) (Ja:yr X scope N ix=true)
  (q:∀D,H2 D=none->∃W:Nat->Nat->L2.St->Hp->Prop,(∃m,W 0 m (lT ix σ) (upd H2 D (.lst [])))/\
   ∀i m σ1 H3,W i m σ1 H3->(J.stop i H3/\Q (.ref D) H3)\/(J.go i H3/\∀x H4,J.yld i H3 x H4->g x σ1 H4 fun σ2 H5=>tc σ2 H5 fun b H6=>if b=true then te σ2 H6 fun v H7=>
    ∃ys,H7 D=some (.lst ys)/\ys.length<sizeLine/\∃m',m'<m/\W (i+1) m' σ2 (upd H7 D (.lst (ys++[v]))) else ∃m',m'<m/\W (i+1) m' σ2 H6))
  (hRR:∀(D C:Addr) (σ1:L2.St) (H1:Hp) (s1:Shared),s2.heap.objs.size<=C->Inv (cp X scope N C s2 H2 fp (X.pn++pr)) [] σ1 H1 s1->Q (.ref D) H1->RR (.ref D) C (.ok .next) s1):
  wpAny (model X.prog X.w) X.A (newList []) (fun acc s₃=>wpAny (model X.prog X.w) X.A (newFunctionEnv scope X.env.globals (clOf scope X.env) [] X.env.qual none .none (some X.env)) (fun Pb s₄=>
   codeAny (model X.prog X.w) X.A (.compStart (.ListComp elt [⟨tg,iter,ifs,0⟩] scope pos) 0 (.ref it) acc {Pb with scope:=relabel scope X.env}) (RR acc Pb.locals) s₄) E s₃) E s2:=by
 refine TK (wpAny_newFunctionEnv Ic (by intro y hy;simp at hy) (fun h₁ hns₁ hsb₁=>?_) hk);dsimp only at hns₁ hsb₁ ⊢;generalize hH2:s2.heap.push {cls:=.type "list",dict:=none,data:=.seq ([]:List Value).toArray}=HH at hns₁ hsb₁ ⊢;have hC:HH.objs.size=s2.heap.objs.size+1:=by rw[<-hH2,UY]
 have hDC:s2.heap.objs.size≠HH.objs.size:=by rw[hC];exact S8 (UX _)
 have Pc:s2.heap.objs.size<=HH.objs.size:=by rw[hC];exact Vd _
 have Ms:∀b o,s2.heap.get? b=some o->b≠HH.objs.size:=fun b o e=>S8 (S1 (SW e) Pc)
 have old:∀b o,s2.heap.get? b=some o->h₁.get? b=some o:=fun b o e=>hsb₁.extBut b o (Ms b o e) (Heap.get?_push_of_some _ (hH2▸Heap.get?_push_of_some _ e))
 have KI:h₁.get? s2.heap.objs.size=some {cls:=.type "list",data:=.seq #[] 0}:=hsb₁.extBut _ _ hDC (Heap.get?_push_of_some _ (hH2▸Heap.get?_push_size _ rfl));obtain⟨W,⟨m0,w0⟩,turn⟩:=q s2.heap.objs.size (I2.hok.fresh (SS _));have fin:∀b∈fp,∃o,s2.heap.get? b=some o:=fun b hb=>let⟨o,e,_⟩:=T.obj 0 _ Hn b hb;⟨o,e⟩
 have KD:∀{H':Hp},(∀b∈fp,H' b=none)->∀b∈fp,tq (cp X scope N HH.objs.size s2 H2 fp (X.pn++pr)) [] H' b:=fun{H'} hn b hb=>by
  obtain⟨f0,f1,ff,f3,f4,f5⟩:=f2 b hb;refine⟨hn b hb,?_,fun z=>?_,.inl hb,fun x c e=>f4 x c (kG I2.ok hf e),fun p hp=>?_⟩
  ·intro z;have z:b=HH.objs.size:=z;obtain⟨o,ho⟩:=fin b hb;exact Ms b o ho z
  ·exact(SV.mp (I2.stkSub b z)).elim f1 ff
  ·have hp:p∈X.pn++pr:=by
    have:p∈(X.pn++pr)++[]:=hp
    rwa [Te]at this
   exact f5 p hp
 have loop:∀s₃:Shared,s₃={s2 with heap:=h₁,toks:=s2.toks+([]:List (Str×Value)).length}->
   codeAny (model X.prog X.w) X.A (.compLoop (.ListComp elt [⟨tg,iter,ifs,0⟩] scope pos) 0 (.ref it) (.ref s2.heap.objs.size) (compEnvC scope (clOf scope X.env) HH.objs.size X.env)) (RR (.ref s2.heap.objs.size) HH.objs.size) s₃:=by
  rintro s₃ rfl;refine ur (fun n s'=>∃i σ' H',Inv (cp X scope N HH.objs.size s2 H2 fp (X.pn++pr)) [] σ' H' s'/\tn i s'.heap/\(∀b∈fp,H' b=none)/\W i n σ' H') ?_ m0
   ⟨0,_,_,I2.block hf hk Ic Ja f2 fin rfl hC old KI hns₁,T.keep 0 _ _ Hn fun b _ o e=>old b o e,fun b hb=>?_,w0⟩
  ·rintro n s3 ⟨i,σ3,H3,I3,HM,O0,w3⟩;rcases turn i n σ3 H3 w3 with⟨stop,qn⟩|⟨go,step⟩
   ·refine HA (T.done (cp X scope N HH.objs.size s2 H2 fp (X.pn++pr)) rfl rfl rfl hc i [] s3 σ3 H3 Mr I3 (KD O0) HM stop) fun r s4 HD=>?_
    obtain⟨hr,I4⟩:=HD;subst hr;exact hRR _ _ σ3 H3 s4 Pc I4 qn
   ·refine HA (T.item (cp X scope N HH.objs.size s2 H2 fp (X.pn++pr)) rfl rfl rfl hc i [] s3 σ3 H3 Mr I3 (KD O0) HM go) fun r s4 HD=>?_
    obtain⟨u,hr,h4⟩:=HD;subst hr;refine HA h4 fun _ s5 HD=>?_
    obtain⟨x,H5,I5,r5,y5,Js,QR⟩:=HD;have QU:=I5.pinned (KD QR) (T.obj _ _ Js);refine HA (hg _ _ _ _ _ _ s5 σ3 H5 x u _ QU r5 (step x H5 y5)) fun _ s6 HD=>?_
    obtain⟨σ6,H6,I6,q6⟩:=HD;refine HA (ht _ _ _ _ _ _ s6 σ6 H6 _ I6 q6) fun ok s7 HD=>?_
    obtain⟨H7,I7,q7⟩:=HD;have again:∀{H8:Hp}{s8:Shared},Inv (cp X scope N HH.objs.size s2 H2 fp (X.pn++pr)) ([]++nV fp s5.heap) σ6 H8 s8->(∃m',m'<n/\W (i+1) m' σ6 H8)->
      ∃m,m<n/\∃i σ' H',Inv (cp X scope N HH.objs.size s2 H2 fp (X.pn++pr)) [] σ' H' s8/\tn i s8.heap/\(∀b∈fp,H' b=none)/\W i m σ' H':=fun{H8 s8} I8 ⟨m',hm,w8⟩=>by
     refine⟨m',hm,i+1,σ6,H8,I8.unpinned,T.keep _ _ _ Js fun b hb o e=>(I8.pin (b,o) (SK _ (SK _ (gY hb e)))).1,fun b hb=>?_,w8⟩;obtain⟨o,e,d⟩:=T.obj _ _ Js b hb;exact(I8.pin (b,o) (SK _ (SK _ (gY hb e)))).2.1
    cases ok with
    |false=>exact again I7 q7
    |true=>
     show wpAny _ _ _ _ _ _;refine HA (he _ _ _ _ _ _ s7 σ6 H7 _ I7 q7) fun x8 s8 HD=>?_
     obtain⟨v8,H8,I8,r8,ys,Q2,HW,q8⟩:=HD;refine HA (oq _ s8 σ6 H8 (.ref s2.heap.objs.size) [v8] (.ref s2.heap.objs.size) [x8] (fun _ H9=>∃m',m'<n/\W (i+1) m' σ6 H9) I8 rfl (.cons r8 .nil) ⟨_,ys,v8,rfl,rfl,Q2,HW,q8⟩) fun _ s9 HD=>?_
     obtain⟨_,H9,I9,_,q9⟩:=HD;exact again I9 q9
  ·rw[aE (fun z=>by
    obtain⟨o,ho⟩:=fin b hb;exact absurd z (S8 (SW ho)))]
   exact(f2 b hb).1
 exact codeAny_compStart_list (loop _ rfl) (T.self _ 0 _ _ _ (T.keep 0 _ _ Hn fun b _ o e=>old b o e) (loop _ rfl))
theorem zt(ix:List (Option Nat))(N:List Str)(hc:X.calm=true)(hi:PI X tg iter wi)(hg:∀C s H fp pn,PG (cp X scope N C s H fp pn) tg g)(ht:∀C s H fp pn,ON (cp X scope N C s H fp pn) ifs tc)(he:∀C s H fp pn,PE (cp X scope N C s H fp pn) elt te)
  (hf:iT scope X.env=true:=by rfl) (hk:scope.kind=.function:=by rfl) (Ic:∀y∈scope.names,y.2≠.cell:=by decide +kernel) (Jh:∀y∈scope.names,y.2=.local->scope.names.lookup y.1=some .local:=by decide +kernel) (Ja:yr X scope N ix=true:=by rfl)
  (hs:∀x,foldedSetIterable iter X.env x=pure x:=by intro _;rfl):PE X (.ListComp elt [⟨tg,iter,ifs,0⟩] scope pos) (zp wi ix g tc te):=by
 intro pr s σ H Q I h;rw[eval_ListComp];have LJ:closureFor scope X.env=pure (clOf scope X.env):=by
  unfold closureFor clOf;have:=gZ X.env scope.names [] (mD I.ok hf);simpa using this
 refine Wa (use:=none) rfl hs LJ hk Jh (HA (hi pr s σ H _ I h) fun v s1 h1=>HA h1 fun Ql s2 h2=>?_);obtain⟨it,fp,tn,J,H2,e,I2,T,Hn,f2,q⟩:=h2;subst e;refine lU (RR:=fun acc C=>compPost (model X.prog X.w) X.A X.xe none (EP X pr σ Q) acc C) (Q:=Q) (iter:=iter) hc I2 T Hn f2 hg ht he hf hk Ic Ja q fun D C σ1 H1 s1 hC J1 q1=>?_
 obtain⟨m,ns,_⟩:=J1.loc;exact⟨m,ns,fun h' Q3=>⟨.ref D,H1,I2.unblock f2 hC J1 Q3,rfl,q1⟩⟩
end
section
variable{X:Cx}{scope:Scope}{N:List Str}{ix:List (Option Nat)}{tg iter elt:Expr}{ifs:List Expr}{pos:Pos}{wi:TI}{g:TG}{tc:TT}{te:TE}
theorem zu{i:Nat}{y:Str}{py LK:Pos}(ix:List (Option Nat))(N:List Str)(hN:X.N.Nodup)(Q4:X.N[i]?=some y)(hy:Loc X.env.scope y)(hc:X.calm=true)(hi:PI X tg iter wi)(hg:∀C s H fp pn,PG (cp X scope N C s H fp pn) tg g)(ht:∀C s H fp pn,ON (cp X scope N C s H fp pn) ifs tc)
  (he:∀C s H fp pn,PE (cp X scope N C s H fp pn) elt te) (Q5:swapsWith (.ListComp elt [⟨tg,iter,ifs,0⟩] scope pos) (some (.Name y py)) LK.line X.env=pure true:=by rfl)
  (hf:iT scope X.env=true:=by rfl) (hk:scope.kind=.function:=by rfl) (Ic:∀y∈scope.names,y.2≠.cell:=by decide +kernel) (Jh:∀y∈scope.names,y.2=.local->scope.names.lookup y.1=some .local:=by decide +kernel) (Ja:yr X scope N ix=true:=by rfl)
  (hs:∀x,foldedSetIterable iter X.env x=pure x:=by intro _;rfl) (Le:X.fn y=true\/X.env.scope.names.lookup y=some .local:=by first|exact .inl rfl|exact .inr rfl):
  PS X (.Assign [.Name y py] (.ListComp elt [⟨tg,iter,ifs,0⟩] scope pos) LK) (fun D σ H=>zp wi ix g tc te σ H fun v H'=>D.nx (σ.set i (some v)) H'):=by
 intro pr s σ H Dd I h;rw[exec_Assign_Name_used _ _ _ _ Q5];have LJ:closureFor scope X.env=pure (clOf scope X.env):=by
  unfold closureFor clOf;have:=gZ X.env scope.names [] (mD I.ok hf);simpa using this
 refine SH (W8 (SH ?_));show wpAny _ X.A (do let _ <-comprehension (.ListComp elt [⟨tg,iter,ifs,0⟩] scope pos) scope X.env _ (newList []) false (eval iter X.env) (some (assign (.Name y py) X.env))) _ _ s;refine SH (Vg (Wa (use:=some (assign (.Name y py) X.env)) (Q:=fun _ s'=>SP X pr Dd .next s') rfl hs LJ hk Jh
  (HA (hi pr s σ H _ I h) fun v s1 h1=>HA h1 fun Ql s2 h2=>?_)) (fun _ s' hq=>SO (SO hq)) fun _ _ e=>e)
 obtain⟨it,fp,tn,J,H2,e,I2,T,Hn,f2,q⟩:=h2;subst e;refine lU (RR:=fun acc C=>compPost (model X.prog X.w) X.A X.xe (some (assign (.Name y py) X.env)) (fun _ s'=>SP X pr Dd .next s') acc C) (Q:=fun v H'=>Dd.nx (σ.set i (some v)) H') (iter:=iter) hc I2 T Hn f2 hg ht he hf hk Ic Ja q fun D C σ1 H1 s1 hC J1 q1=>?_
 obtain⟨m,ns,_⟩:=id J1.loc;have ns:s1.heap.Ns C m:=ns;have I3:Inv X pr σ H1 s1:=I2.unblock f2 hC J1 (.refl ..);show wpAny _ X.A (assign (.Name y py) X.env (.ref D)) _ _ s1;refine wpAny_assign_Name (nU I3 hN Q4 hy (v:=.ref D) rfl (fun s4 I4 ⟨a,sb,ha⟩=>?_) Le);have aC:C≠a:=by
  intro z;rcases ha with ha|ha
  ·exact S8 (S1 I2.lt hC) (ha▸z.symm)
  ·obtain⟨v,o,ho,_⟩:=I2.cell y a ha;exact S8 (S1 (SW ho) hC) z.symm
 refine⟨m,ns.sameBut sb aC,fun h' Q3=>?_⟩;have jf:H1 C=none:=J1.free;have kk:∀b o,b≠C->s4.heap.get? b=some o->h'.get? b=some o:=fun b o hb e=>(Q3.2 b hb).trans e
 refine⟨σ.set i (some (.ref D)),H1,?_,q1⟩;have z:=I4.turned (t':=s4.toks) kk jf (fun z=>S8 (S1 I2.lt hC) z.symm) (.inr (Td I2.sz hC)) (fun x c e z=>by
  obtain⟨v,o,ho,_⟩:=I2.cell x c e;exact S8 (S1 (SW ho) hC) z) (fun p hp z=>S8 (S1 (SW (I2.pin p hp).1) hC) z)
 exact z
end
def Itv(val:Nat->V)(n:Nat):It:=⟨fun i _=>i<n,fun i H x H'=>H'=H/\x=val i,fun i _=>i=n⟩
theorem qE{P:Program}{w:World}{K:W.Frag}{tg:Expr}(ty:String)(LG:["enumerate","zip","dict_itemiterator","dict_reverseitemiterator","odict_iterator","itertools.zip_longest","itertools.pairwise"].contains ty=false)(l:List Nat)(t:Tok)(it:Addr)
  (Wk:∀A:Around,A.handled=none->Walks P w A it [it] [it] (S l).cps.size (SignAt (S l)) (fun i h=>h.IsStrIter it ty (S l) t i))
  (self:∀(A:Around) (i:Nat) (s:Shared) (Q:Value->Shared->Prop) (E:Value->Shared->Prop),s.heap.IsStrIter it ty (S l) t i->Q (.ref it) s->wpAny (model P w) A (pyIter (.ref it)) Q E s):
  Turn P w K tg (Itv (fun i=>.str (S [l.getD i 0])) l.length) [it] it (fun i h=>h.IsStrIter it ty (S l) t i) where
 mem:=by simp
 obj:=fun i h st b hb=>by
  have e:b=it:=by simpa using hb
  subst e;obtain⟨o,e,c,d⟩:=st;exact⟨o,e,fun v z=>by rw[d]at z;cases z⟩
 keep:=fun i h h' st k=>by
  obtain⟨o,e,r⟩:=st;exact⟨o,k it (by simp) o e,r⟩
 item:=by
  intro X hP hw hK hc i pr s σ H E I hf st hg;subst hP hw hK;obtain⟨f0,f1,f2,f3,f4,f5⟩:=hf it (by simp);have hg:i<l.length:=hg;refine(Wk X.A (I.ok.hd hc)).item i s _ _ (by simpa[S] using hg) st fun v h' tk hv Jr kk=>?_
  obtain⟨c,u,OH,rfl⟩:=hv;have I1:Inv X pr σ H {s with heap:=h',toks:=tk}:=I.turned (fun b o hb e=>kk b o (by simpa using hb) e) f0 f1 f3 f4 f5;obtain⟨o,e,cc,d⟩:=id Jr;have JT:l.getD i 0=c:=by
   have:l[i]?=some c:=by simpa[S] using OH
   rw[List.getD_eq_getElem?_getD,this];rfl
  refine⟨_,rfl,tM (s:={s with heap:=h',toks:=tk}) e cc d LG ⟨.str (S [l.getD i 0]),H,I1,⟨u,?_⟩,⟨rfl,rfl⟩,Jr,fun b hb=>(hf b hb).1⟩⟩;rw[JT]
 done:=by
  intro X hP hw hK hc i pr s σ H E I hf st hg;subst hP hw hK;obtain⟨f0,f1,f2,f3,f4,f5⟩:=hf it (by simp);have hg:i=l.length:=hg;have hn:(S l).cps.size=i:=by rw[hg];simp[S]
  refine(Wk X.A (I.ok.hd hc)).done s _ _ (by rw[hn];exact st) fun h' tk kk=>⟨rfl,I.turned (fun b o hb e=>kk b o (by simpa using hb) e) f0 f1 f3 f4 f5⟩
 self:=self
def GI(tl:TE):TI:=fun σ H R=>tl σ H fun x H1=>∃l,x=.str (S l)/\R (Itv (fun i=>.str (S [l.getD i 0])) l.length) H1
section
variable{X:Cx}{tg:Expr}
theorem Ce{l:Expr}{tl:TE}(hl:PE X l tl):PI X tg l (GI tl):=by
 intro pr s σ H R I h;refine HA (hl pr s σ H _ I h) fun v s1 HD=>?_
 obtain⟨x,H1,I1,r1,l,e,q⟩:=HD;subst e;obtain⟨t,rfl⟩:=r1;cases ha:(S l).cps.all (·< 128)
 ·refine wpAny_pyIter_wide ha ?_;refine⟨s1.heap.objs.size,[s1.heap.objs.size],_,_,H1,rfl,I1.kept (t':=s1.toks) fun b o e=>Heap.get?_push_of_some _ e,
   qE "str_iterator" (by decide) l t _ (fun A hA=>Walks.strWide hA _ _ _) (fun _ _ _ _ _ st h=>wpAny_pyIter_striter_wide st h),⟨_,Heap.get?_push_size _ rfl,rfl,rfl⟩,fun b hb=>?_,q⟩
  have e:b=s1.heap.objs.size:=by simpa using hb
  subst e;exact I1.fpOk (SS _) (I1.hok.fresh (SS _))
 ·refine wpAny_pyIter_ascii ha ?_;refine⟨s1.heap.objs.size,[s1.heap.objs.size],_,_,H1,rfl,I1.kept (t':=s1.toks) fun b o e=>Heap.get?_push_of_some _ e,
   qE "str_ascii_iterator" (by decide) l t _ (fun A hA=>Walks.strAscii hA _ _ _) (fun _ _ _ _ _ st h=>wpAny_pyIter_striter_ascii st h),⟨_,Heap.get?_push_size _ rfl,rfl,rfl⟩,fun b hb=>?_,q⟩
  have e:b=s1.heap.objs.size:=by simpa using hb
  subst e;exact I1.fpOk (SS _) (I1.hok.fresh (SS _))
theorem kj{pr:List (Addr×Obj)}{s:Shared}{σ:L2.St}{H:Hp}{p:Addr}{xs:List V}{E:Value->Shared->Prop}{R:Value->Shared->Prop}(hc:X.calm=true)(I:Inv X pr σ H s)(h:SqL X.K H p xs\/SqT X.K H p xs)
  (k:∀(it:Addr) (fp:List Addr) (o:Obj) (us:List Value) (Sx:Nat->Heap->Prop),Vals xs us->Walks X.prog X.w X.A.in1 it fp [it] us.length (fun i v=>us[i]?=some v) Sx->Sx 0 (s.heap.push o)->(∀b∈fp,b<(s.heap.push o).objs.size)->it=s.heap.objs.size->R (.ref it) {s with heap:=s.heap.push o}):
  wpAny (model X.prog X.w) X.A.in1 (pyIter (.ref p)) R E s:=by
 have hh:X.A.in1.handled=none:=I.ok.hd hc;rcases h with h|h
 ·obtain⟨us,r,pl,hz⟩:=I.list h;have HW:p<s.heap.objs.size:=by obtain⟨o,ho,_⟩:=pl.isList;exact SW ho
  refine UK pl.isList (k s.heap.objs.size [s.heap.objs.size,p] _ us (fun i h=>h.IsListIter s.heap.objs.size p i/\h.IsList p us.toArray) r (by
   have W:=Walks.list (prog:=X.prog) (w:=X.w) hh s.heap.objs.size p (S8 HW) us.toArray;simpa using W) ⟨⟨_,Heap.get?_push_size _ rfl,rfl,rfl⟩,pl.isList.at fun o e=>Heap.get?_push_of_some _ e⟩ (fun b hb=>?_) rfl)
  rw[UY];rcases SV.mp hb with rfl|hb
  ·exact UX _
  ·rw[S7]at hb;rw[hb];exact Wb HW
 ·obtain⟨us,r,pl,hz⟩:=I.tuple h;have NB:s.heap.IsTuple p us.toArray:=pl;have HW:p<s.heap.objs.size:=by obtain⟨o,ho,_⟩:=pl;exact SW ho
  refine UD NB (k s.heap.objs.size [s.heap.objs.size,p] _ us (fun i h=>h.IsTupleIter s.heap.objs.size p i/\h.IsTuple p us.toArray) r (by
   have W:=Walks.tuple (prog:=X.prog) (w:=X.w) hh s.heap.objs.size p (S8 HW) us.toArray;simpa using W) ⟨⟨_,Heap.get?_push_size _ rfl,rfl,rfl⟩,NB.at fun o e=>Heap.get?_push_of_some _ e⟩ (fun b hb=>?_) rfl)
  rw[UY];rcases SV.mp hb with rfl|hb
  ·exact UX _
  ·rw[S7]at hb;rw[hb];exact Wb HW
theorem g0{pr:List (Addr×Obj)}{s:Shared}{σ:L2.St}{H:Hp}{o:Obj}{h':Heap}{tk:Nat}(I:Inv X pr σ H s)(kk:∀b ob,b∉[s.heap.objs.size]->(s.heap.push o).get? b=some ob->h'.get? b=some ob):
  Inv X pr σ H {s with heap:=h',toks:=tk}:=I.kept fun b ob e=>kk b ob (fun z=>S8 (SW e) (by simpa using z)) (Heap.get?_push_of_some _ e)
theorem bB{α:Type}(l:List α)(i:Nat)(d:α)(h:i<l.length):l.getD i d=l[i]:=by
 rw[List.getD_eq_getElem?_getD,List.getElem?_eq_getElem h];rfl
def Cf:V->Bool
 | .bl b=>b
 |_=>false
def EO:V->Bool
 | .bl _=>true
 |_=>false
theorem xh{xs:List V}{us:List Value}(r:Vals xs us)(hb:xs.all EO=true):TruthOf X.prog X.w X.A.in1 (fun i v=>us[i]?=some v) (fun i=>Cf (xs.getD i .non)):=by
 intro i v s Q E hv q;have hl:=r.length;obtain⟨hi,_⟩:=List.getElem?_eq_some_iff.mp hv;have e1:xs[i]?=some (xs[i]'(by lia)):=List.getElem?_eq_getElem _;obtain⟨u,hu,ru⟩:=r.get e1;rw[hv]at hu;cases hu;have q:Q (Cf (xs.getD i .non)) s:=q;rw[zm e1]at q;have bl:=Tq.mp hb _ (Ta e1);generalize xs[i]'(by lia)=x at ru q bl;cases x <;> first|(exact absurd (show false=true from bl) SN)|skip
 cases ru;exact U4 q
theorem uv{xs:List V}(f:V->Bool):(List.range xs.length).all (fun i=>f (xs.getD i .non))=xs.all f:=by
 rw[Th,Tq,Tq];constructor
 ·intro h x hx;obtain⟨i,hi,rfl⟩:=VP hx;have:=h i (TB.mpr hi)
  rwa [bB _ _ _ hi]at this
 ·intro h i hi;have hi:=TB.mp hi;rw[bB _ _ _ hi];exact h _ (Uo hi)
theorem xi(hc:X.calm=true):dm X (.builtin "all") (fun vs H Q=>∃p xs,vs=[.ref p]/\(SqL X.K H p xs\/SqT X.K H p xs)/\xs.all EO=true/\Q (.bl (xs.all Cf)) H):=by
 intro pr s σ H vs us Q I r h;obtain⟨p,xs,rfl,hp,hb,q⟩:=h;obtain⟨u,rfl,r1⟩:=gk r;cases r1;refine call_all_walk (kj hc I hp fun it fp o ws Sx rv W st hf hit=>⟨it,fp,[it],_,_,Sx,_,rfl,W,st,xh rv hb,fun h' tk kk=>?_⟩);subst hit;refine⟨.bl (xs.all Cf),H,g0 (s:=s) I kk,?_,q⟩;rw[<-rv.length,uv];rfl
theorem e8{ns:List Int}{us:List Value}(r:Vals (ns.map V.int) us){i:Nat}{v:Value}(h:us[i]?=some v):∃t,v=.int (ns.getD i 0) t:=by
 have hl:=r.length;rw[SJ]at hl;obtain⟨hi,_⟩:=List.getElem?_eq_some_iff.mp h;have e1:(ns.map V.int)[i]?=some (.int (ns.getD i 0)):=by
  rw[List.getElem?_map,List.getElem?_eq_getElem (by lia),bB _ _ _ (by lia)];rfl
 obtain⟨u,hu,t,rfl⟩:=r.get e1;rw[h]at hu;exact⟨t,Tc hu⟩
theorem qF{ns:List Int}{us:List Value}(r:Vals (ns.map V.int) us)(A:Around):CmpOf X.prog X.w A .Gt (fun i v=>us[i]?=some v) (fun i j=>decide (ns.getD j 0<ns.getD i 0)):=by
 intro i j vi vj s Q E hi hj q;obtain⟨t,rfl⟩:=e8 r hi;obtain⟨t',rfl⟩:=e8 r hj;exact gt_int q
theorem uw{ns:List Int}{us:List Value}(r:Vals (ns.map V.int) us)(A:Around):CmpOf X.prog X.w A .Lt (fun i v=>us[i]?=some v) (fun i j=>decide (ns.getD i 0<ns.getD j 0)):=by
 intro i j vi vj s Q E hi hj q;obtain⟨t,rfl⟩:=e8 r hi;obtain⟨t',rfl⟩:=e8 r hj;exact lt_int q
def fJ(ns:List Int):Int:=ns.foldl max (ns.headD 0)
def zv(ns:List Int):Int:=ns.foldl min (ns.headD 0)
theorem mE(ns:List Int):∀k,k<ns.length->argBest (fun i j=>decide (ns.getD j 0<ns.getD i 0)) k<ns.length/\ns.getD (argBest (fun i j=>decide (ns.getD j 0<ns.getD i 0)) k) 0=(ns.take (k+1)).foldl max (ns.headD 0)
 | 0,h=>by
  refine⟨h,?_⟩;cases ns with
  |nil=>cases h
  |cons a l=>show a=max a a;lia
 |k+1,h=>by
  obtain⟨Q6,Q7⟩:=mE ns k (by lia);have et:ns.take (k+1+1)=ns.take (k+1)++[ns.getD (k+1) 0]:=by
   rw[U5,List.getElem?_eq_getElem h,bB _ _ _ h];rfl
  rw[et,List.foldl_append,<-Q7];show(if decide (ns.getD (argBest (fun i j=>decide (ns.getD j 0<ns.getD i 0)) k) 0<ns.getD (k+1) 0)=true then k+1 else argBest (fun i j=>decide (ns.getD j 0<ns.getD i 0)) k)<ns.length/\
   ns.getD (if decide (ns.getD (argBest (fun i j=>decide (ns.getD j 0<ns.getD i 0)) k) 0<ns.getD (k+1) 0)=true then k+1 else argBest (fun i j=>decide (ns.getD j 0<ns.getD i 0)) k) 0=max _ _
  split
  ·rename_i hd;have:=U6 hd;exact⟨h,by lia⟩
  ·rename_i hd;rw[S3]at hd;exact⟨Q6,by lia⟩
theorem qG(ns:List Int):∀k,k<ns.length->argBest (fun i j=>decide (ns.getD i 0<ns.getD j 0)) k<ns.length/\ns.getD (argBest (fun i j=>decide (ns.getD i 0<ns.getD j 0)) k) 0=(ns.take (k+1)).foldl min (ns.headD 0)
 | 0,h=>by
  refine⟨h,?_⟩;cases ns with
  |nil=>cases h
  |cons a l=>show a=min a a;lia
 |k+1,h=>by
  obtain⟨Q6,Q7⟩:=qG ns k (by lia);have et:ns.take (k+1+1)=ns.take (k+1)++[ns.getD (k+1) 0]:=by
   rw[U5,List.getElem?_eq_getElem h,bB _ _ _ h];rfl
  rw[et,List.foldl_append,<-Q7];show(if decide (ns.getD (k+1) 0<ns.getD (argBest (fun i j=>decide (ns.getD i 0<ns.getD j 0)) k) 0)=true then k+1 else argBest (fun i j=>decide (ns.getD i 0<ns.getD j 0)) k)<ns.length/\
   ns.getD (if decide (ns.getD (k+1) 0<ns.getD (argBest (fun i j=>decide (ns.getD i 0<ns.getD j 0)) k) 0)=true then k+1 else argBest (fun i j=>decide (ns.getD i 0<ns.getD j 0)) k) 0=min _ _
  split
  ·rename_i hd;have:=U6 hd;exact⟨h,by lia⟩
  ·rename_i hd;rw[S3]at hd;exact⟨Q6,by lia⟩
theorem ux(hc:X.calm=true):dm X (.builtin "max") (fun vs H Q=>∃(p:Addr) (ns:List Int),vs=[.ref p]/\(SqL X.K H p (ns.map V.int)\/SqT X.K H p (ns.map V.int))/\ns≠[]/\Q (.int (fJ ns)) H):=by
 intro pr s σ H vs us Q I r h;obtain⟨p,ns,rfl,hp,Kz,q⟩:=h;obtain⟨u,rfl,r1⟩:=gk r;cases r1;have hn:0<ns.length:=by cases ns with|nil=>exact absurd rfl Kz|cons _ _=>simp
 refine call_max_walk (kj hc I hp fun it fp o ws Sx rv W st hf hit=>?_);have hl:=rv.length;rw[SJ]at hl;refine⟨it,fp,[it],_,_,Sx,_,rfl,W,st,hf,by lia,qF rv _,fun v h' tk hv kk=>?_⟩;subst hit;obtain⟨b1,b2⟩:=mE ns (ns.length-1) (by lia);rw[<-hl]at hv;obtain⟨t,rfl⟩:=e8 rv hv;refine⟨.int (fJ ns),H,g0 (s:=s) I kk,⟨t,?_⟩,q⟩;rw[b2,show ns.length-1+1=ns.length by lia,Vc];rfl
theorem uy(hc:X.calm=true):dm X (.builtin "min") (fun vs H Q=>∃(p:Addr) (ns:List Int),vs=[.ref p]/\(SqL X.K H p (ns.map V.int)\/SqT X.K H p (ns.map V.int))/\ns≠[]/\Q (.int (zv ns)) H):=by
 intro pr s σ H vs us Q I r h;obtain⟨p,ns,rfl,hp,Kz,q⟩:=h;obtain⟨u,rfl,r1⟩:=gk r;cases r1;have hn:0<ns.length:=by cases ns with|nil=>exact absurd rfl Kz|cons _ _=>simp
 refine call_min_walk (kj hc I hp fun it fp o ws Sx rv W st hf hit=>?_);have hl:=rv.length;rw[SJ]at hl;refine⟨it,fp,[it],_,_,Sx,_,rfl,W,st,hf,by lia,uw rv _,fun v h' tk hv kk=>?_⟩;subst hit;obtain⟨b1,b2⟩:=qG ns (ns.length-1) (by lia);rw[<-hl]at hv;obtain⟨t,rfl⟩:=e8 rv hv;refine⟨.int (zv ns),H,g0 (s:=s) I kk,⟨t,?_⟩,q⟩;rw[b2,show ns.length-1+1=ns.length by lia,Vc];rfl
end
section
variable{prog:Program}{w:World}{A:Around}{R:Result->Shared->Prop}{it:Addr}{fp wr:List Addr}{n:Nat}{Pv:Nat->Value->Prop}{Sx:Nat->Heap->Prop}{kw:List (Str×Value)}
theorem mF:(toString "max"++toString ".loop" : String) = "max.loop":=by decide
theorem ER(Wk:Walks prog w A.in1 it fp wr n Pv Sx)(bt:Nat->Nat->Bool)(cm:CmpOf prog w A.in1 .Gt Pv bt)(T:Addr)(nT:T∉fp):∀(k j:Nat) (s:Shared) (vb:Value) (c:Nat),n-(j+1)=k->j+1<=n->Sx (j+1) s.heap->Pv (argBest bt j) vb->
   s.heap.get? T=some {cls:=.type "list",dict:=none,data:=.seq #[vb,vb] c,slots:=#[]}->
   (∀v h' tk,Pv (argBest bt (n-1)) v->(∀b o,b∉wr->b≠T->s.heap.get? b=some o->h'.get? b=some o)->R (.ok (.ret v)) {s with heap:=h',toks:=tk})->codeAny (model prog w) A (.builtin "max.loop" ⟨[.ref it,.none,.ref T],kw⟩) R s:=by
 have Qp:T∉wr:=fun z=>nT (Wk.sub _ z)
 intro k;induction k with
 |zero=>
  intro j s vb c hk hj st hp hT fin;have ej:j+1=n:=by lia
  refine WG Wn ?_;rw[VE UC _];show wpAny _ A.in1 (seqItems? (.ref T) >>= _) _ _ s;refine SH (T4 hT rfl ?_);show wpAny _ A.in1 (tryCatch (pyNext (.ref it)) _ >>= _) _ _ s;refine SH (Vy (Wk.done s _ _ (ej▸st) fun h' tk kk=>?_));have Nh:=kk T _ Qp hT;show wpAny _ A.in1 (updateSeq T (fun _=>#[]) >>= _) _ _ _;refine SH (WH Nh rfl (SH (Ve (SO ?_))));exact fin vb _ tk (by rw[<-ej];exact hp) fun b o bw bT e=>(Heap.get?_update_other _ _ (Ub bT)).trans (kk b o bw e)
 |succ k ih=>
  intro j s vb c hk hj st hp hT fin;have jn:j+1<n:=by lia
  refine WG Wn ?_;rw[VE UC _];show wpAny _ A.in1 (seqItems? (.ref T) >>= _) _ _ s;refine SH (T4 hT rfl ?_);show wpAny _ A.in1 (tryCatch (pyNext (.ref it)) _ >>= _) _ _ s;refine SH (Vy (Wk.item (j+1) s _ _ jn st fun v h' tk pv Jr kk=>?_));have Nh:=kk T _ Qp hT;show wpAny _ A.in1 (tryCatch (holding [v,v] (richCompare .Gt v vb >>= _)) _ >>= _) _ _ _;refine SH (Vy (UE (SH (cm (j+1) (argBest bt j) v vb _ _ _ pv hp (SH (UE (U4 (SH (Ve (SO ?_))))))))));cases eb:bt (j+1) (argBest bt j) with
  |true=>
   rw[SU rfl];refine SH (WH Nh rfl (SH (Ve ?_)));rw[mF];refine SO ⟨Wf UC _,ih (j+1) _ v _ (by lia) jn (Wk.frame _ _ _ Jr fun b bf o e=>?_) (by simp only[argBest,eb,Vm];exact pv) (Heap.get?_update_self _ Nh rfl) fun v2 h2 t2 p2 k2=>?_⟩
   ·exact(Heap.get?_update_other _ _ (fun z:T=b=>nT (by rw[z];exact bf))).trans e
   ·exact fin v2 h2 t2 p2 fun b o bw bT e=>k2 b o bw bT ((Heap.get?_update_other _ _ (Ub bT)).trans (kk b o bw e))
  |false=>
   rw[SX SN];refine SH (Ve ?_);rw[mF];refine SO ⟨Wf UC _,ih (j+1) _ vb c (by lia) jn Jr (by simp only[argBest,eb,Ul,Vl];exact hp) Nh fun v2 h2 t2 p2 k2=>?_⟩;exact fin v2 h2 t2 p2 fun b o bw bT e=>k2 b o bw bT (kk b o bw e)
theorem xj(Wk:Walks prog w A.in1 it fp wr n Pv Sx)(bt:Nat->Nat->Bool)(cm:CmpOf prog w A.in1 .Gt Pv bt)(T:Addr)(nT:T∉fp){s:Shared}{c:Nat}{d:Value}(hkw:kw=[(Str.ofString "default",d)])(st:Sx 0 s.heap)
  (hT:s.heap.get? T=some {cls:=.type "list",dict:=none,data:=.seq #[] c,slots:=#[]}) (fin:∀v h' tk,(if n=0 then v=d else Pv (argBest bt (n-1)) v)->(∀b o,b∉wr->b≠T->s.heap.get? b=some o->h'.get? b=some o)->R (.ok (.ret v)) {s with heap:=h',toks:=tk}):
  codeAny (model prog w) A (.builtin "max.loop" ⟨[.ref it,.none,.ref T],kw⟩) R s:=by
 have Qp:T∉wr:=fun z=>nT (Wk.sub _ z)
 refine WG Wn ?_;rw[VE UC _];show wpAny _ A.in1 (seqItems? (.ref T) >>= _) _ _ s;refine SH (T4 hT rfl ?_);show wpAny _ A.in1 (tryCatch (pyNext (.ref it)) _ >>= _) _ _ s;by_cases hn:n=0
 ·refine SH (Vy (Wk.done s _ _ (by rw[hn];exact st) fun h' tk kk=>?_));subst hkw;refine SH (WT (SO ?_));exact fin d _ tk (by rw[SU hn]) fun b o bw bT e=>kk b o bw e
 ·refine SH (Vy (Wk.item 0 s _ _ (by lia) st fun v h' tk pv Jr kk=>?_));have Nh:=kk T _ Qp hT;show wpAny _ A.in1 (updateSeq T (fun _=>#[v,v]) >>= _) _ _ _;refine SH (WH Nh rfl ?_);rw[mF];refine SO ⟨Wf UC _,ER Wk bt cm T nT _ 0 _ v _ rfl (by lia) (Wk.frame _ _ _ Jr fun b bf o e=>?_) pv (Heap.get?_update_self _ Nh rfl) fun v2 h2 t2 p2 k2=>?_⟩
  ·exact(Heap.get?_update_other _ _ (fun z:T=b=>nT (by rw[z];exact bf))).trans e
  ·exact fin v2 h2 t2 (by rw[SX hn];exact p2) fun b o bw bT e=>k2 b o bw bT ((Heap.get?_update_other _ _ (Ub bT)).trans (kk b o bw e))
end
theorem tree_kw{prog:Program}{w:World}{A:Around}{E:Value->Shared->Prop}{s:Shared}{id:String}{bf:Builtin}{args:List Value}{kw:List (Str×Value)}{Q:Value->Shared->Prop}(hk:builtinKind id=none)(hp:plainId id=true)
  (hb:entryFor table id=some bf) (ha:argsOk id ⟨args,kw⟩)
  (hc:wpAny (model prog w) A.in1 (bf ⟨args,kw⟩) (fun fin s'=>match fin with
   | .done f=>(match(Except.ok f:Result) with | .ok (.ret v)=>Q v s' | .ok _=>False | .error e=>E e s')
   | .again c'=>c'.quiet=true/\codeAny (model prog w) A c' (fun r s'=>match r with | .ok (.ret v)=>Q v s' | .ok _=>False | .error e=>E e s') s') E s):wpAny (model prog w) A (call (.builtin id) args kw) Q E s:=by
 refine wpAny_call (codeAny_call_builtin hp hb ?_);simp only[checkBuiltinCall,hk];cases hsig:Manifest.signature? id with
 |none=>exact SO hc
 |some sig=>
  have ha2:Bind.checkArgs id sig ⟨args,kw⟩=pure ():=by simpa only[argsOk,hsig] using ha
  simp only[ha2];exact SO hc
theorem uz(a d:Value):argsOk "max" ⟨[a],[(Str.ofString "default",d)]⟩:=by unfold argsOk;kernel_rfl
section
variable{X:Cx}{e k:Expr}{te tk:TE}{p pos Lf:Pos}
def maxD(ns:List Int)(d:Int):Int:=if ns=[] then d else fJ ns
def ES(K:W.Frag)(te tk:TE):TE:=fun σ H Q=>wY te Ef σ H fun vs H1=>wY tk Ef σ H1 fun ks H2=>∃(a:Addr) (ns:List Int) (d:Int),vs=[.ref a]/\ks=[.int d]/\(SqL K H2 a (ns.map V.int)\/SqT K H2 a (ns.map V.int))/\Q (.int (maxD ns d)) H2
theorem zw(hc:X.calm=true)(hg:Gl X "max")(hm:X.mg "max" = none)(he:PE X e te)(hk:PE X k tk)(hs:starEach [e] X.env=[(false,eval e X.env)]:=by rfl):
  PE X (.Call (.Name "max" p) [e] [⟨some "default",k,Lf⟩] pos) (ES X.K te tk):=by
 intro pr s σ H Q I h;refine UZ (kA I hg hm (by decide +kernel:bootBuiltins "max" = some (.builtin "max")) ?_ (by decide) (by decide));refine callWith_kw (HA (gq he nX (hs:=hs) pos pr s σ H _ I h) fun us s1 ⟨vs,H1,I1,r1,q1⟩=>?_) (by rw[hs];rfl) (by rw[hs];rfl);refine HA (zb hk B2 pos pr s1 σ H1 _ I1 q1) fun ws s2 HD=>?_
 obtain⟨ks,H2,I2,r2,a,ns,d,e1,e2,hp,q⟩:=HD;subst e1 e2;obtain⟨u,rfl,ru⟩:=gk r1;obtain⟨w',rfl,t,rfl⟩:=gk r2;cases ru;show wpAny _ _ (call (.builtin "max") [.ref a] [(Str.ofString "default",.int d t)]) _ _ s2;refine tree_kw F.kind_max F.plain_max F.entry_max (uz _ _) ?_;show wpAny _ X.A.in1 (Builtin.Builtins.bindParams "max" ["key","default"] 0 ⟨[],[(Str.ofString "default",.int d t)]⟩ >>= _) _ _ s2;refine SH (wpAny_of_eq (show Builtin.Builtins.bindParams "max" ["key","default"] 0 ⟨[],[(Str.ofString "default",.int d t)]⟩=pure [none,some (.int d t)] from rfl) ?_);refine SH (SO ?_);refine SH (kj hc I2 hp fun it fp o ws Sx rv Wk st hf hit=>?_);have hl:=rv.length;rw[SJ]at hl;refine SH (TK ?_);have nT:(s2.heap.push o).objs.size∉fp:=fun z=>UR _ (hf _ z)
 rw[mF];refine SO ⟨Wf UC _,xj Wk _ (qF rv _) (s2.heap.push o).objs.size nT rfl (Wk.frame _ _ _ st fun b _ ob e=>Heap.get?_push_of_some _ e) (Heap.get?_push_size _ rfl) fun v h' tk' hv kk=>?_⟩;subst hit;have I3:Inv X pr σ H2 {s2 with heap:=h',toks:=tk'}:=g0 (s:=s2) (o:=o) I2 fun b ob nb e=>kk b ob nb (S8 (SW e)) (Heap.get?_push_of_some _ e)
 refine⟨.int (maxD ns d),H2,I3,?_,q⟩;unfold maxD;by_cases hn:ns=[]
 ·rw[SU (by rw[<-hl,hn];rfl)]at hv;rw[SU hn,hv];exact⟨t,rfl⟩
 ·have h0:0<ns.length:=VQ.mpr hn;rw[SX (by lia)]at hv;rw[SX hn];obtain⟨b1,b2⟩:=mE ns (ns.length-1) (by lia);rw[<-hl]at hv;obtain⟨t2,rfl⟩:=e8 rv hv;refine⟨t2,?_⟩;rw[b2,show ns.length-1+1=ns.length by lia,Vc];rfl
end
section
variable{prog:Program}{w:World}{A:Around}{E:Value->Shared->Prop}{s:Shared}
theorem xk{it t:Addr}{i:Nat}{items:Array Value}{x:Value}{Q:Value->Shared->Prop}(hi:s.heap.IsTupleIter it t i)(ht:s.heap.IsTuple t items)(hx:items[i]?=some x)
  (k:∀h',h'.IsTupleIter it t (i+1)->Heap.SameBut it s.heap h'->Q x {s with heap:=h'}):wpAny (model prog w) A (Builtin.SmallTypes.nextOf (.ref it)) Q E s:=by
 obtain⟨o,ho,oc,od⟩:=id hi;obtain⟨q,hq,_,n,qd⟩:=ht;unfold Builtin.SmallTypes.nextOf;refine SH (wpAny_callSpecial?_slot (name:=Str.ofString "__next__") hi.typeIs UB (TQ UB hi.typeIs VR ?_ (VI _)));show wpAny _ _ (field (.ref it) 0 >>= _) _ _ s;refine SH (T6 ho od (x:=.ref t) rfl ?_);show wpAny _ _ (if(Value.ref t==Value.none)=true then _ else _) _ _ s;rw[SX (fun z:(Value.ref t==Value.none)=true=>SN z)];show wpAny _ _ (field (.ref it) 1 >>= _) _ _ s;refine SH (T6 ho od (x:=.int i 0) rfl (SH (T4 hq qd ?_)));simp only[TR,hx];refine SH (V3 ho od (by simp) (SO ⟨x,rfl,SO (k _ ⟨_,Heap.get?_update_self _ ho (Obj.isFreed_of_fields (Vn od _)),(Obj.cls_mapFields ..).trans oc,?_⟩ (Vf ..))⟩));rw[Vn od];simp[rawInt]
theorem zx{it t:Addr}{i:Nat}{items:Array Value}{Q:Value->Shared->Prop}(hh:A.handled=none)(hi:s.heap.IsTupleIter it t i)(ht:s.heap.IsTuple t items)(hx:items[i]?=none)
  (k:∀h' e,Heap.ExtBut it s.heap h'->(∃o,h'.get? e=some o/\o.cls=.type "StopIteration")->E (.ref e) {s with heap:=h'}):wpAny (model prog w) A (Builtin.SmallTypes.nextOf (.ref it)) Q E s:=by
 obtain⟨o,ho,oc,od⟩:=id hi;obtain⟨q,hq,_,n,qd⟩:=ht;unfold Builtin.SmallTypes.nextOf;refine SH (wpAny_callSpecial?_slot (name:=Str.ofString "__next__") hi.typeIs UB (TQ UB hi.typeIs VR ?_ (VI _)));show wpAny _ _ (field (.ref it) 0 >>= _) _ _ s;refine SH (T6 ho od (x:=.ref t) rfl ?_);show wpAny _ _ (if(Value.ref t==Value.none)=true then _ else _) _ _ s;rw[SX (fun z:(Value.ref t==Value.none)=true=>SN z)];show wpAny _ _ (field (.ref it) 1 >>= _) _ _ s;refine SH (T6 ho od (x:=.int i 0) rfl (SH (T4 hq qd ?_)));simp only[TR,hx];refine SH (WT (SH (V3 ho od (by simp) ?_)));show wpAny _ _ (newExc (.type "StopIteration") [] >>= _) _ _ _;refine SH ?_;simp only[newExc,newTuple];refine SH (TK (SH (m:=firstArgMember _ _) (wpAny_of_eq (a:=Value.none) (by first|rfl|(simp only[firstArgMember];rfl)) (TK ?_ (by size_fits)))) (by size_fits));simp only[raiseNew];refine SH (wpAny_handled ?_);first
  |rw[show A.in1.handled=none from hh]
  |rw[hh]
 exact SH (SO (wpAny_throw (k _ _ (((Vf ..).extBut.push _).push _) ⟨_,Heap.get?_push_size _ rfl,rfl⟩)))
def IsIt(k:Bool)(h:Heap)(it l:Addr)(i:Nat):Prop:=match k with
 |true=>h.IsListIter it l i
 |false=>h.IsTupleIter it l i
def IsSq(k:Bool)(h:Heap)(l:Addr)(xs:Array Value):Prop:=match k with
 |true=>h.IsList l xs
 |false=>h.IsTuple l xs
theorem IsIt.at{k:Bool}{h h':Heap}{it l:Addr}{i:Nat}(x:IsIt k h it l i)(e:∀o,h.get? it=some o->h'.get? it=some o):IsIt k h' it l i:=by
 cases k with
 |true=>obtain⟨o,ho,r⟩:=(show h.IsListIter it l i from x);exact(show h'.IsListIter it l i from⟨o,e o ho,r⟩)
 |false=>obtain⟨o,ho,r⟩:=(show h.IsTupleIter it l i from x);exact(show h'.IsTupleIter it l i from⟨o,e o ho,r⟩)
theorem IsSq.at{k:Bool}{h h':Heap}{l:Addr}{xs:Array Value}(x:IsSq k h l xs)(e:∀o,h.get? l=some o->h'.get? l=some o):IsSq k h' l xs:=by
 cases k with
 |true=>obtain⟨o,ho,r⟩:=(show h.IsList l xs from x);exact(show h'.IsList l xs from⟨o,e o ho,r⟩)
 |false=>obtain⟨o,ho,r⟩:=(show h.IsTuple l xs from x);exact(show h'.IsTuple l xs from⟨o,e o ho,r⟩)
theorem IsIt.obj{k:Bool}{h:Heap}{it l:Addr}{i:Nat}(x:IsIt k h it l i):∃o,h.get? it=some o/\∀v,o.data≠.cell v:=by
 cases k with
 |true=>obtain⟨o,ho,_,d⟩:=(show h.IsListIter it l i from x);exact⟨o,ho,fun v z=>by rw[d]at z;cases z⟩
 |false=>obtain⟨o,ho,_,d⟩:=(show h.IsTupleIter it l i from x);exact⟨o,ho,fun v z=>by rw[d]at z;cases z⟩
theorem pV{k:Bool}{it l:Addr}{i:Nat}{xs:Array Value}{x:Value}{Q:Value->Shared->Prop}(hi:IsIt k s.heap it l i)(hl:IsSq k s.heap l xs)(hx:xs[i]?=some x)
  (q:∀h',IsIt k h' it l (i+1)->Heap.SameBut it s.heap h'->Q x {s with heap:=h'}):wpAny (model prog w) A (Builtin.SmallTypes.nextOf (.ref it)) Q E s:=by
 cases k with
 |true=>exact wpAny_nextOf_list_item hi hl hx q
 |false=>exact xk hi hl hx q
theorem yt{k:Bool}{it l:Addr}{i:Nat}{xs:Array Value}{Q:Value->Shared->Prop}(hh:A.handled=none)(hi:IsIt k s.heap it l i)(hl:IsSq k s.heap l xs)(hx:xs[i]?=none)
  (q:∀h' e,Heap.ExtBut it s.heap h'->(∃o,h'.get? e=some o/\o.cls=.type "StopIteration")->E (.ref e) {s with heap:=h'}):wpAny (model prog w) A (Builtin.SmallTypes.nextOf (.ref it)) Q E s:=by
 cases k with
 |true=>exact wpAny_nextOf_list_end hh hi hl hx q
 |false=>exact zx hh hi hl hx q
theorem zy{k1 k2:Bool}{z TI TO i1 i2 l1 l2:Addr}{i:Nat}{xs ys:Array Value}{x y a b:Value}{Q:Value->Shared->Prop}(D:ZipApart z TI TO i1 i2 l1 l2)(hz:IsZip s.heap z TI TO .none)(KJ:IsPair s.heap TI (.ref i1) (.ref i2))(Li:IsPair s.heap TO a b)
  (h1:IsIt k1 s.heap i1 l1 i) (h2:IsIt k2 s.heap i2 l2 i) (g1:IsSq k1 s.heap l1 xs) (g2:IsSq k2 s.heap l2 ys) (hx:xs[i]?=some x) (hy:ys[i]?=some y)
  (q:∀h',IsZip h' z TI TO (rawInt s.heap.objs.size)->IsPair h' TO x y->IsIt k1 h' i1 l1 (i+1)->IsIt k2 h' i2 l2 (i+1)->IsPair h' s.heap.objs.size x y->
   (∀c o,c≠z->c≠TO->c≠i1->c≠i2->s.heap.get? c=some o->h'.get? c=some o)->Q (.ref s.heap.objs.size) {s with heap:=h'}):
  wpAny (model prog w) A (Builtin.«zip.__next__» ⟨[.ref z],[]⟩) (fun fin s'=>∃v,fin=.done (.ret v)/\Q v s') E s:=by
 show wpAny _ _ (field (.ref z) 2 >>= _) _ _ _;refine SH (T6 hz rfl (x:=.bool false) rfl ?_);show wpAny _ _ (field (.ref z) 3 >>= _) _ _ _;refine SH (T6 hz rfl (x:=.ref TI) rfl (SH (T4 KJ rfl ?_)));show wpAny _ _ (Builtin.SmallTypes.ownedTupleIsFree (.ref z) >>= _) _ _ _;refine SH ?_;unfold Builtin.SmallTypes.ownedTupleIsFree;refine SH (T6 hz rfl (x:=.none) rfl (SO ?_));rw[SU (by rfl)];refine SH (WT (SH (T6 hz rfl (x:=.ref TO) rfl (SH (UG hz (by simp) fun hA zA sA=>?_)))));have zA:IsZip hA z TI TO .ellipsis:=zA;refine SH ?_;simp only[List.zipIdx_cons,List.zipIdx_nil,WD,List.forIn_nil];refine SH (SH (Wg ?_));show wpAny _ _ (Builtin.SmallTypes.nextOf (.ref i1) >>= _) _ _ _;refine SH (pV (h1.at fun o e=>sA.extBut _ _ D.i1z e) (g1.at fun o e=>sA.extBut _ _ D.l1z e) hx fun hB iB sB=>SO ?_);have tB:IsPair hB TO a b:=sB.extBut _ _ D.TOi1 (sA.extBut _ _ D.TOz Li);refine SH (T4 tB rfl (SH (VF tB fun hC tC sC=>SH (Ve (SO ?_)))));have tC:IsPair hC TO x b:=tC;refine SH (SH (Wg ?_));show wpAny _ _ (Builtin.SmallTypes.nextOf (.ref i2) >>= _) _ _ _;refine SH (pV (h2.at fun o e=>sC.extBut _ _ D.TOi2.symm (sB.extBut _ _ D.i12.symm (sA.extBut _ _ D.i2z e))) (g2.at fun o e=>sC.extBut _ _ D.l2TO (sB.extBut _ _ D.l2i1 (sA.extBut _ _ D.l2z e))) hy fun hD iD sD=>SO ?_);have tD:IsPair hD TO x b:=sD.extBut _ _ D.TOi2 tC;refine SH (T4 tD rfl (SH (VF tD fun hE tE sE=>SH (Ve (SO (SO ?_))))));have tE:IsPair hE TO x y:=tE;refine SH (T4 tE rfl (SH (wpAny_newTuple ?_)));have ez:hE.objs.size=s.heap.objs.size:=by rw[sE.1,sD.1,sC.1,sB.1,sA.1]
 have zE:IsZip hE z TI TO .ellipsis:=sE.extBut _ _ D.TOz.symm (sD.extBut _ _ D.i2z.symm (sC.extBut _ _ D.TOz.symm (sB.extBut _ _ D.i1z.symm zA)));have kE:∀c o,c≠z->c≠TO->c≠i1->c≠i2->s.heap.get? c=some o->hE.get? c=some o:=fun c o c1 c2 c3 c4 e=>sE.extBut _ _ c2 (sD.extBut _ _ c4 (sC.extBut _ _ c2 (sB.extBut _ _ c3 (sA.extBut _ _ c1 e))))
 have i1E:IsIt k1 hE i1 l1 (i+1):=iB.at fun o e=>sE.extBut _ _ D.TOi1.symm (sD.extBut _ _ D.i12 (sC.extBut _ _ D.TOi1.symm e))
 have i2E:IsIt k2 hE i2 l2 (i+1):=iD.at fun o e=>sE.extBut _ _ D.TOi2.symm e
 show wpAny _ _ (Builtin.SmallTypes.ownedTupleHandOut (.ref z) (.ref hE.objs.size) >>= _) _ _ _;refine SH ?_;unfold Builtin.SmallTypes.ownedTupleHandOut;have zF:IsZip (hE.push {cls:=.type "tuple",data:=.seq #[x,y]}) z TI TO .ellipsis:=Heap.get?_push_of_some _ zE;refine SH (UG zF (by simp) fun hG zG sG=>?_);have zG:IsZip hG z TI TO (rawInt hE.objs.size):=zG;refine UG zG (by simp) fun hK zK sK=>?_
 have zK:IsZip hK z TI TO (rawInt hE.objs.size):=zK;have up:∀c o,c≠z->hE.get? c=some o->hK.get? c=some o:=fun c o c1 e=>sK.extBut _ _ c1 (sG.extBut _ _ c1 (Heap.get?_push_of_some _ e))
 have nz:hE.objs.size≠z:=Xw (SW zE);have tK:IsPair hK hE.objs.size x y:=sK.extBut _ _ nz (sG.extBut _ _ nz (Heap.get?_push_size _ rfl));rw[ez]at zK tK;refine SO ⟨_,rfl,?_⟩;show Q (.ref hE.objs.size) _;rw[ez];exact q hK zK (up _ _ D.TOz tE) (i1E.at fun o e=>up _ o D.i1z e) (i2E.at fun o e=>up _ o D.i2z e) tK fun c o c1 c2 c3 c4 e=>up c o c1 (kE c o c1 c2 c3 c4 e)
theorem Cg{k1 k2:Bool}{z TI TO i1 i2 l1 l2:Addr}{i:Nat}{xs ys:Array Value}{a b:Value}{Q:Fin->Shared->Prop}(hh:A.handled=none)(D:ZipApart z TI TO i1 i2 l1 l2)(hz:IsZip s.heap z TI TO .none)(KJ:IsPair s.heap TI (.ref i1) (.ref i2))(Li:IsPair s.heap TO a b)
  (h1:IsIt k1 s.heap i1 l1 i) (h2:IsIt k2 s.heap i2 l2 i) (g1:IsSq k1 s.heap l1 xs) (g2:IsSq k2 s.heap l2 ys) (he:xs[i]?=none\/ys[i]?=none)
  (q:∀h' e,(∀c o,c≠z->c≠TO->c≠i1->c≠i2->s.heap.get? c=some o->h'.get? c=some o)->(∃o,h'.get? e=some o/\o.cls=.type "StopIteration")->E (.ref e) {s with heap:=h'}):
  wpAny (model prog w) A (Builtin.«zip.__next__» ⟨[.ref z],[]⟩) Q E s:=by
 show wpAny _ _ (field (.ref z) 2 >>= _) _ _ _;refine SH (T6 hz rfl (x:=.bool false) rfl ?_);show wpAny _ _ (field (.ref z) 3 >>= _) _ _ _;refine SH (T6 hz rfl (x:=.ref TI) rfl (SH (T4 KJ rfl ?_)));show wpAny _ _ (Builtin.SmallTypes.ownedTupleIsFree (.ref z) >>= _) _ _ _;refine SH ?_;unfold Builtin.SmallTypes.ownedTupleIsFree;refine SH (T6 hz rfl (x:=.none) rfl (SO ?_));rw[SU (by rfl)];refine SH (WT (SH (T6 hz rfl (x:=.ref TO) rfl (SH (UG hz (by simp) fun hA zA sA=>?_)))));have zA:IsZip hA z TI TO .ellipsis:=zA;refine SH ?_;simp only[List.zipIdx_cons,List.zipIdx_nil,WD,List.forIn_nil];refine SH (SH (Wg ?_));show wpAny _ _ (Builtin.SmallTypes.nextOf (.ref i1) >>= _) _ _ _;cases hx:xs[i]? with
 |none=>
  refine SH (yt hh (h1.at fun o e=>sA.extBut _ _ D.i1z e) (g1.at fun o e=>sA.extBut _ _ D.l1z e) hx fun hB e sB HD=>?_);obtain⟨oe,ge,ce⟩:=HD;have zB:IsZip hB z TI TO .ellipsis:=sB _ _ D.i1z.symm zA;have ne:e≠z:=fun x=>by subst x;rw[zB]at ge;cases ge;simp at ce
  exact UG zB (by simp) fun hC _ sC=>q hC e (fun c o c1 _ c3 _ x=>sC.extBut _ _ c1 (sB _ _ c3 (sA.extBut _ _ c1 x))) ⟨oe,sC.extBut _ _ ne ge,ce⟩
 |some x=>
  have hy:ys[i]?=none:=by
   rcases he with z|z
   ·rw[hx]at z;cases z
   ·exact z
  refine SH (pV (h1.at fun o e=>sA.extBut _ _ D.i1z e) (g1.at fun o e=>sA.extBut _ _ D.l1z e) hx fun hB iB sB=>SO ?_);have tB:IsPair hB TO a b:=sB.extBut _ _ D.TOi1 (sA.extBut _ _ D.TOz Li);refine SH (T4 tB rfl (SH (VF tB fun hC tC sC=>SH (Ve (SO ?_)))));refine SH (SH (Wg ?_));show wpAny _ _ (Builtin.SmallTypes.nextOf (.ref i2) >>= _) _ _ _;refine SH (yt hh (h2.at fun o e=>sC.extBut _ _ D.TOi2.symm (sB.extBut _ _ D.i12.symm (sA.extBut _ _ D.i2z e))) (g2.at fun o e=>sC.extBut _ _ D.l2TO (sB.extBut _ _ D.l2i1 (sA.extBut _ _ D.l2z e))) hy fun hD e sD HD=>?_);obtain⟨oe,ge,ce⟩:=HD;have zD:IsZip hD z TI TO .ellipsis:=sD _ _ D.i2z.symm (sC.extBut _ _ D.TOz.symm (sB.extBut _ _ D.i1z.symm zA));have ne:e≠z:=fun x=>by subst x;rw[zD]at ge;cases ge;simp at ce
  exact UG zD (by simp) fun hF _ sF=>q hF e (fun c o c1 c2 c3 c4 x=>sF.extBut _ _ c1 (sD _ _ c4 (sC.extBut _ _ c2 (sB.extBut _ _ c3 (sA.extBut _ _ c1 x))))) ⟨oe,sF.extBut _ _ ne ge,ce⟩
end
def itObj(k:Bool)(l:Addr):Obj:=match k with
 |true=>{cls:=.type "list_iterator",data:=.fields #[.ref l,.int 0 0]}
 |false=>{cls:=.type "tuple_iterator",data:=.fields #[.ref l,.int 0 0]}
theorem qH(k:Bool)(h:Heap)(l:Addr):IsIt k (h.push (itObj k l)) h.objs.size l 0:=by
 cases k with
 |true=>exact⟨_,Heap.get?_push_size _ rfl,rfl,rfl⟩
 |false=>exact⟨_,Heap.get?_push_size _ rfl,rfl,rfl⟩
abbrev zA(h:Heap)(k1:Bool)(l1:Addr):Heap:=h.push (itObj k1 l1)
abbrev zB(h:Heap)(k1 k2:Bool)(l1 l2:Addr):Heap:=(zA h k1 l1).push (itObj k2 l2)
abbrev zC(h:Heap)(k1 k2:Bool)(l1 l2:Addr):Heap:=(zB h k1 k2 l1 l2).push {cls:=.type "tuple",data:=.seq #[.ref h.objs.size,.ref (zA h k1 l1).objs.size]}
abbrev zD(h:Heap)(k1 k2:Bool)(l1 l2:Addr):Heap:=(zC h k1 k2 l1 l2).push {cls:=.type "tuple",data:=.seq #[.none,.none]}
abbrev zE(h:Heap)(k1 k2:Bool)(l1 l2:Addr):Heap:=(zD h k1 k2 l1 l2).push {cls:=.type "zip",data:=.fields #[.none,.bool false,.bool false,.ref (zB h k1 k2 l1 l2).objs.size,.ref (zC h k1 k2 l1 l2).objs.size]}
set_option maxHeartbeats 8000000 in
theorem Ci(k1 k2:Bool)(l1 l2:Addr)(xs ys:Array Value):
  Meets (Builtin.«zip.__new__» ⟨[.type "zip",.ref l1,.ref l2],[]⟩) (fun _ R s=>IsSq k1 s.heap l1 xs/\IsSq k2 s.heap l2 ys/\R (.ok (.ret (.ref (zD s.heap k1 k2 l1 l2).objs.size))) {s with heap:=zE s.heap k1 k2 l1 l2}):=
 .of_wp fun prog w A R s h=>by
  obtain⟨hp,g,d,tk,os⟩:=s;obtain⟨g1,g2,q⟩:=h;have JK:=sub_zip;cases k1 with
  |true=>
   have e1:Heap.IsList (Shared.heap ⟨hp,g,d,tk,os⟩) l1 xs:=g1;cases k2 with
   |true=>
    have e2:Heap.IsList (Shared.heap ⟨hp.push {cls:=.type "list_iterator",data:=.fields #[.ref l1,.int 0 0]},g,d,tk,os⟩) l2 ys:=Heap.IsList.push g2 _
    wp_walk using UK e1,UK e2
    exact⟨_,rfl,q⟩
   |false=>
    have e2:Heap.IsTuple (Shared.heap ⟨hp.push {cls:=.type "list_iterator",data:=.fields #[.ref l1,.int 0 0]},g,d,tk,os⟩) l2 ys:=Heap.IsTuple.push g2 _
    wp_walk using UK e1,UD e2
    exact⟨_,rfl,q⟩
  |false=>
   have e1:Heap.IsTuple (Shared.heap ⟨hp,g,d,tk,os⟩) l1 xs:=g1;cases k2 with
   |true=>
    have e2:Heap.IsList (Shared.heap ⟨hp.push {cls:=.type "tuple_iterator",data:=.fields #[.ref l1,.int 0 0]},g,d,tk,os⟩) l2 ys:=Heap.IsList.push g2 _
    wp_walk using UD e1,UK e2
    exact⟨_,rfl,q⟩
   |false=>
    have e2:Heap.IsTuple (Shared.heap ⟨hp.push {cls:=.type "tuple_iterator",data:=.fields #[.ref l1,.int 0 0]},g,d,tk,os⟩) l2 ys:=Heap.IsTuple.push g2 _
    wp_walk using UD e1,UD e2
    exact⟨_,rfl,q⟩
def ZS(k1 k2:Bool)(z TI TO i1 i2 l1 l2:Addr)(i:Nat)(h:Heap):Prop:=IsZip h z TI TO .none/\IsPair h TI (.ref i1) (.ref i2)/\(∃a b,IsPair h TO a b)/\IsIt k1 h i1 l1 i/\IsIt k2 h i2 l2 i
theorem zH{prog:Program}{w:World}{A:Around}{E:Value->Shared->Prop}{s:Shared}{k1 k2:Bool}{l1 l2:Addr}{xs ys:Array Value}{Q:Value->Shared->Prop}(g1:IsSq k1 s.heap l1 xs)(g2:IsSq k2 s.heap l2 ys)
  (q:∀h',ZS k1 k2 (s.heap.objs.size+4) (s.heap.objs.size+2) (s.heap.objs.size+3) s.heap.objs.size (s.heap.objs.size+1) l1 l2 0 h'->(∀c o,s.heap.get? c=some o->h'.get? c=some o)->Q (.ref (s.heap.objs.size+4)) {s with heap:=h'}):
  wpAny (model prog w) A (call (.type "zip") [.ref l1,.ref l2]) Q E s:=by
 refine callType_new F.called_zip (by decide) (F.typeCall_zip_2 _ _) (F.newCall_zip_2 _ _) (fun obj=>F.args_object_init_3 obj _ _) F.entry_zip_new (Ci k1 k2 l1 l2 xs ys) ⟨g1,g2,?_⟩;have nA:(zA s.heap k1 l1).objs.size=s.heap.objs.size+1:=UY ..;have nB:(zB s.heap k1 k2 l1 l2).objs.size=s.heap.objs.size+2:=by rw[UY,nA]
 have nC:(zC s.heap k1 k2 l1 l2).objs.size=s.heap.objs.size+3:=by rw[UY,nB]
 have nD:(zD s.heap k1 k2 l1 l2).objs.size=s.heap.objs.size+4:=by rw[UY,nC]
 have pu:∀{h:Heap}{o:Obj}{c:Addr}{v:Obj},h.get? c=some v->(h.push o).get? c=some v:=fun e=>Heap.get?_push_of_some _ e
 have gz:(zE s.heap k1 k2 l1 l2).get? (zD s.heap k1 k2 l1 l2).objs.size=some _:=Heap.get?_push_size _ rfl;have go:(zE s.heap k1 k2 l1 l2).get? (zC s.heap k1 k2 l1 l2).objs.size=some _:=pu (Heap.get?_push_size _ rfl);have gi:(zE s.heap k1 k2 l1 l2).get? (zB s.heap k1 k2 l1 l2).objs.size=some _:=pu (pu (Heap.get?_push_size _ rfl));have j2:IsIt k2 (zE s.heap k1 k2 l1 l2) (zA s.heap k1 l1).objs.size l2 0:=(qH k2 (zA s.heap k1 l1) l2).at fun o e=>pu (pu (pu e))
 have j1:IsIt k1 (zE s.heap k1 k2 l1 l2) s.heap.objs.size l1 0:=(qH k1 s.heap l1).at fun o e=>pu (pu (pu (pu e)))
 show _/\_;rw[nB,nC,nD]at gz;rw[nA,nB]at gi;rw[nC]at go;rw[nA]at j2;rw[nD];exact⟨⟨_,gz,rfl⟩,q _ ⟨gz,gi,⟨_,_,go⟩,j1,j2⟩ fun c o x=>pu (pu (pu (pu (pu x))))⟩
noncomputable def Q8(K:W.Frag)(k1 k2:Bool)(a b:Addr):It:=
 ⟨fun i H=>∃xs ys x y,(if k1 then SqL K H a xs else SqT K H a xs)/\(if k2 then SqL K H b ys else SqT K H b ys)/\xs[i]?=some x/\ys[i]?=some y,
  fun i H v H'=>∃T,H T=none/\v=.ref T/\∀xs ys x y,(if k1 then SqL K H a xs else SqT K H a xs)->(if k2 then SqL K H b ys else SqT K H b ys)->xs[i]?=some x->ys[i]?=some y->H'=upd H T (.tup [x,y]),
  fun i H=>∃xs ys,(if k1 then SqL K H a xs else SqT K H a xs)/\(if k2 then SqL K H b ys else SqT K H b ys)/\i=min xs.length ys.length⟩
section
variable{X:Cx}{pr:List (Addr×Obj)}{σ:L2.St}{H:Hp}{s:Shared}
theorem sy(I:Inv X pr σ H s){k:Bool}{a:Addr}{xs:List V}(h:if k then SqL X.K H a xs else SqT X.K H a xs):∃us:List Value,Vals xs us/\IsSq k s.heap a us.toArray:=by
 cases k with
 |true=>
  obtain⟨us,r,p,_⟩:=I.list (show SqL X.K H a xs from h);exact⟨us,r,p.isList⟩
 |false=>
  obtain⟨us,r,p,_⟩:=I.tuple (show SqT X.K H a xs from h);exact⟨us,r,(show s.heap.IsTuple a us.toArray from p)⟩
theorem yu(I:Inv X pr σ H s){k:Bool}{a:Addr}{xs ys:List V}(h:if k then SqL X.K H a xs else SqT X.K H a xs)(h':if k then SqL X.K H a ys else SqT X.K H a ys):xs=ys:=by
 cases k with
 |true=>exact I.list_inj (show SqL X.K H a xs from h) (show SqL X.K H a ys from h')
 |false=>exact I.tuple_inj (show SqT X.K H a xs from h) (show SqT X.K H a ys from h')
theorem ia(I:Inv X pr σ H s){k:Bool}{a b:Addr}{xs:List V}(h:if k then SqL X.K H a xs else SqT X.K H a xs)(f:tq X pr H b):a≠b:=by
 rintro rfl;obtain⟨f0,_,_,f3,_⟩:=f;have nb:∀o,X.K.lookup a=some o->False:=fun o hk=>by
  have e:=I.ok.mod.kin a o hk;rcases f3 with z|z
  ·exact I.ok.noex a o e z
  ·exact absurd (S1 (SW e) (Td I.ok.bsz z)) (UR _)
 cases k with
 |true=>
  rcases(show SqL X.K H a xs from h) with(h|⟨o,h⟩)|⟨o,Hj,n,hk,_⟩
  ·rw[f0]at h;cases h
  ·rw[f0]at h;cases h
  ·exact nb o hk
 |false=>
  rcases(show SqT X.K H a xs from h) with(h|⟨o,h⟩)|⟨o,Hj,n,hk,_⟩
  ·rw[f0]at h;cases h
  ·rw[f0]at h;cases h
  ·exact nb o hk
end
theorem nx_zip_item{prog:Program}{w:World}{A:Around}{E:Value->Shared->Prop}{s:Shared}{k1 k2:Bool}{z TI TO i1 i2 l1 l2:Addr}{i:Nat}{xs ys:Array Value}{x y:Value}{Q:Option Value->Shared->Prop}(D:ZipApart z TI TO i1 i2 l1 l2)(st:ZS k1 k2 z TI TO i1 i2 l1 l2 i s.heap)
  (g1:IsSq k1 s.heap l1 xs) (g2:IsSq k2 s.heap l2 ys) (hx:xs[i]?=some x) (hy:ys[i]?=some y)
  (q:∀h',IsZip h' z TI TO (rawInt s.heap.objs.size)->IsPair h' TO x y->IsIt k1 h' i1 l1 (i+1)->IsIt k2 h' i2 l2 (i+1)->IsPair h' s.heap.objs.size x y->
   (∀c o,c≠z->c≠TO->c≠i1->c≠i2->s.heap.get? c=some o->h'.get? c=some o)->Q (some (.ref s.heap.objs.size)) {s with heap:=h'}):wpAny (model prog w) A (pyNext (.ref z)) Q E s:=by
 obtain⟨hz,KJ,⟨a,b,Li⟩,h1,h2⟩:=st;have ty:s.TypeIs (.ref z) "zip":=⟨_,hz,rfl⟩
 unfold pyNext;exact SH (Wh (wpAny_callSpecial?_slot (name:=Str.ofString "__next__") ty VS (TQ VS ty F.entry_zip_next (zy D hz KJ Li h1 h2 g1 g2 hx hy fun h' a1 a2 a3 a4 a5 a6=>SO (q h' a1 a2 a3 a4 a5 a6)) (F.args_zip_next_1 _))))
theorem sH{prog:Program}{w:World}{A:Around}{E:Value->Shared->Prop}{s:Shared}{k1 k2:Bool}{z TI TO i1 i2 l1 l2:Addr}{i:Nat}{xs ys:Array Value}{Q:Option Value->Shared->Prop}(hh:A.handled=none)(D:ZipApart z TI TO i1 i2 l1 l2)(st:ZS k1 k2 z TI TO i1 i2 l1 l2 i s.heap)
  (g1:IsSq k1 s.heap l1 xs) (g2:IsSq k2 s.heap l2 ys) (he:xs[i]?=none\/ys[i]?=none) (q:∀h',(∀c o,c≠z->c≠TO->c≠i1->c≠i2->s.heap.get? c=some o->h'.get? c=some o)->Q none {s with heap:=h'}):wpAny (model prog w) A (pyNext (.ref z)) Q E s:=by
 obtain⟨hz,KJ,⟨a,b,Li⟩,h1,h2⟩:=st;have ty:s.TypeIs (.ref z) "zip":=⟨_,hz,rfl⟩
 unfold pyNext;refine SH (Wh (wpAny_callSpecial?_slot (name:=Str.ofString "__next__") ty VS (TQ VS ty F.entry_zip_next (Cg hh D hz KJ Li h1 h2 g1 g2 he fun h' e kk ⟨o,ho,oc⟩=>?_) (F.args_zip_next_1 _))));exact SH (wpAny_isInstance (T:="StopIteration") (b:=true) ⟨o,ho,oc⟩ isSubtype_stop (SO (q _ kk)))
theorem xl{P:Program}{w:World}{K:W.Frag}{es:List Expr}{kt:Nat}{pt:Pos}(k1 k2:Bool)(a b z TI TO i1 i2:Addr)(ne:z≠TI/\z≠TO/\z≠i1/\z≠i2/\TI≠TO/\TI≠i1/\TI≠i2/\TO≠i1/\TO≠i2/\i1≠i2):
  Turn P w K (.Tuple es kt pt) (Q8 K k1 k2 a b) [z,TI,TO,i1,i2] z (ZS k1 k2 z TI TO i1 i2 a b) where
 mem:=by simp
 obj:=fun i h st c hc=>by
  obtain⟨hz,KJ,⟨x,y,Li⟩,h1,h2⟩:=st;simp only[SV,TJ,Xc]at hc;rcases hc with rfl|rfl|rfl|rfl|rfl
  ·exact⟨_,hz,fun v q=>by cases q⟩
  ·exact⟨_,KJ,fun v q=>by cases q⟩
  ·exact⟨_,Li,fun v q=>by cases q⟩
  ·exact h1.obj
  ·exact h2.obj
 keep:=fun i h h' st k=>by
  obtain⟨hz,KJ,⟨x,y,Li⟩,h1,h2⟩:=st;exact⟨k z (by simp) _ hz,k TI (by simp) _ KJ,⟨x,y,k TO (by simp) _ Li⟩,h1.at fun o e=>k i1 (by simp) o e,h2.at fun o e=>k i2 (by simp) o e⟩
 item:=by
  intro X hP hw hK hc i pr s σ H E I hf st hg;subst hP hw hK;obtain⟨xs,ys,x,y,s1,s2,hx,hy⟩:=hg;obtain⟨us,r1,q1⟩:=sy I s1;obtain⟨ws,r2,q2⟩:=sy I s2;obtain⟨u,hu,ru⟩:=r1.get hx;obtain⟨v,hv,rv⟩:=r2.get hy;obtain⟨n1,n2,n3,n4,n5,n6,n7,n8,n9,Q9⟩:=ne;have f:=fun c hc=>hf c hc
  have D:ZipApart z TI TO i1 i2 a b:=⟨n1.symm,n2.symm,n3.symm,n4.symm,n5,n6,n7,n8,n9,Q9,ia I s1 (f z (by simp)),ia I s1 (f TO (by simp)),ia I s1 (f i1 (by simp)),ia I s1 (f i2 (by simp)),
   ia I s2 (f z (by simp)),ia I s2 (f TO (by simp)),ia I s2 (f i1 (by simp)),ia I s2 (f i2 (by simp))⟩
  have KJ:=st.2.1;refine nx_zip_item D st q1 q2 (by simpa using hu) (by simpa using hv) fun h' z1 t1 j1 j2 tp kk=>⟨_,rfl,?_⟩
  refine wpAny_letOwnedTupleGo_zip z1 fun h2 z2 sb=>?_
  have nT:H s.heap.objs.size=none:=I.hok.fresh (SS _);have tT:s.heap.objs.size≠z:=Xw (SW st.1);have all:∀c o,c≠z->c≠TO->c≠i1->c≠i2->s.heap.get? c=some o->h2.get? c=some o:=fun c o c1 c2 c3 c4 e=>(sb.2 c c1).trans (kk c o c1 c2 c3 c4 e)
  have fz:=f z (by simp);have fo:=f TO (by simp);have f1:=f i1 (by simp);have f2:=f i2 (by simp);have NF:∀c ob,H c=some ob->c≠z/\c≠TO/\c≠i1/\c≠i2:=fun c ob e=>⟨(fun q=>by rw[q,fz.1]at e;cases e),(fun q=>by rw[q,fo.1]at e;cases e),(fun q=>by rw[q,f1.1]at e;cases e),(fun q=>by rw[q,f2.1]at e;cases e)⟩
  refine⟨.ref s.heap.objs.size,upd H s.heap.objs.size (.tup [x,y]),?_,rfl,⟨_,nT,rfl,fun IP ys' x' y' a1 a2 a3 a4=>?_⟩,⟨z2,?_,⟨u,v,(sb.2 TO n2.symm).trans t1⟩,j1.at fun o e=>(sb.2 i1 n3.symm).trans e,j2.at fun o e=>(sb.2 i2 n4.symm).trans e⟩,fun c hc=>?_⟩
  ·have tup2:h2.get? s.heap.objs.size=some {cls:=.type "tuple",data:=.seq #[u,v]}:=(sb.2 _ tT).trans tp;have S0:Inv X pr σ (upd H s.heap.objs.size (.tup [x,y])) {s with heap:=h2,gens:=s.gens,drawn:=s.drawn,toks:=s.toks}:=by
    refine I.step (ch:=[z,TO,i1,i2]) (fun c hc=>?_) (fun c o _ _ nc e _=>all c o (fun q=>nc (by simp[q])) (fun q=>nc (by simp[q])) (fun q=>nc (by simp[q])) (fun q=>nc (by simp[q])) e)
     (fun c o _ _ nc e _=>⟨o.slots,all c o (fun q=>nc (by simp[q])) (fun q=>nc (by simp[q])) (fun q=>nc (by simp[q])) (fun q=>nc (by simp[q])) e⟩) (fun c o _ e n=>by rw[aE (S8 (SW e))];exact n)
     (fun c o nc e=>⟨o,all c o (fun q=>nc (by simp[q])) (fun q=>nc (by simp[q])) (fun q=>nc (by simp[q])) (fun q=>nc (by simp[q])) e⟩) (fun c l e=>by rw[aE (bc e nT)];exact e) (fun c o u' e=>by rw[aE (bc e nT)];exact e)
     (fun c ps e=>⟨#[],by rw[aE (bc e nT),e];simp⟩) (fun m hm=>?_) (fun c ob e=>?_) I.bare
    ·simp only[SV,TJ,Xc]at hc;rcases hc with rfl|rfl|rfl|rfl
     ·exact⟨fz.2.2.2.1,fz.2.1,fz.2.2.2.2.1,fz.2.2.2.2.2⟩
     ·exact⟨fo.2.2.2.1,fo.2.1,fo.2.2.2.2.1,fo.2.2.2.2.2⟩
     ·exact⟨f1.2.2.2.1,f1.2.1,f1.2.2.2.2.1,f1.2.2.2.2.2⟩
     ·exact⟨f2.2.2.2.1,f2.2.1,f2.2.2.2.2.1,f2.2.2.2.2.2⟩
    ·obtain⟨o,es,ep,ho,r⟩:=hm;exact⟨o,es,ep,all _ o (Ub fz.2.1) (Ub fo.2.1) (Ub f1.2.1) (Ub f2.2.1) ho,r⟩
    ·by_cases ec:c=s.heap.objs.size
     ·subst ec;rw[aY]at e;cases e;exact⟨by simp only[S4,T7];rw[TV];decide,[u,v],.cons ru (.cons rv .nil),⟨_,tup2,rfl,⟨0,rfl⟩,rfl⟩⟩
     ·rw[aE ec]at e;refine(I.hok c ob e).stay (fun d w' hd q=>?_) (fun d q=>by rw[aE (bc q nT)];exact q) fun d l q=>by rw[aE (bc q nT)];exact q
      have Nu:∃oo,H d=some oo:=by
       rcases hd with rfl|hd
       ·exact⟨_,e⟩
       ·exact⟨_,hd⟩
      obtain⟨oo,Rb⟩:=Nu;obtain⟨m1,m2,m3,m4⟩:=NF d oo Rb;exact all d w' m1 m2 m3 m4 q
   exact S0
  ·have e1:=yu I a1 s1;have e2:=yu I a2 s2;subst e1 e2;rw[hx]at a3;rw[hy]at a4;cases a3;cases a4;rfl
  ·exact(sb.2 TI n1.symm).trans (kk TI _ n1.symm n5 n6 n7 KJ)
  ·have hc0:=(f c hc).1;have cs:c≠s.heap.objs.size:=by
    have:=(fun i h st=>by
     exact(by
      obtain⟨hz,KJ,⟨x,y,Li⟩,h1,h2⟩:=st;simp only[SV,TJ,Xc]at hc;rcases hc with rfl|rfl|rfl|rfl|rfl
      ·exact⟨_,hz⟩
      ·exact⟨_,KJ⟩
      ·exact⟨_,Li⟩
      ·obtain⟨o,e,_⟩:=h1.obj;exact⟨o,e⟩
      ·obtain⟨o,e,_⟩:=h2.obj;exact⟨o,e⟩:∃o,h.get? c=some o):∀i h,ZS k1 k2 z TI TO i1 i2 a b i h->∃o,h.get? c=some o) i s.heap st
    obtain⟨o,e⟩:=this;exact S8 (SW e)
   rw[aE cs];exact hc0
 done:=by
  intro X hP hw hK hc i pr s σ H E I hf st hg;subst hP hw hK;obtain⟨xs,ys,s1,s2,hi⟩:=hg;obtain⟨us,r1,q1⟩:=sy I s1;obtain⟨ws,r2,q2⟩:=sy I s2;have l1:=r1.length;have l2:=r2.length;obtain⟨n1,n2,n3,n4,n5,n6,n7,n8,n9,Q9⟩:=ne;have f:=fun c hc=>hf c hc
  have D:ZipApart z TI TO i1 i2 a b:=⟨n1.symm,n2.symm,n3.symm,n4.symm,n5,n6,n7,n8,n9,Q9,ia I s1 (f z (by simp)),ia I s1 (f TO (by simp)),ia I s1 (f i1 (by simp)),ia I s1 (f i2 (by simp)),
   ia I s2 (f z (by simp)),ia I s2 (f TO (by simp)),ia I s2 (f i1 (by simp)),ia I s2 (f i2 (by simp))⟩
  have fz:=f z (by simp);have fo:=f TO (by simp);have f1:=f i1 (by simp);have f2:=f i2 (by simp);refine sH (I.ok.hd hc) D st q1 q2 (by
   rcases Nat.le_total us.length ws.length with q|q
   ·exact .inl (by simp;lia)
   ·exact .inr (by simp;lia)) fun h' kk=>⟨rfl,?_⟩
  have NF:∀c ob,H c=some ob->c≠z/\c≠TO/\c≠i1/\c≠i2:=fun c ob e=>⟨(fun q=>by rw[q,fz.1]at e;cases e),(fun q=>by rw[q,fo.1]at e;cases e),(fun q=>by rw[q,f1.1]at e;cases e),(fun q=>by rw[q,f2.1]at e;cases e)⟩
  have S0:Inv X pr σ H {s with heap:=h',gens:=s.gens,drawn:=s.drawn,toks:=s.toks}:=by
   refine I.step (ch:=[z,TO,i1,i2]) (fun c hc=>?_) (fun c o _ _ nc e _=>kk c o (fun q=>nc (by simp[q])) (fun q=>nc (by simp[q])) (fun q=>nc (by simp[q])) (fun q=>nc (by simp[q])) e)
    (fun c o _ _ nc e _=>⟨o.slots,kk c o (fun q=>nc (by simp[q])) (fun q=>nc (by simp[q])) (fun q=>nc (by simp[q])) (fun q=>nc (by simp[q])) e⟩) (fun c o _ e n=>n)
    (fun c o nc e=>⟨o,kk c o (fun q=>nc (by simp[q])) (fun q=>nc (by simp[q])) (fun q=>nc (by simp[q])) (fun q=>nc (by simp[q])) e⟩) (fun c l e=>e) (fun c o u' e=>e)
    (fun c ps e=>⟨#[],by rw[e];simp⟩) (fun m hm=>?_) (fun c ob e=>?_) I.bare
   ·simp only[SV,TJ,Xc]at hc;rcases hc with rfl|rfl|rfl|rfl
    ·exact⟨fz.2.2.2.1,fz.2.1,fz.2.2.2.2.1,fz.2.2.2.2.2⟩
    ·exact⟨fo.2.2.2.1,fo.2.1,fo.2.2.2.2.1,fo.2.2.2.2.2⟩
    ·exact⟨f1.2.2.2.1,f1.2.1,f1.2.2.2.2.1,f1.2.2.2.2.2⟩
    ·exact⟨f2.2.2.2.1,f2.2.1,f2.2.2.2.2.1,f2.2.2.2.2.2⟩
   ·obtain⟨o,es,ep,ho,r⟩:=hm;exact⟨o,es,ep,kk _ o (Ub fz.2.1) (Ub fo.2.1) (Ub f1.2.1) (Ub f2.2.1) ho,r⟩
   ·refine(I.hok c ob e).stay (fun d w' hd q=>?_) (fun d q=>q) fun d l q=>q
    have Nu:∃oo,H d=some oo:=by
     rcases hd with rfl|hd
     ·exact⟨_,e⟩
     ·exact⟨_,hd⟩
    obtain⟨oo,Rb⟩:=Nu;obtain⟨m1,m2,m3,m4⟩:=NF d oo Rb;exact kk d w' m1 m2 m3 m4 q
  exact S0
 self:=fun _ _ _ _ _ st h=>wpAny_pyIter_zip st.1 h
section
variable{X:Cx}{es:List Expr}{kt:Nat}{pt:Pos}
def GJ(K:W.Frag)(k1 k2:Bool)(ta:TA):TI:=fun σ H R=>ta σ H fun vs H1=>∃a b xs ys,vs=[.ref a,.ref b]/\(if k1 then SqL K H1 a xs else SqT K H1 a xs)/\(if k2 then SqL K H1 b ys else SqT K H1 b ys)/\R (Q8 K k1 k2 a b) H1
theorem Cj(k1 k2:Bool){e1 e2:Expr}{ta:TA}{p pos:Pos}(hg:Gl X "zip")(hm:X.mg "zip" = none)(ha:PA X [e1,e2] ta)(he:starEach [e1,e2] X.env=(false,eval e1 X.env)::starEach [e2] X.env:=by rfl)(IZ:(backTo pos (starEach [e2] X.env)).any (·.1)=false:=by rfl):
  PI X (.Tuple es kt pt) (.Call (.Name "zip" p) [e1,e2] [] pos) (GJ X.K k1 k2 ta):=by
 intro pr s σ H R I h;refine UZ (kA I hg hm (by decide +kernel:bootBuiltins "zip" = some (.type "zip")) ?_ (by decide) (by decide));refine Uw (HA (ha pos pr s σ H _ I h) fun us s1 ⟨vs,H1,I1,r1,a,b,xs,ys,e,s1',s2',q⟩=>?_) he IZ;subst e;obtain⟨u,w',rfl,ra,rb⟩:=wX r1;cases ra;cases rb;obtain⟨us,v1,q1⟩:=sy I1 s1';obtain⟨ws,v2,q2⟩:=sy I1 s2';refine zH q1 q2 fun h' st kk=>?_
 refine wpAny_pyIter_zip st.1 ?_;have fr:∀j,tq X pr H1 (s1.heap.objs.size+j):=fun j=>I1.fpOk (Nat.le_add_right _ _) (I1.hok.fresh (Nat.le_add_right _ _))
 have nn:∀i j:Nat,i≠j->s1.heap.objs.size+i≠s1.heap.objs.size+j:=fun i j h z=>h (Nat.add_left_cancel z)
 refine⟨_,_,_,_,H1,rfl,I1.kept (t':=s1.toks) kk,xl k1 k2 a b (s1.heap.objs.size+4) (s1.heap.objs.size+2) (s1.heap.objs.size+3) (s1.heap.objs.size+0) (s1.heap.objs.size+1)
  ⟨nn 4 2 (by decide),nn 4 3 (by decide),nn 4 0 (by decide),nn 4 1 (by decide),nn 2 3 (by decide),nn 2 0 (by decide),nn 2 1 (by decide),nn 3 0 (by decide),nn 3 1 (by decide),nn 0 1 (by decide)⟩,st,fun c hc=>?_,q⟩
 simp only[SV,TJ,Xc]at hc;rcases hc with rfl|rfl|rfl|rfl|rfl
 ·exact fr 4
 ·exact fr 2
 ·exact fr 3
 ·exact fr 0
 ·exact fr 1
end
end NX
namespace NX
open PySem PySem.W PyProof.Rows
section
variable{n:Nat}{O:KeyOrd}{κ:Nat->O.α}{cmp:Nat->Nat->(Bool->Shared->Prop)->Shared->Prop}{Good:Shared->Prop}
def kk(κ:Nat->O.α)(p:Array Nat)(i:Nat):O.α:=κ (p.getD i 0)
structure POk(n:Nat)(p:Array Nat):Prop where
 perm:p.toList.Perm (List.range n)
theorem POk.size{p:Array Nat}(h:POk n p):p.size=n:=by
 have:=h.perm.length_eq;simpa using this
theorem POk.lt{p:Array Nat}(h:POk n p){i:Nat}(hi:i<n):p.getD i 0<n:=by
 have hs:=h.size;have KL:i<p.size:=by lia
 have e:p.getD i 0=p[i]:=by simp[Array.getD,KL]
 rw[e];exact TB.mp (h.perm.mem_iff.mp (Array.getElem_mem_toList KL))
theorem POk.of{p q:Array Nat}(h:POk n p)(hq:q.Perm p):POk n q:=⟨(Array.perm_iff_toList_perm.mp hq).trans h.perm⟩
def bx(κ:Nat->O.α)(p:Array Nat)(m:Nat):Prop:=∀i j,i<=j->j<m->O.kle (kk κ p i) (kk κ p j)
def fK(κ:Nat->O.α)(p:Array Nat)(m:Nat):Prop:=∀i j,i<=j->j<m->O.kle (kk κ p j) (kk κ p i)
theorem fB{p q:Array Nat}{i j:Nat}(h:p[i]?=q[j]?):p.getD i 0=q.getD j 0:=by
 rw[VT,VT,h]
theorem qI{p:Array Nat}{i j:Nat}(hj:j<=p.size)(k:Nat):kk κ (kas_rev p i j) k=if i<=k/\k<j then kk κ p (i+j-1-k) else kk κ p k:=by
 have e:=getElem?_mirror_all (i:=i) hj k;unfold kk kas_rev;split
 ·rename_i h;rw[SU h]at e;rw[fB e]
 ·rename_i h;rw[SX h]at e;rw[fB e]
theorem yv{p:Array Nat}{src d:Nat}(hs:src<p.size)(hd:d<=src)(k:Nat):kk κ (bubble p src d) k=if k=src-d then kk κ p src else if src-d<k/\k<=src then kk κ p (k-1) else kk κ p k:=by
 have e:=getElem?_bubble hs d hd k;by_cases h:k=src-d
 ·rw[SU h]at e ⊢;exact T3 κ (fB e)
 ·rw[SX h]at e ⊢;by_cases h2:src-d<k/\k<=src
  ·rw[SU h2]at e ⊢;exact T3 κ (fB e)
  ·rw[SX h2]at e ⊢;exact T3 κ (fB e)
theorem POk.rev{p:Array Nat}(h:POk n p)(i j:Nat):POk n (kas_rev p i j):=h.of (mirror_perm _ _ _ _)
theorem POk.bub{p:Array Nat}(h:POk n p)(i j:Nat):POk n (bubble p i j):=h.of (bubble_perm _ _ _)
theorem sI(p:Array Nat):bx κ p 1:=fun i j a b=>by
 have e:i=j:=by lia
 rw[e];exact Uy _
theorem pW{p:Array Nat}{m:Nat}(h1:1<=m)(h:bx κ p m)(hm:O.kle (kk κ p (m-1)) (kk κ p m)):bx κ p (m+1):=by
 intro i j Mf hj;by_cases e:j=m
 ·subst e;by_cases e2:i=j
  ·subst e2;exact Uy _
  ·exact VC (h i (j-1) (by lia) (by lia)) hm
 ·exact h i j Mf (by lia)
theorem fC{p:Array Nat}{m:Nat}(h1:1<=m)(h:fK κ p m)(hm:O.kle (kk κ p m) (kk κ p (m-1))):fK κ p (m+1):=by
 intro i j Mf hj;by_cases e:j=m
 ·subst e;by_cases e2:i=j
  ·subst e2;exact Uy _
  ·exact VC hm (h i (j-1) (by lia) (by lia))
 ·exact h i j Mf (by lia)
variable(hc:∀i j,i<n->j<n->∀(Q:Bool->Shared->Prop) s,Good s->(∀s',Good s'->Q (O.blt (κ i) (κ j)) s')->cmp i j Q s)
include hc
theorem uA{p:Array Nat}(hp:POk n p){HU:Nat}(hn:HU<=n){Q:Nat->Shared->Prop}:∀(f m:Nat) (s:Shared),Good s->1<=m->m+f=HU->bx κ p m->
  (∀r s',Good s'->m<=r->r<=HU->bx κ p r->(r<HU->O.klt (kk κ p r) (kk κ p (r-1)))->Q r s')->(kas_asc p f m).kasWp cmp Q s
 | 0,m,s,g,h1,hf,hs,k=>k m s g (SS _) (by lia) hs (fun z=>by lia)
 |f+1,m,s,g,h1,hf,hs,k=>by
  show cmp (p.getD m 0) (p.getD (m-1) 0) _ s;refine hc _ _ (hp.lt (by lia)) (hp.lt (by lia)) _ s g fun s' g'=>?_
  cases e:O.blt (κ (p.getD m 0)) (κ (p.getD (m-1) 0)) with
  |true=>
   (try dsimp only)
   rw[SU rfl];exact k m s' g' (SS _) (by lia) hs fun _=>e
  |false=>
   (try dsimp only)
   rw[SX SN];exact uA hp hn f (m+1) s' g' (by lia) (by lia) (pW h1 hs e) fun r s2 g2 a b c d=>k r s2 g2 (by lia) b c d
def zI(κ:Nat->O.α)(p:Array Nat)(m q:Nat):Prop:=∀k,m-(q+1)<=k->k<m->kk κ p k=kk κ p (m-1)
omit hc in
theorem oA{p:Array Nat}{m q:Nat}(hm:m<=p.size)(h:zI κ p m q)(k:Nat):kk κ (kas_rev p (m-(q+1)) m) k=kk κ p k:=by
 rw[qI hm];split
 ·rename_i hk;rw[h _ (by lia) (by lia),h k hk.1 hk.2]
 ·rfl
omit hc in
theorem jD{p p':Array Nat}{m:Nat}(e:∀k,kk κ p' k=kk κ p k)(h:fK κ p m):fK κ p' m:=fun i j a b=>by rw[e,e];exact h i j a b
theorem mG{HU:Nat}(hn:HU<=n){Q:Array Nat×Nat×Nat->Shared->Prop}:∀(f:Nat) (p:Array Nat) (m q:Nat) (s:Shared),POk n p->Good s->1<=m->q+1<=m->m+f=HU->fK κ p m->zI κ p m q->
  (∀p' m' q' s',POk n p'->Good s'->m<=m'->m'<=HU->q'+1<=m'->fK κ p' m'->zI κ p' m' q'->Q (p',m',q') s')->(kas_desc f p m q).kasWp cmp Q s
 | 0,p,m,q,s,hp,g,h1,hq,hf,hs,ha,k=>k p m q s hp g (SS _) (by lia) hq hs ha
 |f+1,p,m,q,s,hp,g,h1,hq,hf,hs,ha,k=>by
  show cmp (p.getD m 0) (p.getD (m-1) 0) _ s;refine hc _ _ (hp.lt (by lia)) (hp.lt (by lia)) _ s g fun s' g'=>?_
  have hsz:=hp.size;cases e:O.blt (κ (p.getD m 0)) (κ (p.getD (m-1) 0)) with
  |true=>
   (try dsimp only)
   rw[SU rfl];have le:O.kle (kk κ p m) (kk κ p (m-1)):=Vs e;by_cases h0:q>0
   ·rw[SU h0];have same:=oA (κ:=κ) (p:=p) (m:=m) (q:=q) (by lia) ha;refine mG hn f _ (m+1) 0 s' (hp.rev _ _) g' (by lia) (by lia) (by lia) (fC h1 (jD same hs) (by rw[same,same];exact le)) ?_ fun p' m' q' s2 a b c d e' f' g2=>k p' m' q' s2 a b (by lia) d e' f' g2
    intro k' a b;have:k'=m:=by lia
    rw[this];rfl
   ·rw[SX h0];refine mG hn f p (m+1) 0 s' hp g' (by lia) (by lia) (by lia) (fC h1 hs le) ?_ fun p' m' q' s2 a b c d e' f' g2=>k p' m' q' s2 a b (by lia) d e' f' g2
    intro k' a b;have:k'=m:=by lia
    rw[this];rfl
  |false=>
   (try dsimp only)
   rw[SX SN];show cmp (p.getD (m-1) 0) (p.getD m 0) _ s';refine hc _ _ (hp.lt (by lia)) (hp.lt (by lia)) _ s' g' fun s2 g2=>?_
   cases e2:O.blt (κ (p.getD (m-1) 0)) (κ (p.getD m 0)) with
   |true=>
    (try dsimp only)
    rw[SU rfl];exact k p m q s2 hp g2 (SS _) (by lia) hq hs ha
   |false=>
    (try dsimp only)
    rw[SX SN];have eq:kk κ p (m-1)=kk κ p m:=KeyOrd.kle_antisymm (O:=O) e e2;refine mG hn f p (m+1) (q+1) s2 hp g2 (by lia) (by lia) (by lia) (fC h1 hs (by rw[eq];exact Uy _)) ?_ fun p' m' q' s3 a b c d e' f' g3=>k p' m' q' s3 a b (by lia) d e' f' g3
    intro k' a b;show kk κ p k'=kk κ p m;by_cases z:k'=m
    ·rw[z]
    ·rw[ha k' (by lia) (by lia),eq]
omit hc in
theorem sJ{p:Array Nat}{m:Nat}(hm:m<=p.size)(h:fK κ p m):bx κ (kas_rev p 0 m) m:=by
 intro i j a b;rw[qI hm,qI hm,SU (by lia),SU (by lia)];exact h _ _ (by lia) (by lia)
theorem tail_ok{p:Array Nat}(hp:POk n p){m HU:Nat}(hn:HU<=n)(h1:1<=m)(hm:m<=HU)(hs:fK κ p m){Q:Nat×Array Nat->Shared->Prop}{s:Shared}(g:Good s)
  (k:∀r p' s',POk n p'->Good s'->1<=r->r<=HU->bx κ p' r->Q (r,p') s'):(kas_tail3 m HU p).kasWp cmp Q s:=by
 unfold kas_tail3;rw[KasT.kasWp_bind];have hsz:=hp.size;refine uA hc (hp.rev 0 m) hn (HU-m) m s g h1 (by lia) (sJ (by lia) hs) fun r s' g' a b c _=>?_
 exact k r _ s' (hp.rev 0 m) g' (by lia) b c
theorem kH{p:Array Nat}(hp:POk n p){m HU:Nat}(hn:HU<=n)(h1:1<=m)(hm:m+1<=HU)(hs:fK κ p (m+1)){Q:Nat×Array Nat->Shared->Prop}{s:Shared}(g:Good s)
  (k:∀r p' s',POk n p'->Good s'->1<=r->r<=HU->bx κ p' r->Q (r,p') s'):(kas_descPart m HU p).kasWp cmp Q s:=by
 unfold kas_descPart;rw[KasT.kasWp_bind];refine mG hc hn (HU-(m+1)) p (m+1) 0 s hp g (by lia) (by lia) (by lia) hs ?_ fun p' m' q' s' a b c d e f g2=>?_
 ·intro k' a b;have:k'=m:=by lia
  rw[this];rfl
 ·have hsz:=a.size;dsimp only;split
  ·have same:=oA (κ:=κ) (p:=p') (m:=m') (q:=q') (by lia) g2;exact tail_ok hc (a.rev _ _) hn (by lia) d (jD same f) b k
  ·exact tail_ok hc a hn (by lia) d f b k
theorem xm{p:Array Nat}(hp:POk n p){HU:Nat}(hn:HU<=n)(h1:1<=HU){Q:Nat×Array Nat->Shared->Prop}{s:Shared}(g:Good s)
  (k:∀r p' s',POk n p'->Good s'->1<=r->r<=HU->bx κ p' r->Q (r,p') s'):(kas_count HU p).kasWp cmp Q s:=by
 unfold kas_count;rw[KasT.kasWp_bind];have hsz:=hp.size;refine uA hc hp hn (HU-1) 1 s g (SS _) (by lia) (sI p) fun m s' g' a b c d=>?_
 by_cases e:m=HU
 ·rw[SU (by simpa using e)];exact k m p s' hp g' (by lia) (by lia) c
 ·rw[SX (by simpa using e)];have dd:=d (by lia);by_cases h2:m>1
  ·rw[SU h2];show cmp (p.getD 0 0) (p.getD (m-1) 0) _ s';refine hc _ _ (hp.lt (by lia)) (hp.lt (by lia)) _ s' g' fun s2 g2=>?_
   cases e2:O.blt (κ (p.getD 0 0)) (κ (p.getD (m-1) 0)) with
   |true=>
    (try dsimp only)
    rw[SU rfl];exact k m p s2 hp g2 (by lia) b c
   |false=>
    (try dsimp only)
    rw[SX SN];have eq:∀i,i<m->kk κ p i=kk κ p 0:=fun i hi=>by
     have x1:=c 0 i (by lia) hi;have x2:=c i (m-1) (by lia) (by lia);exact KeyOrd.kle_antisymm (O:=O) (VC x2 e2) x1
    have same:∀i,kk κ (kas_rev p 0 m) i=kk κ p i:=fun i=>by
     rw[qI (by lia)];split
     ·rw[eq _ (by lia),eq i (by lia)]
     ·rfl
    refine kH hc (hp.rev 0 m) hn (by lia) (by lia) ?_ g2 k;refine jD same (fC (by lia) (fun i j x y=>?_) (Vs dd));rw[eq i (by lia),eq j y];exact Uy _
  ·rw[SX h2];refine kH hc hp hn (by lia) (by lia) (fC (by lia) (fun i j x y=>?_) (Vs dd)) g' k;have:i=j:=by lia
   rw[this];exact Uy _
theorem mH{p:Array Nat}(hp:POk n p){t:Nat}(ht:t<n)(hs:bx κ p t){Q:Nat->Shared->Prop}:∀(f l r:Nat) (s:Shared),Good s->l<=r->r<=t->r-l<=f->(∀i,i<l->O.kle (kk κ p i) (kk κ p t))->(∀i,r<=i->i<t->O.klt (kk κ p t) (kk κ p i))->
  (∀x s',Good s'->x<=t->(∀i,i<x->O.kle (kk κ p i) (kk κ p t))->(∀i,x<=i->i<t->O.klt (kk κ p t) (kk κ p i))->Q x s')->(kas_place p t f l r).kasWp cmp Q s
 | 0,l,r,s,g,h1,h2,h3,lo,hi,k=>k l s g (by lia) lo fun i a b=>hi i (by lia) b
 |f+1,l,r,s,g,h1,h2,h3,lo,hi,k=>by
  unfold kas_place;by_cases e:l>=r
  ·rw[SU e];exact k l s g (by lia) lo fun i a b=>hi i (by lia) b
  ·rw[SX e];show cmp (p.getD t 0) (p.getD ((l+r) / 2) 0) _ s;refine hc _ _ (hp.lt ht) (hp.lt (by lia)) _ s g fun s' g'=>?_
   cases e2:O.blt (κ (p.getD t 0)) (κ (p.getD ((l+r) / 2) 0)) with
   |true=>
    (try dsimp only)
    rw[SU rfl];refine mH hp ht hs f l ((l+r) / 2) s' g' (by lia) (by lia) (by lia) lo (fun i a b=>?_) k;exact KeyOrd.klt_of_klt_of_kle (O:=O) e2 (hs _ i a b)
   |false=>
    (try dsimp only)
    rw[SX SN];refine mH hp ht hs f ((l+r) / 2+1) r s' g' (by lia) (by lia) (by lia) (fun i a=>?_) hi k;exact VC (O:=O) (hs i ((l+r) / 2) (by lia) (by lia)) e2
theorem yw{Q:Array Nat->Shared->Prop}:∀(f:Nat) (p:Array Nat) (t:Nat) (s:Shared),POk n p->Good s->t+f=n->bx κ p t->(∀p' s',POk n p'->Good s'->bx κ p' n->Q p' s')->(kas_bin f p t).kasWp cmp Q s
 | 0,p,t,s,hp,g,hf,hs,k=>k p s hp g (by rw[show n=t by lia];exact hs)
 |f+1,p,t,s,hp,g,hf,hs,k=>by
  unfold kas_bin;rw[KasT.kasWp_bind];have hsz:=hp.size;refine mH hc hp (by lia) hs t 0 t s g (Tw _) (SS _) (by lia) (fun i a=>by lia) (fun i a b=>by lia) fun x s' g' hx lo hi=>?_
  refine yw f _ (t+1) s' (hp.bub _ _) g' (by lia) ?_ k;have ex:t-(t-x)=x:=by lia
  intro i j a b;rw[yv (by lia) (by lia),yv (by lia) (by lia),ex];have lo':=lo;by_cases i1:i=x
  ·by_cases j1:j=x
   ·rw[SU i1,SU j1];exact Uy _
   ·rw[SU i1,SX j1,SU (by lia)];exact Vs (hi (j-1) (by lia) (by lia))
  ·rw[SX i1];by_cases i2:x<i/\i<=t
   ·rw[SU i2,SX (by lia),SU (by lia)];exact hs (i-1) (j-1) (by lia) (by lia)
   ·rw[SX i2];by_cases j1:j=x
    ·rw[SU j1];exact lo i (by lia)
    ·rw[SX j1];by_cases j2:x<j/\j<=t
     ·rw[SU j2];exact hs i (j-1) (by lia) (by lia)
     ·rw[SX j2];exact hs i j a (by lia)
theorem zJ(h1:1<=n){Q:Array Nat->Shared->Prop}{s:Shared}(g:Good s)(k:∀p s',POk n p->Good s'->bx κ p n->Q p s'):(kas_sort n).kasWp cmp Q s:=by
 unfold kas_sort;rw[KasT.kasWp_bind];refine xm hc (p:=List.toArray (List.range n)) ⟨by simp⟩ (SS _) h1 g fun r p' s' hp g' a b c=>?_
 dsimp only;split
 ·have e:max r 1=r:=by lia
  rw[e];exact yw hc (n-r) p' r s' hp g' (by lia) c k
 ·exact k p' s' hp g' (by rw[show n=r by lia];exact c)
end
end NX
namespace NX
open PySem PySem.W PySem.Spec PyProof.Rows L2
section
variable{prog:Program}{w:World}{A:Around}{E:Value->Shared->Prop}{s:Shared}
theorem qJ(n:Nat):POk n (List.toArray (List.range n)):=⟨by simp⟩
theorem iU{O:KeyOrd}{key:Nat->O.α}{kd:SortKind}{a:Addr}{vs:List Value}{n:Nat}{P:PySem.Fin->Shared->Prop}(ho:s.heap.get? a=some (seqObj "list" vs.toArray n))(Lj:vs.length<64)
  (JI:2<=vs.length->∀(h':Heap),(∀b o,b≠a->s.heap.get? b=some o->h'.get? b=some o)->∀Q:SortKind->Shared->Prop,Q kd {s with heap:=h'}->wpAny (model prog w) A (keyKind' vs.toArray) Q E {s with heap:=h'})
  (LM:∀i j,i<vs.length->j<vs.length->∀(h':Heap),(∀b o,b≠a->s.heap.get? b=some o->h'.get? b=some o)->∀C:Bool->Shared->Prop,C (O.blt (key i) (key j)) {s with heap:=h'}->kas_ask prog w A kd vs i j C {s with heap:=h'})
  (h:∀p h',POk vs.length p->bx key p vs.length->(∃e,h'.get? a=some (seqObj "list" (List.toArray (p.toList.map fun i=>vs.getD i .none)) e))->(∀b o,b≠a->s.heap.get? b=some o->h'.get? b=some o)->P (.done (.ret .none)) {s with heap:=h'}):
  wpAny (model prog w) A (Builtin.«list.sort» ⟨[.ref a],[]⟩) P E s:=by
 rw[list_sort_plain];have la:a<s.heap.objs.size:=SW ho;have zs:vs.toArray.size=vs.length:=by simp
 refine SH (listItems_at ho rfl (SH (listUpdate_at ho rfl ?_ (by rw[zs,TV];lia) (Tw _))));obtain⟨e1,h1⟩:∃e1,(s.heap.update a (Obj.mapSeq fun _=>#[])).get? a=some (seqObj "list" #[] e1):=⟨_,get?_update_seq ho (fun _=>#[])⟩
 refine SH (seqEpoch_at h1 rfl (SH (wpAny_newTuple (SH (Xe (UE ?_))) (by simp only[VO];rw[TV];lia))));generalize e6:((s.heap.update a (Obj.mapSeq fun _=>#[])).push {cls:=.type "tuple",data:=.seq vs.toArray.toList.toArray}).push {cls:=.type "list",data:=.seq ([]:List Value).toArray}=h6;have k6:∀b o,b≠a->s.heap.get? b=some o->h6.get? b=some o:=fun b o nb e=>by
  rw[<-e6];exact Heap.get?_push_of_some _ (Heap.get?_push_of_some _ ((Heap.get?_update_other _ _ (Ub nb)).trans e))
 have Pd:h6.get? a=some (seqObj "list" #[] e1):=by
  rw[<-e6];exact Heap.get?_push_of_some _ (Heap.get?_push_of_some _ h1)
 dsimp only;have fin:∀(p:Array Nat),POk vs.length p->bx key p vs.length->∀out:Array Value,out=List.toArray (p.toList.map fun i=>vs.getD i .none)->
   P (.done (.ret .none)) {s with heap:=h6.update a (Obj.mapSeq fun _=>out)}:=fun p hp hs out eo=>by
  subst eo;exact h p _ hp hs ⟨_,get?_update_seq Pd _⟩ fun b o nb e=>(Heap.get?_update_other _ _ (Ub nb)).trans (k6 b o nb e)
 have fits:∀{out:Array Value}{p:Array Nat},POk vs.length p->out=List.toArray (p.toList.map fun i=>vs.getD i .none)->out.size<=sizeLine+1:=fun{out p} hp e=>by
  rw[e,SQ,SJ,hp.perm.length_eq,Tp,TV];lia
 by_cases h2:vs.toArray.size<2
 ·rw[SU h2,SU h2];refine SH (SO ?_);rw[StateT.run_pure];refine SH (SO ?_);dsimp only;have eo:(arrOf (SortSt.mk' general' (vs.toArray.zip vs.toArray) #[] 7 none)).map (·.2)=List.toArray ((List.toArray (List.range vs.length)).toList.map fun i=>vs.getD i .none):=by
   show(vs.toArray.zip vs.toArray).map (·.2)=_;apply Array.toList_inj.mp;simp only[Array.toList_map,Array.toList_zip,VO];have a1:(vs.zip vs).map (·.2)=vs:=by
    rw[List.map_snd_zip];exact SS _
   rw[a1];apply U7;intro i;by_cases hi:i<vs.length
   ·simp[hi]
   ·simp[hi]
  refine SH (seqEpoch_at Pd rfl (SH (listUpdate_at Pd rfl ?_ (Tw _) (fits (qJ _) eo))));simp only[V9,Ul,Vl];refine SO (fin _ (qJ _) ?_ _ eo);intro i j x y;have:i=j:=by lia
  rw[this];exact Uy _
 ·rw[SX h2,SX h2];have Rc:2<=vs.length:=by lia
  refine SH (JI Rc h6 k6 _ ?_);refine SH (Vg (kat_run (ks:=vs) (vs:=vs) (Q:=fun Jr s'=>∃p,POk vs.length p/\bx key p vs.length/\arrOf Jr=p.map (kas_item (vs.toArray.zip vs.toArray))/\failedOf Jr=none/\s'={s with heap:=h6})
   (G:=fun p s'=>POk vs.length p/\bx key p vs.length/\s'={s with heap:=h6}) rfl Rc Lj (fun p Jr s' hz NG hf hg=>⟨p,hg.1,hg.2.1,NG,hf,hg.2.2⟩)
   (zJ (n:=vs.length) (O:=O) (κ:=key) (Good:=fun s'=>s'={s with heap:=h6}) (fun i j hi hj Q s' g k=>?_) (by lia) rfl fun p s' hp g hs=>⟨hp,hs,g⟩)) (fun r s' hq=>?_) fun _ _ e=>e)
  ·subst g;exact LM i j hi hj h6 k6 Q (k _ rfl)
  ·obtain⟨p,hp,hs,NG,hf,rfl⟩:=hq;have eo:=kat_snds (ks:=vs) (vs:=vs) rfl NG;refine SH (seqEpoch_at Pd rfl (SH (listUpdate_at Pd rfl ?_ (Tw _) (fits hp eo))));rw[hf];simp only[V9,Ul,Vl];exact SO (fin p hp hs _ eo)
theorem jE{O:KeyOrd}{key:Nat->O.α}{kd:SortKind}{l:Addr}{vs:List Value}{Q:Value->Shared->Prop}(hl:s.heap.IsList l vs.toArray)(Lj:vs.length<64)
  (JI:2<=vs.length->∀(A':Around) (E':Value->Shared->Prop) (h':Heap),(∀b o,s.heap.get? b=some o->h'.get? b=some o)->∀Q:SortKind->Shared->Prop,Q kd {s with heap:=h'}->wpAny (model prog w) A' (keyKind' vs.toArray) Q E' {s with heap:=h'})
  (LM:∀i j,i<vs.length->j<vs.length->∀(h':Heap),(∀b o,s.heap.get? b=some o->h'.get? b=some o)->∀C:Bool->Shared->Prop,C (O.blt (key i) (key j)) {s with heap:=h'}->kas_ask prog w A.in1.in1 kd vs i j C {s with heap:=h'})
  (h:∀p h' e,POk vs.length p->bx key p vs.length->h'.get? (s.heap.objs.size+1)=some (seqObj "list" (List.toArray (p.toList.map fun i=>vs.getD i .none)) e)->(∀b o,s.heap.get? b=some o->h'.get? b=some o)->Q (.ref (s.heap.objs.size+1)) {s with heap:=h'}):
  wpAny (model prog w) A (call (.builtin "sorted") [.ref l]) Q E s:=by
 refine Va kind_sorted plain_sorted entry_sorted (args_sorted1 _) ?_;unfold Builtin.«sorted»;refine SH (m:=checkCount "sorted" 1 1 _) (SO (SH (collect_list hl (SH (Xe ?_ (by rw[TV];lia))) (by rw[TV];lia))));have zz:((s.heap.push (seqObj "list" #[] 0)).update s.heap.objs.size (Obj.mapSeq (·++vs.toArray))).objs.size=s.heap.objs.size+1:=by rw[Heap.size_update,size_push']
 generalize e5:(s.heap.push (seqObj "list" #[] 0)).update s.heap.objs.size (Obj.mapSeq (·++vs.toArray))=h5 at zz ⊢;have k5:∀b o,s.heap.get? b=some o->(h5.push (seqObj "list" vs.toArray 0)).get? b=some o:=fun b o e=>by
  rw[<-e5];exact Heap.get?_push_of_some _ ((Heap.get?_update_other _ _ (Ub (S8 (SW e)))).trans (Heap.get?_push_of_some _ e))
 have hL:(h5.push (seqObj "list" vs.toArray 0)).get? (s.heap.objs.size+1)=some (seqObj "list" vs.toArray 0):=by
  rw[<-zz];exact Heap.get?_push_size _ rfl
 have ne:∀b o,s.heap.get? b=some o->b≠s.heap.objs.size+1:=fun b o e=>S8 (Wb (SW e))
 show wpAny _ _ _ _ _ {s with heap:=h5.push (seqObj "list" vs.toArray 0)};rw[zz];refine SH (UE (TQ slot_list_sort ⟨_,hL,rfl⟩ entry_list_sort (iU (key:=key) (kd:=kd) hL Lj (fun h2 h' kk Q' q=>JI h2 _ _ h' (fun b o e=>kk b o (ne b o e) (k5 b o e)) Q' q)
  (fun i j hi hj h' kk C q=>LM i j hi hj h' (fun b o e=>kk b o (ne b o e) (k5 b o e)) C q) fun p h' hp hs ⟨e,he⟩ kk=>⟨_,rfl,?_⟩) (args_list_sort _)))
 exact SO ⟨_,rfl,h p h' e hp hs he fun b o q=>kk b o (ne b o q) (k5 b o q)⟩
end
def intO:KeyOrd where
 α:=Int
 blt a b:=decide (a<b)
 irrefl a:=by simp
 trans a b c h1 h2:=by simp only[S3] at *;lia
 negTrans a b c h:=by simp only[S3] at *;lia
 total a b h1 h2:=by simp only[TU] at *;lia
abbrev FL:KeyOrd:=strKind.toKeyOrd
noncomputable def pP:KeyOrd where
 α:=Key
 blt a b:=match a,b with
  | .inl i,.inl j=>decide (i<j)
  | .inr x,.inr y=>decide (x.cps.toList<y.cps.toList)
  | .inl _,.inr _=>true
  | .inr _,.inl _=>false
 irrefl a:=by
  cases a with
  |inl i=>simp
  |inr x=>simpa using List.lt_irrefl x.cps.toList
 trans a b c h1 h2:=by
  cases a <;> cases b <;> cases c <;> simp_all
  ·lia
  ·exact List.lt_trans h1 h2
 negTrans a b c h:=by
  cases a <;> cases b <;> cases c <;> simp_all
  ·lia
  ·rename_i x y z;by_cases q:x.cps.toList<y.cps.toList
   ·exact .inl q
   ·exact .inr (List.lt_of_le_of_lt (Wi.mp q) h)
 total a b h1 h2:=by
  cases a <;> cases b <;> simp_all
  ·lia
  ·rename_i x y;have e:x.cps.toList=y.cps.toList:=List.le_antisymm (by first|exact h2|exact Wi.mp h2) (by first|exact h1|exact Wi.mp h1);rw[<-ox x,<-ox y,e]
def dI:List Key->List Key->Bool
 |[],[]=>false
 |[],_::_=>true
 |_::_,[]=>false
 |a::r,b::t=>if a=b then dI r t else pP.blt a b
theorem iz:∀a:List Key,dI a a=false
 |[]=>rfl
 |a::r=>by
  show(if a=a then dI r r else _)=false;rw[SU rfl];exact iz r
theorem zL{a b:Key}(h:pP.blt a b=true):a≠b:=by
 rintro rfl;have:=pP.irrefl a;rw[h]at this;cases this
theorem g5:∀a b c:List Key,dI a b=true->dI b c=true->dI a c=true
 |[],[],_,h,_=>by cases h
 |[],_::_,[],_,h=>by cases h
 |[],_::_,_::_,_,_=>rfl
 |_::_,[],_,h,_=>by cases h
 |_::_,_::_,[],_,h=>by cases h
 |a::r,b::t,c::u,h1,h2=>by
  have h1:(if a=b then dI r t else pP.blt a b)=true:=h1;have h2:(if b=c then dI t u else pP.blt b c)=true:=h2;show(if a=c then dI r u else pP.blt a c)=true;by_cases e1:a=b
  ·by_cases e2:b=c
   ·rw[SU e1]at h1;rw[SU e2]at h2;rw[SU (e1.trans e2)];exact g5 r t u h1 h2
   ·rw[SX e2]at h2;rw[e1,SX e2];exact h2
  ·rw[SX e1]at h1;by_cases e2:b=c
   ·rw[<-e2,SX e1];exact h1
   ·rw[SX e2]at h2;have h3:=pP.trans a b c h1 h2;rw[SX (zL h3)];exact h3
theorem g6:∀a b:List Key,dI a b=false->dI b a=false->a=b
 |[],[],_,_=>rfl
 |[],_::_,h,_=>by cases h
 |_::_,[],_,h=>by cases h
 |a::r,b::t,h1,h2=>by
  have h1:(if a=b then dI r t else pP.blt a b)=false:=h1;have h2:(if b=a then dI t r else pP.blt b a)=false:=h2;by_cases e:a=b
  ·rw[SU e]at h1;rw[SU e.symm]at h2;rw[e,g6 r t h1 h2]
  ·rw[SX e]at h1;rw[SX (Ub e)]at h2;exact absurd (pP.total a b h1 h2) e
theorem xn(a b c:List Key)(h:dI a c=true):dI a b=true\/dI b c=true:=by
 cases e:dI a b with
 |true=>exact .inl rfl
 |false=>
  refine .inr ?_;cases e2:dI b a with
  |true=>exact g5 b a c e2 h
  |false=>
   rw[<-g6 a b e e2];exact h
def Eg:KeyOrd where
 α:=List Key
 blt:=dI
 irrefl:=iz
 trans:=g5
 negTrans:=xn
 total:=g6
section
variable{O:KeyOrd}
def sL(p:Array Nat)(xs:List V):List V:=p.toList.map fun i=>xs.getD i .non
theorem lM{α:Type}(xs:List α)(d:α):((List.range xs.length).map fun i=>xs.getD i d)=xs:=by
 apply U7;intro i;by_cases hi:i<xs.length
 ·simp[hi]
 ·simp[hi]
theorem kl{α:Type}{p:Array Nat}{xs:List α}(d:α)(hp:POk xs.length p):(p.toList.map fun i=>xs.getD i d).Perm xs:=by
 have:=hp.perm.map (fun i=>xs.getD i d)
 rwa [lM]at this
theorem g7{α:Type}{p:Array Nat}{xs:List α}(d:α)(key:α->O.α)(hp:POk xs.length p)(hs:bx (O:=O) (fun i=>key (xs.getD i d)) p xs.length):(p.toList.map fun i=>xs.getD i d).Pairwise fun a b=>O.kle (key a) (key b):=by
 rw[V4];intro i j hi hj Mf;have hsz:=hp.size;have KL:i<p.size:=by simpa using hi
 have NH:j<p.size:=by simpa using hj
 have h:=hs i j (WA Mf) (by lia);unfold kk at h;simp only[List.getElem_map,Array.getElem_toList];have e1:p.getD i 0=p[i]:=by simp[Array.getD,KL]
 have e2:p.getD j 0=p[j]:=by simp[Array.getD,NH]
 rw[e1,e2]at h;exact h
theorem vals_pick{xs:List V}{us:List Value}(r:Vals xs us):∀l:List Nat,(∀i∈l,i<xs.length)->Vals (l.map fun i=>xs.getD i .non) (l.map fun i=>us.getD i .none)
 |[],_=>.nil
 |i::l,h=>by
  refine .cons ?_ (vals_pick r l fun j hj=>h j (SM _ hj));have hi:=h i SI;have e1:xs[i]?=some (xs.getD i .non):=by rw[bB _ _ _ hi];exact List.getElem?_eq_getElem hi
  obtain⟨u,hu,ru⟩:=r.get e1;have e2:us.getD i .none=u:=by rw[List.getD_eq_getElem?_getD,hu];rfl
  show L2.RelV (xs.getD i .non) (us.getD i .none);rw[e2];exact ru
theorem km{xs:List V}{us:List Value}{p:Array Nat}(r:Vals xs us)(hp:POk xs.length p):Vals (sL p xs) (p.toList.map fun i=>us.getD i .none):=
 vals_pick r _ fun i hi=>TB.mp (hp.perm.mem_iff.mp hi)
end
section
variable{X:Cx}
theorem iV{pr:List (Addr×Obj)}{s:Shared}{σ:L2.St}{H:Hp}{h':Heap}{ys:List V}{us:List Value}{e:Nat}{D:Addr}(I:Inv X pr σ H s)(kk:∀b o,s.heap.get? b=some o->h'.get? b=some o)(hD:s.heap.objs.size<=D)
  (ho:h'.get? D=some (seqObj "list" (List.toArray us) e)) (r:Vals ys us) (hz:ys.length<=sizeLine):Inv X pr σ (upd H D (.lst ys)) {s with heap:=h'}:=
 I.laid (t':=s.toks) kk hD ⟨hz,us,e,r,ho⟩
theorem j9(hc:X.calm=true):dm X (.builtin "sorted") (fun vs H Q=>∃(p:Addr) (ns:List Int),vs=[.ref p]/\SqL X.K H p (ns.map V.int)/\ns.length<64/\∀(D:Addr) (ms:List Int),H D=none->ms.Perm ns->ms.Pairwise (·<=·)->Q (.ref D) (upd H D (.lst (ms.map V.int)))):=by
 intro pr s σ H vs us Q I r h;obtain⟨p,ns,rfl,hp,Lj,q⟩:=h;obtain⟨u,rfl,r1⟩:=gk r;cases r1;obtain⟨ws,rv,pl,hz⟩:=I.list hp;have hl:=rv.length;rw[SJ]at hl;have isI:∀v∈ws,∃n t,v=.int n t:=fun v hv=>by
  obtain⟨i,hi⟩:=Uh.mp hv;obtain⟨t,e⟩:=e8 rv hi;exact⟨_,t,e⟩
 refine jE (O:=intO) (key:=fun i=>ns.getD i 0) (kd:=oneType') pl.isList (by lia) (fun h2 A' E' h' kk Q' q'=>?_) (fun i j hi hj h' kk C q'=>?_) fun pp h' e Jt hs he kk=>?_
 ·refine kas_kind h2 (T:=.type "int") (fun v hv=>?_) (by decide) (by decide) q';obtain⟨n,t,rfl⟩:=isI v hv;exact fun A Q E s _ q=>Vi (WS s n t) q
 ·unfold kas_ask;have e1:ws[i]?=some (ws.getD i .none):=by rw[bB _ _ _ hi];exact List.getElem?_eq_getElem hi
  have e2:ws[j]?=some (ws.getD j .none):=by rw[bB _ _ _ hj];exact List.getElem?_eq_getElem hj
  obtain⟨t,Rf⟩:=e8 rv e1;obtain⟨t',Rg⟩:=e8 rv e2;rw[Rf,Rg];exact kat_lt_int q'
 ·rw[<-hl]at Jt hs;have NI:POk (ns.map V.int).length pp:=by rw[SJ];exact Jt
  have eo:sL pp (ns.map V.int)=(pp.toList.map fun i=>ns.getD i 0).map V.int:=by
   unfold sL;rw[S9];refine Ue fun i hi=>?_
   have hi:=TB.mp (Jt.perm.mem_iff.mp hi);show(ns.map V.int).getD i .non=V.int (ns.getD i 0);rw[bB _ _ _ (by rw[SJ];exact hi),bB _ _ _ hi];simp
  have hn:H (s.heap.objs.size+1)=none:=I.hok.fresh (Vd _);refine⟨.ref (s.heap.objs.size+1),_,iV I kk (Vd _) he (km rv NI) ?_,rfl,?_⟩
  ·show(sL pp (ns.map V.int)).length<=sizeLine;rw[eo,SJ,SJ,Jt.perm.length_eq,Tp,TV];lia
  ·rw[eo];refine q _ _ hn (kl 0 Jt) ?_;have:=g7 (O:=intO) 0 (fun i:Int=>i) Jt hs;refine this.imp fun{a b} NJ=>?_
   have NJ:decide (b<a)=false:=NJ;have:=Xf NJ;lia
theorem pX{ls:List (List Nat)}{us:List Value}(r:Vals (ls.map fun l=>V.str (S l)) us){i:Nat}{v:Value}(h:us[i]?=some v):∃t,v=.str (S (ls.getD i [])) t:=by
 have hl:=r.length;rw[SJ]at hl;obtain⟨hi,_⟩:=List.getElem?_eq_some_iff.mp h;have e1:(ls.map fun l=>V.str (S l))[i]?=some (.str (S (ls.getD i []))):=by
  rw[List.getElem?_map,List.getElem?_eq_getElem (by lia),bB _ _ _ (by lia)];rfl
 obtain⟨u,hu,t,rfl⟩:=r.get e1;rw[h]at hu;exact⟨t,Tc hu⟩
theorem ka(hc:X.calm=true):dm X (.builtin "sorted") (fun vs H Q=>∃(p:Addr) (ls:List (List Nat)),vs=[.ref p]/\SqL X.K H p (ls.map fun l=>V.str (S l))/\ls.length<64/\∀(D:Addr) (ms:List (List Nat)),H D=none->ms.Perm ls->ms.Pairwise (fun a b=>¬ b<a)->Q (.ref D) (upd H D (.lst (ms.map fun l=>V.str (S l))))):=by
 intro pr s σ H vs us Q I r h;obtain⟨p,ls,rfl,hp,Lj,q⟩:=h;obtain⟨u,rfl,r1⟩:=gk r;cases r1;obtain⟨ws,rv,pl,hz⟩:=I.list hp;have hl:=rv.length;rw[SJ]at hl;refine jE (O:=FL) (key:=fun i=>ls.getD i []) (kd:=oneType') pl.isList (by lia) (fun h2 A' E' h' kk Q' q'=>?_) (fun i j hi hj h' kk C q'=>?_) fun pp h' e Jt hs he kk=>?_
 ·refine kas_kind h2 (T:=.type "str") (fun v hv=>?_) (by decide) (by decide) q';obtain⟨i,hi⟩:=Uh.mp hv;obtain⟨t,rfl⟩:=pX rv hi;exact fun A Q E s _ q=>Vi (WR s _ t) q
 ·unfold kas_ask;have e1:ws[i]?=some (ws.getD i .none):=by rw[bB _ _ _ hi];exact List.getElem?_eq_getElem hi
  have e2:ws[j]?=some (ws.getD j .none):=by rw[bB _ _ _ hj];exact List.getElem?_eq_getElem hj
  obtain⟨t,Rf⟩:=pX rv e1;obtain⟨t',Rg⟩:=pX rv e2;rw[Rf,Rg];refine kas_lt_str ?_;rw[dC,dC];exact q'
 ·rw[<-hl]at Jt hs;have NI:POk (ls.map fun l=>V.str (S l)).length pp:=by rw[SJ];exact Jt
  have eo:sL pp (ls.map fun l=>V.str (S l))=(pp.toList.map fun i=>ls.getD i []).map fun l=>V.str (S l):=by
   unfold sL;rw[S9];refine Ue fun i hi=>?_
   have hi:=TB.mp (Jt.perm.mem_iff.mp hi);show(ls.map fun l=>V.str (S l)).getD i .non=V.str (S (ls.getD i []));rw[bB _ _ _ (by rw[SJ];exact hi),bB _ _ _ hi];simp
  have hn:H (s.heap.objs.size+1)=none:=I.hok.fresh (Vd _);refine⟨.ref (s.heap.objs.size+1),_,iV I kk (Vd _) he (km rv NI) ?_,rfl,?_⟩
  ·show(sL pp (ls.map fun l=>V.str (S l))).length<=sizeLine;rw[eo,SJ,SJ,Jt.perm.length_eq,Tp,TV];lia
  ·rw[eo];refine q _ _ hn (kl [] Jt) ?_;have:=g7 (O:=FL) [] (fun l:List Nat=>l) Jt hs;refine this.imp fun{a b} NJ=>?_
   have NJ:decide (b<a)=false:=NJ;exact Xf NJ
end
def kinds(k:List Key):List Bool:=k.map fun x=>x.isLeft
section
variable{prog:Program}{w:World}{A:Around}{s:Shared}
theorem uB(a b:Key):QZ (kV a) (kV b)=decide (a=b):=by
 cases a <;> cases b <;> (rw[Th];simp[kV,QZ])
theorem kn(a:Key):xb (kV a)=true:=by cases a <;> rfl
theorem Ck{a b:Key}{u v:Value}{top:Bool}{Q:Bool->Shared->Prop}(ra:L2.RelV (kV a) u)(rb:L2.RelV (kV b) v)(hk:a.isLeft=b.isLeft)(q:Q (pP.blt a b) s):wpAny (model prog w) A (oneLt' top u v) Q (fun _ _=>False) s:=by
 cases a with
 |inl i=>
  cases b with
  |inr _=>cases hk
  |inl j=>
   obtain⟨t,rfl⟩:=ra;obtain⟨t',rfl⟩:=rb;cases top with
   |true=>exact kat_lt_int (E:=fun _ _=>False) q
   |false=>exact kat_one _ _ (lt_int q)
 |inr x=>
  cases b with
  |inl _=>cases hk
  |inr y=>
   obtain⟨t,rfl⟩:=ra;obtain⟨t',rfl⟩:=rb;cases top with
   |true=>exact oneLt_str q
   |false=>exact kat_one _ _ (lt_str q)
theorem kI{Q:Bool->Shared->Prop}:∀(k1 k2:List Key) (us ws:List Value) (i:Nat),Vals (k1.map kV) us->Vals (k2.map kV) ws->kinds k1=kinds k2->Q (dI k1 k2) s->KatLex prog w A true false Q (us.zip ws) i s
 |[],[],_,_,_,.nil,.nil,_,q=>q
 |[],_::_,_,_,_,_,_,h,_=>by cases h
 |_::_,[],_,_,_,_,_,h,_=>by cases h
 |a::r,b::t,u::us,v::ws,i,.cons ru rus,.cons rv rvs,h,q=>by
  have h1:a.isLeft=b.isLeft:=(US h).1;have h2:kinds r=kinds t:=(US h).2;have q:Q (if a=b then dI r t else pP.blt a b) s:=q;refine kat_cons (yo (A:=A) (s:=s) ru rv (kn a) (kn b) prog w _ _ ?_);rw[uB];by_cases e:a=b
  ·rw[SU e]at q;rw[Tr e];exact kat_yes (kI r t us ws (i+1) rus rvs h2 q)
  ·rw[SX e]at q;rw[Tb e];exact kat_no (Ck ru rv h1 q)
end
section
variable{X:Cx}{pr:List (Addr×Obj)}{σ:L2.St}{H:Hp}{s:Shared}
theorem oB(I:Inv X pr σ H s){a:Addr}{xs:List V}(h:SqT X.K H a xs):∃(us:List Value) (o:Obj) (n:Nat),Vals xs us/\s.heap.get? a=some o/\o.cls=.type "tuple"/\o.data=.seq us.toArray n:=by
 obtain⟨us,r,pl,_⟩:=I.tuple h;obtain⟨o,ho,oc,n,od⟩:=pl;exact⟨us,o,n,r,ho,oc,od⟩
theorem mI{al:List (Addr×List Key)}{us:List Value}(r:Vals (al.map fun a=>V.ref a.1) us){i:Nat}(h:i<al.length):us.getD i .none=.ref (al.getD i (0,[])).1:=by
 have e1:(al.map fun a=>V.ref a.1)[i]?=some (.ref (al.getD i (0,[])).1):=by
  rw[List.getElem?_map,List.getElem?_eq_getElem h,bB _ _ _ h];rfl
 obtain⟨u,hu,ru⟩:=r.get e1;rw[List.getD_eq_getElem?_getD,hu];exact ru
theorem qK{al:List (Addr×List Key)}{us:List Value}{h':Heap}(I:Inv X pr σ H s)(kk:∀b o,s.heap.get? b=some o->h'.get? b=some o)(top:Bool):
  (r:Vals (al.map fun a=>V.ref a.1) us)->(∀a∈al,SqT X.K H a.1 (a.2.map kV)/\∃t,kinds a.2=top::t)->∃fs:List Value,KatTups h' us fs/\fs.length=al.length/\∀v∈fs,∀M:Model,Looks M h' (typeOf v) (.type (if top then "int" else "str")):=by
 induction al generalizing us with
 |nil=>
  intro r _;cases r;exact⟨[],trivial,rfl,fun v hv=>by cases hv⟩
 |cons a al ih=>
  intro r h;cases r with
  |cons ra rs=>
   cases ra;obtain⟨fs,t1,t2,t3⟩:=ih rs fun b hb=>h b (SM _ hb)
   obtain⟨ha,kt,hk⟩:=h a SI;obtain⟨ws,o,n,rv,ho,oc,od⟩:=oB I ha;cases e2:a.2 with
   |nil=>rw[e2]at hk;cases hk
   |cons k ks=>
    rw[e2]at rv hk;have R4:k.isLeft=top:=(US hk).1;cases rv with
    | @cons _ f _ fr rf rfs=>
     refine⟨f::fs,KatTups.cons (kk _ _ ho) oc od (by simp) t1,by simp[t2],fun v hv M=>?_⟩;rcases SV.mp hv with rfl|hv
     ·cases k with
      |inl i=>
       obtain⟨t,rfl⟩:=rf;have:top=true:=R4.symm;subst this;exact fun A Q E s _ q=>Vi (WS s _ t) q
      |inr x=>
       obtain⟨t,rfl⟩:=rf;have:top=false:=R4.symm;subst this;exact fun A Q E s _ q=>Vi (WR s _ t) q
     ·exact t3 v hv M
end
section
variable{X:Cx}
theorem kc(hc:X.calm=true):dm X (.builtin "sorted") (fun vs H Q=>∃(p:Addr) (al:List (Addr×List Key)) (top:Bool) (t:List Bool),vs=[.ref p]/\SqL X.K H p (al.map fun a=>V.ref a.1)/\(∀a∈al,SqT X.K H a.1 (a.2.map kV)/\kinds a.2=top::t)/\al.length<64/\
  ∀(D:Addr) (ms:List (Addr×List Key)),H D=none->ms.Perm al->ms.Pairwise (fun a b=>dI b.2 a.2=false)->Q (.ref D) (upd H D (.lst (ms.map fun a=>V.ref a.1)))):=by
 intro pr s σ H vs us Q I r h;obtain⟨p,al,top,kt,rfl,hp,J9,Lj,q⟩:=h;obtain⟨u,rfl,r1⟩:=gk r;cases r1;obtain⟨ws,rv,pl,hz⟩:=I.list hp;have hl:=rv.length;rw[SJ]at hl;refine jE (O:=Eg) (key:=fun i=>(al.getD i (0,[])).2) (kd:=tuples' true) pl.isList (by lia) (fun h2 A' E' h' kk Q' q'=>?_) (fun i j hi hj h' kk C q'=>?_) fun pp h' e Jt hs he kk=>?_
 ·obtain⟨fs,t1,t2,t3⟩:=qK I kk top rv fun a ha=>⟨(J9 a ha).1,kt,(J9 a ha).2⟩
  refine kat_kind (T:=.type (if top then "int" else "str")) t1 (by lia) (fun v hv=>t3 v hv _) (by simp) ?_;have:((Value.type (if top then "int" else "str")) != Value.type "tuple")=true:=by cases top <;> decide
  rw[this];exact q'
 ·unfold kas_ask;have KL:i<al.length:=by lia
  have NH:j<al.length:=by lia
  rw[mI rv KL,mI rv NH];have mi:al.getD i (0,[])∈al:=by rw[bB _ _ _ KL];exact Uo _
  have mj:al.getD j (0,[])∈al:=by rw[bB _ _ _ NH];exact Uo _
  obtain⟨u1,o1,n1,r1,g1,_,d1⟩:=oB I (J9 _ mi).1;obtain⟨u2,o2,n2,r2,g2,_,d2⟩:=oB I (J9 _ mj).1;have ek:kinds (al.getD i (0,[])).2=kinds (al.getD j (0,[])).2:=by rw[(J9 _ mi).2,(J9 _ mj).2]
  have el:u1.length=u2.length:=by
   have a1:=r1.length;have a2:=r2.length;have a3:=T3 List.length ek;simp only[kinds,SJ]at a1 a2 a3;lia
  refine kat_lt (kk _ _ g1) d1 (kk _ _ g2) d2 ?_;have ef:decide (u1.toArray.size<u2.toArray.size)=false:=by simp[el]
  rw[ef];exact kI _ _ _ _ 0 r1 r2 ek q'
 ·rw[<-hl]at Jt hs;have NI:POk (al.map fun a=>V.ref a.1).length pp:=by rw[SJ];exact Jt
  have eo:sL pp (al.map fun a=>V.ref a.1)=(pp.toList.map fun i=>al.getD i (0,[])).map fun a=>V.ref a.1:=by
   unfold sL;rw[S9];refine Ue fun i hi=>?_
   have hi:=TB.mp (Jt.perm.mem_iff.mp hi);show(al.map fun a=>V.ref a.1).getD i .non=V.ref (al.getD i (0,[])).1;rw[bB _ _ _ (by rw[SJ];exact hi),bB _ _ _ hi];simp
  have hn:H (s.heap.objs.size+1)=none:=I.hok.fresh (Vd _);refine⟨.ref (s.heap.objs.size+1),_,iV I kk (Vd _) he (km rv NI) ?_,rfl,?_⟩
  ·show(sL pp (al.map fun a=>V.ref a.1)).length<=sizeLine;rw[eo,SJ,SJ,Jt.perm.length_eq,Tp,TV];lia
  ·rw[eo];refine q _ _ hn (kl (0,[]) Jt) ?_;exact g7 (O:=Eg) (0,[]) (fun a:Addr×List Key=>a.2) Jt hs
end
end NX
namespace L2
open PySem PySem.Spec PyProof.Rows
section
variable{κ:Type}[DecidableEq κ]
def oC(kvs:List (κ×V))(k:κ):Option V:=(kvs.find? fun kv=>decide (kv.1=k)).map (·.2)
def iW(kvs:List (κ×V))(k:κ)(v:V):List (κ×V):=
 if(kvs.any fun kv=>decide (kv.1=k))=true then kvs.map (fun kv=>if kv.1=k then(kv.1,v) else kv) else kvs++[(k,v)]
theorem mJ{p:κ×V}{r:List (κ×V)}{k:κ}(e:p.1=k):oC (p::r) k=some p.2:=by simp[oC,List.find?_cons,e]
theorem mK{p:κ×V}{r:List (κ×V)}{k:κ}(e:¬ p.1=k):oC (p::r) k=oC r k:=by simp[oC,List.find?_cons,e]
theorem qL(k:κ):∀kvs:List (κ×V),(kvs.any fun kv=>decide (kv.1=k))=(oC kvs k).isSome
 |[]=>rfl
 |p::r=>by
  rw[Xg];by_cases e:p.1=k
  ·simp only[mJ e,Tr e,Bool.true_or,V0]
  ·rw[mK e,Tb e,Bool.false_or];exact qL k r
theorem iA(kvs:List (κ×V))(k:κ)(v:V):(iW kvs k v).length<=kvs.length+1:=by
 unfold iW;split
 ·rw[SJ];lia
 ·rw[To,S4,T7];lia
theorem RelO.isSome_eq{o:Option V}{u:Option Value}(r:RelO o u):o.isSome=u.isSome:=by
 cases o with
 |none=>cases u with
  |none=>rfl
  |some _=>exact(show False from r).elim
 |some _=>cases u with
  |none=>exact(show False from r).elim
  |some _=>rfl
theorem KV.val{kvs:List (κ×V)}{vs:List (κ×Value)}(r:KV kvs vs)(k:κ):RelO (oC kvs k) (valueAt vs k):=by
 unfold KV at r;induction r with
 |nil=>exact True.intro
 | @cons p q ps qs h t ih=>
  obtain⟨h1,h2⟩:=h;by_cases e:p.1=k
  ·have e':q.1=k:=h1.symm.trans e;have b:valueAt (q::qs) k=some q.2:=by simp[valueAt,List.find?_cons,e']
   rw[mJ e,b];exact h2
  ·have e':¬ q.1=k:=fun z=>e (h1.trans z)
   have b:valueAt (q::qs) k=valueAt qs k:=by simp[valueAt,List.find?_cons,e']
   rw[mK e,b];exact ih
theorem KV.any{kvs:List (κ×V)}{vs:List (κ×Value)}(r:KV kvs vs)(k:κ):(kvs.any fun kv=>decide (kv.1=k))=vs.any fun kv=>decide (kv.1=k):=by
 unfold KV at r;induction r with
 |nil=>rfl
 |cons h t ih=>rw[Xg,Xg,ih,h.1]
theorem KV.repl{kvs:List (κ×V)}{vs:List (κ×Value)}(r:KV kvs vs)(k:κ){y:V}{u:Value}(ry:RelV y u):
  KV (kvs.map fun kv=>if kv.1=k then(kv.1,y) else kv) (vs.map fun kv=>if kv.1=k then(kv.1,u) else kv):=by
 unfold KV at r ⊢;induction r with
 |nil=>exact .nil
 | @cons p q ps qs h t ih=>
  rw[S5,S5];refine .cons ?_ ih;obtain⟨h1,h2⟩:=h;by_cases e:p.1=k
  ·rw[SU e,SU (h1.symm.trans e)];exact⟨h1,ry⟩
  ·rw[SX e,SX (fun z=>e (h1.trans z))];exact⟨h1,h2⟩
theorem KV.put{kvs:List (κ×V)}{vs:List (κ×Value)}(r:KV kvs vs)(k:κ){y:V}{u:Value}(ry:RelV y u):KV (iW kvs k y) (stored vs k u):=by
 unfold iW stored;rw[r.any k];by_cases e:(vs.any fun kv=>decide (kv.1=k))=true
 ·rw[SU e,SU e];exact r.repl k ry
 ·rw[SX e,SX e];exact Paired.snoc r ⟨rfl,ry⟩
theorem KV.length{kvs:List (κ×V)}{vs:List (κ×Value)}(r:KV kvs vs):kvs.length=vs.length:=VH r
end
theorem kV_is{P:Program}{w:World}{k:Key}{u:Value}(r:RelV (kV k) u):(mixKind P w).is k u=true:=by
 cases k with
 |inl i=>obtain⟨t,e⟩:=(show ∃t,u=Value.int i t from r);subst e;exact pS P w i t
 |inr x=>obtain⟨t,e⟩:=(show ∃t,u=Value.str x t from r);subst e;exact pT P w x t
theorem oD{P:Program}{w:World}:∀{ks:List Key}{us:List Value},Vals (ks.map kV) us->ItemsAre (mixKind P w) ks us
 |[],_,r=>by rw[Tz]at r;cases r;exact .nil
 |k::ks,_,r=>by
  rw[S5]at r;cases r with
  |cons h t=>exact .cons (kV_is h) (oD t)
abbrev KT(H:Hp):List (List Key×V)->List (List Key×Addr×Value)->Prop:=Paired fun p q=>p.1=q.1/\H q.2.1=some (.tup (p.1.map kV))/\RelV p.2 q.2.2
theorem KT.val{H:Hp}{kvs:List (List Key×V)}{xs:List (List Key×Addr×Value)}(r:KT H kvs xs)(k:List Key):RelO (oC kvs k) ((atKey xs k).map (·.2)):=by
 induction r with
 |nil=>exact True.intro
 | @cons p q ps qs h t ih=>
  obtain⟨h1,_,h2⟩:=h;by_cases e:p.1=k
  ·have e':q.1=k:=h1.symm.trans e;have b:atKey (q::qs) k=some q.2:=by simp[atKey,List.find?_cons,e']
   rw[mJ e,b];exact h2
  ·have e':¬ q.1=k:=fun z=>e (h1.trans z)
   have b:atKey (q::qs) k=atKey qs k:=by simp[atKey,List.find?_cons,e']
   rw[mK e,b];exact ih
theorem KT.repl{H:Hp}{kvs:List (List Key×V)}{xs:List (List Key×Addr×Value)}(r:KT H kvs xs)(k:List Key){y:V}{u:Value}(ry:RelV y u):
  KT H (kvs.map fun kv=>if kv.1=k then(kv.1,y) else kv) (xs.map (putAt k u)):=by
 induction r with
 |nil=>exact .nil
 | @cons p q ps qs h t ih=>
  rw[S5,S5];refine .cons ?_ ih;obtain⟨h1,h2,h3⟩:=h;unfold putAt;by_cases e:p.1=k
  ·rw[SU e,SU (h1.symm.trans e)];exact⟨h1,h2,ry⟩
  ·rw[SX e,SX (fun z=>e (h1.trans z))];exact⟨h1,h2,h3⟩
theorem KT.put{H:Hp}{kvs:List (List Key×V)}{xs:List (List Key×Addr×Value)}(r:KT H kvs xs)(k:List Key){b:Addr}{y:V}{u:Value}(hb:H b=some (.tup (k.map kV)))(ry:RelV y u):
  KT H (iW kvs k y) (storedH xs k b u):=by
 have e:(kvs.any fun kv=>decide (kv.1=k))=(atKey xs k).isSome:=by
  rw[qL,(r.val k).isSome_eq,Wc]
 unfold iW storedH;rw[e];by_cases q:(atKey xs k).isSome=true
 ·rw[SU q,SU q];exact r.repl k ry
 ·rw[SX q,SX q];exact Paired.snoc r ⟨rfl,hb,ry⟩
theorem KT.keeps{H H':Hp}{kvs:List (List Key×V)}{xs:List (List Key×Addr×Value)}(r:KT H kvs xs)(ht:∀b ys,H b=some (.tup ys)->H' b=some (.tup ys)):KT H' kvs xs:=
 Paired.mapP r fun _ _ z=>⟨z.1,ht _ _ z.2.1,z.2.2⟩
section
variable{P:Program}{w:World}{H:Hp}{h:Heap}{a:Addr}
theorem Cm{u:HO}(ok:HOk P w H h)(e:Rd H a u):ObjOk P w H h a u:=e.ok ok
theorem sM{kvs:List (Key×V)}(ok:HOk P w H h)(e:Rd H a (.dK kvs)):kvs.length<=sizeLine/\(a==sysModules)=false/\∃vs,KV kvs vs/\h.DictOf (mixKind P w) a vs:=
 show ObjOk P w H h a (.dK kvs) from Cm ok e
theorem Cn{kvs:List (Key×V)}(ok:HOk P w H h)(e:H a=some (.dK kvs)):kvs.length<=sizeLine/\(a==sysModules)=false/\∃vs,KV kvs vs/\h.DictOf (mixKind P w) a vs:=sM ok (.inl e)
theorem oE{ks:List Key}(ok:HOk P w H h)(e:H a=some (.tup (ks.map kV))):(tupleKind (mixKind P w)).is h ks a:=by
 obtain⟨_,Hj,r,o,h1,h2,⟨n,h3⟩,_⟩:=(show ObjOk P w H h a (.tup (ks.map kV)) from ok a _ e)
 exact⟨o,Hj.toArray,n,h1,h2,h3,by simpa using oD r⟩
theorem uC{kvs:List (List Key×V)}(ok:HOk P w H h)(e:Rd H a (.dT kvs)):kvs.length<=sizeLine/\(a==sysModules)=false/\
  ∃xs,KT H kvs xs/\h.DictOfH (tupleKind (mixKind P w)) a xs:=by
 obtain⟨z,y,xs,r,o,es,ep,h1,h2,h3,h4,h5⟩:=(show ObjOk P w H h a (.dT kvs) from Cm ok e)
 refine⟨z,y,xs,r,o,es,ep,h1,h2,h3,h4,fun x hx=>?_,h5⟩;have all:∀{l:List (List Key×V)}{m:List (List Key×Addr×Value)},KT H l m->∀x∈m,(tupleKind (mixKind P w)).is h x.1 x.2.1:=by
  intro l m q;induction q with
  |nil=>intro x hx;exact nomatch hx
  | @cons p q ps qs hq t ih=>
   intro x hx;rcases SV.mp hx with e|hx
   ·subst e;exact oE ok (by rw[<-hq.1];exact hq.2.1)
   ·exact ih x hx
 exact all r x hx
theorem ET{kvs:List (List Key×V)}(ok:HOk P w H h)(e:H a=some (.dT kvs)):kvs.length<=sizeLine/\(a==sysModules)=false/\
  ∃xs,KT H kvs xs/\h.DictOfH (tupleKind (mixKind P w)) a xs:=uC ok (.inl e)
end
def DGet(H:Hp)(a:Addr)(y:V)(r:Option V):Prop:=
 (∃kvs k,Rd H a (.dK kvs)/\y=kV k/\r=oC kvs k)\/∃kvs k b,Rd H a (.dT kvs)/\y=.ref b/\H b=some (.tup (k.map kV))/\r=oC kvs k
def DPut(H:Hp)(a:Addr)(y v:V)(H':Hp):Prop:=
 (∃kvs k,H a=some (.dK kvs)/\y=kV k/\kvs.length<sizeLine/\H'=upd H a (.dK (iW kvs k v)))\/
 ∃kvs k b,H a=some (.dT kvs)/\y=.ref b/\H b=some (.tup (k.map kV))/\kvs.length<sizeLine/\H'=upd H a (.dT (iW kvs k v))
theorem DGet.k{H:Hp}{a:Addr}{kvs:List (Key×V)}{k:Key}(e:H a=some (.dK kvs)):DGet H a (kV k) (oC kvs k):=.inl ⟨kvs,k,.inl e,rfl,rfl⟩
theorem DGet.t{H:Hp}{a b:Addr}{kvs:List (List Key×V)}{k:List Key}(e:H a=some (.dT kvs))(eb:H b=some (.tup (k.map kV))):DGet H a (.ref b) (oC kvs k):=.inr ⟨kvs,k,b,.inl e,rfl,eb,rfl⟩
theorem DPut.k{H:Hp}{a:Addr}{kvs:List (Key×V)}{k:Key}{v:V}(e:H a=some (.dK kvs))(hl:kvs.length<sizeLine):DPut H a (kV k) v (upd H a (.dK (iW kvs k v))):=.inl ⟨kvs,k,e,rfl,hl,rfl⟩
theorem DPut.t{H:Hp}{a b:Addr}{kvs:List (List Key×V)}{k:List Key}{v:V}(e:H a=some (.dT kvs))(eb:H b=some (.tup (k.map kV)))(hl:kvs.length<sizeLine):
  DPut H a (.ref b) v (upd H a (.dT (iW kvs k v))):=.inr ⟨kvs,k,b,e,rfl,eb,hl,rfl⟩
section
variable{X:Cx}{pr:List (Addr×Obj)}{σ:St}{H:Hp}{s:Shared}{a:Addr}{y v:V}{u r:Value}{o:Option V}{A:Around}{E:Value->Shared->Prop}
theorem Inv.big(I:Inv X pr σ H s):sysModules<s.heap.objs.size:=by
 have h:mainGlobals<s.heap.objs.size:=(I.mod.glob.keeps I.bk).lt;exact Nat.lt_trans (by decide) h
theorem uD{Q:Value->Shared->Prop}(hu:A.units+1<cLine)(I:Inv X pr σ H s)(g:DGet H a y (some v))(ry:RelV y u)(h:∀w' s',Inv X pr σ H s'->RelV v w'->Q w' s'):
  wpAny (model X.prog X.w) A (getItem (.ref a) u) Q E s:=by
 rcases g with⟨kvs,k,e,ey,l⟩|⟨kvs,k,b,e,ey,eb,l⟩
 ·subst ey;obtain⟨z,hd,vs,rel,dd⟩:=sM I.hok e;obtain⟨w',hw,Lg⟩:=RelO.some_of (v:=v) (o:=valueAt vs k) (by rw[l];exact rel.val k);exact wpAny_getItem_of (kV_is ry) dd.mapOf hw (h w' _ (I.tok _) Lg)
 ·subst ey;cases(show u=Value.ref b from ry);obtain⟨z,hd,xs,rel,dd⟩:=uC I.hok e;obtain⟨w',hw,Lg⟩:=RelO.some_of (v:=v) (o:=(atKey xs k).map (·.2)) (by rw[l];exact rel.val k);obtain⟨p,hp,Pe⟩:=Ts.mp hw;refine wpAny_getItem_heap (Vo hu) (oE I.hok eb) dd hp ?_;rw[Pe];exact h w' _ (I.tok _) Lg
theorem GK{Q:Value->Shared->Prop}(hu:A.units+1<cLine)(I:Inv X pr σ H s)(g:DGet H a y o)(ry:RelV y u)(h:∀s',Inv X pr σ H s'->Q (.bool o.isSome) s'):
  wpAny (model X.prog X.w) A (compareOp .In u (.ref a)) Q E s:=by
 rcases g with⟨kvs,k,e,ey,l⟩|⟨kvs,k,b,e,ey,eb,l⟩
 ·subst ey;obtain⟨z,hd,vs,rel,dd⟩:=sM I.hok e;refine wpAny_in_of (kV_is ry) hd dd.mapOf ?_;rw[<-(rel.val k).isSome_eq,<-l];exact h _ (I.tok _)
 ·subst ey;cases(show u=Value.ref b from ry);obtain⟨z,hd,xs,rel,dd⟩:=uC I.hok e;refine wpAny_in_heap (Vo hu) (oE I.hok eb) hd dd ?_;have q:=(rel.val k).isSome_eq;rw[Wc]at q;rw[<-q,<-l];exact h _ (I.tok _)
theorem zM{Q:Value->Shared->Prop}(hu:A.units+1<cLine)(I:Inv X pr σ H s)(g:DGet H a y o)(ry:RelV y u)(h:∀s',Inv X pr σ H s'->Q (.bool (!o.isSome)) s'):
  wpAny (model X.prog X.w) A (compareOp .NotIn u (.ref a)) Q E s:=by
 rcases g with⟨kvs,k,e,ey,l⟩|⟨kvs,k,b,e,ey,eb,l⟩
 ·subst ey;obtain⟨z,hd,vs,rel,dd⟩:=sM I.hok e;refine wpAny_notIn_of (kV_is ry) hd dd.mapOf ?_;rw[<-(rel.val k).isSome_eq,<-l];exact h _ (I.tok _)
 ·subst ey;cases(show u=Value.ref b from ry);obtain⟨z,hd,xs,rel,dd⟩:=uC I.hok e;refine wpAny_notIn_heap (Vo hu) (oE I.hok eb) hd dd ?_;have q:=(rel.val k).isSome_eq;rw[Wc]at q;rw[<-q,<-l];exact h _ (I.tok _)
theorem pY{h':Heap}{t':Nat}{ob:HO}(I:Inv X pr σ H s)(mu:OW (H a))(hs:Heap.SameBut a s.heap h')(he:∃q,h'.get? a=some q)(new:ObjOk X.prog X.w (upd H a ob) h' a ob):
  Inv X pr σ (upd H a ob) {s with heap:=h',toks:=t'}:=
 I.write (x:=a) (e:=a) mu (.inl rfl) (fun b q hb z=>(hs.2 b hb).trans z) he new
theorem yx{P:Program}{w:World}{H':Hp}{h':Heap}{kvs:List (Key×V)}{vs:List (Key×Value)}(z:kvs.length<=sizeLine)(hd:(a==sysModules)=false)(rel:KV kvs vs)(dd:h'.DictOf (mixKind P w) a vs):
  ObjOk P w H' h' a (.dK kvs):=⟨z,hd,vs,rel,dd⟩
theorem uE{H':Hp}{Q:Unit->Shared->Prop}(hu:A.units+1<cLine)(I:Inv X pr σ H s)(g:DPut H a y v H')(ry:RelV y u)(rv:RelV v r)(h:∀s',Inv X pr σ H' s'->Q () s'):
  wpAny (model X.prog X.w) A (setItem (.ref a) u r) Q E s:=by
 rcases g with⟨kvs,k,e,ey,l,eH⟩|⟨kvs,k,b,e,ey,eb,l,eH⟩
 ·subst ey eH;obtain⟨z,hd,vs,rel,dd⟩:=Cn I.hok e;have hz:vs.length<=sizeLine:=by rw[<-rel.length];exact z
  have hl:(iW kvs k v).length<=sizeLine:=by have:=iA kvs k v;lia
  refine wpAny_setItem_pairs (hsz:=hz) (kV_is ry) dd fun h' Mt hs=>h _ ?_
  have he:∃q,h'.get? a=some q:=let⟨q,_,_,hq,_⟩:=Mt;⟨q,hq⟩
  exact pY I (by rw[e];exact True.intro) hs he (yx hl hd (rel.put k rv) Mt)
 ·subst ey eH;cases(show u=Value.ref b from ry);obtain⟨z,hd,xs,rel,dd⟩:=ET I.hok e;have hz:xs.length<=sizeLine:=by rw[<-VH rel];exact z
  have hl:(iW kvs k v).length<=sizeLine:=by have:=iA kvs k v;lia
  refine wpAny_setItem_heap (hsz:=hz) (Vo hu) (oE I.hok eb) dd fun h' Mt hs=>h _ ?_
  obtain⟨q,es,ep,hq,h2,h3,h4,_,h5⟩:=Mt;refine pY I (by rw[e];exact True.intro) hs ⟨q,hq⟩ ⟨hl,hd,_,(rel.put k eb rv).keeps fun c ys ec=>?_,q,es,ep,hq,h2,h3,h4,h5⟩;rw[aE (Em ec e (fun z=>nomatch z))];exact ec
end
section
variable{X:Cx}{pr:List (Addr×Obj)}{σ:St}{H:Hp}{s:Shared}{a:Addr}{kvs:List (Key×V)}{k:Key}{u:Value}{A:Around}{E:Value->Shared->Prop}
end
def NoSl(i:Expr):Prop:=∀ov iv,subscripted i false ov iv=operate [ov,iv] (getItem ov iv)
theorem zN{prog:Program}{w:World}{A:Around}{E:Value->Shared->Prop}{s:Shared}{env:Env}{value slice:Expr}{pos:Pos}{T id:String}{Q:Value->Shared->Prop}
  (hl:typeLookup (.type T) "__getitem__" = pure (some (.builtin id))) (hs:NoSl slice)
  (h:wpAny (model prog w) A (eval value env) (fun o s₁=>wpAny (model prog w) A (eval slice env) (fun i s₂=>s₂.TypeIs o T/\wpAny (model prog w) A (getItem o i) Q E s₂) E s₁) E s):
  wpAny (model prog w) A (eval (.Subscript value slice pos) env) Q E s:=by
 refine Subscript_ (Vg h (fun o s₁ h₁=>Vg h₁ (fun i s₂ h₂=>?_) fun _ _ x=>x) fun _ _ x=>x);obtain⟨hT,h₂⟩:=h₂;unfold subscriptTail;refine SH ?_;rw[getitemInPython_of_ne hT.not_modules];refine SH (wpAny_specialOf hT hl ?_);have fin:wpAny (model prog w) A (subscripted slice false o i) (fun r s₃=>wpAny (model prog w) A (letTemporaryGo value o r >>= fun _=>pure r) Q E s₃) E s₂:=by
  rw[hs o i];exact wpAny_operating (Vg h₂ (fun r s₃ h₃=>SH (wpAny_letTemporaryGo (SO h₃))) fun _ _ x=>x)
 first
  |exact SO (SH fin)
  |exact SH (SO (SH fin))
  |exact SH fin
theorem pZ{X:Cx}{pr:List (Addr×Obj)}{σ:St}{H:Hp}{s:Shared}{a:Addr}{y:V}{o:Option V}(I:Inv X pr σ H s)(g:DGet H a y o):s.TypeIs (.ref a) "dict":=by
 rcases g with⟨kvs,k,e,_,_⟩|⟨kvs,k,b,e,_,_,_⟩
 ·obtain⟨_,_,vs,_,dd⟩:=sM I.hok e;exact dd.typeIs
 ·obtain⟨_,_,xs,_,dd⟩:=uC I.hok e;exact dd.typeIs
def EU(td ty:TE):TE:=fun σ H Q=>td σ H fun x H1=>ty σ H1 fun y H2=>∃a v,x=.ref a/\DGet H2 a y (some v)/\Q v H2
def EV(td ty tv:TE):TS:=fun D σ H=>tv σ H fun v H1=>td σ H1 fun x H2=>ty σ H2 fun y H3=>∃a H4,x=.ref a/\DPut H3 a y v H4/\D.nx σ H4
section
variable{X:Cx}{o i e value:Expr}{pos pos' tpos:Pos}{td ty tv:TE}
theorem zO(hu:X.A.units+1<cLine)(ho:PE X o td)(hi:PE X i ty)(hs:NoSl i):PE X (.Subscript o i pos) (EU td ty):=by
 intro pr s σ H Q I h;refine zN PySem.F.slot_dict_getitem.lookup hs (HA (ho pr s σ H _ I h) fun u s1 ⟨x,H1,I1,rx,q1⟩=>HA (hi pr s1 σ H1 _ I1 q1) fun iv s2 HD=>?_);obtain⟨y,H2,I2,ry,a,v,ex,g,q2⟩:=HD;subst ex;obtain rfl:u=Value.ref a:=rx;exact⟨pZ I2 g,uD hu I2 g ry fun w' s3 I3 Lg=>⟨v,H2,I3,Lg,q2⟩⟩
theorem uF(hu:X.A.units+1<cLine)(ho:PE X o td)(hi:PE X i ty)(hv:PE X value tv)(hs:swapsWith value (some (.Subscript o i pos')) pos.line X.env=pure false):
  PS X (.Assign [.Subscript o i pos'] value pos) (EV td ty tv):=by
 intro pr s σ H D I h;refine wpAny_Assign_Subscript (HA (hv pr s σ H _ I h) fun r s1 ⟨v,H1,I1,rv,q1⟩=>HA (ho pr s1 σ H1 _ I1 q1) fun u s2 ⟨x,H2,I2,rx,q2⟩=>HA (hi pr s2 σ H2 _ I2 q2) fun iv s3 ⟨y,H3,I3,ry,a,H4,ex,g,q3⟩=>?_) hs;subst ex;obtain rfl:u=Value.ref a:=rx;exact uE hu I3 g ry rv fun s4 I4=>⟨σ,H4,I4,q3⟩
end
theorem dk_empty{P:Program}{w:World}{H:Hp}(h:Heap)(hb:sysModules<h.objs.size):ObjOk P w H (h.push {cls:=.type "dict",data:=.dict #[]}) h.objs.size (.dK []):=
 ⟨Tw _,TN.mpr (Ub (S8 hb)),[],.nil,Heap.DictOf.new h⟩
section
variable{X:Cx}{pos:Pos}
end
def tPairs:List (TE×TE)->St->Hp->(List (V×V)->Hp->Prop)->Prop
 |[],_,H,Q=>Q [] H
 |(tk,tv)::r,σ,H,Q=>tk σ H fun x H1=>tv σ H1 fun y H2=>tPairs r σ H2 fun ps H3=>Q ((x,y)::ps) H3
abbrev VV:List (V×V)->List (Value×Value)->Prop:=Paired fun p q=>RelV p.1 q.1/\RelV p.2 q.2
def Qq(X:Cx)(pos:Pos)(keys:List (Option Expr))(values:List Expr)(Mu:List (TE×TE)):Prop:=
 ∀(pr:List (Addr×Obj)) (s:Shared) (σ:St) (H:Hp) (Q:List (V×V)->Hp->Prop),Inv X pr σ H s->tPairs Mu σ H Q->
  wpAny (model X.prog X.w) X.A (evalPairs (pairTrees keys values X.env pos)) (fun vs s'=>∃ps H',Inv X pr σ H' s'/\VV ps vs/\Q ps H') X.xe s
theorem zP{X:Cx}{pos:Pos}:Qq X pos [] [] []:=fun pr s σ H Q I h=>pairTrees_nil_walk ⟨[],H,I,.nil,h⟩
theorem xo{X:Cx}{pos:Pos}{k v:Expr}{ks:List (Option Expr)}{vs:List Expr}{tk tv:TE}{Mu:List (TE×TE)}(hk:PE X k tk)(hv:PE X v tv)(hr:Qq X pos ks vs Mu):
  Qq X pos (some k::ks) (v::vs) ((tk,tv)::Mu):=fun pr s σ H Q I h=>
 pairTrees_cons_walk (HA (hk pr s σ H _ I h) fun u s1 ⟨x,H1,I1,rx,q1⟩=>HA (hv pr s1 σ H1 _ I1 q1) fun w2 s2 ⟨y,H2,I2,ry,q2⟩=>
  HA (hr pr s2 σ H2 _ I2 q2) fun ws s3 ⟨ps,H3,I3,rel,q3⟩=>⟨(x,y)::ps,H3,I3,.cons ⟨rx,ry⟩ rel,q3⟩)
def oF(kvs more:List (Key×V)):List (Key×V):=more.foldl (fun acc kv=>iW acc kv.1 kv.2) kvs
theorem KV.merge:∀{more:List (Key×V)}{rs:List (Key×Value)}{kvs:List (Key×V)}{vs:List (Key×Value)},KV more rs->KV kvs vs->KV (oF kvs more) (merged vs rs):=by
 intro more rs kvs vs r;unfold KV at r;induction r generalizing kvs vs with
 |nil=>intro q;exact q
 | @cons p q ps qs h t ih=>
  intro r0;have e:KV (iW kvs p.1 p.2) (stored vs q.1 q.2):=by
   have:=r0.put p.1 h.2;rw[<-h.1];exact this
  exact ih e
theorem iX:∀(more kvs:List (Key×V)),(oF kvs more).length<=kvs.length+more.length
 |[],kvs=>by show kvs.length<=kvs.length+0;lia
 |p::r,kvs=>by
  have h1:=iX r (iW kvs p.1 p.2);have h2:=iA kvs p.1 p.2;show(oF (iW kvs p.1 p.2) r).length<=_;rw[S4];lia
theorem lV{P:Program}{w:World}:∀{kvs:List (Key×V)}{ws:List (Value×Value)},VV (kvs.map fun kv=>(kV kv.1,kv.2)) ws->∃rs,Carries (mixKind P w) ws rs/\KV kvs rs
 |[],_,r=>by rw[Tz]at r;cases r;exact⟨[],True.intro,.nil⟩
 |p::kvs,_,r=>by
  rw[S5]at r;cases r with
  | @cons a b as bs h t=>
   obtain⟨rs,c,q⟩:=lV (P:=P) (w:=w) t;obtain⟨b1,b2⟩:=b;exact⟨(p.1,b2)::rs,⟨kV_is h.1,rfl,c⟩,.cons ⟨rfl,h.2⟩ q⟩
def EW(Mu:List (TE×TE)):TE:=fun σ H Q=>∀p,H p=none->tPairs Mu σ (upd H p (.dK [])) fun ps H2=>H2 p=some (.dK [])/\∃kvs:List (Key×V),ps=kvs.map (fun kv=>(kV kv.1,kv.2))/\kvs.length<=15/\Q (.ref p) (upd H2 p (.dK (oF [] kvs)))
theorem zQ{X:Cx}{pos:Pos}{keys:List (Option Expr)}{values:List Expr}{Mu:List (TE×TE)}(h:Qq X pos keys values Mu)(LH:keys.all (·.isSome)=true)(hl:keys.length=values.length)(h0:keys≠[])
  (h15:keys.length<=15):PE X (.Dict keys values pos) (EW Mu):=by
 intro pr s σ H Q I q;have hn:=I.hok.fresh (SS s.heap.objs.size);have I1:=I.laid (a:=s.heap.objs.size) (o:=.dK []) (h':=s.heap.push {cls:=.type "dict",data:=.dict #[]}) (t':=s.toks) (fun _ _ q=>Heap.get?_push_of_some _ q) (SS _) (dk_empty s.heap I.big);refine wpAny_Dict_walk (knd:=mixKind X.prog X.w) LH hl h0 h15 (HA (h pr _ σ _ _ I1 (q _ hn)) fun ws s2 HD=>?_);obtain⟨ps,H2,I2,rel,e,kvs,ep,lk,q2⟩:=HD;subst ep;obtain⟨rs,c,rk⟩:=lV (P:=X.prog) (w:=X.w) rel;obtain⟨z,hd,vs0,r0,dd⟩:=Cn I2.hok e;cases r0;refine⟨rs,c,dd,fun h' Mt hs=>⟨.ref s.heap.objs.size,_,?_,rfl,q2⟩⟩;have hz:(oF [] kvs).length<=sizeLine:=by
  have h1:=iX kvs [];rw[T7]at h1;rw[TV];lia
 have he:∃q,h'.get? s.heap.objs.size=some q:=let⟨q,_,_,hq,_⟩:=Mt;⟨q,hq⟩
 exact pY I2 (by rw[e];exact True.intro) hs he (yx hz hd (rk.merge .nil) Mt)
section
variable{X:Cx}{pr:List (Addr×Obj)}{σ:St}{H:Hp}{s:Shared}{a:Addr}{y d:V}{u r:Value}{o:Option V}{A:Around}{E:Value->Shared->Prop}
end
section
variable{X:Cx}{o e f:Expr}{apos HE:Pos}{td ty tx:TE}
end
section
variable{X:Cx}{pr:List (Addr×Obj)}{σ:St}{H:Hp}{s:Shared}{a:Addr}{kvs:List (Key×V)}{A:Around}{E:Value->Shared->Prop}
end
section
variable{X:Cx}{pr:List (Addr×Obj)}{σ:St}{H:Hp}{s:Shared}{a:Addr}{y:V}{u:Value}{A:Around}{E:Value->Shared->Prop}
end
section
variable{κ:Type}[DecidableEq κ]
end
end L2
namespace NX
open PySem PySem.Spec PyProof.Rows L2
def RawD(h:Heap)(d:Addr)(es:Array DictEntry)(ep:Nat):Prop:=∃o,h.get? d=some o/\o.ExactDict/\o.data=.dict es ep
theorem RawD.at{h h':Heap}{d:Addr}{es:Array DictEntry}{ep:Nat}(x:RawD h d es ep)(e:∀o,h.get? d=some o->h'.get? d=some o):RawD h' d es ep:=by
 obtain⟨o,g,r⟩:=x;exact⟨o,e o g,r⟩
section
variable{prog:Program}{w:World}{A:Around}{E:Value->Shared->Prop}{s:Shared}{d it:Addr}{es:Array DictEntry}{ep i:Nat}
theorem ko(x:RawD s.heap d es ep):s.TypeIs (.ref d) "dict":=by
 obtain⟨o,g,ex,_⟩:=x;exact⟨o,g,ex.1⟩
theorem xp{Q:Value->Shared->Prop}(nm:(d==sysModules)=false)(x:RawD s.heap d es ep)
  (q:Q (.ref s.heap.objs.size) {s with heap:=s.heap.push {cls:=.type "dict_keyiterator",data:=.fields #[.ref d,.int 0 0,.int es.size 0,.int ep 0]}}):wpAny (model prog w) A (pyIter (.ref d)) Q E s:=by
 have ty:=ko x;obtain⟨o,g,ex,dat⟩:=x;refine wpAny_pyIter_slot ty F.slot_dict_iter (TQ F.slot_dict_iter ty F.entry_dict_iter (SH ?_) (F.args_dict_iter_1 _));refine SH (wpAny_notOrdered_dict ty (SO ?_));show wpAny _ _ (Builtin.Dict.showsAll d >>= fun _=>_) _ _ s;have ns:Builtin.Dict.showsAll d=pure ():=by
  unfold Builtin.Dict.showsAll;rw[nm];rfl
 rw[ns];refine SH (SO (SH (Vt g dat (SH (WJ g dat (SH (TK (SO ⟨_,rfl,"dict_keyiterator",_,⟨_,Heap.get?_push_size _ rfl,rfl⟩,F.slot_dict_keyiterator_next.lookup,?_⟩))))))));exact q
theorem xq{Q:Option Value->Shared->Prop}{e:DictEntry}(hit:s.heap.IsKeyIter it d i es.size ep)(x:RawD s.heap d es ep)(hx:es[i]?=some e)
  (q:∀h',h'.IsKeyIter it d (i+1) es.size ep->Heap.SameBut it s.heap h'->Q (some e.key) {s with heap:=h'}):wpAny (model prog w) A (pyNext (.ref it)) Q E s:=by
 have ti:=hit.typeIs;obtain⟨o,g,oc,od⟩:=hit;obtain⟨ob,gd,_,dat⟩:=x;have HW:i<es.size:=(Array.getElem?_eq_some_iff.mp hx).1;unfold pyNext;refine SH (Wh (wpAny_callSpecial?_slot (name:=Str.ofString "__next__") ti Us (TQ Us ti VD
  (SH (SO (SH (SH ?_)))) (VA _))))
 refine SH (Up ti (SO (SH (wpAny_fieldsOf g od ?_))));have Ld:Builtin.Dict_items.ownsTuple "dict_keyiterator" = false:=by decide
 simp only[Ld,Ul,Vl];show wpAny _ _ (if(Value.ref d==Value.none)=true then _ else _) _ _ s;have nz:¬ ((Value.ref d==Value.none)=true):=SN;rw[SX nz];refine SH (SO (SH (Vt gd dat ?_)));rw[SX (by simp)];refine SH (SO (SH (WJ gd dat ?_)));rw[SX (by simp)];refine SO ?_;simp only[SX (show ¬ ((i:Int)<0) by lia),TR,hx];refine SH (SH (Up ti (SO (SH (wpAny_isOneOf_keyiter ti ?_)))));show wpAny _ _ (setField (.ref it) 1 (rawInt ((i:Int)+1)) >>= fun _=>_) _ _ s;refine SH (V3 g od (by simp) ?_);have nx:(s.heap.update it (Obj.mapFields fun y=>y.setIfInBounds 1 (rawInt ((i:Int)+1)))).IsKeyIter it d (i+1) es.size ep:=
  ⟨_,Heap.get?_update_self _ g (Obj.isFreed_of_fields (Vn od _)),(Obj.cls_mapFields ..).trans oc,(Vn od _).trans (by simp[rawInt])⟩
 refine SH (UE (SH (wpAny_isOneOf_keyiter (s:={s with heap:=s.heap.update it (Obj.mapFields fun y=>y.setIfInBounds 1 (rawInt ((i:Int)+1)))}) nx.typeIs ?_)));show wpAny _ _ (pure e.key) _ _ _;exact SO (SO ⟨_,rfl,SO (q _ nx (Vf ..))⟩)
theorem zR{Q:Option Value->Shared->Prop}(hh:A.handled=none)(hit:s.heap.IsKeyIter it d i es.size ep)(x:RawD s.heap d es ep)(hx:es[i]?=none)
  (q:∀h',Heap.ExtBut it s.heap h'->Q none {s with heap:=h'}):wpAny (model prog w) A (pyNext (.ref it)) Q E s:=by
 have ti:=hit.typeIs;obtain⟨o,g,oc,od⟩:=hit;obtain⟨ob,gd,_,dat⟩:=x;unfold pyNext;refine SH (Wh (wpAny_callSpecial?_slot (name:=Str.ofString "__next__") ti Us (TQ Us ti VD
  (SH (SO (SH (SH ?_)))) (VA _))))
 refine SH (Up ti (SO (SH (wpAny_fieldsOf g od ?_))));have Ld:Builtin.Dict_items.ownsTuple "dict_keyiterator" = false:=by decide
 simp only[Ld,Ul,Vl];show wpAny _ _ (if(Value.ref d==Value.none)=true then _ else _) _ _ s;have nz:¬ ((Value.ref d==Value.none)=true):=SN;rw[SX nz];refine SH (SO (SH (Vt gd dat ?_)));rw[SX (by simp)];refine SH (SO (SH (WJ gd dat ?_)));rw[SX (by simp)];refine SO ?_;simp only[SX (show ¬ ((i:Int)<0) by lia),TR,hx];refine SH (SH (Up ti (SO ?_)));show wpAny _ _ (setField (.ref it) 0 .none >>= fun _=>_) _ _ s;refine SH (V3 g od (by simp) ?_);show wpAny _ _ (newExc (.type "StopIteration") [] >>= fun _=>_) _ _ _;refine SH ?_;simp only[newExc,newTuple];refine SH (TK (SH (m:=firstArgMember _ _) (wpAny_of_eq (a:=Value.none) (by first|rfl|(simp only[firstArgMember];rfl)) (TK ?_ (by size_fits)))) (by size_fits));simp only[raiseNew];refine SH (wpAny_handled ?_);rw[show A.in1.handled=none from hh];refine SH (SO (wpAny_throw ?_));refine SH (wpAny_isInstance (b:=true) (T:="StopIteration") ⟨_,Heap.get?_push_size _ rfl,rfl⟩ isSubtype_stop ?_);exact SO (q _ (((Vf ..).extBut.push _).push _))
theorem uG(hh:A.handled=none)(I:Addr)(ne:d≠I):Walks prog w A I [I,d] [I] es.size (fun i v=>∃e,es[i]?=some e/\v=e.key) (fun i h=>h.IsKeyIter I d i es.size ep/\RawD h d es ep) where
 sub:=fun b hb=>by
  rw[S7]at hb;rw[hb];exact SI
 frame:=fun _ _ _ st hk=>⟨st.1.at fun o e=>hk I SI o e,st.2.at fun o e=>hk d (SM _ SI) o e⟩
 item:=fun i s Q E hi st hQ=>by
  refine xq st.1 st.2 (Array.getElem?_eq_getElem hi) fun h' it' sb=>?_
  exact hQ _ h' s.toks ⟨_,Array.getElem?_eq_getElem hi,rfl⟩ ⟨it',st.2.at fun o e=>sb.extBut d o ne e⟩ fun b o hb e=>sb.extBut b o (fun z=>hb (by rw[z];exact SI)) e
 done:=fun s Q E st hQ=>zR hh st.1 st.2 (Array.getElem?_eq_none (SS _)) fun h' ext=>hQ h' s.toks fun b o hb e=>ext b o (fun z=>hb (by rw[z];exact SI)) e
 self:=fun _ _ _ _ st hQ=>wpAny_pyIter_keyiter st.1 hQ
theorem zS(nm:(d==sysModules)=false):PySem.W.KdlSrc prog w "dict" d d es.size (fun i v=>∃e,es[i]?=some e/\v=e.key) (fun h=>RawD h d es ep) where
 type:=fun _ x=>ko x
 there:=fun _ x=>by
  obtain⟨o,g,_⟩:=x;exact⟨SW g,SW g⟩
 keep:=fun _ _ x hk=>x.at fun o e=>hk d (.inl rfl) o e
 notList:=by decide
 notTuple:=by decide
 hint:=fun _ _ _ _ x q=>PySem.W.kdl_hint_dict (ko x) q
 iter:=fun _ s hh x=>⟨_,_,(fun _ _ q=>xp nm x q),uG hh _ (by obtain⟨o,g,_⟩:=x;exact S8 (SW g)),⟨⟨_,Heap.get?_push_size _ rfl,rfl,rfl⟩,x.at fun o e=>Heap.get?_push_of_some _ e⟩⟩
end
end NX
namespace NX
open PySem PySem.W PySem.Spec PyProof.Rows L2
section
variable{prog:Program}{w:World}{A:Around}{E:Value->Shared->Prop}{s:Shared}
theorem sN{O:KeyOrd}{key:Nat->O.α}{kd:SortKind}{l:Addr}{vs:List Value}{Q:Value->Shared->Prop}
  (hcol:∀Q':List Value->Shared->Prop,(∀h' tk,(∀b o,s.heap.get? b=some o->h'.get? b=some o)->Q' vs {s with heap:=h',toks:=tk})->wpAny (model prog w) A.in1 (collect (.ref l)) Q' E s) (Lj:vs.length<64)
  (JI:2<=vs.length->∀(A':Around) (E':Value->Shared->Prop) (s':Shared),(∀b o,s.heap.get? b=some o->s'.heap.get? b=some o)->∀Q:SortKind->Shared->Prop,Q kd s'->wpAny (model prog w) A' (keyKind' vs.toArray) Q E' s')
  (LM:∀i j,i<vs.length->j<vs.length->∀s':Shared,(∀b o,s.heap.get? b=some o->s'.heap.get? b=some o)->∀C:Bool->Shared->Prop,C (O.blt (key i) (key j)) s'->kas_ask prog w A.in1.in1 kd vs i j C s')
  (h:∀(p:Array Nat) (h5 h':Heap) (tk e:Nat),POk vs.length p->bx key p vs.length->(∀b o,s.heap.get? b=some o->h5.get? b=some o)->(∀b o,h5.get? b=some o->h'.get? b=some o)->h'.get? h5.objs.size=some (seqObj "list" (List.toArray (p.toList.map fun i=>vs.getD i .none)) e)->Q (.ref h5.objs.size) {s with heap:=h',toks:=tk}):
  wpAny (model prog w) A (call (.builtin "sorted") [.ref l]) Q E s:=by
 refine Va kind_sorted plain_sorted entry_sorted (args_sorted1 _) ?_;unfold Builtin.«sorted»;refine SH (m:=checkCount "sorted" 1 1 _) (SO (SH (hcol _ fun h5 tk k5=>?_)));refine SH (Xe ?_ (by rw[TV];lia));have k6:∀b o,s.heap.get? b=some o->(h5.push (seqObj "list" vs.toArray 0)).get? b=some o:=fun b o e=>Heap.get?_push_of_some _ (k5 b o e)
 have hL:(h5.push (seqObj "list" vs.toArray 0)).get? h5.objs.size=some (seqObj "list" vs.toArray 0):=Heap.get?_push_size _ rfl;have R5:∀b o,s.heap.get? b=some o->b<h5.objs.size:=fun b o e=>SW (k5 b o e)
 show wpAny _ _ _ _ _ {s with heap:=h5.push (seqObj "list" vs.toArray 0),toks:=tk};refine SH (UE (TQ slot_list_sort ⟨_,hL,rfl⟩ entry_list_sort (iU (key:=key) (kd:=kd) hL Lj (fun h2 h' kk Q' q=>JI h2 _ _ _ (fun b o e=>kk b o (S8 (R5 b o e)) (k6 b o e)) Q' q)
  (fun i j hi hj h' kk C q=>LM i j hi hj _ (fun b o e=>kk b o (S8 (R5 b o e)) (k6 b o e)) C q) fun p h' hp hs ⟨e,he⟩ kk=>⟨_,rfl,?_⟩) (args_list_sort _)))
 exact SO ⟨_,rfl,h p h5 h' tk e hp hs k5 (fun b o q=>kk b o (S8 (SW q)) (Heap.get?_push_of_some _ q)) he⟩
end
section
variable{X:Cx}{pr:List (Addr×Obj)}{σ:L2.St}{H:Hp}{s:Shared}
theorem zT{H:Hp}{kvs:List (List Key×V)}{xs:List (List Key×Addr×Value)}(r:KT H kvs xs):xs.map (·.1)=kvs.map (·.1):=by
 induction r with
 |nil=>rfl
 |cons hq _ ih=>rw[S5,S5,ih,hq.1]
theorem EX{H:Hp}{kvs:List (List Key×V)}{xs:List (List Key×Addr×Value)}(r:KT H kvs xs):∀y∈xs,H y.2.1=some (.tup (y.1.map kV)):=by
 induction r with
 |nil=>exact fun y hy=>nomatch hy
 |cons hq _ ih=>
  intro y hy;rcases SV.mp hy with rfl|hy
  ·rw[<-hq.1];exact hq.2.1
  ·exact ih y hy
theorem zU(I:Inv X pr σ H s){a:Addr}{kvs:List (List Key×V)}(h:Rd H a (.dT kvs)):(a==sysModules)=false/\∃(al:List (Addr×List Key)) (es:Array DictEntry) (ep:Nat),
  RawD s.heap a es ep/\es.toList.map (·.key)=al.map (fun x=>Value.ref x.1)/\al.map (·.2)=kvs.map (·.1)/\∀x∈al,H x.1=some (.tup (x.2.map kV)):=by
 obtain⟨_,nm,xs,r,o,es,ep,h1,h2,h3,h4,_⟩:=h.ok I.hok;refine⟨nm,xs.map fun x=>(x.2.1,x.1),es,ep,⟨o,h1,h2,h3⟩,?_,?_,?_⟩
 ·rw[h4,S9,S9];rfl
 ·rw[S9];exact zT r
 ·intro x hx;obtain⟨y,hy,rfl⟩:=TX.mp hx;exact EX r y hy
theorem lN(hc:X.calm=true):dm X (.builtin "sorted") (fun vs H Q=>∃(p:Addr) (kvs:List (List Key×V)) (top:Bool) (t:List Bool),vs=[.ref p]/\Rd H p (.dT kvs)/\(∀kv∈kvs,kinds kv.1=top::t)/\kvs.length<64/\
  ∀(D:Addr) (ms:List (Addr×List Key)),H D=none->(∀a∈ms,H a.1=some (.tup (a.2.map kV)))->(ms.map (·.2)).Perm (kvs.map (·.1))->ms.Pairwise (fun a b=>dI b.2 a.2=false)->Q (.ref D) (upd H D (.lst (ms.map fun a=>V.ref a.1)))):=by
 intro pr s σ H vs us Q I r h;obtain⟨p,kvs,top,kt,rfl,hp,hk,Lj,q⟩:=h;obtain⟨u,rfl,r1⟩:=gk r;cases r1;obtain⟨nm,al,es,ep,raw,LN,Qr,NK⟩:=zU I hp;have LH:al.length=kvs.length:=by
  have:=T3 List.length Qr;simpa using this
 have J9:∀a∈al,SqT X.K H a.1 (a.2.map kV)/\kinds a.2=top::kt:=fun a ha=>by
  refine⟨SqT.of (NK a ha),?_⟩;have:a.2∈kvs.map (·.1):=by rw[<-Qr];exact TX.mpr ⟨a,ha,rfl⟩
  obtain⟨kv,JB,e⟩:=TX.mp this;rw[<-e];exact hk kv JB
 have rv:Vals (al.map fun a=>V.ref a.1) (al.map fun a=>Value.ref a.1):=by
  clear LN Qr NK LH J9;induction al with
  |nil=>exact .nil
  |cons a al ih=>exact .cons rfl ih
 have hl:(al.map fun a=>Value.ref a.1).length=al.length:=SJ ..;refine sN (O:=Eg) (key:=fun i=>(al.getD i (0,[])).2) (kd:=tuples' true) (vs:=al.map fun a=>Value.ref a.1) (fun Q' hq=>?_) (by lia) (fun h2 A' E' s' kk Q' q'=>?_) (fun i j hi hj s' kk C q'=>?_) fun pp h5 h' tk e Jt hs k5 k' he=>?_
 ·refine kdu_collect (zS nm) (I.ok.hd hc) raw (by have:=T3 List.length LN;simp only[SJ,TZ]at this;rw[TV];lia) fun h' tk acc kk KI=>?_
  have ea:acc.toList=al.map fun a=>Value.ref a.1:=by
   rw[<-LN];apply U7;intro j;rw[List.getElem?_map,Array.getElem?_toList,Array.getElem?_toList];cases hj:acc[j]? with
   |none=>
    have:es[j]?=none:=by
     rw[Array.getElem?_eq_none_iff]at hj ⊢;rw[<-KI.1];exact hj
    rw[this];rfl
   |some v=>
    obtain⟨en,h1,h2⟩:=KI.2 j v hj;rw[h1,h2];rfl
  have:=hq h' tk kk;rw[<-ea]at this;exact this
 ·obtain⟨fs,t1,t2,t3⟩:=qK (h':=s'.heap) I kk top rv fun a ha=>⟨(J9 a ha).1,kt,(J9 a ha).2⟩
  refine kat_kind (T:=.type (if top then "int" else "str")) t1 (by lia) (fun v hv=>t3 v hv _) (by simp) ?_;have:((Value.type (if top then "int" else "str")) != Value.type "tuple")=true:=by cases top <;> decide
  rw[this];exact q'
 ·unfold kas_ask;have KL:i<al.length:=by lia
  have NH:j<al.length:=by lia
  rw[mI rv KL,mI rv NH];have mi:al.getD i (0,[])∈al:=by rw[bB _ _ _ KL];exact Uo _
  have mj:al.getD j (0,[])∈al:=by rw[bB _ _ _ NH];exact Uo _
  obtain⟨u1,o1,n1,r1,g1,_,d1⟩:=oB I (J9 _ mi).1;obtain⟨u2,o2,n2,r2,g2,_,d2⟩:=oB I (J9 _ mj).1;have ek:kinds (al.getD i (0,[])).2=kinds (al.getD j (0,[])).2:=by rw[(J9 _ mi).2,(J9 _ mj).2]
  have el:u1.length=u2.length:=by
   have a1:=r1.length;have a2:=r2.length;have a3:=T3 List.length ek;simp only[kinds,SJ]at a1 a2 a3;lia
  refine kat_lt (kk _ _ g1) d1 (kk _ _ g2) d2 ?_;have ef:decide (u1.toArray.size<u2.toArray.size)=false:=by simp[el]
  rw[ef];exact kI _ _ _ _ 0 r1 r2 ek q'
 ·rw[hl]at Jt hs;have NI:POk (al.map fun a=>V.ref a.1).length pp:=by rw[SJ];exact Jt
  have eo:sL pp (al.map fun a=>V.ref a.1)=(pp.toList.map fun i=>al.getD i (0,[])).map fun a=>V.ref a.1:=by
   unfold sL;rw[S9];refine Ue fun i hi=>?_
   have hi:=TB.mp (Jt.perm.mem_iff.mp hi);show(al.map fun a=>V.ref a.1).getD i .non=V.ref (al.getD i (0,[])).1;rw[bB _ _ _ (by rw[SJ];exact hi),bB _ _ _ hi];simp
  have I5:Inv X pr σ H {s with heap:=h5,toks:=tk}:=I.kept k5;have hn:H h5.objs.size=none:=I5.hok.fresh (SS _);refine⟨.ref h5.objs.size,_,iV (s:={s with heap:=h5,toks:=tk}) I5 k' (SS _) he (km rv NI) ?_,rfl,?_⟩
  ·show(sL pp (al.map fun a=>V.ref a.1)).length<=sizeLine;rw[eo,SJ,SJ,Jt.perm.length_eq,Tp,TV];lia
  ·rw[eo];have pm:=kl (0,[]) Jt;refine q _ _ hn (fun a ha=>NK a (pm.mem_iff.mp ha)) ?_ ?_
   ·rw[<-Qr];exact pm.map _
   ·exact g7 (O:=Eg) (0,[]) (fun a:Addr×List Key=>a.2) Jt hs
end
end NX
namespace NX
open PySem PySem.Spec PyProof.Rows L2
section
open PySem.SeqAt
open PySem.AutoSeq1 (wpAny_loadPart')
open PySem.MeetsSeq PySem.MeetsSeq2 PySem.MeetsSeq3
theorem qM{A:Around}{s:Shared}{a c:Key}{u v:Value}(ra:RelV (kV a) u)(rc:RelV (kV c) v):EqAt A s u v (decide (a=c)):=by
 have h:=yo (A:=A) (s:=s) ra rc (kn a) (kn c);rw[uB]at h;exact h
theorem xr{prog:Program}{w:World}{A:Around}{E:Value->Shared->Prop}{s:Shared}{Q:Value->Shared->Prop}{a c:Key}{u v:Value}(ra:RelV (kV a) u)(rc:RelV (kV c) v)(hk:a.isLeft=c.isLeft)(h:Q (.bool (pP.blt a c)) s):
  wpAny (model prog w) A (richCompare .Lt u v) Q E s:=by
 cases a with
 |inl i=>
  cases c with
  |inr _=>cases hk
  |inl j=>
   obtain⟨t,rfl⟩:=ra;obtain⟨t',rfl⟩:=rc;exact(PyProof.Rows.lt_int h:wpAny (model prog w) A (compareOp .Lt (.int i t) (.int j t')) Q E s)
 |inr x=>
  cases c with
  |inl _=>cases hk
  |inr y=>
   obtain⟨t,rfl⟩:=ra;obtain⟨t',rfl⟩:=rc;exact(PyProof.Rows.lt_str h:wpAny (model prog w) A (compareOp .Lt (.str x t) (.str y t')) Q E s)
theorem xt{prog:Program}{w:World}{A:Around}{E:Value->Shared->Prop}{s:Shared}{Q:Value->Shared->Prop}{a c:Key}{u v:Value}(ra:RelV (kV a) u)(rc:RelV (kV c) v)(hk:a.isLeft=c.isLeft)(h:Q (.bool (!pP.blt a c)) s):
  wpAny (model prog w) A (richCompare .GtE u v) Q E s:=by
 cases a with
 |inl i=>
  cases c with
  |inr _=>cases hk
  |inl j=>
   obtain⟨t,rfl⟩:=ra;obtain⟨t',rfl⟩:=rc;refine(PyProof.Rows.ge_int ?_:wpAny (model prog w) A (compareOp .GtE (.int i t) (.int j t')) Q E s);have e:(!pP.blt (.inl i) (.inl j))=decide (j<=i):=by
    show(!decide (i<j))=decide (j<=i);rw[Th];simp
   rw[e]at h;exact h
 |inr x=>
  cases c with
  |inl _=>cases hk
  |inr y=>
   obtain⟨t,rfl⟩:=ra;obtain⟨t',rfl⟩:=rc;exact(PySem.P.ge_str h:wpAny (model prog w) A (compareOp .GtE (.str x t) (.str y t')) Q E s)
theorem oG(a c:Key)(r t:List Key):dI (a::r) (c::t)=if a=c then dI r t else pP.blt a c:=rfl
theorem mL(l b:Addr)(items Ig:Array Value)(n n2:Nat)(dd K5:Option Addr)(sl K6:Array (Option Value))(ks js:List Key)(hi:Vals (ks.map kV) items.toList)(hj:Vals (js.map kV) Ig.toList)(hk:kinds ks=kinds js):
  Meets (Builtin.«tuple.__lt__» ⟨[.ref l,.ref b],[]⟩)
   (fun _ R s=>s.heap.get? l=some {cls:=.type "tuple",dict:=dd,data:=.seq items n,slots:=sl}/\s.heap.get? b=some {cls:=.type "tuple",dict:=K5,data:=.seq Ig n2,slots:=K6}/\R (.ok (.ret (.bool (dI ks js)))) s):=
 .of_wp fun prog w A R s h=>by
  obtain⟨hp,g,d,tk,os⟩:=s;obtain⟨hl,hb,h⟩:=h;have f2:=Wd;have z1:items.size=ks.length:=by have:=hi.length;simp at this;lia
  have z2:Ig.size=js.length:=by have:=hj.length;simp at this;lia
  have z3:ks.length=js.length:=by have:=T3 List.length hk;simpa[kinds] using this
  wp_walk using wpAny_loadPart' hl,wpAny_loadPart' hb,Wo _ (fun dA b s'=>b.1=none/\s'=⟨hp,g,d,tk,os⟩/\∃(vs ws:List Value) (Jb Ju:List Key),dA=vs.zip ws/\
   Vals (Jb.map kV) vs/\Vals (Ju.map kV) ws/\kinds Jb=kinds Ju/\R (.ok (.ret (.bool (dI Jb Ju)))) ⟨hp,g,d,tk,os⟩) _
  case turn=>
   rintro⟨y,x⟩ dA b s' ⟨NL,rfl,vs,ws,Jb,Ju,hz,LO,NN,KN,hR⟩;cases Jb with
   |nil=>
    cases LO;rw[List.zip_nil_left]at hz;cases hz
   |cons a Jb=>
    cases Ju with
    |nil=>cases KN
    |cons c Ju=>
     cases LO with
     | @cons _ va _ JU ra hvi'=>
      cases NN with
      | @cons _ vc _ LP rc hwi'=>
       rw[T8]at hz;injection hz with hyx hrest;injection hyx with hy hx;subst hy hx;have Rh:a.isLeft=c.isLeft:=(US KN).1;have Qs:kinds Jb=kinds Ju:=(US KN).2;rw[oG]at hR;have he:=qM (A:=A.in1) (s:=⟨hp,g,d,tk,os⟩) ra rc;refine SH (he prog w _ _ ?_);by_cases hac:a=c
       ·rw[SU hac]at hR;rw[Tr hac]
        wp_walk
        exact⟨rfl,rfl,_,_,_,_,hrest,hvi',hwi',Qs,hR⟩
       ·rw[SX hac]at hR;rw[Tb hac];have Ri:=fun E Q=>xr (prog:=prog) (w:=w) (A:=A.in1) (E:=E) (s:=⟨hp,g,d,tk,os⟩) (Q:=Q) ra rc Rh
        wp_walk using Ri
        exact⟨_,rfl,by simpa using hR⟩
  case fin=>
   rintro⟨b1,b2⟩ s' ⟨NL,rfl,vs,ws,Jb,Ju,hz,LO,NN,KN,hR⟩;simp only at NL;subst NL;have hv:dI Jb Ju=decide (items.size<Ig.size):=by
    cases Jb with
    |nil=>
     cases Ju with
     |nil=>exact(Tb (by lia)).symm
     |cons c Ju=>cases KN
    |cons a Jb=>
     cases Ju with
     |nil=>cases KN
     |cons c Ju=>
      cases LO;cases NN;rw[T8]at hz;cases hz
   rw[hv]at hR
   wp_walk
   exact⟨_,rfl,by simpa[Builtin.Tuple.tupleCompareSizes] using hR⟩
  case h=>
   exact⟨rfl,rfl,items.toList,Ig.toList,ks,js,rfl,hi,hj,hk,h⟩
theorem mM(l b:Addr)(items Ig:Array Value)(n n2:Nat)(dd K5:Option Addr)(sl K6:Array (Option Value))(ks js:List Key)(hi:Vals (ks.map kV) items.toList)(hj:Vals (js.map kV) Ig.toList)(hk:kinds ks=kinds js):
  Meets (Builtin.«tuple.__ge__» ⟨[.ref l,.ref b],[]⟩)
   (fun _ R s=>s.heap.get? l=some {cls:=.type "tuple",dict:=dd,data:=.seq items n,slots:=sl}/\s.heap.get? b=some {cls:=.type "tuple",dict:=K5,data:=.seq Ig n2,slots:=K6}/\R (.ok (.ret (.bool (!dI ks js)))) s):=
 .of_wp fun prog w A R s h=>by
  obtain⟨hp,g,d,tk,os⟩:=s;obtain⟨hl,hb,h⟩:=h;have f2:=Wd;have z1:items.size=ks.length:=by have:=hi.length;simp at this;lia
  have z2:Ig.size=js.length:=by have:=hj.length;simp at this;lia
  have z3:ks.length=js.length:=by have:=T3 List.length hk;simpa[kinds] using this
  wp_walk using wpAny_loadPart' hl,wpAny_loadPart' hb,Wo _ (fun dA b s'=>b.1=none/\s'=⟨hp,g,d,tk,os⟩/\∃(vs ws:List Value) (Jb Ju:List Key),dA=vs.zip ws/\
   Vals (Jb.map kV) vs/\Vals (Ju.map kV) ws/\kinds Jb=kinds Ju/\R (.ok (.ret (.bool (!dI Jb Ju)))) ⟨hp,g,d,tk,os⟩) _
  case turn=>
   rintro⟨y,x⟩ dA b s' ⟨NL,rfl,vs,ws,Jb,Ju,hz,LO,NN,KN,hR⟩;cases Jb with
   |nil=>
    cases LO;rw[List.zip_nil_left]at hz;cases hz
   |cons a Jb=>
    cases Ju with
    |nil=>cases KN
    |cons c Ju=>
     cases LO with
     | @cons _ va _ JU ra hvi'=>
      cases NN with
      | @cons _ vc _ LP rc hwi'=>
       rw[T8]at hz;injection hz with hyx hrest;injection hyx with hy hx;subst hy hx;have Rh:a.isLeft=c.isLeft:=(US KN).1;have Qs:kinds Jb=kinds Ju:=(US KN).2;rw[oG]at hR;have he:=qM (A:=A.in1) (s:=⟨hp,g,d,tk,os⟩) ra rc;refine SH (he prog w _ _ ?_);by_cases hac:a=c
       ·rw[SU hac]at hR;rw[Tr hac]
        wp_walk
        exact⟨rfl,rfl,_,_,_,_,hrest,hvi',hwi',Qs,hR⟩
       ·rw[SX hac]at hR;rw[Tb hac];have Ri:=fun E Q=>xt (prog:=prog) (w:=w) (A:=A.in1) (E:=E) (s:=⟨hp,g,d,tk,os⟩) (Q:=Q) ra rc Rh
        wp_walk using Ri
        exact⟨_,rfl,by simpa using hR⟩
  case fin=>
   rintro⟨b1,b2⟩ s' ⟨NL,rfl,vs,ws,Jb,Ju,hz,LO,NN,KN,hR⟩;simp only at NL;subst NL;have hv:(!dI Jb Ju)=decide (Ig.size<=items.size):=by
    cases Jb with
    |nil=>
     cases Ju with
     |nil=>exact(Tr (by lia)).symm
     |cons c Ju=>cases KN
    |cons a Jb=>
     cases Ju with
     |nil=>cases KN
     |cons c Ju=>
      cases LO;cases NN;rw[T8]at hz;cases hz
   rw[hv]at hR
   wp_walk
   exact⟨_,rfl,by simpa[Builtin.Tuple.tupleCompareSizes] using hR⟩
  case h=>
   exact⟨rfl,rfl,items.toList,Ig.toList,ks,js,rfl,hi,hj,hk,h⟩
end
section
variable{X:Cx}
def FN(K:W.Frag)(neg:Bool):R2:=fun x y H Q=>∃a b ks js,x=.ref a/\y=.ref b/\SqT K H a (ks.map kV)/\SqT K H b (js.map kV)/\kinds ks=kinds js/\Q (.bl (if neg then !dI ks js else dI ks js)) H
theorem Co(hu:X.A.units<cLine):HX X (compareOp .Lt) (FN X.K false):=by
 intro pr s σ H x y v u Q I rx ry h;obtain⟨a,b,ks,js,rfl,rfl,ha,hb,hk,q⟩:=h;cases rx;cases ry;obtain⟨Hj,r1,p1,_⟩:=I.tuple ha;obtain⟨KG,r2,p2,_⟩:=I.tuple hb;obtain⟨⟨cls,dd,data,sl⟩,ho,hc,n,hd⟩:=id p1;obtain⟨⟨Mo,K5,data2,K6⟩,Jd,Ko,n2,hd2⟩:=id p2;simp only at hc hd Ko hd2;subst hc hd Ko hd2;exact richCompare_meets_room (op:=.Lt) ⟨_,ho,rfl⟩ ⟨_,Jd,rfl⟩ PySem.F.slot_tuple_lt PySem.F.entry_tuple_lt (PySem.F.args_tuple_lt_2 _ _) (mL a b _ _ n n2 dd K5 sl K6 ks js (by simpa using r1) (by simpa using r2) hk)
  ⟨ho,Jd,show Value.bool (dI ks js)≠Value.notImplemented/\EP X pr σ Q (.bool (dI ks js)) s from⟨(fun x=>nomatch x),⟨.bl (dI ks js),H,I,rfl,q⟩⟩⟩ hu
theorem Cp(hu:X.A.units<cLine):HX X (compareOp .GtE) (FN X.K true):=by
 intro pr s σ H x y v u Q I rx ry h;obtain⟨a,b,ks,js,rfl,rfl,ha,hb,hk,q⟩:=h;cases rx;cases ry;obtain⟨Hj,r1,p1,_⟩:=I.tuple ha;obtain⟨KG,r2,p2,_⟩:=I.tuple hb;obtain⟨⟨cls,dd,data,sl⟩,ho,hc,n,hd⟩:=id p1;obtain⟨⟨Mo,K5,data2,K6⟩,Jd,Ko,n2,hd2⟩:=id p2;simp only at hc hd Ko hd2;subst hc hd Ko hd2;exact richCompare_meets_room (op:=.GtE) ⟨_,ho,rfl⟩ ⟨_,Jd,rfl⟩ PySem.F.slot_tuple_ge PySem.F.entry_tuple_ge (PySem.F.args_tuple_ge_2 _ _) (mM a b _ _ n n2 dd K5 sl K6 ks js (by simpa using r1) (by simpa using r2) hk)
  ⟨ho,Jd,show Value.bool (!dI ks js)≠Value.notImplemented/\EP X pr σ Q (.bool (!dI ks js)) s from⟨(fun x=>nomatch x),⟨.bl (!dI ks js),H,I,rfl,q⟩⟩⟩ hu
end
section
variable{prog:Program}{w:World}{A:Around}{E:Value->Shared->Prop}{s:Shared}
end
section
variable{X:Cx}{pr:List (Addr×Obj)}{σ:L2.St}{H:Hp}{s:Shared}{scope:Scope}{N:List Str}{ix:List (Option Nat)}{fp:List Addr}
end
section
variable{X:Cx}{scope:Scope}{N:List Str}{ix:List (Option Nat)}{tg iter elt:Expr}{ifs:List Expr}{pos:Pos}{wi:TI}{g:TG}{tc:TT}{te:TE}
end
end NX
namespace PV
open PySem L2 NX
inductive D where
 |non|bl (b:Bool)|int (i:Int)|str (l:List Nat)|tup (ds:List D)|lst (ds:List D)|dct (tk:Bool) (ks vs:List D)
inductive O where
 |f|l (c:O)|t (cs:List O)|d|pin (p:Addr) (c:O)
abbrev R:=O×D
abbrev Env:=List (Option R)
inductive Res(α:Type) where
 |ok (a:α)|exc (c:List Nat)|bad
def kD:Key->D
 | .inl i=>.int i
 | .inr x=>.str x.cps.toList
def isM:HO->Bool
 | .lst _=>true
 | .dK _=>true
 | .dT _=>true
 |_=>false
def isT:HO->Bool
 | .tup _=>true
 | .frz _ (.tup _)=>true
 |_=>false
def pQ:Key->Prop
 | .inl _=>True
 | .inr x=>x.cps.toList.length<=sizeLine
def DictO(o:HO)(tk:Bool)(ks:List D)(xs:List V):Prop:=match tk with
 |true=>∃kvs:List (List Key×V),o=.dT kvs/\ks=kvs.map (fun kv=>D.tup (kv.1.map kD))/\xs=kvs.map (·.2)/\∀kv∈kvs,∀k∈kv.1,pQ k
 |false=>∃kvs:List (Key×V),o=.dK kvs/\ks=kvs.map (fun kv=>kD kv.1)/\xs=kvs.map (·.2)/\∀kv∈kvs,pQ kv.1
mutual
noncomputable def Rep(K:W.Frag)(G:Hp):D->V->Prop
 | .non,v=>v=.non
 | .bl b,v=>v=.bl b
 | .int i,v=>v=.int i
 | .str l,v=>v=.str (S l)/\l.length<=sizeLine
 | .tup ds,v=>∃p xs,v=.ref p/\G p=some (.tup xs)/\Reps K G ds xs
 | .lst ds,v=>∃p xs,v=.ref p/\SqL K G p xs/\Reps K G ds xs
 | .dct tk ks vs,v=>∃p xs o,v=.ref p/\Rd G p o/\DictO o tk ks xs/\Reps K G vs xs
noncomputable def Reps(K:W.Frag)(G:Hp):List D->List V->Prop
 |[],xs=>xs=[]
 |d::ds,xs=>∃y ys,xs=y::ys/\Rep K G d y/\Reps K G ds ys
end
def AllO(P:D->V->List Addr->Prop):List D->List V->List Addr->Prop
 |[],xs,fp=>xs=[]/\fp=[]
 |d::ds,xs,fp=>∃y ys a b,xs=y::ys/\fp=a++b/\P d y a/\AllO P ds ys b
mutual
noncomputable def RepO(K:W.Frag)(G H:Hp):O->D->V->List Addr->Prop
 | .f,d,v,fp=>Rep K G d v/\fp=[]
 | .l c,.lst ds,v,fp=>∃p xs Hk,v=.ref p/\H p=some (.lst xs)/\fp=p::Hk/\AllO (RepO K G H c) ds xs Hk
 | .t cs,.tup ds,v,fp=>∃p xs,v=.ref p/\G p=some (.tup xs)/\RepT K G H cs ds xs fp
 | .d,.dct tk ks vs,v,fp=>∃p xs o,v=.ref p/\H p=some o/\DictO o tk ks xs/\fp=[p]/\Reps K G vs xs
 | .pin p c,d,v,fp=>v=.ref p/\RepO K G H c d v fp
 |_,_,_,_=>False
noncomputable def RepT(K:W.Frag)(G H:Hp):List O->List D->List V->List Addr->Prop
 |[],[],xs,fp=>xs=[]/\fp=[]
 |c::cs,d::ds,xs,fp=>∃y ys a b,xs=y::ys/\fp=a++b/\RepO K G H c d y a/\RepT K G H cs ds ys b
 |_,_,_,_=>False
end
section
variable{K:W.Frag}{G G' H H':Hp}
theorem Rd.mono{p:Addr}{u:HO}(h:Same G G')(r:Rd G p u):Rd G' p u:=by
 rcases r with r|⟨o,r⟩
 ·exact .inl (h _ _ r)
 ·exact .inr ⟨o,h _ _ r⟩
theorem g8{p:Addr}{xs:List V}(h:Same G G')(r:SqL K G p xs):SqL K G' p xs:=r.elim (fun r=>.inl (Rd.mono h r)) .inr
theorem bV{p:Addr}{xs:List V}(h:Same G G')(r:SqT K G p xs):SqT K G' p xs:=r.elim (fun r=>.inl (Rd.mono h r)) .inr
mutual
theorem Rep.mono(h:Same G G'):∀{d:D}{v:V},Rep K G d v->Rep K G' d v
 | .non,_,r=>by simpa only[Rep] using r
 | .bl _,_,r=>by simpa only[Rep] using r
 | .int _,_,r=>by simpa only[Rep] using r
 | .str _,_,r=>by simpa only[Rep] using r
 | .tup ds,_,r=>by
  simp only[Rep]at r ⊢;obtain⟨p,xs,e,q,rs⟩:=r;exact⟨p,xs,e,h _ _ q,Reps.mono h rs⟩
 | .lst ds,_,r=>by
  simp only[Rep]at r ⊢;obtain⟨p,xs,e,q,rs⟩:=r;exact⟨p,xs,e,g8 h q,Reps.mono h rs⟩
 | .dct tk ks vs,_,r=>by
  simp only[Rep]at r ⊢;obtain⟨p,xs,o,e,q,dd,rs⟩:=r;exact⟨p,xs,o,e,Rd.mono h q,dd,Reps.mono h rs⟩
theorem Reps.mono(h:Same G G'):∀{ds:List D}{xs:List V},Reps K G ds xs->Reps K G' ds xs
 |[],_,r=>by simpa only[Reps] using r
 |d::ds,_,r=>by
  simp only[Reps]at r ⊢;obtain⟨y,ys,e,r1,r2⟩:=r;exact⟨y,ys,e,Rep.mono h r1,Reps.mono h r2⟩
end
theorem AllO.imp{P P':D->V->List Addr->Prop}:∀{ds:List D}{xs:List V}{fp:List Addr},(∀d v a,(∀p∈a,p∈fp)->P d v a->P' d v a)->AllO P ds xs fp->AllO P' ds xs fp
 |[],_,_,_,r=>r
 |d::ds,xs,fp,h,r=>by
  obtain⟨y,ys,a,b,e1,e2,p,q⟩:=r;subst e2;exact⟨y,ys,a,b,e1,rfl,h _ _ _ (fun p hp=>SR _ hp) p,AllO.imp (fun d v c hc=>h d v c fun p hp=>SK _ (hc p hp)) q⟩
mutual
theorem RepO.step(h:Same G G'):∀{o:O}{d:D}{v:V}{fp:List Addr},(∀p∈fp,H' p=H p)->RepO K G H o d v fp->RepO K G' H' o d v fp
 | .f,d,v,fp,hk,r=>by
  simp only[RepO]at r ⊢;exact⟨Rep.mono h r.1,r.2⟩
 | .pin p c,d,v,fp,hk,r=>by
  simp only[RepO]at r ⊢;exact⟨r.1,RepO.step h hk r.2⟩
 | .l c,.lst ds,v,fp,hk,r=>by
  simp only[RepO]at r ⊢;obtain⟨p,xs,Hk,e,q,e2,a⟩:=r;subst e2;exact⟨p,xs,Hk,e,(hk p SI).trans q,rfl,AllO.imp (fun d v c hc=>RepO.step h fun z hz=>hk z (SM _ (hc z hz))) a⟩
 | .t cs,.tup ds,v,fp,hk,r=>by
  simp only[RepO]at r ⊢;obtain⟨p,xs,e,q,a⟩:=r;exact⟨p,xs,e,h _ _ q,RepT.step h hk a⟩
 | .d,.dct tk ks vs,v,fp,hk,r=>by
  simp only[RepO]at r ⊢;obtain⟨p,xs,o,e,q,dd,e2,rs⟩:=r;subst e2;exact⟨p,xs,o,e,(hk p SI).trans q,dd,rfl,Reps.mono h rs⟩
 | .l _,.non,_,_,_,r | .l _,.bl _,_,_,_,r | .l _,.int _,_,_,_,r | .l _,.str _,_,_,_,r | .l _,.tup _,_,_,_,r | .l _,.dct _ _ _,_,_,_,r=>by simp only[RepO]at r
 | .t _,.non,_,_,_,r | .t _,.bl _,_,_,_,r | .t _,.int _,_,_,_,r | .t _,.str _,_,_,_,r | .t _,.lst _,_,_,_,r | .t _,.dct _ _ _,_,_,_,r=>by simp only[RepO]at r
 | .d,.non,_,_,_,r | .d,.bl _,_,_,_,r | .d,.int _,_,_,_,r | .d,.str _,_,_,_,r | .d,.tup _,_,_,_,r | .d,.lst _,_,_,_,r=>by simp only[RepO]at r
theorem RepT.step(h:Same G G'):∀{cs:List O}{ds:List D}{xs:List V}{fp:List Addr},(∀p∈fp,H' p=H p)->RepT K G H cs ds xs fp->RepT K G' H' cs ds xs fp
 |[],[],_,_,_,r=>by simpa only[RepT] using r
 |c::cs,d::ds,xs,fp,hk,r=>by
  simp only[RepT]at r ⊢;obtain⟨y,ys,a,b,e1,e2,r1,r2⟩:=r;subst e2;exact⟨y,ys,a,b,e1,rfl,RepO.step h (fun p hp=>hk p (SR _ hp)) r1,RepT.step h (fun p hp=>hk p (SK _ hp)) r2⟩
 |[],_::_,_,_,_,r=>by simp only[RepT]at r
 |_::_,[],_,_,_,r=>by simp only[RepT]at r
end
theorem AllO.frozen{P:D->V->List Addr->Prop}:∀{ds:List D}{xs:List V}{fp:List Addr},(∀d v a,(∀p∈a,p∈fp)->P d v a->Rep K G' d v)->AllO P ds xs fp->Reps K G' ds xs
 |[],_,_,_,r=>by simp only[Reps];exact r.1
 |d::ds,xs,fp,h,r=>by
  obtain⟨y,ys,a,b,e1,e2,p,q⟩:=r;subst e2;simp only[Reps];exact⟨y,ys,e1,h _ _ _ (fun p hp=>SR _ hp) p,AllO.frozen (fun d v c hc=>h d v c fun p hp=>SK _ (hc p hp)) q⟩
mutual
theorem RepO.frozen(h:Same G G'):∀{o:O}{d:D}{v:V}{fp:List Addr},(∀p∈fp,∀u,H p=some u->G' p=some u)->RepO K G H o d v fp->Rep K G' d v
 | .f,d,v,fp,hk,r=>by
  simp only[RepO]at r;exact Rep.mono h r.1
 | .pin p c,d,v,fp,hk,r=>by
  simp only[RepO]at r;exact RepO.frozen h hk r.2
 | .l c,.lst ds,v,fp,hk,r=>by
  simp only[RepO]at r;simp only[Rep];obtain⟨p,xs,Hk,e,q,e2,a⟩:=r;subst e2;exact⟨p,xs,e,SqL.of (hk p SI _ q),AllO.frozen (fun d v c hc=>RepO.frozen h fun z hz=>hk z (SM _ (hc z hz))) a⟩
 | .t cs,.tup ds,v,fp,hk,r=>by
  simp only[RepO]at r;simp only[Rep];obtain⟨p,xs,e,q,a⟩:=r;exact⟨p,xs,e,h _ _ q,RepT.frozen h hk a⟩
 | .d,.dct tk ks vs,v,fp,hk,r=>by
  simp only[RepO]at r;simp only[Rep];obtain⟨p,xs,o,e,q,dd,e2,rs⟩:=r;subst e2;exact⟨p,xs,o,e,.inl (hk p SI _ q),dd,Reps.mono h rs⟩
 | .l _,.non,_,_,_,r | .l _,.bl _,_,_,_,r | .l _,.int _,_,_,_,r | .l _,.str _,_,_,_,r | .l _,.tup _,_,_,_,r | .l _,.dct _ _ _,_,_,_,r=>by simp only[RepO]at r
 | .t _,.non,_,_,_,r | .t _,.bl _,_,_,_,r | .t _,.int _,_,_,_,r | .t _,.str _,_,_,_,r | .t _,.lst _,_,_,_,r | .t _,.dct _ _ _,_,_,_,r=>by simp only[RepO]at r
 | .d,.non,_,_,_,r | .d,.bl _,_,_,_,r | .d,.int _,_,_,_,r | .d,.str _,_,_,_,r | .d,.tup _,_,_,_,r | .d,.lst _,_,_,_,r=>by simp only[RepO]at r
theorem RepT.frozen(h:Same G G'):∀{cs:List O}{ds:List D}{xs:List V}{fp:List Addr},(∀p∈fp,∀u,H p=some u->G' p=some u)->RepT K G H cs ds xs fp->Reps K G' ds xs
 |[],[],_,_,_,r=>by simp only[RepT]at r;simp only[Reps];exact r.1
 |c::cs,d::ds,xs,fp,hk,r=>by
  simp only[RepT]at r;simp only[Reps];obtain⟨y,ys,a,b,e1,e2,r1,r2⟩:=r;subst e2;exact⟨y,ys,e1,RepO.frozen h (fun p hp=>hk p (SR _ hp)) r1,RepT.frozen h (fun p hp=>hk p (SK _ hp)) r2⟩
 |[],_::_,_,_,_,r=>by simp only[RepT]at r
 |_::_,[],_,_,_,r=>by simp only[RepT]at r
end
theorem AllO.live{P:D->V->List Addr->Prop}:∀{ds:List D}{xs:List V}{fp:List Addr},(∀d v a,P d v a->∀p∈a,∃u,H p=some u)->AllO P ds xs fp->∀p∈fp,∃u,H p=some u
 |[],_,_,_,r=>by rw[r.2];intro p hp;cases hp
 |d::ds,xs,fp,h,r=>by
  obtain⟨y,ys,a,b,e1,e2,p,q⟩:=r;subst e2;intro z hz;rcases Tj.mp hz with hz|hz
  ·exact h _ _ _ p z hz
  ·exact AllO.live h q z hz
mutual
theorem RepO.live:∀{o:O}{d:D}{v:V}{fp:List Addr},RepO K G H o d v fp->∀p∈fp,∃u,H p=some u
 | .f,d,v,fp,r=>by
  simp only[RepO]at r;rw[r.2];intro p hp;cases hp
 | .pin p c,d,v,fp,r=>by
  simp only[RepO]at r;exact RepO.live r.2
 | .l c,.lst ds,v,fp,r=>by
  simp only[RepO]at r;obtain⟨p,xs,Hk,e,q,e2,a⟩:=r;subst e2;intro z hz;rcases SV.mp hz with rfl|hz
  ·exact⟨_,q⟩
  ·exact AllO.live (fun d v a=>RepO.live) a z hz
 | .t cs,.tup ds,v,fp,r=>by
  simp only[RepO]at r;obtain⟨p,xs,e,q,a⟩:=r;exact RepT.live a
 | .d,.dct tk ks vs,v,fp,r=>by
  simp only[RepO]at r;obtain⟨p,xs,o,e,q,dd,e2,rs⟩:=r;subst e2;intro z hz;rw[S7]at hz;exact⟨_,hz▸q⟩
 | .l _,.non,_,_,r | .l _,.bl _,_,_,r | .l _,.int _,_,_,r | .l _,.str _,_,_,r | .l _,.tup _,_,_,r | .l _,.dct _ _ _,_,_,r=>by simp only[RepO]at r
 | .t _,.non,_,_,r | .t _,.bl _,_,_,r | .t _,.int _,_,_,r | .t _,.str _,_,_,r | .t _,.lst _,_,_,r | .t _,.dct _ _ _,_,_,r=>by simp only[RepO]at r
 | .d,.non,_,_,r | .d,.bl _,_,_,r | .d,.int _,_,_,r | .d,.str _,_,_,r | .d,.tup _,_,_,r | .d,.lst _,_,_,r=>by simp only[RepO]at r
theorem RepT.live:∀{cs:List O}{ds:List D}{xs:List V}{fp:List Addr},RepT K G H cs ds xs fp->∀p∈fp,∃u,H p=some u
 |[],[],_,_,r=>by
  simp only[RepT]at r;rw[r.2];intro p hp;cases hp
 |c::cs,d::ds,xs,fp,r=>by
  simp only[RepT]at r;obtain⟨y,ys,a,b,e1,e2,r1,r2⟩:=r;subst e2;intro z hz;rcases Tj.mp hz with hz|hz
  ·exact RepO.live r1 z hz
  ·exact RepT.live r2 z hz
 |[],_::_,_,_,r=>by simp only[RepT]at r
 |_::_,[],_,_,r=>by simp only[RepT]at r
end
theorem DictO.isM{o:HO}{tk:Bool}{ks:List D}{xs:List V}(h:DictO o tk ks xs):PV.isM o=true:=by
 cases tk with
 |true=>
  obtain⟨kvs,e,_⟩:=h;rw[e];rfl
 |false=>
  obtain⟨kvs,e,_⟩:=h;rw[e];rfl
theorem AllO.mut{P:D->V->List Addr->Prop}:∀{ds:List D}{xs:List V}{fp:List Addr},(∀d v a,P d v a->∀p∈a,∃u,H p=some u/\isM u=true)->AllO P ds xs fp->∀p∈fp,∃u,H p=some u/\isM u=true
 |[],_,_,_,r=>by rw[r.2];intro p hp;cases hp
 |d::ds,xs,fp,h,r=>by
  obtain⟨y,ys,a,b,e1,e2,p,q⟩:=r;subst e2;intro z hz;rcases Tj.mp hz with hz|hz
  ·exact h _ _ _ p z hz
  ·exact AllO.mut h q z hz
mutual
theorem RepO.mut:∀{o:O}{d:D}{v:V}{fp:List Addr},RepO K G H o d v fp->∀p∈fp,∃u,H p=some u/\isM u=true
 | .f,d,v,fp,r=>by
  simp only[RepO]at r;rw[r.2];intro p hp;cases hp
 | .pin p c,d,v,fp,r=>by
  simp only[RepO]at r;exact RepO.mut r.2
 | .l c,.lst ds,v,fp,r=>by
  simp only[RepO]at r;obtain⟨p,xs,Hk,e,q,e2,a⟩:=r;subst e2;intro z hz;rcases SV.mp hz with rfl|hz
  ·exact⟨_,q,rfl⟩
  ·exact AllO.mut (fun d v a=>RepO.mut) a z hz
 | .t cs,.tup ds,v,fp,r=>by
  simp only[RepO]at r;obtain⟨p,xs,e,q,a⟩:=r;exact RepT.mut a
 | .d,.dct tk ks vs,v,fp,r=>by
  simp only[RepO]at r;obtain⟨p,xs,o,e,q,dd,e2,rs⟩:=r;subst e2;intro z hz;rw[S7]at hz;exact⟨_,hz▸q,dd.isM⟩
 | .l _,.non,_,_,r | .l _,.bl _,_,_,r | .l _,.int _,_,_,r | .l _,.str _,_,_,r | .l _,.tup _,_,_,r | .l _,.dct _ _ _,_,_,r=>by simp only[RepO]at r
 | .t _,.non,_,_,r | .t _,.bl _,_,_,r | .t _,.int _,_,_,r | .t _,.str _,_,_,r | .t _,.lst _,_,_,r | .t _,.dct _ _ _,_,_,r=>by simp only[RepO]at r
 | .d,.non,_,_,r | .d,.bl _,_,_,r | .d,.int _,_,_,r | .d,.str _,_,_,r | .d,.tup _,_,_,r | .d,.lst _,_,_,r=>by simp only[RepO]at r
theorem RepT.mut:∀{cs:List O}{ds:List D}{xs:List V}{fp:List Addr},RepT K G H cs ds xs fp->∀p∈fp,∃u,H p=some u/\isM u=true
 |[],[],_,_,r=>by
  simp only[RepT]at r;rw[r.2];intro p hp;cases hp
 |c::cs,d::ds,xs,fp,r=>by
  simp only[RepT]at r;obtain⟨y,ys,a,b,e1,e2,r1,r2⟩:=r;subst e2;intro z hz;rcases Tj.mp hz with hz|hz
  ·exact RepO.mut r1 z hz
  ·exact RepT.mut r2 z hz
 |[],_::_,_,_,r=>by simp only[RepT]at r
 |_::_,[],_,_,r=>by simp only[RepT]at r
end
noncomputable def RepE(K:W.Frag)(G H:Hp):Env->List (Option V)->List Addr->Prop
 |[],vs,fp=>vs=[]/\fp=[]
 |e::es,vs,fp=>∃y ys,vs=y::ys/\match e with
  |none=>RepE K G H es ys fp
  |some r=>∃v a b,y=some v/\fp=a++b/\RepO K G H r.1 r.2 v a/\RepE K G H es ys b
theorem RepE.step(h:Same G G'):∀{es:Env}{vs:List (Option V)}{fp:List Addr},(∀p∈fp,H' p=H p)->RepE K G H es vs fp->RepE K G' H' es vs fp
 |[],_,_,_,r=>r
 |none::es,vs,fp,hk,r=>by
  obtain⟨y,ys,e,r⟩:=r;exact⟨y,ys,e,RepE.step h hk r⟩
 |some r::es,vs,fp,hk,q=>by
  obtain⟨y,ys,e,v,a,b,e1,e2,r1,r2⟩:=q;subst e2;exact⟨y,ys,e,v,a,b,e1,rfl,RepO.step h (fun p hp=>hk p (SR _ hp)) r1,RepE.step h (fun p hp=>hk p (SK _ hp)) r2⟩
theorem RepE.live:∀{es:Env}{vs:List (Option V)}{fp:List Addr},RepE K G H es vs fp->∀p∈fp,∃u,H p=some u
 |[],_,_,r=>by
  rw[r.2];intro p hp;cases hp
 |none::es,vs,fp,r=>by
  obtain⟨y,ys,e,r⟩:=r;exact RepE.live r
 |some r::es,vs,fp,q=>by
  obtain⟨y,ys,e,v,a,b,e1,e2,r1,r2⟩:=q;subst e2;intro z hz;rcases Tj.mp hz with hz|hz
  ·exact r1.live z hz
  ·exact RepE.live r2 z hz
theorem RepE.mut:∀{es:Env}{vs:List (Option V)}{fp:List Addr},RepE K G H es vs fp->∀p∈fp,∃u,H p=some u/\isM u=true
 |[],_,_,r=>by
  rw[r.2];intro p hp;cases hp
 |none::es,vs,fp,r=>by
  obtain⟨y,ys,e,r⟩:=r;exact RepE.mut r
 |some r::es,vs,fp,q=>by
  obtain⟨y,ys,e,v,a,b,e1,e2,r1,r2⟩:=q;subst e2;intro z hz;rcases Tj.mp hz with hz|hz
  ·exact r1.mut z hz
  ·exact RepE.mut r2 z hz
theorem RepE.length:∀{es:Env}{vs:List (Option V)}{fp:List Addr},RepE K G H es vs fp->vs.length=es.length
 |[],_,_,r=>by rw[r.1];rfl
 |none::es,vs,fp,r=>by
  obtain⟨y,ys,e,r⟩:=r;rw[e,S4,S4,RepE.length r]
 |some r::es,vs,fp,q=>by
  obtain⟨y,ys,e,v,a,b,e1,e2,r1,r2⟩:=q;rw[e,S4,S4,RepE.length r2]
theorem RepE.take:∀{es:Env}{vs:List (Option V)}{fp:List Addr}{i:Nat}{r:R},RepE K G H es vs fp->es[i]?=some (some r)->
  ∃v a b,vs[i]?=some (some v)/\RepO K G H r.1 r.2 v a/\RepE K G H (es.set i none) vs b/\fp.Perm (a++b)
 |[],_,_,_,_,_,e=>by simp at e
 |none::es,vs,fp,0,r,q,e=>by simp at e
 |some r'::es,vs,fp,0,r,q,e=>by
  obtain⟨y,ys,e0,v,a,b,e1,e2,r1,r2⟩:=q;simp at e;subst e;subst e0;subst e1;exact⟨v,a,b,rfl,r1,⟨some v,ys,rfl,r2⟩,by rw[e2]⟩
 |none::es,vs,fp,i+1,r,q,e=>by
  obtain⟨y,ys,e0,q⟩:=q;obtain⟨v,a,b,g1,g2,g3,g4⟩:=RepE.take q (i:=i) (r:=r) (by simpa using e);subst e0;exact⟨v,a,b,by simpa using g1,g2,⟨y,ys,rfl,g3⟩,g4⟩
 |some r'::es,vs,fp,i+1,r,q,e=>by
  obtain⟨y,ys,e0,v',a',b',e1,e2,r1,r2⟩:=q;obtain⟨v,a,b,g1,g2,g3,g4⟩:=RepE.take r2 (i:=i) (r:=r) (by simpa using e);subst e0;refine⟨v,a,a'++b,by simpa using g1,g2,⟨y,ys,rfl,v',a',b,e1,rfl,r1,g3⟩,?_⟩;rw[e2];refine(WL a' g4).trans ?_;rw[<-Tx,<-Tx];exact Wx b WM
theorem RepE.put:∀{es:Env}{vs:List (Option V)}{b:List Addr}{i:Nat}{r:R}{v:V}{a:List Addr},RepE K G H es vs b->es[i]?=some none->RepO K G H r.1 r.2 v a->
  ∃fp,RepE K G H (es.set i (some r)) (vs.set i (some v)) fp/\fp.Perm (a++b)
 |[],_,_,_,_,_,_,_,e,_=>by simp at e
 |none::es,vs,b,0,r,v,a,q,e,ro=>by
  obtain⟨y,ys,e0,q⟩:=q;subst e0;exact⟨a++b,⟨some v,ys,rfl,v,a,b,rfl,rfl,ro,q⟩,.refl _⟩
 |some r'::es,vs,b,0,r,v,a,q,e,ro=>by simp at e
 |none::es,vs,b,i+1,r,v,a,q,e,ro=>by
  obtain⟨y,ys,e0,q⟩:=q;obtain⟨fp,g1,g2⟩:=RepE.put q (i:=i) (r:=r) (by simpa using e) ro;subst e0;exact⟨fp,⟨y,_,rfl,g1⟩,g2⟩
 |some r'::es,vs,b,i+1,r,v,a,q,e,ro=>by
  obtain⟨y,ys,e0,v',a',b',e1,e2,r1,r2⟩:=q;obtain⟨fp,g1,g2⟩:=RepE.put r2 (i:=i) (r:=r) (by simpa using e) ro;subst e0;refine⟨a'++fp,⟨y,_,rfl,v',a',fp,e1,rfl,r1,g1⟩,?_⟩;rw[e2];refine(WL a' g2).trans ?_;rw[<-Tx,<-Tx];exact Wx b' WM
structure Rel(K:W.Frag)(G H:Hp)(es:Env)(vs:List (Option V))(fp:List Addr):Prop where
 rep:RepE K G H es vs fp
 nd:fp.Nodup
 gn:∀p∈fp,G p=none
 gh:Same G H
structure Step(G H:Hp)(fp:List Addr)(G' H':Hp)(Hk:List Addr):Prop where
 gg:Same G G'
 keep:∀q u,H q=some u->q∉fp->H' q=some u
 fpn:∀q∈Hk,q∈fp\/H q=none
 gnew:∀q u,G' q=some u->G q=some u\/q∈fp\/H q=none\/isT u=true/\H q=some u
 there:∀q u,H q=some u->∃u',H' q=some u'
theorem Step.refl{fp:List Addr}:Step G H fp G H fp:=⟨.refl _,fun _ _ h _=>h,fun _ h=>.inl h,fun _ _ h=>.inl h,fun _ u h=>⟨u,h⟩⟩
theorem Step.trans{G1 H1 G2 H2:Hp}{fp HB HQ:List Addr}(a:Step G H fp G1 H1 HB)(b:Step G1 H1 HB G2 H2 HQ):Step G H fp G2 H2 HQ:=by
 refine⟨a.gg.trans b.gg,fun q u h n=>?_,fun q hq=>?_,fun q u hq=>?_,fun q u h=>?_⟩
 ·refine b.keep q u (a.keep q u h n) fun hq=>?_
  rcases a.fpn q hq with z|z
  ·exact n z
  ·rw[z]at h;cases h
 ·rcases b.fpn q hq with z|z
  ·exact a.fpn q z
  ·cases e:H q with
   |none=>exact .inr rfl
   |some u=>
    obtain⟨u',e'⟩:=a.there q u e;rw[z]at e';cases e'
 ·rcases b.gnew q u hq with z|z|z|⟨t,z⟩
  ·exact a.gnew q u z
  ·exact .inr ((a.fpn q z).imp_right .inl)
  ·cases e:H q with
   |none=>exact .inr (.inr (.inl rfl))
   |some u=>
    obtain⟨u',e'⟩:=a.there q u e;rw[z]at e';cases e'
  ·cases e:H q with
   |none=>exact .inr (.inr (.inl rfl))
   |some u2=>
    by_cases hf:q∈fp
    ·exact .inr (.inl hf)
    ·rw[a.keep q u2 e hf]at z;cases z;exact .inr (.inr (.inr ⟨t,rfl⟩))
 ·obtain⟨u',h'⟩:=a.there q u h;exact b.there q u' h'
theorem Step.perm{fp fq Hk Pf:List Addr}(a:Step G H fp G' H' Hk)(h:∀q,q∈fp<->q∈fq)(h':∀q∈Pf,q∈Hk):Step G H fq G' H' Pf:=
 ⟨a.gg,fun q u e n=>a.keep q u e fun z=>n ((h q).mp z),fun q hq=>(a.fpn q (h' q hq)).imp_left (h q).mp,fun q u e=>(a.gnew q u e).imp_right (Or.imp_left (h q).mp),a.there⟩
theorem Step.wide{fp fq Hk Pf:List Addr}(a:Step G H fp G' H' Hk)(h:∀q∈fp,q∈fq)(h':∀q∈Pf,q∈Hk\/q∈fq):Step G H fq G' H' Pf:=
 ⟨a.gg,fun q u e n=>a.keep q u e fun z=>n (h q z),fun q hq=>(h' q hq).elim (fun z=>(a.fpn q z).imp_left (h q)) .inl,fun q u e=>(a.gnew q u e).imp_right (Or.imp_left (h q)),a.there⟩
theorem Rel.perm{es:Env}{vs:List (Option V)}{fp fq:List Addr}(r:RepE K G H es vs fq)(nd:fp.Nodup)(gn:∀p∈fp,G p=none)(gh:Same G H)(h:fp.Perm fq):Rel K G H es vs fq:=
 ⟨r,h.nodup_iff.mp nd,fun p hp=>gn p (h.mem_iff.mpr hp),gh⟩
theorem Rel.frame{r:R}{v:V}{es:Env}{vs:List (Option V)}{fp:List Addr}(q:Rel K G H (some r::es) (some v::vs) fp):
  ∃a b,fp=a++b/\RepO K G H r.1 r.2 v a/\Rel K G H es vs b/\∀(G' H':Hp) (JG:Env) (JU:List (Option V)) (b':List Addr),Step G H b G' H' b'->Rel K G' H' JG JU b'->
   Rel K G' H' (some r::JG) (some v::JU) (a++b')/\Step G H (a++b) G' H' (a++b'):=by
 obtain⟨y,ys,e,v',a,b,e1,e2,r1,r2⟩:=q.rep;cases e;cases e1;subst e2;have nd:=Ti.mp q.nd;refine⟨a,b,rfl,r1,⟨r2,nd.2.1,fun p hp=>q.gn p (SK _ hp),q.gh⟩,fun G' H' JG JU b' st k=>?_⟩;have nb:∀p∈a,p∉b:=fun p hp hb=>nd.2.2 p hp p hb rfl
 have same:∀p∈a,H' p=H p:=fun p hp=>by
  obtain⟨u,hu⟩:=r1.live p hp;rw[hu];exact st.keep p u hu (nb p hp)
 refine⟨⟨⟨some v,JU,rfl,v,a,b',rfl,rfl,r1.step st.gg same,k.rep⟩,?_,fun p hp=>?_,k.gh⟩,st.wide (fun p hp=>SK _ hp) fun p hp=>?_⟩
 ·rw[Ti];refine⟨nd.1,k.nd,fun p hp z hz e=>?_⟩;subst e;obtain⟨u,hu⟩:=r1.live p hp;rcases st.fpn p hz with z|z
  ·exact nb p hp z
  ·rw[z]at hu;cases hu
 ·rcases Tj.mp hp with hp|hp
  ·cases e:G' p with
   |none=>rfl
   |some u=>
    exfalso;obtain⟨u',hu⟩:=r1.live p hp;rcases st.gnew p u e with z|z|z|⟨t,z⟩
    ·rw[q.gn p (SR _ hp)]at z;cases z
    ·exact nb p hp z
    ·rw[z]at hu;cases hu
    ·obtain⟨u2,h2,hm⟩:=r1.mut p hp;rw[z]at h2;cases h2;cases u with
     |tup _=>cases hm
     |frz _ _=>cases hm
     |_=>cases t
  ·exact k.gn p hp
 ·rcases Tj.mp hp with hp|hp
  ·exact .inr (SR _ hp)
  ·exact .inl hp
theorem Rel.freeze{r:R}{v:V}{es:Env}{vs:List (Option V)}{fp:List Addr}(q:Rel K G H (some r::es) (some v::vs) fp):
  ∃G' b,Rep K G' r.2 v/\Rel K G' H es vs b/\Step G H fp G' H b:=by
 obtain⟨y,ys,e,v',a,b,e1,e2,r1,r2⟩:=q.rep;cases e;cases e1;subst e2;have nd:=Ti.mp q.nd;have nb:∀p∈a,p∉b:=fun p hp hb=>nd.2.2 p hp p hb rfl
 have hg:Same G (fun p=>if p∈a then H p else G p):=fun p u e=>by
  show(if p∈a then H p else G p)=some u;by_cases hp:p∈a
  ·rw[SU hp];exact q.gh p u e
  ·rw[SX hp];exact e
 refine⟨fun p=>if p∈a then H p else G p,b,r1.frozen hg fun p hp u e=>?_,⟨r2.step hg fun _ _=>rfl,nd.2.1,fun p hp=>?_,fun p u e=>?_⟩,⟨hg,fun _ _ e _=>e,fun p hp=>.inl (SK _ hp),fun p u e=>?_,fun _ u e=>⟨u,e⟩⟩⟩
 ·show(if p∈a then H p else G p)=some u;rw[SU hp];exact e
 ·show(if p∈a then H p else G p)=none;rw[SX (fun z=>nb p z hp)];exact q.gn p (SK _ hp)
 ·have e:(if p∈a then H p else G p)=some u:=e;by_cases hp:p∈a
  ·rw[SU hp]at e;exact e
  ·rw[SX hp]at e;exact q.gh p u e
 ·have e:(if p∈a then H p else G p)=some u:=e;by_cases hp:p∈a
  ·exact .inr (.inl (SR _ hp))
  ·rw[SX hp]at e;exact .inl e
end
section
variable{K:W.Frag}{G G' H H':Hp}{es:Env}{vs:List (Option V)}{fp:List Addr}
theorem qN:∀{ds:List D}{xs:List V}{fp:List Addr},AllO (RepO K G H .f) ds xs fp<->Reps K G ds xs/\fp=[]
 |[],xs,fp=>by simp only[AllO,Reps]
 |d::ds,xs,fp=>by
  simp only[AllO,Reps,RepO];constructor
  ·rintro⟨y,ys,a,b,e1,e2,⟨r,e3⟩,q⟩;obtain⟨q1,q2⟩:=qN.mp q;subst e3;subst q2;exact⟨⟨y,ys,e1,r,q1⟩,e2⟩
  ·rintro⟨⟨y,ys,e1,r,q1⟩,e⟩;exact⟨y,ys,[],[],e1,e,⟨r,rfl⟩,qN.mpr ⟨q1,rfl⟩⟩
theorem dD{d:D}{v:V}{a:List Addr}:RepO K G H .f d v a<->Rep K G d v/\a=[]:=by simp only[RepO]
theorem iC{ds:List D}{v:V}{a:List Addr}:RepO K G H (.l .f) (.lst ds) v a<->∃p xs,v=.ref p/\H p=some (.lst xs)/\a=[p]/\Reps K G ds xs:=by
 rw[RepO];constructor
 ·rintro⟨p,xs,b,e,q,e2,r⟩;obtain⟨r',eb⟩:=qN.mp r;subst eb;exact⟨p,xs,e,q,e2,r'⟩
 ·rintro⟨p,xs,e,q,e2,r⟩;exact⟨p,xs,[],e,q,e2,qN.mpr ⟨r,rfl⟩⟩
theorem Reps.length:∀{ds:List D}{xs:List V},Reps K G ds xs->xs.length=ds.length
 |[],xs,r=>by simp only[Reps]at r;rw[r];rfl
 |d::ds,xs,r=>by
  simp only[Reps]at r;obtain⟨y,ys,e,_,q⟩:=r;rw[e,S4,S4,Reps.length q]
theorem Reps.get:∀{ds:List D}{xs:List V}{i:Nat}{d:D},Reps K G ds xs->ds[i]?=some d->∃v,xs[i]?=some v/\Rep K G d v
 |[],_,_,_,_,e=>by simp at e
 |d'::ds,xs,0,d,r,e=>by
  simp only[Reps]at r;obtain⟨y,ys,e1,q,_⟩:=r;simp at e;subst e;exact⟨y,by rw[e1];rfl,q⟩
 |d'::ds,xs,i+1,d,r,e=>by
  simp only[Reps]at r;obtain⟨y,ys,e1,_,q⟩:=r;obtain⟨v,a,b⟩:=Reps.get q (i:=i) (d:=d) (by simpa using e);exact⟨v,by rw[e1];simpa using a,b⟩
theorem Reps.app:∀{ds es:List D}{xs ys:List V},Reps K G ds xs->Reps K G es ys->Reps K G (ds++es) (xs++ys)
 |[],_,_,_,r,q=>by simp only[Reps]at r;rw[r];exact q
 |d::ds,es,xs,ys,r,q=>by
  simp only[Reps]at r;obtain⟨z,zs,e,r1,r2⟩:=r;rw[e];simp only[Uq,Reps];exact⟨z,_,rfl,r1,r2.app q⟩
theorem Reps.one{d:D}{v:V}(r:Rep K G d v):Reps K G [d] [v]:=by
 simp only[Reps];exact⟨v,[],rfl,r,rfl⟩
theorem Reps.nil:Reps K G [] []:=by simp only[Reps]
theorem Reps.cons{d:D}{v:V}{ds:List D}{xs:List V}(r:Rep K G d v)(q:Reps K G ds xs):Reps K G (d::ds) (v::xs):=by
 simp only[Reps];exact⟨v,xs,rfl,r,q⟩
theorem Reps.cons_iff{d:D}{v:V}{ds:List D}{xs:List V}:Reps K G (d::ds) (v::xs)<->Rep K G d v/\Reps K G ds xs:=by
 simp only[Reps];constructor
 ·rintro⟨y,ys,e,r,q⟩;cases e;exact⟨r,q⟩
 ·rintro⟨r,q⟩;exact⟨v,xs,rfl,r,q⟩
theorem Reps.take:∀{ds:List D}{xs:List V}(n:Nat),Reps K G ds xs->Reps K G (ds.take n) (xs.take n)
 |_,_,0,_=>by rw[Vz,Vz];exact Reps.nil
 |[],xs,n+1,r=>by simp only[Reps]at r;rw[r];exact Reps.nil
 |d::ds,xs,n+1,r=>by
  simp only[Reps]at r;obtain⟨y,ys,e,r1,r2⟩:=r;rw[e,W4,W4];exact .cons r1 (r2.take n)
theorem Reps.drop:∀{ds:List D}{xs:List V}(n:Nat),Reps K G ds xs->Reps K G (ds.drop n) (xs.drop n)
 |_,_,0,r=>r
 |[],xs,n+1,r=>by simp only[Reps]at r;rw[r];exact Reps.nil
 |d::ds,xs,n+1,r=>by
  simp only[Reps]at r;obtain⟨y,ys,e,r1,r2⟩:=r;rw[e,W5,W5];exact r2.drop n
theorem Reps.set:∀{ds:List D}{xs:List V}(n:Nat) {d:D}{v:V},Reps K G ds xs->Rep K G d v->Reps K G (ds.set n d) (xs.set n v)
 |[],xs,n,d,v,r,q=>by simp only[Reps]at r;rw[r];exact Reps.nil
 |d'::ds,xs,0,d,v,r,q=>by
  simp only[Reps]at r;obtain⟨y,ys,e,r1,r2⟩:=r;rw[e];exact .cons q r2
 |d'::ds,xs,n+1,d,v,r,q=>by
  simp only[Reps]at r;obtain⟨y,ys,e,r1,r2⟩:=r;rw[e];exact .cons r1 (r2.set n q)
theorem Reps.ofAll{ds:List D}{xs:List V}(hl:xs.length=ds.length)(h:∀(i:Nat) (d:D) (v:V),ds[i]?=some d->xs[i]?=some v->Rep K G d v):Reps K G ds xs:=by
 induction ds generalizing xs with
 |nil=>simp only[Reps];exact TH hl
 |cons d ds ih=>
  cases xs with
  |nil=>simp at hl
  |cons v xs=>exact .cons (h 0 d v rfl rfl) (ih (by simpa using hl) fun i d v a b=>h (i+1) d v (by simpa using a) (by simpa using b))
theorem Step.cut{fq:List Addr}(h:∀q∈fq,q∈fp):Step G H fp G H fq:=⟨.refl _,fun _ _ e _=>e,fun q hq=>.inl (h q hq),fun _ _ e=>.inl e,fun _ u e=>⟨u,e⟩⟩
theorem Rel.drop{r:R}{y:Option V}(q:Rel K G H (some r::es) (y::vs) fp):∃b,Rel K G H es vs b/\Step G H fp G H b:=by
 obtain⟨y,ys,e,v',a,b,e1,e2,r1,r2⟩:=q.rep;cases e;cases e1;subst e2;have nd:=Ti.mp q.nd;exact⟨b,⟨r2,nd.2.1,fun p hp=>q.gn p (SK _ hp),q.gh⟩,Step.cut fun p hp=>SK _ hp⟩
theorem Rel.top{r:R}{v:V}(q:Rel K G H (some r::es) (some v::vs) fp):Rep K H r.2 v:=by
 obtain⟨y,ys,e,v',a,b,e1,e2,r1,r2⟩:=q.rep;cases e;cases e1;exact r1.frozen q.gh fun p hp u e=>e
theorem Rel.out{i:Nat}{r:R}(q:Rel K G H es vs fp)(e:es[i]?=some (some r)):∃v fq,vs[i]?=some (some v)/\Rel K G H (some r::es.set i none) (some v::vs) fq/\Step G H fp G H fq/\Step G H fq G H fp:=by
 obtain⟨v,a,b,e1,r1,r2,pm⟩:=q.rep.take e;exact⟨v,a++b,e1,Rel.perm ⟨some v,vs,rfl,v,a,b,rfl,rfl,r1,r2⟩ q.nd q.gn q.gh pm,Step.cut fun p hp=>pm.mem_iff.mpr hp,Step.cut fun p hp=>pm.mem_iff.mp hp⟩
theorem Rel.view{i:Nat}{r:R}(q:Rel K G H es vs fp)(e:es[i]?=some (some r)):∃v,vs[i]?=some (some v)/\Rep K H r.2 v:=by
 obtain⟨v,fq,e1,r1,_⟩:=q.out e;exact⟨v,e1,r1.top⟩
theorem g9{α:Type}{l:List α}{i:Nat}{x:α}(h:l[i]?=some x):l.set i x=l:=by
 apply U7;intro j;by_cases e:i=j
 ·subst e;rw[List.getElem?_set_self (List.getElem?_eq_some_iff.mp h).1,h]
 ·rw[List.getElem?_set_ne e]
theorem Rel.store{i:Nat}{r:R}{v:V}(q:Rel K G H (some r::es) (some v::vs) fp)(hi:i<es.length):∃fq,Rel K G H (es.set i (some r)) (vs.set i (some v)) fq/\Step G H fp G H fq:=by
 obtain⟨y,ys,e,v',a,b,e1,e2,r1,r2⟩:=q.rep;cases e;cases e1;subst e2;obtain⟨c,hc⟩:∃c,es[i]?=some c:=⟨_,List.getElem?_eq_getElem hi⟩
 have nd:=Ti.mp q.nd;have key:∃b',RepE K G H (es.set i none) vs b'/\(∀p∈b',p∈b)/\b'.Nodup:=by
  cases c with
  |none=>exact⟨b,by rw[g9 hc];exact r2,fun _ h=>h,nd.2.1⟩
  |some r'=>
   obtain⟨v2,a2,b2,_,_,g,pm⟩:=r2.take hc;refine⟨b2,g,fun p hp=>pm.mem_iff.mpr (SK _ hp),?_⟩;exact(Ti.mp (pm.nodup_iff.mp nd.2.1)).2.1
 obtain⟨b',g,sub,ndb⟩:=key;obtain⟨fq,g2,pm⟩:=g.put (i:=i) (r:=r) (v:=v) (by rw[List.getElem?_set_self hi]) r1;rw[Ui]at g2;have NO:(a++b').Nodup:=by
  rw[Ti];exact⟨nd.1,ndb,fun p hp z hz=>nd.2.2 p hp z (sub z hz)⟩
 refine⟨fq,Rel.perm g2 NO (fun p hp=>?_) q.gh pm.symm,Step.cut fun p hp=>?_⟩
 ·refine q.gn p ?_;rcases Tj.mp hp with hp|hp
  ·exact SR _ hp
  ·exact SK _ (sub p hp)
 ·rcases Tj.mp (pm.mem_iff.mp hp) with hp|hp
  ·exact SR _ hp
  ·exact SK _ (sub p hp)
theorem Rel.back{i:Nat}{r:R}{v:V}(q:Rel K G H (some r::es) (some v::vs) fp)(hi:i<es.length)(hv:vs[i]?=some (some v)):∃fq,Rel K G H (es.set i (some r)) vs fq/\Step G H fp G H fq:=by
 obtain⟨fq,g,st⟩:=q.store hi;rw[g9 hv]at g;exact⟨fq,g,st⟩
theorem Rel.freezeAt{i:Nat}{r:R}(q:Rel K G H es vs fp)(e:es[i]?=some (some r)):∃v G' fq,vs[i]?=some (some v)/\Rep K G' r.2 v/\Rel K G' H (es.set i (some (.f,r.2))) vs fq/\Step G H fp G' H fq:=by
 obtain⟨v,fq,ev,g,st,_⟩:=q.out e;obtain⟨G',b,rv,g2,Hn⟩:=g.freeze;have g3:Rel K G' H (some (.f,r.2)::es.set i none) (some v::vs) b:=by
  refine⟨⟨some v,vs,rfl,v,[],b,rfl,rfl,?_,g2.rep⟩,g2.nd,g2.gn,g2.gh⟩;exact dD.mpr ⟨rv,rfl⟩
 obtain⟨fz,g4,Io⟩:=g3.back (i:=i) (by rw[Tt];exact(List.getElem?_eq_some_iff.mp e).1) ev;rw[Ui]at g4;exact⟨v,G',fz,ev,rv,g4,st.trans (Hn.trans Io)⟩
theorem Rel.push{d:D}{v:V}(q:Rel K G H es vs fp)(r:Rep K G d v):Rel K G H (some (.f,d)::es) (some v::vs) fp:=by
 refine⟨⟨some v,vs,rfl,v,[],fp,rfl,rfl,?_,q.rep⟩,q.nd,q.gn,q.gh⟩;exact dD.mpr ⟨r,rfl⟩
theorem Rel.newF{p:Addr}{u:HO}(q:Rel K G H es vs fp)(hp:H p=none):Rel K (upd G p u) (upd H p u) es vs fp/\Step G H fp (upd G p u) (upd H p u) fp:=by
 have gp:G p=none:=by
  cases e:G p with
  |none=>rfl
  |some o=>rw[q.gh p o e]at hp;cases hp
 have np:p∉fp:=fun z=>by
  obtain⟨u,e⟩:=q.rep.live p z;rw[hp]at e;cases e
 have sg:Same G (upd G p u):=fun b o e=>by rw[aE (bc e gp)];exact e
 have sh:Same H (upd H p u):=fun b o e=>by rw[aE (bc e hp)];exact e
 refine⟨⟨q.rep.step sg fun z hz=>aE fun e=>np (e▸hz),q.nd,fun z hz=>?_,fun b o e=>?_⟩,⟨sg,fun b o e _=>sh b o e,fun _ h=>.inl h,fun b o e=>?_,fun b o e=>⟨o,sh b o e⟩⟩⟩
 ·have:z≠p:=fun e=>np (e▸hz)
  rw[aE this];exact q.gn z hz
 ·by_cases hb:b=p
  ·subst hb;rw[aY]at e ⊢;exact e
  ·rw[aE hb]at e ⊢;exact q.gh b o e
 ·by_cases hb:b=p
  ·subst hb;exact .inr (.inr (.inl hp))
  ·rw[aE hb]at e;exact .inl e
theorem Rel.newL{p:Addr}{ds:List D}{xs:List V}(q:Rel K G H es vs fp)(hp:H p=none)(r:Reps K G ds xs):
  Rel K G (upd H p (.lst xs)) (some (.l .f,.lst ds)::es) (some (.ref p)::vs) (p::fp)/\Step G H fp G (upd H p (.lst xs)) (p::fp):=by
 have gp:G p=none:=by
  cases e:G p with
  |none=>rfl
  |some o=>rw[q.gh p o e]at hp;cases hp
 have np:p∉fp:=fun z=>by
  obtain⟨u,e⟩:=q.rep.live p z;rw[hp]at e;cases e
 have sh:Same H (upd H p (.lst xs)):=fun b o e=>by rw[aE (bc e hp)];exact e
 refine⟨⟨⟨some (.ref p),vs,rfl,.ref p,[p],fp,rfl,rfl,iC.mpr ⟨p,xs,rfl,aY,rfl,r⟩,q.rep.step (.refl _) fun z hz=>aE fun e=>np (e▸hz)⟩,Tf.mpr ⟨np,q.nd⟩,fun z hz=>?_,fun b o e=>?_⟩,
  ⟨.refl _,fun b o e _=>sh b o e,fun b hb=>?_,fun b o e=>.inl e,fun b o e=>⟨o,sh b o e⟩⟩⟩
 ·rcases SV.mp hz with rfl|hz
  ·exact gp
  ·exact q.gn z hz
 ·exact sh b o (q.gh b o e)
 ·rcases SV.mp hb with rfl|hb
  ·exact .inr hp
  ·exact .inl hb
theorem Rel.chg{i:Nat}{ds ds':List D}(q:Rel K G H es vs fp)(e:es[i]?=some (some (.l .f,.lst ds))):∃p xs,vs[i]?=some (some (.ref p))/\H p=some (.lst xs)/\Reps K G ds xs/\
  ∀IP,Reps K G ds' IP->∃fq,Rel K G (upd H p (.lst IP)) (es.set i (some (.l .f,.lst ds'))) vs fq/\Step G H fp G (upd H p (.lst IP)) fq:=by
 obtain⟨v,fq,ev,g,st,Jr⟩:=q.out e;obtain⟨y,ys,e0,v',a,b,e1,e2,r1,r2⟩:=g.rep;cases e0;cases e1;obtain⟨p,xs,e3,hp,e4,rs⟩:=iC.mp r1;subst e3;subst e4;subst e2;have nd:=Tf.mp (show(p::b).Nodup from g.nd);refine⟨p,xs,ev,hp,rs,fun IP Jv=>?_⟩;have g2:Rel K G (upd H p (.lst IP)) (some (.l .f,.lst ds')::es.set i none) (some (.ref p)::vs) (p::b):=by
  refine⟨⟨some (.ref p),vs,rfl,.ref p,[p],b,rfl,rfl,iC.mpr ⟨p,IP,rfl,aY,rfl,Jv⟩,r2.step (.refl _) fun z hz=>aE fun e=>nd.1 (e▸hz)⟩,g.nd,g.gn,fun z o ez=>?_⟩;have:z≠p:=fun w=>by
   subst w;rw[g.gn z SI]at ez;cases ez
  rw[aE this];exact g.gh z o ez
 have Rj:Step G H (p::b) G (upd H p (.lst IP)) (p::b):=by
  refine⟨.refl _,fun z o ez nz=>?_,fun z hz=>.inl hz,fun z o ez=>.inl ez,fun z o ez=>?_⟩
  ·have:z≠p:=fun w=>nz (by rw[w];exact SI)
   rw[aE this];exact ez
  ·by_cases w:z=p
   ·subst w;exact⟨_,aY⟩
   ·exact⟨o,by rw[aE w];exact ez⟩
 obtain⟨fz,g3,HM⟩:=g2.back (i:=i) (by rw[Tt];exact(List.getElem?_eq_some_iff.mp e).1) ev;rw[Ui]at g3;exact⟨fz,g3,st.trans (Rj.trans HM)⟩
end
mutual
noncomputable def b5:D->Bool
 | .tup ds=>flatDs ds
 | .lst _=>false
 | .dct _ _ _=>false
 |_=>true
noncomputable def flatDs:List D->Bool
 |[]=>true
 |d::ds=>b5 d&&flatDs ds
end
mutual
noncomputable def cleanR:O->D->Bool
 | .f,d=>b5 d
 | .l c,.lst ds=>ds.all (cleanR c)
 | .t cs,.tup ds=>oH cs ds
 | .d,.dct _ _ vs=>flatDs vs
 | .pin _ c,d=>cleanR c d
 |_,_=>false
noncomputable def oH:List O->List D->Bool
 |[],[]=>true
 |c::cs,d::ds=>cleanR c d&&oH cs ds
 |_,_=>false
end
def frz:Option R->Option R:=Option.map fun r=>(.f,r.2)
theorem cI:∀ds,flatDs ds=ds.all b5
 |[]=>rfl
 |d::ds=>by rw[flatDs,U8,cI ds]
section
variable{K:W.Frag}{G G' G2 G3 H H' H2:Hp}{es:Env}{vs:List (Option V)}{fp:List Addr}
mutual
theorem Rep.flat(h:∀p u,isT u=true->G2 p=some u->G3 p=some u):∀{d:D}{v:V},b5 d=true->Rep K G2 d v->Rep K G3 d v
 | .non,_,_,r=>by simpa only[Rep] using r
 | .bl _,_,_,r=>by simpa only[Rep] using r
 | .int _,_,_,r=>by simpa only[Rep] using r
 | .str _,_,_,r=>by simpa only[Rep] using r
 | .tup ds,_,e,r=>by
  simp only[Rep]at r ⊢;simp only[b5]at e;obtain⟨p,xs,ev,q,rs⟩:=r;exact⟨p,xs,ev,h _ _ rfl q,Reps.flat h e rs⟩
 | .lst ds,_,e,r=>by simp only[b5]at e;cases e
 | .dct _ _ _,_,e,r=>by simp only[b5]at e;cases e
theorem Reps.flat(h:∀p u,isT u=true->G2 p=some u->G3 p=some u):∀{ds:List D}{xs:List V},flatDs ds=true->Reps K G2 ds xs->Reps K G3 ds xs
 |[],_,_,r=>by simpa only[Reps] using r
 |d::ds,_,e,r=>by
  simp only[Reps]at r ⊢;simp only[flatDs,SY]at e;obtain⟨y,ys,ev,r1,r2⟩:=r;exact⟨y,ys,ev,Rep.flat h e.1 r1,Reps.flat h e.2 r2⟩
end
theorem AllO.clean{P P':D->V->List Addr->Prop}{c:D->Bool}:∀{ds:List D}{xs:List V}{fp:List Addr},(∀d v a,c d=true->P d v a->P' d v a)->ds.all c=true->AllO P ds xs fp->AllO P' ds xs fp
 |[],_,_,_,_,r=>r
 |d::ds,xs,fp,h,e,r=>by
  obtain⟨y,ys,a,b,e1,e2,p,q⟩:=r;rw[U8,SY]at e;exact⟨y,ys,a,b,e1,e2,h _ _ _ e.1 p,AllO.clean h e.2 q⟩
mutual
theorem RepO.clean(h:∀p u,isT u=true->G2 p=some u->G3 p=some u):∀{o:O}{d:D}{v:V}{fp:List Addr},cleanR o d=true->RepO K G2 H o d v fp->RepO K G3 H o d v fp
 | .f,d,v,fp,e,r=>by
  simp only[RepO]at r ⊢;simp only[cleanR]at e;exact⟨r.1.flat h e,r.2⟩
 | .pin p c,d,v,fp,e,r=>by
  simp only[RepO]at r ⊢;simp only[cleanR]at e;exact⟨r.1,RepO.clean h e r.2⟩
 | .l c,.lst ds,v,fp,e,r=>by
  rw[RepO]at r ⊢;rw[cleanR]at e;obtain⟨p,xs,Hk,ev,q,e2,a⟩:=r;exact⟨p,xs,Hk,ev,q,e2,AllO.clean (fun d v a=>RepO.clean h) e a⟩
 | .t cs,.tup ds,v,fp,e,r=>by
  rw[RepO]at r ⊢;rw[cleanR]at e;obtain⟨p,xs,ev,q,a⟩:=r;exact⟨p,xs,ev,h _ _ rfl q,RepT.clean h e a⟩
 | .d,.dct tk ks vs,v,fp,e,r=>by
  rw[RepO]at r ⊢;rw[cleanR]at e;obtain⟨p,xs,o,ev,q,dd,e2,rs⟩:=r;exact⟨p,xs,o,ev,q,dd,e2,rs.flat h e⟩
 | .l _,.non,_,_,_,r | .l _,.bl _,_,_,_,r | .l _,.int _,_,_,_,r | .l _,.str _,_,_,_,r | .l _,.tup _,_,_,_,r | .l _,.dct _ _ _,_,_,_,r=>by simp only[RepO]at r
 | .t _,.non,_,_,_,r | .t _,.bl _,_,_,_,r | .t _,.int _,_,_,_,r | .t _,.str _,_,_,_,r | .t _,.lst _,_,_,_,r | .t _,.dct _ _ _,_,_,_,r=>by simp only[RepO]at r
 | .d,.non,_,_,_,r | .d,.bl _,_,_,_,r | .d,.int _,_,_,_,r | .d,.str _,_,_,_,r | .d,.tup _,_,_,_,r | .d,.lst _,_,_,_,r=>by simp only[RepO]at r
theorem RepT.clean(h:∀p u,isT u=true->G2 p=some u->G3 p=some u):∀{cs:List O}{ds:List D}{xs:List V}{fp:List Addr},oH cs ds=true->RepT K G2 H cs ds xs fp->RepT K G3 H cs ds xs fp
 |[],[],_,_,_,r=>by simpa only[RepT] using r
 |c::cs,d::ds,xs,fp,e,r=>by
  rw[RepT]at r ⊢;rw[oH,SY]at e;obtain⟨y,ys,a,b,e1,e2,r1,r2⟩:=r;exact⟨y,ys,a,b,e1,e2,RepO.clean h e.1 r1,RepT.clean h e.2 r2⟩
 |[],_::_,_,_,_,r=>by simp only[RepT]at r
 |_::_,[],_,_,_,r=>by simp only[RepT]at r
end
theorem RepE.frz(h:Same G G'):∀{es:Env}{vs:List (Option V)}{fp:List Addr},(∀p∈fp,∀u,H p=some u->G' p=some u)->RepE K G H es vs fp->RepE K G' H' (es.map PV.frz) vs []
 |[],_,_,_,r=>⟨r.1,rfl⟩
 |none::es,vs,fp,hk,r=>by
  obtain⟨y,ys,e,r⟩:=r;exact⟨y,ys,e,RepE.frz h hk r⟩
 |some r::es,vs,fp,hk,q=>by
  obtain⟨y,ys,e,v,a,b,e1,e2,r1,r2⟩:=q;subst e2;exact⟨y,ys,e,v,[],[],e1,rfl,dD.mpr ⟨r1.frozen h (fun p hp=>hk p (SR _ hp)),rfl⟩,RepE.frz h (fun p hp=>hk p (SK _ hp)) r2⟩
theorem RepE.rep(h:Same G G'):∀{es:Env}{vs:List (Option V)}{fp:List Addr}{i:Nat}{r:R}{v:V},(∀p∈fp,∀u,H p=some u->G' p=some u)->RepE K G H es vs fp->es[i]?=some (some r)->vs[i]?=some (some v)->Rep K G' r.2 v:=fun{es vs fp i r v} hk q e ev=>by
 obtain⟨v',a,b,e1,r1,_,pm⟩:=q.take e;rw[ev]at e1;cases e1;exact r1.frozen h fun p hp=>hk p (pm.mem_iff.mpr (SR _ hp))
theorem Rel.lend(q:Rel K G H es vs fp):∃G1,Same G G1/\Same G1 H/\(∀(i:Nat) (r:R) (v:V),es[i]?=some (some r)->vs[i]?=some (some v)->Rep K G1 r.2 v)/\
  RepE K G1 H (es.map PV.frz) vs []/\
  ∀(H2 G2:Hp) (HQ:List Addr) (r:R) (v:V),Step G1 H [] G2 H2 HQ->Rel K G2 H2 [some r] [some v] HQ->
   (cleanR r.1 r.2=true->∃G3 IJ,Step G H fp G3 H2 IJ/\Rel K G3 H2 (some r::es) (some v::vs) IJ)/\
   ∃G3 IJ,Step G H fp G3 H2 IJ/\Rel K G3 H2 (some r::es.map PV.frz) (some v::vs) IJ:=by
 have hg:Same G (fun p=>if p∈fp then H p else G p):=fun p u e=>by
  show(if p∈fp then H p else G p)=some u;by_cases hp:p∈fp
  ·rw[SU hp];exact q.gh p u e
  ·rw[SX hp];exact e
 have hh:Same (fun p=>if p∈fp then H p else G p) H:=fun p u e=>by
  have e:(if p∈fp then H p else G p)=some u:=e;by_cases hp:p∈fp
  ·rw[SU hp]at e;exact e
  ·rw[SX hp]at e;exact q.gh p u e
 have hk:∀p∈fp,∀u,H p=some u->(fun p=>if p∈fp then H p else G p) p=some u:=fun p hp u e=>by
  show(if p∈fp then H p else G p)=some u;rw[SU hp];exact e
 refine⟨fun p=>if p∈fp then H p else G p,hg,hh,fun i r v e ev=>q.rep.rep hg hk e ev,q.rep.frz hg hk,fun H2 G2 HQ r v st k=>?_⟩;obtain⟨y,ys,e0,v',a,b,e1,e2,r1,r2⟩:=k.rep;cases e0;cases e1;obtain⟨_,e3⟩:=r2;subst e3;rw[Te]at e2;subst e2;have fresh:∀p∈HQ,H p=none:=fun p hp=>by
  rcases st.fpn p hp with z|z
  ·cases z
  ·exact z
 have kept:∀p∈fp,H2 p=H p:=fun p hp=>by
  obtain⟨u,hu⟩:=q.rep.live p hp;rw[hu];exact st.keep p u hu (by simp)
 refine⟨fun cl=>?_,⟨G2,HQ,⟨hg.trans st.gg,fun p u e n=>st.keep p u e (by simp),fun p hp=>.inr (fresh p hp),fun p u e=>?_,st.there⟩,?_⟩⟩
 ·have apart:∀p∈HQ,p∉fp:=fun p hp hf=>by
   obtain⟨u,hu⟩:=q.rep.live p hf;rw[fresh p hp]at hu;cases hu
  have g3:Same G (fun p=>if p∈fp then none else G2 p):=fun p u e=>by
   show(if p∈fp then none else G2 p)=some u;rw[SX (fun z=>by rw[q.gn p z]at e;cases e)];exact st.gg p u (hg p u e)
  refine⟨fun p=>if p∈fp then none else G2 p,HQ++fp,⟨g3,fun p u e n=>st.keep p u e (by simp),fun p hp=>?_,fun p u e=>?_,st.there⟩,⟨⟨some v,vs,rfl,v,HQ,fp,rfl,rfl,r1.clean (fun p u t e=>?_) cl,q.rep.step g3 kept⟩,?_,fun p hp=>?_,fun p u e=>?_⟩⟩
  ·rcases Tj.mp hp with hp|hp
   ·exact .inr (fresh p hp)
   ·exact .inl hp
  ·have e:(if p∈fp then none else G2 p)=some u:=e;by_cases hp:p∈fp
   ·rw[SU hp]at e;cases e
   ·rw[SX hp]at e;rcases st.gnew p u e with z|z|z
    ·have z:(if p∈fp then H p else G p)=some u:=z;rw[SX hp]at z;exact .inl z
    ·cases z
    ·exact .inr (.inr z)
  ·show(if p∈fp then none else G2 p)=some u;by_cases hp:p∈fp
   ·exfalso;obtain⟨u',hu,hm⟩:=q.rep.mut p hp;have:=st.gg p u' (hk p hp u' hu);rw[e]at this;cases this;cases u with
    |lst _=>cases t
    |dK _=>cases t
    |dT _=>cases t
    |_=>cases hm
   ·rw[SX hp];exact e
  ·rw[Ti];exact⟨k.nd,q.nd,fun p hp z hz e=>apart p hp (e▸hz)⟩
  ·show(if p∈fp then none else G2 p)=none;by_cases hf:p∈fp
   ·rw[SU hf]
   ·rw[SX hf];rcases Tj.mp hp with hp|hp
    ·exact k.gn p hp
    ·exact absurd hp hf
  ·have e:(if p∈fp then none else G2 p)=some u:=e;by_cases hp:p∈fp
   ·rw[SU hp]at e;cases e
   ·rw[SX hp]at e;exact k.gh p u e
 ·rcases st.gnew p u e with z|z|z
  ·have z:(if p∈fp then H p else G p)=some u:=z;by_cases hp:p∈fp
   ·exact .inr (.inl hp)
   ·rw[SX hp]at z;exact .inl z
  ·cases z
  ·exact .inr (.inr z)
 ·refine⟨⟨some v,vs,rfl,v,HQ,[],rfl,(Te _).symm,r1,q.rep.frz (hg.trans st.gg) fun p hp u e=>st.gg p u (hk p hp u e)⟩,k.nd,k.gn,k.gh⟩
end
end PV
namespace PV
open PySem PySem.Spec PyProof.Rows L2 NX
def Res.bind{α β:Type}:Res α->(α->Res β)->Res β
 | .ok a,f=>f a
 | .exc c,_=>.exc c
 | .bad,_=>.bad
inductive BindOk{α β:Type}(x:Res α)(f:α->Res β)(b:β):Prop
 |mk (a:α) (h:x=.ok a) (k:f a=.ok b):BindOk x f b
theorem au{α β:Type}{x:Res α}{f:α->Res β}{b:β}(h:x.bind f=.ok b):BindOk x f b:=by
 cases x with
 |ok a=>exact⟨a,rfl,h⟩
 |exc c=>cases h
 |bad=>cases h
inductive Opd where
 |val (d:D)|var (i:Nat)
def OpdOk(K:W.Frag)(G:Hp)(σ:L2.St):Opd->V->Prop
 | .val d,v=>Rep K G d v
 | .var i,v=>σ[i]?=some (some v)
theorem OpdOk.mono{K:W.Frag}{G G':Hp}{σ:L2.St}{o:Opd}{v:V}(h:Same G G')(r:OpdOk K G σ o v):OpdOk K G' σ o v:=by
 cases o with
 |val d=>exact Rep.mono h r
 |var i=>exact r
def lW(K:W.Frag)(G:Hp)(σ:L2.St):List Opd->List V->Prop
 |[],vs=>vs=[]
 |o::os,vs=>∃y ys,vs=y::ys/\OpdOk K G σ o y/\lW K G σ os ys
def tu:O->Bool
 | .f=>true
 | .l .f=>true
 | .d=>true
 | .pin _ .f=>true
 | .pin _ (.l .f)=>true
 | .pin _ .d=>true
 |_=>false
def IK(env:PV.Env):Opd->Res D
 | .val d=>.ok d
 | .var i=>match env[i]? with
  |some (some r)=>if tu r.1 then .ok r.2 else .bad
  |_=>.bad
def sO(env:PV.Env):Opd->Res D
 | .val d=>.ok d
 | .var i=>match env[i]? with
  |some (some r)=>.ok r.2
  |_=>.bad
def oI(env:PV.Env):List Opd->Res (List D)
 |[]=>.ok []
 |o::os=>(IK env o).bind fun d=>(oI env os).bind fun ds=>.ok (d::ds)
def iY(env:PV.Env):List Opd->Res (List D)
 |[]=>.ok []
 |o::os=>(sO env o).bind fun d=>(iY env os).bind fun ds=>.ok (d::ds)
def Vw(K:W.Frag)(G H:Hp):D->V->Prop
 | .lst ds,v=>∃p xs,v=.ref p/\SqL K H p xs/\Reps K G ds xs
 | .dct tk ks vs,v=>∃p xs o,v=.ref p/\Rd H p o/\DictO o tk ks xs/\Reps K G vs xs
 |d,v=>Rep K G d v
def Ni(K:W.Frag)(G H:Hp):List D->List V->Prop
 |[],vs=>vs=[]
 |d::ds,vs=>∃y ys,vs=y::ys/\Vw K G H d y/\Ni K G H ds ys
section
variable{K:W.Frag}{G G' H H':Hp}{es:PV.Env}{σ:L2.St}{fp:List Addr}
theorem Vw.of{d:D}{v:V}(gh:Same G H)(r:Rep K G d v):Vw K G H d v:=by
 cases d with
 |lst ds=>
  rw[Rep]at r;obtain⟨p,xs,e,q,rs⟩:=r;exact⟨p,xs,e,g8 gh q,rs⟩
 |dct tk ks vs=>
  rw[Rep]at r;obtain⟨p,xs,o,e,q,dd,rs⟩:=r;exact⟨p,xs,o,e,PV.Rd.mono gh q,dd,rs⟩
 |_=>exact r
theorem Vw.rep{d:D}{v:V}(gh:Same G H)(r:Vw K G H d v):Rep K H d v:=by
 cases d with
 |lst ds=>
  obtain⟨p,xs,e,q,rs⟩:=r;rw[Rep];exact⟨p,xs,e,q,rs.mono gh⟩
 |dct tk ks vs=>
  obtain⟨p,xs,o,e,q,dd,rs⟩:=r;rw[Rep];exact⟨p,xs,o,e,q,dd,rs.mono gh⟩
 |non=>exact Rep.mono gh r
 |bl b=>exact Rep.mono gh r
 |int i=>exact Rep.mono gh r
 |str l=>exact Rep.mono gh r
 |tup ds=>exact Rep.mono gh r
theorem RepO.vw0{o:O}{d:D}{v:V}{a:List Addr}(gh:Same G H)(hs:o=.f\/o=.l .f\/o=.d)(r:RepO K G H o d v a):Vw K G H d v:=by
 rcases hs with rfl|rfl|rfl
 ·exact Vw.of gh (dD.mp r).1
 ·cases d with
  |lst ds=>
   obtain⟨p,xs,e,q,_,rs⟩:=iC.mp r;exact⟨p,xs,e,SqL.of q,rs⟩
  |_=>simp only[RepO]at r
 ·cases d with
  |dct tk ks vs=>
   rw[RepO]at r;obtain⟨p,xs,o,e,q,dd,_,rs⟩:=r;exact⟨p,xs,o,e,.inl q,dd,rs⟩
  |_=>simp only[RepO]at r
theorem RepO.vw{o:O}{d:D}{v:V}{a:List Addr}(gh:Same G H)(hs:tu o=true)(r:RepO K G H o d v a):Vw K G H d v:=by
 unfold tu at hs;split at hs
 ·exact r.vw0 gh (.inl rfl)
 ·exact r.vw0 gh (.inr (.inl rfl))
 ·exact r.vw0 gh (.inr (.inr rfl))
 ·rw[RepO]at r;exact r.2.vw0 gh (.inl rfl)
 ·rw[RepO]at r;exact r.2.vw0 gh (.inr (.inl rfl))
 ·rw[RepO]at r;exact r.2.vw0 gh (.inr (.inr rfl))
 ·cases hs
theorem Rel.vw{o:Opd}{v:V}{d:D}(q:Rel K G H es σ fp)(k:OpdOk K G σ o v)(e:IK es o=.ok d):Vw K G H d v:=by
 cases o with
 |val d'=>
  cases e;exact Vw.of q.gh k
 |var i=>
  unfold IK at e;dsimp only at e;split at e
  ·rename_i r hr;split at e
   ·rename_i hs;cases e;obtain⟨v',a,b,ev,r1,_⟩:=q.rep.take hr;have k:σ[i]?=some (some v):=k;rw[k]at ev;cases ev;exact r1.vw q.gh hs
   ·cases e
  ·cases e
theorem Rel.vwA{o:Opd}{v:V}{d:D}(q:Rel K G H es σ fp)(k:OpdOk K G σ o v)(e:sO es o=.ok d):Rep K H d v:=by
 cases o with
 |val d'=>
  cases e;exact Rep.mono q.gh k
 |var i=>
  unfold sO at e;dsimp only at e;split at e
  ·rename_i r hr;cases e;obtain⟨v',ev,r1⟩:=q.view hr;have k:σ[i]?=some (some v):=k;rw[k]at ev;cases ev;exact r1
  ·cases e
theorem Rel.vws(q:Rel K G H es σ fp):∀{os:List Opd}{vs:List V}{ds:List D},lW K G σ os vs->oI es os=.ok ds->Ni K G H ds vs
 |[],_,_,k,e=>by
  cases e;exact k
 |o::os,_,_,⟨y,ys,e0,k1,k2⟩,e=>by
  unfold oI at e;obtain⟨d,e1,e⟩:=au e;obtain⟨ds,e2,e⟩:=au e;cases e;exact⟨y,ys,e0,q.vw k1 e1,Rel.vws q k2 e2⟩
theorem iZ{G1:Hp}(gg:Same G G1)(ht:∀(i:Nat) (r:R) (v:V),es[i]?=some (some r)->σ[i]?=some (some v)->Rep K G1 r.2 v):∀{os:List Opd}{vs:List V}{ds:List D},lW K G σ os vs->iY es os=.ok ds->Reps K G1 ds vs
 |[],_,_,k,e=>by
  cases e;have k:_=_:=k;rw[k];exact Reps.nil
 |o::os,_,_,⟨y,ys,e0,k1,k2⟩,e=>by
  unfold iY at e;obtain⟨d,e1,e⟩:=au e;obtain⟨ds,e2,e⟩:=au e;cases e;rw[e0];refine .cons ?_ (iZ gg ht k2 e2);cases o with
  |val d'=>
   cases e1;exact Rep.mono gg k1
  |var i=>
   unfold sO at e1;dsimp only at e1;split at e1
   ·rename_i r hr;cases e1;exact ht i r y hr k1
   ·cases e1
end
abbrev FX:=PV.Env->Res (R×PV.Env)
abbrev FO:=PV.Env->Res (Opd×PV.Env)
abbrev FOs:=PV.Env->Res (List Opd×PV.Env)
abbrev FT:=PV.Env->Res (Bool×PV.Env)
inductive Out where
 |nx (env:PV.Env)|rt (r:R)|bk (env:PV.Env)|ct (env:PV.Env)
abbrev FS:=PV.Env->Res Out
inductive tQ(K:W.Frag)(f:FX)(σ:L2.St)(H:Hp)(Q:VK):Prop
 |mk:∀G env fp r env',Rel K G H env σ fp->f env=.ok (r,env')->(∀v H' G' Hk,Step G H fp G' H' Hk->Rel K G' H' (some r::env') (some v::σ) Hk->Q v H')->tQ K f σ H Q
inductive tO(K:W.Frag)(f:FO)(σ:L2.St)(H:Hp)(Q:VK):Prop
 |mk:∀G env fp o env',Rel K G H env σ fp->f env=.ok (o,env')->(∀v H' G' Hk,Step G H fp G' H' Hk->Rel K G' H' env' σ Hk->OpdOk K G' σ o v->Q v H')->tO K f σ H Q
inductive tOs(K:W.Frag)(f:FOs)(σ:L2.St)(H:Hp)(Q:List V->Hp->Prop):Prop
 |mk:∀G env fp o env',Rel K G H env σ fp->f env=.ok (o,env')->(∀v H' G' Hk,Step G H fp G' H' Hk->Rel K G' H' env' σ Hk->lW K G' σ o v->Q v H')->tOs K f σ H Q
inductive tQT(K:W.Frag)(f:FT)(σ:L2.St)(H:Hp)(Q:Bool->Hp->Prop):Prop
 |mk:∀G env fp b env',Rel K G H env σ fp->f env=.ok (b,env')->(∀H' G' Hk,Step G H fp G' H' Hk->Rel K G' H' env' σ Hk->Q b H')->tQT K f σ H Q
inductive Mode where
 |plain|mut
def FQ(md:Mode)(K:W.Frag)(G H:Hp)(r:R)(v:V)(fp:List Addr):Prop:=match md with
 | .plain=>Rel K G H [some r] [some v] fp
 | .mut=>∃o d p c d0,r=(.t [o,.pin p c],.tup [d,d0])/\Rel K G H [some (o,d),some (.pin p c,d0)] [some v,some (.ref p)] fp
noncomputable def OutOk{md:Mode}(K:W.Frag)(G H:Hp)(fp:List Addr)(Dd:Ends):Res Out->Prop
 | .ok (.nx env')=>∀σ' H' G' Hk,Step G H fp G' H' Hk->Rel K G' H' env' σ' Hk->Dd.nx σ' H'
 | .ok (.bk env')=>∀σ' H' G' Hk,Step G H fp G' H' Hk->Rel K G' H' env' σ' Hk->Dd.bk σ' H'
 | .ok (.ct env')=>∀σ' H' G' Hk,Step G H fp G' H' Hk->Rel K G' H' env' σ' Hk->Dd.ct σ' H'
 | .ok (.rt r)=>∀v H' G' Hk,Step G H fp G' H' Hk->FQ md K G' H' r v Hk->Dd.rt v H'
 |_=>False
inductive tQS{md:Mode}(K:W.Frag)(g:FS)(Dd:Ends)(σ:L2.St)(H:Hp):Prop
 |mk:∀G env fp,Rel K G H env σ fp->OutOk (md:=md) K G H fp Dd (g env)->tQS (md:=md) K g Dd σ H
def QE(X:Cx)(e:Expr)(f:FX):Prop:=PE X e (tQ X.K f)
def QO(X:Cx)(e:Expr)(f:FO):Prop:=PE X e (tO X.K f)
def K9(X:Cx)(es:List Expr)(f:FOs):Prop:=PA X es (tOs X.K f)
def QT(X:Cx)(e:Expr)(f:FT):Prop:=PT X e (tQT X.K f)
def QW(X:Cx)(e:Expr)(f:FT):Prop:=PW X e (tQT X.K f)
def QS{md:Mode}(X:Cx)(st:Stmt)(g:FS):Prop:=PS X st (tQS (md:=md) X.K g)
def Lk{md:Mode}(X:Cx)(st:List Stmt)(g:FS):Prop:=PSs X st (tQS (md:=md) X.K g)
theorem bS{X:Cx}{e:Expr}{t t':TE}(h:PE X e t)(k:∀σ H Q,t' σ H Q->t σ H Q):PE X e t':=fun pr s σ H Q I w=>h pr s σ H Q I (k σ H Q w)
theorem qO{X:Cx}{e:Expr}{t t':TT}(h:PT X e t)(k:∀σ H Q,t' σ H Q->t σ H Q):PT X e t':=fun pr s σ H Q I w=>h pr s σ H Q I (k σ H Q w)
theorem yy{X:Cx}{e:Expr}{t t':TT}(h:PW X e t)(k:∀σ H Q,t' σ H Q->t σ H Q):PW X e t':=fun wh pr s σ H Q I w=>h wh pr s σ H Q I (k σ H Q w)
theorem qP{X:Cx}{e:List Expr}{t t':TA}(h:PA X e t)(k:∀σ H Q,t' σ H Q->t σ H Q):PA X e t':=fun pos pr s σ H Q I w=>h pos pr s σ H Q I (k σ H Q w)
theorem d6{X:Cx}{e:Stmt}{t t':TS}(h:PS X e t)(k:∀D σ H,t' D σ H->t D σ H):PS X e t':=fun pr s σ H D I w=>h pr s σ H D I (k D σ H w)
theorem uH{X:Cx}{e:List Stmt}{t t':TS}(h:PSs X e t)(k:∀D σ H,t' D σ H->t D σ H):PSs X e t':=fun pr s σ H D I w=>h pr s σ H D I (k D σ H w)
theorem OutOk.imp{md:Mode}{K:W.Frag}{G H G1 H1:Hp}{fp HB:List Addr}{Dd Pg:Ends}{r:Res Out}(st:Step G H fp G1 H1 HB)(h:OutOk (md:=md) K G H fp Dd r)(n:∀σ H,Dd.nx σ H->Pg.nx σ H)(b:∀σ H,Dd.bk σ H->Pg.bk σ H)(c:∀σ H,Dd.ct σ H->Pg.ct σ H)(t:∀v H,Dd.rt v H->Pg.rt v H):OutOk (md:=md) K G1 H1 HB Pg r:=by
 match r,h with
 | .ok (.nx env'),h=>exact fun σ' H' G' Hk s q=>n _ _ (h σ' H' G' Hk (st.trans s) q)
 | .ok (.bk env'),h=>exact fun σ' H' G' Hk s q=>b _ _ (h σ' H' G' Hk (st.trans s) q)
 | .ok (.ct env'),h=>exact fun σ' H' G' Hk s q=>c _ _ (h σ' H' G' Hk (st.trans s) q)
 | .ok (.rt r),h=>exact fun v H' G' Hk s q=>t _ _ (h v H' G' Hk (st.trans s) q)
theorem OutOk.after{md:Mode}{K:W.Frag}{G H G1 H1:Hp}{fp HB:List Addr}{Dd:Ends}{r:Res Out}(st:Step G H fp G1 H1 HB)(h:OutOk (md:=md) K G H fp Dd r):OutOk (md:=md) K G1 H1 HB Dd r:=h.imp st (fun _ _ z=>z) (fun _ _ z=>z) (fun _ _ z=>z) fun _ _ z=>z
def aK(d:D):FX:=fun env=>.ok ((.f,d),env)
def fz:O->O
 | .pin p .f=>.pin p .f
 |_=>.f
def aI(i:Nat):FX:=fun env=>match env[i]? with
 |some (some r)=>.ok ((.f,r.2),env.set i (some (fz r.1,r.2)))
 |_=>.bad
def mN(i:Nat):FX:=fun env=>match env[i]? with
 |some (some r)=>.ok (r,env.set i none)
 |_=>.bad
def av(f:FX):FO:=fun env=>(f env).bind fun p=>.ok (.val p.1.2,p.2)
def aq(i:Nat):FO:=fun env=>match env[i]? with
 |some (some _)=>.ok (.var i,env)
 |_=>.bad
def aH:FOs:=fun env=>.ok ([],env)
def ah(f:FO)(g:FOs):FOs:=fun env=>(f env).bind fun p=>(g p.2).bind fun q=>.ok (p.1::q.1,q.2)
section
variable{X:Cx}
theorem qQ{e:Expr}{v:V}{d:D}(h:PE X e (tC v))(r:∀G,Rep X.K G d v):QE X e (aK d):=bS h fun σ H Q Hs=>by
 obtain⟨G,env,fp,rr,env',rel,e,k⟩:=Hs;cases e;exact k v H G fp .refl (rel.push (r G))
theorem ao{i j pos}:QE X (.Constant (.int i) j pos) (aK (.int i)):=qQ BF fun G=>by rw[Rep]
theorem Cq{i j pos}:QE X (.Constant (.bool i) j pos) (aK (.bl i)):=qQ En fun G=>by rw[Rep]
theorem eS{j pos}:QE X (.Constant .none j pos) (aK .non):=qQ BG fun G=>by rw[Rep]
theorem d7{x j pos}{l:List Nat}(h:x=S l)(hl:l.length<=1000):QE X (.Constant (.str x) j pos) (aK (.str l)):=qQ BH fun G=>by
 rw[Rep,h];exact⟨rfl,by rw[line_eq];lia⟩
theorem az{i:Nat}{e:Expr}(h:PE X e (tL i)):QE X e (aI i):=bS h fun σ H Q Hs=>by
 obtain⟨G,env,fp,rr,env',rel,e,k⟩:=Hs;unfold aI at e;split at e
 ·rename_i r hr;cases e;by_cases hf:fz r.1=.f
  ·obtain⟨v,G',fq,ev,rv,HN,st⟩:=rel.freezeAt hr;rw[hf]at k;exact⟨v,ev,k v H G' fq st (HN.push rv)⟩
  ·have hp:∃p,r.1=.pin p .f:=by
    unfold fz at hf;split at hf
    ·rename_i p hp;exact⟨p,hp⟩
    ·exact absurd rfl hf
   obtain⟨p,hp⟩:=hp;obtain⟨v,a,b,ev,r1,_,_⟩:=rel.rep.take hr;rw[hp,RepO]at r1;have es:env.set i (some (fz r.1,r.2))=env:=by
    refine g9 ?_;rw[hr,hp];show some (some r)=some (some (.pin p .f,r.2));rw[<-hp]
   rw[es]at k;exact⟨v,ev,k v H G fp .refl (rel.push (dD.mp r1.2).1)⟩
 ·cases e
theorem jF{i:Nat}{e:Expr}(h:PE X e (tL i)):QE X e (mN i):=bS h fun σ H Q Hs=>by
 obtain⟨G,env,fp,rr,env',rel,e,k⟩:=Hs;unfold mN at e;split at e
 ·rename_i r hr;cases e;obtain⟨v,fq,ev,HN,st,_⟩:=rel.out hr;exact⟨v,ev,k v H G fq st HN⟩
 ·cases e
theorem ae{e:Expr}{f:FX}(h:QE X e f):QO X e (av f):=bS h fun σ H Q Hs=>by
 obtain⟨G,env,fp,o,env',rel,e,k⟩:=Hs;obtain⟨⟨r,Hg⟩,e1,e⟩:=au e;cases e;refine⟨G,env,fp,r,Hg,rel,e1,fun v H' G' Hk st HN=>?_⟩;obtain⟨G2,b,rv,Hh,Hn⟩:=HN.freeze;exact k v H' G2 b (st.trans Hn) Hh rv
theorem aa{i:Nat}{e:Expr}(h:PE X e (tL i)):QO X e (aq i):=bS h fun σ H Q Hs=>by
 obtain⟨G,env,fp,o,env',rel,e,k⟩:=Hs;unfold aq at e;split at e
 ·rename_i r hr;cases e;obtain⟨v,ev,_⟩:=rel.view hr;exact⟨v,ev,k v H G fp .refl rel ev⟩
 ·cases e
theorem ay:K9 X [] aH:=qP nX fun σ H Q Hs=>by
 obtain⟨G,env,fp,o,env',rel,e,k⟩:=Hs;cases e;exact k [] H G fp .refl rel rfl
theorem af{e:Expr}{es:List Expr}{f:FO}{g:FOs}(h:QO X e f)(hs:K9 X es g)(KC:starEach (e::es) X.env=(false,eval e X.env)::starEach es X.env:=by rfl):K9 X (e::es) (ah f g):=
 qP (gq h hs KC) fun σ H Q Hs=>by
  obtain⟨G,env,fp,o,env',rel,e,k⟩:=Hs;obtain⟨⟨o1,Hg⟩,e1,e⟩:=au e;obtain⟨⟨os,Hm⟩,e2,e⟩:=au e;cases e;exact⟨G,env,fp,o1,Hg,rel,e1,fun v H1 G1 HB Hv Hi IQ=>⟨G1,Hg,HB,os,Hm,Hi,e2,fun vs H2 G2 HQ Hn Hh Ll=>k _ H2 G2 HQ (Hv.trans Hn) Hh ⟨v,vs,rfl,IQ.mono Hn.gg,Ll⟩⟩⟩
def aB(g:D->D->Res R)(fa fb:FO):FX:=fun env=>(fa env).bind fun p=>(fb p.2).bind fun q=>(IK q.2 p.1).bind fun a=>(IK q.2 q.1).bind fun b=>(g a b).bind fun r=>.ok (r,q.2)
def bo(g:D->D->Res R)(fa fb:FO):FX:=fun env=>(fa env).bind fun p=>(fb p.2).bind fun q=>(sO q.2 p.1).bind fun a=>(sO q.2 q.1).bind fun b=>(g a b).bind fun r=>.ok (r,q.2)
structure Goes(K:W.Frag)(H:Hp)(G:Hp)(fp:List Addr)(es:PV.Env)(vs:L2.St)(r:R)(Q:VK):Prop where
 rel:Rel K G H es vs fp
 fX:∀v H' G' Hk,Step G H fp G' H' Hk->Rel K G' H' (some r::es) (some v::vs) Hk->Q v H'
inductive rG(K:W.Frag)(g:D->D->Res R)(x:V)(y:V)(H:Hp)(Q:VK):Prop
 |mk:∀G fp es vs a b r,Goes K H G fp es vs r Q->Vw K G H a x->Vw K G H b y->g a b=.ok r->rG K g x y H Q
inductive rGA(K:W.Frag)(g:D->D->Res R)(x:V)(y:V)(H:Hp)(Q:VK):Prop
 |mk:∀G fp es vs a b r,Goes K H G fp es vs r Q->Rep K H a x->Rep K H b y->g a b=.ok r->rGA K g x y H Q
variable{a b c:Expr}{fa fb fc:FO}{pos:Pos}{g g':D->D->Res R}
theorem qR{σ:L2.St}{H:Hp}{Q:VK}(h:tQ X.K (aB g fa fb) σ H Q):OK (rG X.K g) (tO X.K fa) (tO X.K fb) σ H Q:=by
 obtain⟨G,env,fp,r,env',rel,e,k⟩:=h;obtain⟨⟨oa,e1⟩,ha,e⟩:=au e;obtain⟨⟨ob,e2⟩,hb,e⟩:=au e;obtain⟨da,Mv,e⟩:=au e;obtain⟨db,JA,e⟩:=au e;obtain⟨r',hr,e⟩:=au e;cases e;exact⟨G,env,fp,oa,e1,rel,ha,fun x H1 G1 HB Hv Hi IQ=>⟨G1,e1,HB,ob,e2,Hi,hb,fun y H2 G2 HQ Hn Hh Ll=>
  ⟨G2,HQ,e2,σ,da,db,r,⟨Hh,fun v H' G' Hk st HN=>k v H' G' Hk (Hv.trans (Hn.trans st)) HN⟩,Hh.vw (IQ.mono Hn.gg) Mv,Hh.vw Ll JA,hr⟩⟩⟩
theorem uI{σ:L2.St}{H:Hp}{Q:VK}(h:tQ X.K (bo g fa fb) σ H Q):OK (rGA X.K g) (tO X.K fa) (tO X.K fb) σ H Q:=by
 obtain⟨G,env,fp,r,env',rel,e,k⟩:=h;obtain⟨⟨oa,e1⟩,ha,e⟩:=au e;obtain⟨⟨ob,e2⟩,hb,e⟩:=au e;obtain⟨da,Mv,e⟩:=au e;obtain⟨db,JA,e⟩:=au e;obtain⟨r',hr,e⟩:=au e;cases e;exact⟨G,env,fp,oa,e1,rel,ha,fun x H1 G1 HB Hv Hi IQ=>⟨G1,e1,HB,ob,e2,Hi,hb,fun y H2 G2 HQ Hn Hh Ll=>
  ⟨G2,HQ,e2,σ,da,db,r,⟨Hh,fun v H' G' Hk st HN=>k v H' G' Hk (Hv.trans (Hn.trans st)) HN⟩,Hh.vwA (IQ.mono Hn.gg) Mv,Hh.vwA Ll JA,hr⟩⟩⟩
theorem aM{op:Operator}(ho:HX X (binaryOp op) (rG X.K g))(ha:QO X a fa)(hb:QO X b fb):QE X (.BinOp a op b pos) (aB g fa fb):=bS (Ez ho ha hb) fun _ _ _=>qR
theorem Cr{op:CmpOp}(ho:HX X (compareOp op) (rG X.K g))(ha:QO X a fa)(hb:QO X b fb)(hm:behindInMarks op b=false):QE X (.Compare a [op] [b] pos) (aB g fa fb):=bS (tY ho ha hb hm) fun _ _ _=>qR
theorem zV{op:CmpOp}(ho:HX X (compareOp op) (rGA X.K g))(ha:QO X a fa)(hb:QO X b fb)(hm:behindInMarks op b=false):QE X (.Compare a [op] [b] pos) (bo g fa fb):=bS (tY ho ha hb hm) fun _ _ _=>uI
def HI(f:FX):FT:=fun env=>(f env).bind fun p=>match p.1.2 with
 | .bl k=>.ok (k,p.2)
 |_=>.bad
theorem zW{f:FX}{σ:L2.St}{H:Hp}{Q:Bool->Hp->Prop}(h:tQT X.K (HI f) σ H Q):tQ X.K f σ H fun x H'=>∃k,x=.bl k/\Q k H':=by
 obtain⟨G,env,fp,k,env',rel,e,q⟩:=h;obtain⟨⟨⟨o,d⟩,Hg⟩,e1,e⟩:=au e;dsimp only at e;split at e
 ·cases e;refine⟨G,env,fp,_,_,rel,e1,fun v H' G' Hk st HN=>?_⟩;have hv:=HN.top;rw[show((o,D.bl k):R).2=D.bl k from rfl,Rep]at hv;obtain⟨b,Hh,Hn⟩:=HN.drop;exact⟨k,hv,q H' G' b (st.trans Hn) Hh⟩
 ·cases e
theorem yz{e:Expr}{f:FX}(h:QE X e f)(he:∀whole,isTrue e X.env whole=(do let v <-whole;standAt e.pos;holding [v] (truthy v)):=by intro _;rfl):QT X e (HI f):=qO (BI h he) fun _ _ _=>zW
theorem jT{op:CmpOp}(ho:HX X (compareOp op) (rG X.K g))(ha:QO X a fa)(hb:QO X b fb)(hm:behindInMarks op b=false):QT X (.Compare a [op] [b] pos) (HI (aB g fa fb)):=
 qO (tZ ho ha hb hm) fun _ _ _ h=>qR (zW h)
theorem aP{op:CmpOp}(ho:HX X (compareOp op) (rGA X.K g))(ha:QO X a fa)(hb:QO X b fb)(hm:behindInMarks op b=false):QT X (.Compare a [op] [b] pos) (HI (bo g fa fb)):=
 qO (tZ ho ha hb hm) fun _ _ _ h=>uI (zW h)
def sP(f g:FT):FT:=fun env=>(f env).bind fun p=>if p.1 then g p.2 else .ok (false,p.2)
def Nj(f g:FT):FT:=fun env=>(f env).bind fun p=>if p.1 then .ok (true,p.2) else g p.2
def Cs(f:FT):FT:=fun env=>(f env).bind fun p=>.ok (!p.1,p.2)
variable{ga gb:FT}{dA:List Expr}
theorem e9(h:QT X a ga):QW X (.BoolOp .And [a] pos) ga:=y1 h
theorem uJ(h:QT X a ga):QW X (.BoolOp .Or [a] pos) ga:=BJ h
theorem ij(h:QT X a ga)(h2:QW X (.BoolOp .And (b::dA) pos) gb):QW X (.BoolOp .And (a::b::dA) pos) (sP ga gb):=yy (BK h h2) fun σ H Q Hs=>by
 obtain⟨G,env,fp,k,env',rel,e,q⟩:=Hs;obtain⟨⟨k1,Hg⟩,e1,e⟩:=au e;refine⟨G,env,fp,k1,Hg,rel,e1,fun H1 G1 HB Hv Hi=>?_⟩;dsimp only at e;cases k1 with
 |true=>exact⟨G1,Hg,HB,k,env',Hi,e,fun H2 G2 HQ Hn Hh=>q H2 G2 HQ (Hv.trans Hn) Hh⟩
 |false=>
  cases e;exact q H1 G1 HB Hv Hi
theorem xu(h:QT X a ga)(h2:QW X (.BoolOp .Or (b::dA) pos) gb):QW X (.BoolOp .Or (a::b::dA) pos) (Nj ga gb):=yy (Eo h h2) fun σ H Q Hs=>by
 obtain⟨G,env,fp,k,env',rel,e,q⟩:=Hs;obtain⟨⟨k1,Hg⟩,e1,e⟩:=au e;refine⟨G,env,fp,k1,Hg,rel,e1,fun H1 G1 HB Hv Hi=>?_⟩;dsimp only at e;cases k1 with
 |false=>exact⟨G1,Hg,HB,k,env',Hi,e,fun H2 G2 HQ Hn Hh=>q H2 G2 HQ (Hv.trans Hn) Hh⟩
 |true=>
  cases e;exact q H1 G1 HB Hv Hi
theorem QW.qt{e:Expr}{f:FT}(h:QW X e f):QT X e f:=h.pt
theorem yA(h:QT X a ga):QT X (.UnaryOp .Not a pos) (Cs ga):=qO (BL h) fun σ H Q Hs=>by
 obtain⟨G,env,fp,k,env',rel,e,q⟩:=Hs;obtain⟨⟨k1,Hg⟩,e1,e⟩:=au e;cases e;exact⟨G,env,fp,k1,Hg,rel,e1,fun H1 G1 HB Hv Hi=>q H1 G1 HB Hv Hi⟩
def Hb(f g:FX):FX:=fun env=>(f env).bind fun p=>match p.1.2 with
 | .bl true=>g p.2
 | .bl false=>.ok ((.f,.bl false),p.2)
 |_=>.bad
def eOr(f g:FX):FX:=fun env=>(f env).bind fun p=>match p.1.2 with
 | .bl true=>.ok ((.f,.bl true),p.2)
 | .bl false=>g p.2
 |_=>.bad
def Hc(f:FX):FX:=fun env=>(f env).bind fun p=>match p.1.2 with
 | .bl k=>.ok ((.f,.bl (!k)),p.2)
 |_=>.bad
def eIf(c:FT)(f g:FX):FX:=fun env=>(c env).bind fun p=>if p.1 then f p.2 else g p.2
variable{ea eb:FX}
theorem cQ{K:W.Frag}{G:Hp}(k:Bool):Rep K G (.bl k) (.bl k):=by rw[Rep]
theorem bI{K:W.Frag}{G:Hp}(k:Int):Rep K G (.int k) (.int k):=by rw[Rep]
theorem p3{K:W.Frag}{G:Hp}:Rep K G .non .non:=by rw[Rep]
theorem iE{K:W.Frag}{G:Hp}{l:List Nat}(h:l.length<=sizeLine):Rep K G (.str l) (.str (S l)):=by
 rw[Rep];exact⟨rfl,h⟩
theorem dq{K:W.Frag}{G:Hp}{k:Bool}{v:V}(h:Rep K G (.bl k) v):v=.bl k:=by rw[Rep]at h;exact h
theorem bH{K:W.Frag}{G:Hp}{k:Int}{v:V}(h:Rep K G (.int k) v):v=.int k:=by rw[Rep]at h;exact h
theorem cA{K:W.Frag}{G:Hp}{v:V}(h:Rep K G .non v):v=.non:=by rw[Rep]at h;exact h
theorem bz{K:W.Frag}{G:Hp}{l:List Nat}{v:V}(h:Rep K G (.str l) v):v=.str (S l)/\l.length<=sizeLine:=by rw[Rep]at h;exact h
inductive OfT(K:W.Frag)(G:Hp)(l:List D)(v:V):Prop
 |mk (p:Addr) (xs:List V) (e:v=.ref p) (q:SqT K G p xs) (r:Reps K G l xs):OfT K G l v
inductive OfL(K:W.Frag)(G:Hp)(l:List D)(v:V):Prop
 |mk (p:Addr) (xs:List V) (e:v=.ref p) (q:SqL K G p xs) (r:Reps K G l xs):OfL K G l v
theorem bA{K:W.Frag}{G:Hp}{l:List D}{v:V}(h:Rep K G (.tup l) v):OfT K G l v:=by
 rw[Rep]at h;obtain⟨p,xs,e,q,r⟩:=h;exact⟨p,xs,e,SqT.of q,r⟩
theorem p4{K:W.Frag}{G:Hp}{l:List D}{v:V}(h:Rep K G (.tup l) v):∃p xs,v=.ref p/\G p=some (.tup xs)/\Reps K G l xs:=by rw[Rep]at h;exact h
theorem bE{K:W.Frag}{G:Hp}{l:List D}{v:V}(h:Rep K G (.lst l) v):OfL K G l v:=by
 rw[Rep]at h;obtain⟨p,xs,e,q,r⟩:=h;exact⟨p,xs,e,q,r⟩
theorem bC{K:W.Frag}{G H:Hp}{k:Int}{v:V}(h:Vw K G H (.int k) v):v=.int k:=bH (K:=K) (G:=G) h
theorem fZ{K:W.Frag}{G H:Hp}{l:List Nat}{v:V}(h:Vw K G H (.str l) v):v=.str (S l)/\l.length<=sizeLine:=bz (K:=K) (G:=G) h
theorem ik{K:W.Frag}{G H:Hp}{l:List D}{v:V}(h:Vw K G H (.tup l) v):OfT K G l v:=bA (K:=K) (G:=G) h
noncomputable def FR(g g':D->D->Res R)(fa fb fc:FO):FX:=fun env=>(fa env).bind fun p=>(fb p.2).bind fun q=>(IK q.2 p.1).bind fun a=>(IK q.2 q.1).bind fun b=>(g a b).bind fun r=>match r with
 |(.f,.bl true)=>(fc q.2).bind fun t=>(IK t.2 q.1).bind fun b=>(IK t.2 t.1).bind fun c=>(g' b c).bind fun r=>.ok (r,t.2)
 |(.f,.bl false)=>.ok ((.f,.bl false),q.2)
 |_=>.bad
inductive rC(K:W.Frag)(g:List D->Res R)(xs:List V)(H:Hp)(Q:VK):Prop
 |mk:∀G fp es vs ds r,Goes K H G fp es vs r Q->Ni K G H ds xs->g ds=.ok r->rC K g xs H Q
def a8(g:List D->Res R)(fs:FOs):FX:=fun env=>(fs env).bind fun p=>(oI p.2 p.1).bind fun ds=>(g ds).bind fun r=>.ok (r,p.2)
theorem uK{gg:List D->Res R}{fs:FOs}{σ:L2.St}{H:Hp}{Q:VK}(h:tQ X.K (a8 gg fs) σ H Q):QX (rC X.K gg) (tOs X.K fs) σ H Q:=by
 obtain⟨G,env,fp,r,env',rel,e,k⟩:=h;obtain⟨⟨os,e1⟩,ha,e⟩:=au e;obtain⟨ds,hd,e⟩:=au e;obtain⟨r',hr,e⟩:=au e;cases e;exact⟨G,env,fp,os,e1,rel,ha,fun vs H1 G1 HB Hv Hi IQ=>⟨G1,HB,e1,σ,ds,r,⟨Hi,fun v H' G' Hk st HN=>k v H' G' Hk (Hv.trans st) HN⟩,Hi.vws IQ hd,hr⟩⟩
variable{x:Str}{p:Pos}{e:Expr}{es:List Expr}{gg:List D->Res R}{fs:FOs}{id T:String}
theorem a9(hc:dm X (.builtin id) (rC X.K gg))(hg:Gl X x)(hm:X.mg x=none)(hv:bootBuiltins x=some (.builtin id))(ha:K9 X (e::es) fs)(hn:x≠"__name__":=by decide)(JA:(x==("__debug__" : Str))=false:=by decide)
  (he:starEach (e::es) X.env=(false,eval e X.env)::starEach es X.env:=by rfl) (IZ:(backTo pos (starEach es X.env)).any (·.1)=false:=by rfl):QE X (.Call (.Name x p) (e::es) [] pos) (a8 gg fs):=
 bS (qC hc hg hm hv ha hn JA he IZ) fun _ _ _=>uK
theorem bK(hc:dm X (.type T) (rC X.K gg))(hg:Gl X x)(hm:X.mg x=none)(hv:bootBuiltins x=some (.type T))(ha:K9 X (e::es) fs)(hn:x≠"__name__":=by decide)(JA:(x==("__debug__" : Str))=false:=by decide)
  (he:starEach (e::es) X.env=(false,eval e X.env)::starEach es X.env:=by rfl) (IZ:(backTo pos (starEach es X.env)).any (·.1)=false:=by rfl):QE X (.Call (.Name x p) (e::es) [] pos) (a8 gg fs):=
 bS (ue hc hg hm hv ha hn JA he IZ) fun _ _ _=>uK
inductive spF(K:W.Frag)(F:List D->Res R)(vs:List V)(H:Hp)(Q:VK)(zz:XK):Prop
 |mk:∀G ds r,Same G H->Reps K G ds vs->F ds=.ok r->(∀v H' G' Hk,Step G H [] G' H' Hk->Rel K G' H' [some r] [some v] Hk->Q v H')->spF K F vs H Q zz
def eL(F:List D->Res R)(fs:FOs):FX:=fun env=>(fs env).bind fun p=>(iY p.2 p.1).bind fun ds=>(F ds).bind fun r=>.ok (r,if cleanR r.1 r.2 then p.2 else p.2.map frz)
theorem bq{F:List D->Res R}{k:Nat}(C:Ct X.prog X.w X.K X.mg X.base x k (spF X.K F))(hr:Room k X.A)(hg:Gl X x)(ha:K9 X (e::es) fs)(JA:(x==("__debug__" : Str))=false:=by decide)
  (he:starEach (e::es) X.env=(false,eval e X.env)::starEach es X.env:=by rfl) (IZ:(backTo pos (starEach es X.env)).any (·.1)=false:=by rfl):QE X (.Call (.Name x p) (e::es) [] pos) (eL F fs):=
 bS (zo C hr hg ha JA he IZ) fun σ H Q Hs=>by
  obtain⟨G,env,fp,r,env',rel,e,k⟩:=Hs;obtain⟨⟨os,e1⟩,ha,e⟩:=au e;obtain⟨ds,hd,e⟩:=au e;obtain⟨r',hr,e⟩:=au e;refine⟨G,env,fp,os,e1,rel,ha,fun vs H1 G1 HB Hv Hi IQ=>?_⟩;show spF X.K F (vs++[]) H1 Q _;rw[Te];obtain⟨G2,Mw,NP,JC,_,JL⟩:=Hi.lend;refine⟨G2,ds,r',NP,iZ Mw JC IQ hd,hr,fun v H' G' Hk st HN=>?_⟩;obtain⟨k1,k2⟩:=JL H' G' Hk r' v st HN;by_cases hc:cleanR r'.1 r'.2=true
  ·rw[SU hc]at e;cases e;obtain⟨G3,IJ,HM,HJ⟩:=k1 hc;exact k v H' G3 IJ (Hv.trans HM) HJ
  ·rw[SX hc]at e;cases e;obtain⟨G3,IJ,HM,HJ⟩:=k2;exact k v H' G3 IJ (Hv.trans HM) HJ
end
def sSeq(g1 g2:FS):FS:=fun env=>(g1 env).bind fun o=>match o with
 | .nx e=>g2 e
 |o=>.ok o
def cw:FS:=fun env=>.ok (.nx env)
def yB:FS:=fun _=>.bad
def bL(i:Nat)(f:FX):FS:=fun env=>(f env).bind fun p=>if i<p.2.length then .ok (.nx (p.2.set i (some p.1))) else .bad
def i0(f:FX):FS:=fun env=>(f env).bind fun p=>.ok (.nx p.2)
def d9(f:FX):FS:=fun env=>(f env).bind fun p=>.ok (.rt p.1)
def Iu(c:FT)(g h:FS):FS:=fun env=>(c env).bind fun p=>if p.1 then g p.2 else h p.2
section
variable{md:Mode}{X:Cx}{st:Stmt}{R6:List Stmt}{g h:FS}{f:FX}{c:FT}{pos:Pos}{e:Expr}
theorem aX:Lk (md:=md) X [] cw:=uH y3 fun D σ H ⟨G,env,fp,rel,k⟩=>k σ H G fp .refl rel
theorem aA(a:QS (md:=md) X st g):Lk (md:=md) X [st] g:=y4 a
theorem ag(a:QS (md:=md) X st g)(b:Lk (md:=md) X R6 h):Lk (md:=md) X (st::R6) (sSeq g h):=uH (wR a b) fun D σ H Hs=>by
 obtain⟨G,env,fp,rel,k⟩:=Hs;refine⟨G,env,fp,rel,?_⟩;have k:OutOk X.K G H fp D ((g env).bind fun o=>match o with | .nx e=>h e|o=>.ok o):=k;match q:g env,k with
 | .ok (.nx Hg),k=>exact fun σ1 H1 G1 HB Hv Hi=>⟨G1,Hg,HB,Hi,OutOk.after Hv k⟩
 | .ok (.bk Hg),k=>exact k
 | .ok (.ct Hg),k=>exact k
 | .ok (.rt r),k=>exact k
theorem xv:QS (md:=md) X st yB:=d6 wU fun D σ H ⟨G,env,fp,rel,k⟩=>k
theorem uL{K:W.Frag}{G H:Hp}{fp:List Addr}{D:Ends}{i:Nat}{env:PV.Env}{σ:L2.St}(rel:Rel K G H env σ fp)(k:OutOk (md:=md) K G H fp D (bL i f env)):tQ K f σ H fun v H'=>D.nx (σ.set i (some v)) H':=by
 unfold bL at k;match q:f env,k with
 | .ok (r,Hg),k=>
  have k:OutOk K G H fp D (if i<Hg.length then .ok (.nx (Hg.set i (some r))) else .bad):=k;by_cases hi:i<Hg.length
  ·rw[SU hi]at k;refine⟨G,env,fp,r,Hg,rel,q,fun v H1 G1 HB Hv Hi=>?_⟩;obtain⟨fq,Hh,Hn⟩:=Hi.store hi;exact k _ H1 G1 fq (Hv.trans Hn) Hh
  ·rw[SX hi]at k;exact k.elim
theorem aG{i:Nat}{x:Str}{pos':Pos}(hN:X.N.Nodup)(hi:X.N[i]?=some x)(hx:Loc X.env.scope x)(he:QE X e f)(hs:swapsWith e (some (.Name x pos')) pos.line X.env=pure false:=by rfl)(hf:X.fn x=true\/X.env.scope.names.lookup x=some .local:=by first|exact .inl rfl|exact .inr rfl|assumption):
  QS (md:=md) X (.Assign [.Name x pos'] e pos) (bL i f):=d6 (BQ (i:=i) hN hi hx he hs hf) fun D σ H ⟨G,env,fp,rel,k⟩=>uL rel k
theorem eh(he:QE X e f)(hs:swapsWith e none pos.line X.env=pure false:=by rfl):QS (md:=md) X (.Expr e pos) (i0 f):=d6 (y6 he hs) fun D σ H Hs=>by
 obtain⟨G,env,fp,rel,k⟩:=Hs;unfold i0 at k;match q:f env,k with
 | .ok (r,Hg),k=>
  refine⟨G,env,fp,r,Hg,rel,q,fun v H1 G1 HB Hv Hi=>?_⟩;obtain⟨b,Hh,Hn⟩:=Hi.drop;exact k _ H1 G1 b (Hv.trans Hn) Hh
theorem Rel.only{K:W.Frag}{G H:Hp}{r:R}{v:V}{es:PV.Env}{vs:L2.St}{fp:List Addr}(q:Rel K G H (some r::es) (some v::vs) fp):∃a,Rel K G H [some r] [some v] a/\Step G H fp G H a:=by
 obtain⟨y,ys,e,v',a,b,e1,e2,r1,r2⟩:=q.rep;cases e;cases e1;subst e2;have nd:=Ti.mp q.nd;exact⟨a,⟨⟨some v,[],rfl,v,a,[],rfl,(Te _).symm,r1,rfl,rfl⟩,nd.1,fun p hp=>q.gn p (SR _ hp),q.gh⟩,Step.cut fun p hp=>SR _ hp⟩
theorem ba(he:QE X e f):QS (md:=.plain) X (.Return (some e) pos) (d9 f):=d6 (yj he) fun D σ H Hs=>by
 obtain⟨G,env,fp,rel,k⟩:=Hs;unfold d9 at k;match q:f env,k with
 | .ok (r,Hg),k=>
  refine⟨G,env,fp,r,Hg,rel,q,fun v H1 G1 HB Hv Hi=>?_⟩;obtain⟨b,Hh,Hn⟩:=Hi.only;exact k _ H1 G1 b (Hv.trans Hn) Hh
theorem Rel.nilF{K:W.Frag}{G H:Hp}{es:PV.Env}{vs:L2.St}{fp:List Addr}(q:Rel K G H es vs fp):Rel K G H [] [] []:=⟨⟨rfl,rfl⟩,Ug,(fun _ h=>nomatch h),q.gh⟩
theorem cJ{a b:List Stmt}{ct:Expr}(hc:QT X ct c)(ha:Lk (md:=md) X a g)(hb:Lk (md:=md) X b h):QS (md:=md) X (.If ct a b pos) (Iu c g h):=d6 (Es hc ha hb) fun D σ H Hs=>by
 obtain⟨G,env,fp,rel,k⟩:=Hs;unfold Iu at k;match q:c env,k with
 | .ok (true,Hg),k=>exact⟨G,env,fp,true,Hg,rel,q,fun H1 G1 HB Hv Hi=>EM ⟨G1,Hg,HB,Hi,OutOk.after Hv k⟩⟩
 | .ok (false,Hg),k=>exact⟨G,env,fp,false,Hg,rel,q,fun H1 G1 HB Hv Hi=>iteF ⟨G1,Hg,HB,Hi,OutOk.after Hv k⟩⟩
def cq(c:FT)(g:FS):Nat->FS
 | 0,_=>.bad
 |n+1,env=>(c env).bind fun p=>if p.1 then(g p.2).bind fun o=>match o with
  | .nx e=>cq c g n e
  | .ct e=>cq c g n e
  | .bk e=>.ok (.nx e)
  | .rt r=>.ok (.rt r)
  else .ok (.nx p.2)
theorem kq{ct:Expr}{body:List Stmt}(n:Nat)(hp:PassesOwn (model X.prog X.w) X.A X.env X.xe)(hc:QT X ct c)(hb:Lk (md:=md) X body g):QS (md:=md) X (.While ct body [] pos) (cq c g n):=
 d6 (wW hp hc hb) fun D σ H Hs=>by
  obtain⟨G,env,fp,rel,k⟩:=Hs;refine⟨fun m σ' H'=>∃G' env' Hk,Rel X.K G' H' env' σ' Hk/\OutOk X.K G' H' Hk D (cq c g m env'),⟨n,G,env,fp,rel,k⟩,?_⟩;rintro m σ1 H1 ⟨G1,Hg,HB,Hi,k1⟩;cases m with
  |zero=>exact k1.elim
  |succ m=>
   unfold cq at k1;match q:c Hg,k1 with
   | .ok (false,Hm),k1=>exact⟨G1,Hg,HB,false,Hm,Hi,q,fun H2 G2 HQ Hn Hh=>iteF (k1 _ H2 G2 HQ Hn Hh)⟩
   | .ok (true,Hm),k1=>
    refine⟨G1,Hg,HB,true,Hm,Hi,q,fun H2 G2 HQ Hn Hh=>EM ?_⟩;refine⟨fun σ' H'=>∃G' env' Hk,Rel X.K G' H' env' σ' Hk/\OutOk X.K G' H' Hk D (cq c g m env'),fun σ' H' z=>⟨m,UX _,z⟩,G2,Hm,HQ,Hh,?_⟩;have k2:OutOk X.K G1 H1 HB D ((g Hm).bind fun o=>match o with | .nx e=>cq c g m e | .ct e=>cq c g m e | .bk e=>.ok (.nx e) | .rt r=>.ok (.rt r)):=k1;match q2:g Hm,k2 with
    | .ok (.nx e),k2=>exact fun σ' H' G' Hk st rel=>⟨G',e,Hk,rel,OutOk.after (Hn.trans st) k2⟩
    | .ok (.ct e),k2=>exact fun σ' H' G' Hk st rel=>⟨G',e,Hk,rel,OutOk.after (Hn.trans st) k2⟩
    | .ok (.bk e),k2=>exact fun σ' H' G' Hk st rel=>k2 σ' H' G' Hk (Hn.trans st) rel
    | .ok (.rt r),k2=>exact fun v H' G' Hk st rel=>k2 v H' G' Hk (Hn.trans st) rel
def Walk(K:W.Frag)(G:Hp)(J:It)(ds:List D):Prop:=∀G' H' es vs fp,Same G G'->Rel K G' H' es vs fp->∀i:Nat,
 (∀d,ds[i]?=some d->J.go i H'/\∀x H2,J.yld i H' x H2->∃G2,Rep K G2 d x/\Rel K G2 H2 es vs fp/\Step G' H' fp G2 H2 fp)/\(i=ds.length->J.stop i H')
abbrev FI:=PV.Env->Res (List D×PV.Env)
inductive tQI(K:W.Frag)(f:FI)(σ:L2.St)(H:Hp)(R:It->Hp->Prop):Prop
 |mk:∀G env fp ds env',Rel K G H env σ fp->f env=.ok (ds,env')->(∀J H' G' Hk,Step G H fp G' H' Hk->Rel K G' H' env' σ Hk->Walk K G' J ds->R J H')->tQI K f σ H R
def QI(X:Cx)(tg e:Expr)(f:FI):Prop:=PI X tg e (tQI X.K f)
theorem jU{X:Cx}{tg e:Expr}{t t':TI}(h:PI X tg e t)(k:∀σ H R,t' σ H R->t σ H R):PI X tg e t':=fun pr s σ H R I w=>h pr s σ H R I (k σ H R w)
abbrev FG:=D->PV.Env->Res PV.Env
inductive tQG(K:W.Frag)(a:FG)(v:V)(σ:L2.St)(H:Hp)(Q:L2.St->Hp->Prop):Prop
 |mk:∀G env fp d env',Rel K G H env σ fp->Rep K G d v->a d env=.ok env'->(∀σ' G' Hk,Step G H fp G' H Hk->Rel K G' H env' σ' Hk->Q σ' H)->tQG K a v σ H Q
def QG(X:Cx)(tg:Expr)(a:FG):Prop:=PG X tg (tQG X.K a)
def aD(i:Nat):FG:=fun d env=>if i<env.length then .ok (env.set i (some (.f,d))) else .bad
theorem yC{X:Cx}{tg:Expr}{t t':TG}(h:PG X tg t)(k:∀v σ H Q,t' v σ H Q->t v σ H Q):PG X tg t':=fun pr s σ H v u Q I r w=>h pr s σ H v u Q I r (k v σ H Q w)
theorem uM{X:Cx}{tg:List Expr}{t t':Na}(h:Nw X tg t)(k:∀v σ H Q,t' v σ H Q->t v σ H Q):Nw X tg t':=fun pr s σ H v u Q I r w=>h pr s σ H v u Q I r (k v σ H Q w)
theorem aJ{i:Nat}{x:Str}(hN:X.N.Nodup)(hi:X.N[i]?=some x)(hx:Loc X.env.scope x)(hf:X.fn x=true\/X.env.scope.names.lookup x=some .local:=by first|exact .inl rfl|exact .inr rfl|assumption):QG X (.Name x pos) (aD i):=
 yC (y7 (i:=i) hN hi hx hf) fun v σ H Q Hs=>by
  obtain⟨G,env,fp,d,env',rel,r,e,k⟩:=Hs;unfold aD at e;split at e
  ·rename_i hl;cases e;obtain⟨fq,Hh,Hn⟩:=(rel.push r).store hl;exact k _ G fq Hn Hh
  ·cases e
abbrev Mx:=List D->PV.Env->Res PV.Env
inductive tQGs(K:W.Frag)(a:Mx)(vs:List V)(σ:L2.St)(H:Hp)(Q:L2.St->Hp->Prop):Prop
 |mk:∀G env fp ds env',Rel K G H env σ fp->Reps K G ds vs->a ds env=.ok env'->(∀σ' G' Hk,Step G H fp G' H Hk->Rel K G' H env' σ' Hk->Q σ' H)->tQGs K a vs σ H Q
def Qt(X:Cx)(tg:List Expr)(a:Mx):Prop:=Nw X tg (tQGs X.K a)
def dr:Mx:=fun ds env=>match ds with
 |[]=>.ok env
 |_=>.bad
def aN(a:FG)(b:Mx):Mx:=fun ds env=>match ds with
 |d::ds=>(a d env).bind fun e=>b ds e
 |_=>.bad
theorem dJ:Qt X [] dr:=uM y8 fun vs σ H Q Hs=>by
 obtain⟨G,env,fp,ds,env',rel,r,e,k⟩:=Hs;cases ds with
 |nil=>
  cases e;rw[Reps]at r;exact⟨r,k σ G fp .refl rel⟩
 |cons d ds=>cases e
theorem aS{tg:Expr}{Lm:List Expr}{a:FG}{b:Mx}(h1:QG X tg a)(h2:Qt X Lm b)(hs:(assignEach (tg::Lm) X.env).map (·.2)=assign tg X.env::(assignEach Lm X.env).map (·.2):=by rfl):Qt X (tg::Lm) (aN a b):=
 uM (wV h1 h2 hs) fun vs σ H Q Hs=>by
  obtain⟨G,env,fp,ds,env',rel,r,e,k⟩:=Hs;cases ds with
  |nil=>cases e
  |cons d ds=>
   rw[Reps]at r;obtain⟨y,ys,ev,r1,r2⟩:=r;obtain⟨Hg,e1,e2⟩:=au e;exact⟨y,ys,ev,G,env,fp,d,Hg,rel,r1,e1,fun σ1 G1 HB Hv Hi=>⟨G1,Hg,HB,ds,env',Hi,r2.mono Hv.gg,e2,fun σ2 G2 HQ Hn Hh=>k σ2 G2 HQ (Hv.trans Hn) Hh⟩⟩
def jA(n:Nat)(a:Mx):FG:=fun d env=>match d with
 | .tup ds=>if ds.length=n then a ds env else .bad
 |_=>.bad
theorem f6{Lm:List Expr}{k n:Nat}{a:Mx}(hc:X.calm=true)(h:Qt X Lm a)(hn:(assignEach Lm X.env).length=n:=by rfl)(KC:(assignEach Lm X.env).findIdx? (·.1)=none:=by rfl):QG X (.Tuple Lm k pos) (jA n a):=
 yC (BO hc h hn KC) fun v σ H Q Hs=>by
  obtain⟨G,env,fp,d,env',rel,r,e,k⟩:=Hs;unfold jA at e;split at e
  ·rename_i ds;split at e
   ·rename_i hl;obtain⟨p,xs,ev,sq,rs⟩:=bA r;exact⟨p,xs,ev,bV rel.gh sq,rs.length.trans hl,G,env,fp,ds,env',rel,rs,e,k⟩
   ·cases e
  ·cases e
def dN(a:FG)(g:FS):List D->FS
 |[],env=>.ok (.nx env)
 |d::ds,env=>(a d env).bind fun e=>(g e).bind fun o=>match o with
  | .nx e=>dN a g ds e
  | .ct e=>dN a g ds e
  | .bk e=>.ok (.nx e)
  | .rt r=>.ok (.rt r)
def oJ(f:FI)(a:FG)(g:FS):FS:=fun env=>(f env).bind fun p=>dN a g p.1 p.2
theorem eT{tg iter:Expr}{body:List Stmt}{fi:FI}{a:FG}(hp:PassesOwn (model X.prog X.w) X.A X.env X.xe)(hc:X.calm=true)(hi:QI X tg iter fi)(hg:QG X tg a)(hb:Lk (md:=md) X body g)(hs:∀x,foldedSetIterable iter X.env x=pure x:=by intro _;rfl):QS (md:=md) X (.For tg iter body [] pos) (oJ fi a g):=
 d6 (yk hp hc hi hg hb hs) fun D σ H Hs=>by
  obtain⟨G,env,fp,rel,k⟩:=Hs;unfold oJ at k;match q:fi env,k with
  | .ok (ds,Hg),k=>
   refine⟨G,env,fp,ds,Hg,rel,q,fun J H1 G1 HB Hv Hi wk=>?_⟩;have k:OutOk X.K G H fp D (dN a g ds Hg):=k;refine⟨fun i m σ' H'=>m=ds.length-i/\i<=ds.length/\∃G' env' Hk,Same G1 G'/\Rel X.K G' H' env' σ' Hk/\OutOk X.K G' H' Hk D (dN a g (ds.drop i) env'),⟨_,rfl,Tw _,G1,Hg,HB,.refl _,Hi,OutOk.after Hv k⟩,?_⟩;rintro i m σ2 H2 ⟨rfl,hi,G2,Hm,HQ,gg,Hh,k2⟩;obtain⟨w1,w2⟩:=wk G2 H2 _ _ _ gg Hh i;by_cases HW:i<ds.length
   ·have hd:ds[i]?=some ds[i]:=List.getElem?_eq_getElem HW;obtain⟨go,yl⟩:=w1 _ hd;rw[Vb HW]at k2;refine .inr ⟨go,fun σ' H'=>∃G' env' Hk,Same G1 G'/\Rel X.K G' H' env' σ' Hk/\OutOk X.K G' H' Hk D (dN a g (ds.drop (i+1)) env'),fun σ' H' z=>⟨ds.length-(i+1),by lia,rfl,HW,z⟩,fun x H3 y=>?_⟩;obtain⟨G3,rx,HJ,HM⟩:=yl x H3 y;unfold dN at k2;match q3:a ds[i] Hm,k2 with
    | .ok HV,k2=>
     refine⟨G3,Hm,HQ,ds[i],HV,HJ,rx,q3,fun σ4 G4 NQ Io HY=>⟨G4,HV,NQ,HY,?_⟩⟩;have k3:OutOk X.K G2 H2 HQ D ((g HV).bind fun o=>match o with | .nx e=>dN a g (ds.drop (i+1)) e | .ct e=>dN a g (ds.drop (i+1)) e | .bk e=>.ok (.nx e) | .rt r=>.ok (.rt r)):=k2;match q4:g HV,k3 with
     | .ok (.nx e),k3=>exact fun σ' H' G' Hk st rel=>⟨G',e,Hk,gg.trans (HM.gg.trans (Io.gg.trans st.gg)),rel,OutOk.after (HM.trans (Io.trans st)) k3⟩
     | .ok (.ct e),k3=>exact fun σ' H' G' Hk st rel=>⟨G',e,Hk,gg.trans (HM.gg.trans (Io.gg.trans st.gg)),rel,OutOk.after (HM.trans (Io.trans st)) k3⟩
     | .ok (.bk e),k3=>exact fun σ' H' G' Hk st rel=>k3 σ' H' G' Hk (HM.trans (Io.trans st)) rel
     | .ok (.rt r),k3=>exact fun v H' G' Hk st rel=>k3 v H' G' Hk (HM.trans (Io.trans st)) rel
   ·have e:i=ds.length:=by lia
    subst e;rw[Wq]at k2;exact .inl ⟨w2 rfl,k2 σ2 H2 G2 HQ .refl Hh⟩
def Cu(f:FX):FI:=fun env=>(f env).bind fun p=>match p.1.2 with
 | .lst ds=>.ok (ds,p.2)
 |_=>.bad
def ib(f:FX):FI:=fun env=>(f env).bind fun p=>match p.1.2 with
 | .tup ds=>.ok (ds,p.2)
 |_=>.bad
variable{tg l:Expr}
theorem oK{K:W.Frag}{G:Hp}{a:Addr}{xs:List V}{ds:List D}(sq:SqL K G a xs)(rs:Reps K G ds xs):Walk K G (OI K a) ds:=by
 intro G' H' es vs fp gg rel i;have Jc:SqL K H' a xs:=g8 rel.gh (g8 gg sq);refine⟨fun d hd=>?_,fun e=>⟨xs,Jc,by rw[rs.length];lia⟩⟩;obtain⟨x,hx,rx⟩:=rs.get hd;refine⟨⟨xs,x,Jc,hx⟩,fun y H2 ⟨e,hy⟩=>?_⟩;subst e;have:=hy xs Jc;rw[hx]at this;cases this;exact⟨G',Rep.mono gg rx,rel,.refl⟩
theorem xw{K:W.Frag}{G:Hp}{a:Addr}{xs:List V}{ds:List D}(sq:SqT K G a xs)(rs:Reps K G ds xs):Walk K G (QQ K a) ds:=by
 intro G' H' es vs fp gg rel i;have Jc:SqT K H' a xs:=bV rel.gh (bV gg sq);refine⟨fun d hd=>?_,fun e=>⟨xs,Jc,by rw[rs.length];lia⟩⟩;obtain⟨x,hx,rx⟩:=rs.get hd;refine⟨⟨xs,x,Jc,hx⟩,fun y H2 ⟨e,hy⟩=>?_⟩;subst e;have:=hy xs Jc;rw[hx]at this;cases this;exact⟨G',Rep.mono gg rx,rel,.refl⟩
theorem zX(h:QE X l f):QI X tg l (Cu f):=jU (tP h) fun σ H R Hs=>by
 obtain⟨G,env,fp,ds,env',rel,e,k⟩:=Hs;obtain⟨⟨⟨o,d⟩,Hg⟩,e1,e⟩:=au e;dsimp only at e;split at e
 ·cases e;refine⟨G,env,fp,_,_,rel,e1,fun v H1 G1 HB Hv Hi=>?_⟩;obtain⟨G2,b,rv,Hh,Hn⟩:=Hi.freeze;obtain⟨p,xs,ev,sq,rs⟩:=bE rv;exact⟨p,ev,⟨xs,g8 Hh.gh sq⟩,k _ H1 G2 b (Hv.trans Hn) Hh (oK sq rs)⟩
 ·cases e
theorem i4(h:QE X l f):QI X tg l (ib f):=jU (BS h) fun σ H R Hs=>by
 obtain⟨G,env,fp,ds,env',rel,e,k⟩:=Hs;obtain⟨⟨⟨o,d⟩,Hg⟩,e1,e⟩:=au e;dsimp only at e;split at e
 ·cases e;refine⟨G,env,fp,_,_,rel,e1,fun v H1 G1 HB Hv Hi=>?_⟩;obtain⟨G2,b,rv,Hh,Hn⟩:=Hi.freeze;obtain⟨p,xs,ev,sq,rs⟩:=bA rv;exact⟨p,ev,⟨xs,bV Hh.gh sq⟩,k _ H1 G2 b (Hv.trans Hn) Hh (xw sq rs)⟩
 ·cases e
def ic(f:FX):FI:=fun env=>(f env).bind fun p=>match p.1.2 with
 | .str l=>.ok (l.map fun c=>.str [c],p.2)
 |_=>.bad
theorem i5(h:QE X l f):QI X tg l (ic f):=jU (Ce h) fun σ H R Hs=>by
 obtain⟨G,env,fp,ds,env',rel,e,k⟩:=Hs;obtain⟨⟨⟨o,d⟩,Hg⟩,e1,e⟩:=au e;dsimp only at e;split at e
 ·rename_i cs;cases e;refine⟨G,env,fp,_,_,rel,e1,fun v H1 G1 HB Hv Hi=>?_⟩;obtain⟨G2,b,rv,Hh,Hn⟩:=Hi.freeze;obtain⟨ev,hl⟩:=bz rv;refine⟨cs,ev,k _ H1 G2 b (Hv.trans Hn) Hh fun G' H' es vs Hk gg HN i=>⟨fun d hd=>?_,fun e=>?_⟩⟩
  ·rw[List.getElem?_map]at hd;cases hc:cs[i]? with
   |none=>rw[hc]at hd;cases hd
   |some c=>
    rw[hc]at hd;cases hd;refine⟨(List.getElem?_eq_some_iff.mp hc).1,fun x H2 ⟨e1,e2⟩=>?_⟩;subst e1;refine⟨G',?_,HN,.refl⟩;rw[e2];show Rep X.K G' (.str [c]) (.str (S [cs.getD i 0]));rw[List.getD_eq_getElem?_getD,hc];exact iE (by rw[line_eq];simp)
  ·rw[SJ]at e;exact e
 ·cases e
def dO(f:FO):FI:=fun env=>(f env).bind fun p=>(IK p.2 p.1).bind fun d=>match d with
 | .int j=>if -4611686018427387904<=j/\j<4611686018427387904 then .ok ((List.range j.toNat).map fun(k:Nat)=>D.int (k:Int),p.2) else .bad
 |_=>.bad
theorem lX{K:W.Frag}{G:Hp}(lo:Int)(n:Nat):Walk K G (OZ lo n) ((List.range n).map fun(k:Nat)=>D.int (lo+(k:Int))):=by
 intro G' H' es vs fp gg rel i;refine⟨fun d hd=>?_,fun e=>?_⟩
 ·rw[List.getElem?_map]at hd;cases hc:(List.range n)[i]? with
  |none=>rw[hc]at hd;cases hd
  |some c=>
   rw[hc]at hd;cases hd;obtain⟨h1,h2⟩:=List.getElem?_eq_some_iff.mp hc;rw[Tp]at h1;rw[Xh]at h2;subst h2;refine⟨h1,fun x H2 ⟨e1,e2⟩=>?_⟩;subst e1;exact⟨G',by rw[e2];exact bI _,rel,.refl⟩
 ·rw[SJ,Tp]at e;exact Nat.le_of_eq e.symm
theorem eB{a:Expr}{fa:FO}{p pos:Pos}(hg:Gl X "range")(hm:X.mg "range" = none)(ha:QO X a fa)(hs:starEach [a] X.env=[(false,eval a X.env)]:=by rfl):QI X tg (.Call (.Name "range" p) [a] [] pos) (dO fa):=
 jU (tR hg hm (af ha ay hs) hs) fun σ H R Hs=>by
  obtain⟨G,env,fp,ds,env',rel,e,k⟩:=Hs;obtain⟨⟨o,Hg⟩,e1,e⟩:=au e;obtain⟨d,e2,e⟩:=au e;dsimp only at e;split at e
  ·rename_i j;split at e
   ·rename_i hj;cases e;refine⟨G,env,fp,[o],_,rel,by show(fa env).bind _=_;rw[e1];rfl,fun vs H1 G1 HB Hv Hi IQ=>?_⟩;obtain⟨y,ys,ev,k1,k2⟩:=IQ;have k2:ys=[]:=k2;subst k2;have hv:=bC (Hi.vw k1 e2);subst hv;refine⟨j,ev,by lia,by lia,k _ H1 G1 HB Hv Hi ?_⟩;have w:=lX (K:=X.K) (G:=G1) 0 j.toNat
    simpa using w
   ·cases e
  ·cases e
noncomputable def p5(fs:FOs):FI:=fun env=>(fs env).bind fun p=>(oI p.2 p.1).bind fun d=>match d with
 |[.int i,.int j]=>if(-4611686018427387904<=i/\i<4611686018427387904)/\-4611686018427387904<=j/\j<4611686018427387904 then .ok ((List.range (j-i).toNat).map fun(k:Nat)=>D.int (i+(k:Int)),p.2) else .bad
 |_=>.bad
theorem uN{a b:Expr}{fs:FOs}{p pos:Pos}(hg:Gl X "range")(hm:X.mg "range" = none)(ha:K9 X [a,b] fs)(hs:starEach [a,b] X.env=[(false,eval a X.env),(false,eval b X.env)]:=by rfl)(OJ:starEach [b] X.env=[(false,eval b X.env)]:=by rfl):
  QI X tg (.Call (.Name "range" p) [a,b] [] pos) (p5 fs):=
 jU (tS hg hm ha hs OJ) fun σ H R Hs=>by
  obtain⟨G,env,fp,ds,env',rel,e,k⟩:=Hs;obtain⟨⟨o,Hg⟩,e1,e⟩:=au e;obtain⟨d,e2,e⟩:=au e;dsimp only at e;split at e
  ·rename_i i j;split at e
   ·rename_i hj;cases e;refine⟨G,env,fp,o,_,rel,e1,fun vs H1 G1 HB Hv Hi IQ=>?_⟩;obtain⟨y,ys,ev,v1,z,zs,Rk,v2,e3⟩:=Hi.vws IQ e2;have e3:zs=[]:=e3;subst e3;have h1:=bC v1;have h2:=bC v2;subst h1;subst h2;subst Rk;exact⟨i,j,ev,⟨by lia,by lia,by lia,by lia⟩,k _ H1 G1 HB Hv Hi (lX i _)⟩
   ·cases e
  ·cases e
def jG(k:Bool):D->Res (List D)
 | .lst ds=>if k then .ok ds else .bad
 | .tup ds=>if k then .bad else .ok ds
 |_=>.bad
def sQ(k1 k2:Bool)(fs:FOs):FI:=fun env=>(fs env).bind fun p=>match p.1 with
 |[.val d1,.val d2]=>(jG k1 d1).bind fun a=>(jG k2 d2).bind fun b=>.ok ((a.zip b).map fun z=>D.tup [z.1,z.2],p.2)
 |_=>.bad
theorem qS{K:W.Frag}{G:Hp}{k:Bool}{d:D}{ds:List D}{v:V}(e:jG k d=.ok ds)(r:Rep K G d v):∃p xs,v=.ref p/\(if k then SqL K G p xs else SqT K G p xs)/\Reps K G ds xs:=by
 cases d with
 |lst es=>
  cases k with
  |true=>
   cases e;obtain⟨p,xs,e1,q,rs⟩:=bE r;exact⟨p,xs,e1,q,rs⟩
  |false=>cases e
 |tup es=>
  cases k with
  |true=>cases e
  |false=>
   cases e;obtain⟨p,xs,e1,q,rs⟩:=bA r;exact⟨p,xs,e1,q,rs⟩
 |_=>cases e
theorem mO{K:W.Frag}{G G':Hp}{k:Bool}{p:Addr}{xs:List V}(h:Same G G')(r:if k then SqL K G p xs else SqT K G p xs):if k then SqL K G' p xs else SqT K G' p xs:=by
 cases k with
 |true=>exact g8 h r
 |false=>exact bV h r
theorem xx{K:W.Frag}{G:Hp}{k1 k2:Bool}{p1 p2:Addr}{xs ys:List V}{as bs:List D}(s1:if k1 then SqL K G p1 xs else SqT K G p1 xs)(s2:if k2 then SqL K G p2 ys else SqT K G p2 ys)(r1:Reps K G as xs)(r2:Reps K G bs ys):
  Walk K G (Q8 K k1 k2 p1 p2) ((as.zip bs).map fun z=>D.tup [z.1,z.2]):=by
 intro G' H' es vs fp gg rel i;have g1:=mO (gg.trans rel.gh) s1;have g2:=mO (gg.trans rel.gh) s2;refine⟨fun d hd=>?_,fun e=>⟨xs,ys,g1,g2,?_⟩⟩
 ·rw[List.getElem?_map]at hd;cases hz:(as.zip bs)[i]? with
  |none=>rw[hz]at hd;cases hd
  |some z=>
   rw[hz]at hd;cases hd;obtain⟨h1,h2⟩:=List.getElem?_zip_eq_some.mp hz;obtain⟨x,hx,rx⟩:=r1.get h1;obtain⟨y,hy,ry⟩:=r2.get h2;refine⟨⟨xs,ys,x,y,g1,g2,hx,hy⟩,fun v H2 ⟨T,hT,ev,hh⟩=>?_⟩;have e2:=hh xs ys x y g1 g2 hx hy;subst e2;obtain⟨Hh,Hn⟩:=rel.newF (u:=.tup [x,y]) hT;refine⟨_,?_,Hh,Hn⟩;rw[Rep];exact⟨T,[x,y],ev,aY,.cons (Rep.mono (gg.trans Hn.gg) rx) (.one (Rep.mono (gg.trans Hn.gg) ry))⟩
 ·rw[SJ,Vp]at e;rw[r1.length,r2.length];exact e
theorem qT(k1 k2:Bool){Lm:List Expr}{kt:Nat}{pt:Pos}{e1 e2:Expr}{fs:FOs}{p pos:Pos}(hg:Gl X "zip")(hm:X.mg "zip" = none)(ha:K9 X [e1,e2] fs)(he:starEach [e1,e2] X.env=(false,eval e1 X.env)::starEach [e2] X.env:=by rfl)(IZ:(backTo pos (starEach [e2] X.env)).any (·.1)=false:=by rfl):
  QI X (.Tuple Lm kt pt) (.Call (.Name "zip" p) [e1,e2] [] pos) (sQ k1 k2 fs):=
 jU (Cj k1 k2 hg hm ha he IZ) fun σ H R Hs=>by
  obtain⟨G,env,fp,ds,env',rel,e,k⟩:=Hs;obtain⟨⟨o,Hg⟩,e1,e⟩:=au e;dsimp only at e;split at e
  ·rename_i d1 d2;obtain⟨a,ea,e⟩:=au e;obtain⟨b,eb,e⟩:=au e;cases e;refine⟨G,env,fp,_,_,rel,e1,fun vs H1 G1 HB Hv Hi IQ=>?_⟩;obtain⟨y,ys,ev,v1,z,zs,Rk,v2,e3⟩:=IQ;have e3:zs=[]:=e3;subst e3;obtain⟨p1,xs1,ep1,q1,r1⟩:=qS ea v1;obtain⟨p2,OP,ep2,q2,r2⟩:=qS eb v2;subst ep1;subst ep2;subst Rk;exact⟨p1,p2,xs1,OP,ev,mO Hi.gh q1,mO Hi.gh q2,k _ H1 G1 HB Hv Hi (xx q1 q2 r1 r2)⟩
  ·cases e
end
def fBody(np nn:Nat)(g:FS):List D->Res R:=fun ds=>if ds.length=np then(g (ds.map (fun d=>some (O.f,d))++List.replicate nn none)).bind fun o=>match o with
 | .rt r=>.ok r
 | .nx _=>.ok (.f,.non)
 |_=>.bad
 else .bad
theorem gu{K:W.Frag}{G H:Hp}(n:Nat):∀{ds:List D}{vs:List V},Reps K G ds vs->RepE K G H (ds.map (fun d=>some (O.f,d))++List.replicate n none) (vs.map some++List.replicate n none) []
 |[],vs,r=>by
  rw[Reps]at r;subst r;show RepE K G H (List.replicate n none) (List.replicate n none) [];induction n with
  |zero=>exact⟨rfl,rfl⟩
  |succ n ih=>exact⟨none,_,rfl,ih⟩
 |d::ds,vs,r=>by
  rw[Reps]at r;obtain⟨y,ys,e,r1,r2⟩:=r;subst e;exact⟨some y,_,rfl,y,[],[],rfl,rfl,dD.mpr ⟨r1,rfl⟩,gu n r2⟩
theorem fe{P:Program}{w:World}{K:W.Frag}{mg:Str->Option Value}{base:Heap}{x:Str}{st:Stmt}{N ps:List Str}{k:Nat}{g:FS}(Df:Def K mg x st)(sc:FnScope N ps (defScope st))
  (hb:∀(kV doc pm:Value) (an:Option Addr) (HG ct:Value) (us:List Value),us.length=ps.length->bindArgs (PySem.W.fnOf x x (e7 st) (cW st) (defScope st) .none kV doc pm an HG ct) ⟨us,[]⟩=pure (ps.zip us))
  (body:∀(f:Addr) (HG:Value) (A:Around) (outer:List PySem.Env) (s:Shared) (H:Hp) (E:XK),Room k (A.deeper (envOfC x (defScope st) s.heap.objs.size f HG))->Lk (md:=.plain) (wH Lh P w K mg base N x (defScope st) f HG A outer s H E).nox (cW st) g):
  Ct P w K mg base x (k+1) (spF K (fBody ps.length (N.length-ps.length) g)):=by
 obtain⟨f,fd,F,m⟩:=Df;refine⟨f,fd,ps,F.ok sc (fun vs H Q E h=>?_) (fun HG A outer s H vs Q E hr h=>?_),m,F.kp,F.binds hb⟩
 ·obtain⟨G,ds,r,_,rs,e,_⟩:=h;unfold fBody at e;split at e
  ·rename_i hl;rw[rs.length,hl]
  ·cases e
 ·obtain⟨G,ds,r,gh,rs,e,q⟩:=h;unfold fBody at e;split at e
  ·rename_i hl;refine⟨_,body f HG A outer s H E hr,G,ds.map (fun d=>some (O.f,d))++List.replicate (N.length-ps.length) none,[],⟨?_,Ug,(fun _ h=>nomatch h),gh⟩,?_⟩
   ·have:=gu (K:=K) (G:=G) (H:=H) (N.length-ps.length) rs;unfold L2.j8;rw[rs.length,hl];exact this
   ·obtain⟨o,eo,e⟩:=au e;rw[eo];cases o with
    |rt r'=>
     cases e;exact fun v H' G' Hk st rel=>q v H' G' Hk st rel
    |nx env'=>
     cases e;exact fun σ' H' G' Hk st rel=>q .non H' G' [] (st.trans (Step.cut fun _ h=>nomatch h)) (rel.nilF.push p3)
    |bk env'=>cases e
    |ct env'=>cases e
  ·cases e
def eC(ix:List (Option Nat))(env:PV.Env):PV.Env:=ix.map fun j=>j.bind fun j=>match env[j]? with
 |some (some r)=>some (O.f,r.2)
 |_=>none
def fI:FT:=fun env=>.ok (true,env)
def c9(a:FG)(c:FT)(f:FX):List D->PV.Env->Res (List D)
 |[],_=>.ok []
 |d::ds,env=>(a d env).bind fun e=>(c e).bind fun p=>if p.1 then(f p.2).bind fun q=>(c9 a c f ds q.2).bind fun rs=>.ok (q.1.2::rs) else c9 a c f ds p.2
def dE(fi:FI)(ix:List (Option Nat))(a:FG)(c:FT)(f:FX):FX:=fun env=>(fi env).bind fun p=>(c9 a c f p.1 (eC ix p.2)).bind fun ds=>if ds.length<=sizeLine then .ok ((.l .f,.lst ds),if flatDs ds then p.2 else p.2.map frz) else .bad
theorem mP:∀ds,ds.all (cleanR .f)=flatDs ds
 |[]=>rfl
 |d::ds=>by rw[U8,flatDs,mP ds,cleanR]
theorem gv{K:W.Frag}{G1 H:Hp}{es:PV.Env}{σ:L2.St}(ht:∀(i:Nat) (r:R) (v:V),es[i]?=some (some r)->σ[i]?=some (some v)->Rep K G1 r.2 v)(hv:∀(i:Nat) (r:R),es[i]?=some (some r)->∃v,σ[i]?=some (some v)):
  ∀ix:List (Option Nat),RepE K G1 H (eC ix es) (lT ix σ) []
 |[]=>⟨rfl,rfl⟩
 |none::ix=>⟨none,_,rfl,gv ht hv ix⟩
 |some j::ix=>by
  show RepE K G1 H ((match es[j]? with|some (some r)=>some (O.f,r.2)|_=>none)::eC ix es) ((σ[j]?).bind id::lT ix σ) [];cases e:es[j]? with
  |none=>exact⟨_,_,rfl,gv ht hv ix⟩
  |some r=>
   cases r with
   |none=>exact⟨_,_,rfl,gv ht hv ix⟩
   |some r=>
    obtain⟨v,ev⟩:=hv j r e;refine⟨_,_,rfl,v,[],[],?_,rfl,dD.mpr ⟨ht j r v e ev,rfl⟩,gv ht hv ix⟩;rw[ev];rfl
section
variable{md:Mode}{X:Cx}{scope:Scope}{N:List Str}{tg iter elt:Expr}{ifs:List Expr}{pos:Pos}{fi:FI}{a:FG}{c:FT}{f:FX}
def Qu(X:Cx)(ifs:List Expr)(c:FT):Prop:=ON X ifs (tQT X.K c)
theorem cx:Qu X [] fI:=fun pr s σ H Q I Hs=>by
 obtain⟨G,env,fp,b,env',rel,e,k⟩:=Hs;cases e;exact zq pr s σ H Q I (k H G fp .refl rel)
theorem uO{t:Expr}(h:QT X t c):Qu X [t] c:=zr h
end
section
variable{X:Cx}
inductive rCatS(K:W.Frag)(x:V)(y:V)(H:Hp)(Q:VK):Prop
 |mk:∀l b xs zs,x=.ref l->y=.ref b->SqL K H l xs->SqL K H b zs->xs.length+zs.length<=sizeLine->(∀p,H p=none->Q (.ref p) (upd H p (.lst (xs++zs))))->rCatS K x y H Q
theorem zY:HX X (binaryOp .Add) (rCatS X.K):=by
 intro pr s σ H x y v u Q I rx ry h;obtain⟨l,b,xs,zs,rfl,rfl,hH,hB,hz,q⟩:=h;cases rx;cases ry;obtain⟨Hj,r1,p1,_⟩:=I.list hH;obtain⟨KG,r2,p2,_⟩:=I.list hB;have l1:=r1.length;have l2:=r2.length;obtain⟨⟨cls,dd,data,sl⟩,ho,hc,n,hd⟩:=id p1.isList;obtain⟨⟨Mo,K5,data2,K6⟩,Jd,Ko,n2,hd2⟩:=id p2.isList;simp only at hc hd Ko hd2;subst hc hd Ko hd2;have e:Hj.toArray++KG.toArray=(Hj++KG).toArray:=by simp
 refine WC ⟨_,ho,rfl⟩ ⟨_,Jd,rfl⟩ noFill_list_add seq_list_add PySem.F.slot_list_add PySem.F.entry_list_add (PySem.F.args_list_add_2 _ _) (list_addW l b Hj.toArray KG.toArray n n2 dd K5 sl K6 (by rw[SQ,SQ];lia)) ⟨ho,Jd,?_⟩;rw[e];exact⟨.ref _,_,I.lnew (t':=s.toks) (r1.append r2) (by rw[To];lia),rfl,q _ I.fresh⟩
end
noncomputable def addD:D->D->Res R
 | .int i,.int j=>.ok (.f,.int (i+j))
 | .str a,.str b=>if a.length+b.length<=sizeLine then .ok (.f,.str (a++b)) else .bad
 | .lst a,.lst b=>if a.length+b.length<=sizeLine then .ok (.l .f,.lst (a++b)) else .bad
 | .tup a,.tup b=>if a≠[]/\a.length+b.length<=sizeLine then .ok (.f,.tup (a++b)) else .bad
 |_,_=>.bad
section
variable{X:Cx}
theorem mQ{K:W.Frag}{G H:Hp}{fp:List Addr}{es:PV.Env}{vs:L2.St}{ds:List D}{xs:List V}{p:Addr}(rel:Rel K G H es vs fp)(hp:H p=none)(r:Reps K G ds xs):
  ∃G',Rel K G' (upd H p (.tup xs)) (some (.f,.tup ds)::es) (some (.ref p)::vs) fp/\Step G H fp G' (upd H p (.tup xs)) fp:=by
 obtain⟨Hh,Hn⟩:=rel.newF (u:=.tup xs) hp;refine⟨_,Hh.push ?_,Hn⟩;rw[Rep];exact⟨p,xs,rfl,aY,r.mono Hn.gg⟩
theorem Cv:HX X (binaryOp .Add) (rG X.K addD):=by
 rintro pr s σ H x y v u Q I rx ry ⟨G,fp,es,vs,a,b,r,⟨rel,k⟩,va,vb,e⟩;unfold addD at e;split at e
 ·rename_i i j;cases e;cases bC va;cases bC vb;exact BU pr s σ H _ _ v u Q I rx ry ⟨i,j,rfl,rfl,k _ H G fp .refl (rel.push (bI _))⟩
 ·rename_i i j;split at e
  ·rename_i hl;cases e;obtain⟨e1,h1⟩:=fZ va;obtain⟨e2,h2⟩:=fZ vb;subst e1;subst e2;refine sr pr s σ H _ _ v u Q I rx ry ⟨_,_,rfl,rfl,by rw[lK,lK];exact hl,?_⟩;rw[EN];exact k _ H G fp .refl (rel.push (iE (by rw[To];exact hl)))
  ·cases e
 ·rename_i i j;split at e
  ·rename_i hl;cases e;obtain⟨p,xs,e1,h1,r1⟩:=va;obtain⟨p2,OP,e2,h2,r2⟩:=vb;subst e1;subst e2;refine zY pr s σ H _ _ v u Q I rx ry ⟨p,p2,xs,OP,rfl,rfl,h1,h2,by rw[r1.length,r2.length];exact hl,fun q hq=>?_⟩;obtain⟨Hh,Hn⟩:=rel.newL hq (r1.app r2);exact k _ _ G _ Hn Hh
  ·cases e
 ·rename_i i j;split at e
  ·rename_i hl;cases e;obtain⟨p,xs,e1,h1,r1⟩:=ik va;obtain⟨p2,OP,e2,h2,r2⟩:=ik vb;subst e1;subst e2;have hx:xs≠[]:=fun z=>hl.1 (TH (by rw[<-r1.length,z];rfl))
   refine zg pr s σ H _ _ v u Q I rx ry ⟨p,p2,xs,OP,rfl,rfl,bV rel.gh h1,bV rel.gh h2,hx,by rw[r1.length,r2.length];exact hl.2,fun z=>?_,fun z q hq=>?_⟩
   ·have:j=[]:=TH (by rw[<-r2.length,z];rfl);subst this;rw[Te]at k;exact k _ H G fp .refl (rel.push va)
   ·obtain⟨G',Hh,Hn⟩:=mQ rel hq (r1.app r2);exact k _ _ G' _ Hn Hh
  ·cases e
 ·cases e
def wI:D->D->Res R
 | .int i,.int j=>.ok (.f,.int (i-j))
 |_,_=>.bad
theorem lY:HX X (binaryOp .Sub) (rG X.K wI):=by
 rintro pr s σ H x y v u Q I rx ry ⟨G,fp,es,vs,a,b,r,⟨rel,k⟩,va,vb,e⟩;unfold wI at e;split at e
 ·rename_i i j;cases e;cases bC va;cases bC vb;exact BV pr s σ H _ _ v u Q I rx ry ⟨i,j,rfl,rfl,k _ H G fp .refl (rel.push (bI _))⟩
 ·cases e
def dR(i:Int):Bool:=decide (-(2 ^ 64)<i/\i<2 ^ 64)
def EY:D->D->Res R
 | .int i,.int j=>if dR i||dR j then .ok (.f,.int (i*j)) else .bad
 |_,_=>.bad
theorem Cw:HX X (binaryOp .Mult) (rG X.K EY):=by
 rintro pr s σ H x y v u Q I rx ry ⟨G,fp,es,vs,a,b,r,⟨rel,k⟩,va,vb,e⟩;unfold EY at e;split at e
 ·rename_i i j;split at e
  ·rename_i hc;cases e;cases bC va;cases bC vb;have hc:CMul i j:=by
    rw[WE]at hc;exact hc.imp U6 U6
   exact BW pr s σ H _ _ v u Q I rx ry ⟨i,j,rfl,rfl,hc,k _ H G fp .refl (rel.push (bI _))⟩
  ·cases e
 ·cases e
def eD:D->D->Res R
 | .int i,.int j=>if 0<j/\j<1073741824 then .ok (.f,.int (i / j)) else .bad
 |_,_=>.bad
theorem cB:HX X (binaryOp .FloorDiv) (rG X.K eD):=by
 rintro pr s σ H x y v u Q I rx ry ⟨G,fp,es,vs,a,b,r,⟨rel,k⟩,va,vb,e⟩;unfold eD at e;split at e
 ·rename_i i j;split at e
  ·rename_i hc;cases e;cases bC va;cases bC vb;exact y9 pr s σ H _ _ v u Q I rx ry ⟨i,j,rfl,rfl,hc,k _ H G fp .refl (rel.push (bI _))⟩
  ·cases e
 ·cases e
def gm:D->D->Res R
 | .int i,.int j=>if 0<j then .ok (.f,.int (i%j)) else .bad
 |_,_=>.bad
theorem bM:HX X (binaryOp .Mod) (rG X.K gm):=by
 rintro pr s σ H x y v u Q I rx ry ⟨G,fp,es,vs,a,b,r,⟨rel,k⟩,va,vb,e⟩;unfold gm at e;split at e
 ·rename_i i j;split at e
  ·rename_i hc;cases e;cases bC va;cases bC vb;exact BX pr s σ H _ _ v u Q I rx ry ⟨i,j,rfl,rfl,hc,k _ H G fp .refl (rel.push (bI _))⟩
  ·cases e
 ·cases e
def Bx:D->D->Res R
 | .int i,.int j=>if 0<=j/\j<=1000000/\i.natAbs<2 ^ 64 then .ok (.f,.int (i ^ j.toNat)) else .bad
 |_,_=>.bad
theorem Cy:HX X (binaryOp .Pow) (rG X.K Bx):=by
 rintro pr s σ H x y v u Q I rx ry ⟨G,fp,es,vs,a,b,r,⟨rel,k⟩,va,vb,e⟩;unfold Bx at e;split at e
 ·rename_i i j;split at e
  ·rename_i hc;cases e;cases bC va;cases bC vb;exact BY pr s σ H _ _ v u Q I rx ry ⟨i,j,rfl,rfl,hc,k _ H G fp .refl (rel.push (bI _))⟩
  ·cases e
 ·cases e
def OO:D->D->Res R
 | .int i,.int j=>.ok (.f,.bl (decide (i<j)))
 | .str a,.str b=>.ok (.f,.bl (decide (a<b)))
 |_,_=>.bad
theorem EZ:HX X (compareOp .Lt) (rG X.K OO):=by
 rintro pr s σ H x y v u Q I rx ry ⟨G,fp,es,vs,a,b,r,⟨rel,k⟩,va,vb,e⟩;unfold OO at e;split at e
 ·rename_i i j;cases e;cases bC va;cases bC vb;exact EB pr s σ H _ _ v u Q I rx ry ⟨i,j,rfl,rfl,k _ H G fp .refl (rel.push (cQ _))⟩
 ·rename_i i j;cases e;obtain⟨e1,h1⟩:=fZ va;obtain⟨e2,h2⟩:=fZ vb;subst e1;subst e2;refine tW pr s σ H _ _ v u Q I rx ry ⟨_,_,rfl,rfl,?_⟩;rw[dC,dC];exact k _ H G fp .refl (rel.push (cQ _))
 ·cases e
def leD:D->D->Res R
 | .int i,.int j=>.ok (.f,.bl (decide (i<=j)))
 | .str a,.str b=>.ok (.f,.bl (!decide (b<a)))
 |_,_=>.bad
def Ph:D->D->Res R
 | .int i,.int j=>.ok (.f,.bl (decide (j<i)))
 |_,_=>.bad
theorem Cz:HX X (compareOp .Gt) (rG X.K Ph):=by
 rintro pr s σ H x y v u Q I rx ry ⟨G,fp,es,vs,a,b,r,⟨rel,k⟩,va,vb,e⟩;unfold Ph at e;split at e
 ·rename_i i j;cases e;cases bC va;cases bC vb;exact EC pr s σ H _ _ v u Q I rx ry ⟨i,j,rfl,rfl,k _ H G fp .refl (rel.push (cQ _))⟩
 ·cases e
def Rl:D->D->Res R
 | .int i,.int j=>.ok (.f,.bl (decide (j<=i)))
 |_,_=>.bad
theorem E1:HX X (compareOp .GtE) (rG X.K Rl):=by
 rintro pr s σ H x y v u Q I rx ry ⟨G,fp,es,vs,a,b,r,⟨rel,k⟩,va,vb,e⟩;unfold Rl at e;split at e
 ·rename_i i j;cases e;cases bC va;cases bC vb;exact ED pr s σ H _ _ v u Q I rx ry ⟨i,j,rfl,rfl,k _ H G fp .refl (rel.push (cQ _))⟩
 ·cases e
end
abbrev FDs:=PV.Env->Res (List D×PV.Env)
inductive tDs(K:W.Frag)(f:FDs)(σ:L2.St)(H:Hp)(Q:List V->Hp->Prop):Prop
 |mk:∀G env fp ds env',Rel K G H env σ fp->f env=.ok (ds,env')->(∀vs H' G' Hk,Step G H fp G' H' Hk->Rel K G' H' env' σ Hk->Reps K G' ds vs->Q vs H')->tDs K f σ H Q
def Pj(X:Cx)(es:List Expr)(f:FDs):Prop:=PA X es (tDs X.K f)
def aT:FDs:=fun env=>.ok ([],env)
def aw(f:FX)(g:FDs):FDs:=fun env=>(f env).bind fun p=>(g p.2).bind fun q=>.ok (p.1.2::q.1,q.2)
section
variable{X:Cx}
theorem aF:Pj X [] aT:=qP nX fun σ H Q Hs=>by
 obtain⟨G,env,fp,o,env',rel,e,k⟩:=Hs;cases e;exact k [] H G fp .refl rel .nil
theorem ai{e:Expr}{es:List Expr}{f:FX}{g:FDs}(h:QE X e f)(hs:Pj X es g)(KC:starEach (e::es) X.env=(false,eval e X.env)::starEach es X.env:=by rfl):Pj X (e::es) (aw f g):=
 qP (gq h hs KC) fun σ H Q Hs=>by
  obtain⟨G,env,fp,o,env',rel,e,k⟩:=Hs;obtain⟨⟨r,Hg⟩,e1,e⟩:=au e;obtain⟨⟨ds,Hm⟩,e2,e⟩:=au e;cases e;refine⟨G,env,fp,r,Hg,rel,e1,fun v H1 G1 HB Hv Hi=>?_⟩;obtain⟨G2,b,rv,Hh,Hn⟩:=Hi.freeze;exact⟨G2,Hg,b,ds,Hm,Hh,e2,fun vs H3 G3 IJ HM HJ rs=>k _ H3 G3 IJ (Hv.trans (Hn.trans HM)) HJ (.cons (Rep.mono HM.gg rv) rs)⟩
def dZ(fs:FDs):FX:=fun env=>(fs env).bind fun p=>if p.1.length<=1000 then .ok ((.f,.tup p.1),p.2) else .bad
def jV(fs:FDs):FX:=fun env=>(fs env).bind fun p=>if p.1.length<=1000 then .ok ((.l .f,.lst p.1),p.2) else .bad
variable{es:List Expr}{fs:FDs}{pos:Pos}
theorem bg{x1}(h:Pj X es fs):QE X (.Tuple es x1 pos) (dZ fs):=bS (ym h) fun σ H Q Hs=>by
 obtain⟨G,env,fp,r,env',rel,e,k⟩:=Hs;obtain⟨⟨ds,Hg⟩,e1,e⟩:=au e;dsimp only at e;split at e
 ·rename_i hl;cases e;refine⟨G,env,fp,ds,env',rel,e1,fun vs H1 G1 HB Hv Hi rs=>⟨by rw[rs.length,line_eq];lia,fun p hp=>?_⟩⟩;obtain⟨G2,Hh,Hn⟩:=mQ Hi hp rs;exact k _ _ G2 _ (Hv.trans Hn) Hh
 ·cases e
theorem cP(h:Pj X es fs):QE X (.List es pos) (jV fs):=bS (BZ h) fun σ H Q Hs=>by
 obtain⟨G,env,fp,r,env',rel,e,k⟩:=Hs;obtain⟨⟨ds,Hg⟩,e1,e⟩:=au e;dsimp only at e;split at e
 ·rename_i hl;cases e;refine⟨G,env,fp,ds,env',rel,e1,fun vs H1 G1 HB Hv Hi rs=>⟨by rw[rs.length,line_eq];lia,fun p hp=>?_⟩⟩;obtain⟨Hh,Hn⟩:=Hi.newL hp rs;exact k _ _ G1 _ (Hv.trans Hn) Hh
 ·cases e
noncomputable def Ht:D->D->Res R
 | .lst ds,.int i=>match Iy ds i with
  |some d=>.ok (.f,d)
  |none=>.bad
 | .tup ds,.int i=>match Iy ds i with
  |some d=>.ok (.f,d)
  |none=>.bad
 | .str l,.int i=>match Iy l i with
  |some c=>.ok (.f,.str [c])
  |none=>.bad
 |_,_=>.bad
theorem qU{K:W.Frag}{G:Hp}{ds:List D}{xs:List V}{i:Int}{d:D}(r:Reps K G ds xs)(e:Iy ds i=some d):∃v,Iy xs i=some v/\Rep K G d v:=by
 unfold Iy at e ⊢;rw[r.length];cases hn:ixN ds.length i with
 |none=>rw[hn]at e;cases e
 |some j=>
  rw[hn]at e;exact r.get e
theorem E2:O6 X (rG X.K Ht):=by
 rintro value slice pr s σ H x y v u Q I rx ry ⟨G,fp,es,vs,a,b,r,⟨rel,k⟩,va,vb,e⟩ hs;unfold Ht at e;split at e
 ·rename_i ds i;split at e
  ·rename_i d hd;cases e;obtain⟨p,xs,ev,sq,rs⟩:=va;subst ev;cases bC vb;obtain⟨w',hw,Lg⟩:=qU rs hd;exact zh value slice pr s σ H _ _ v u Q I rx ry ⟨p,xs,i,w',rfl,rfl,sq,hw,k _ H G fp .refl (rel.push Lg)⟩ hs
  ·cases e
 ·rename_i ds i;split at e
  ·rename_i d hd;cases e;obtain⟨p,xs,ev,sq,rs⟩:=ik va;subst ev;cases bC vb;obtain⟨w',hw,Lg⟩:=qU rs hd;exact B7 value slice pr s σ H _ _ v u Q I rx ry ⟨p,xs,i,w',rfl,rfl,bV rel.gh sq,hw,k _ H G fp .refl (rel.push Lg)⟩ hs
  ·cases e
 ·rename_i l i;split at e
  ·rename_i c hc;cases e;obtain⟨ev,hl⟩:=fZ va;subst ev;cases bC vb;refine B8 value slice pr s σ H _ _ v u Q I rx ry ⟨_,i,c,rfl,rfl,by rw[lK];exact hl,by rw[dC];exact hc,?_⟩ hs;exact k _ H G fp .refl (rel.push (iE (l:=[c]) (by rw[line_eq];simp)))
  ·cases e
 ·cases e
variable{a b:Expr}{fa fb:FO}
theorem aW(ha:QO X a fa)(hb:QO X b fb)(hs:uk b:=by exact fun _ _=>rfl):QE X (.Subscript a b pos) (aB Ht fa fb):=bS (EJ E2 ha hb hs) fun _ _ _=>qR
abbrev FP:=PV.Env->Res (Option Int×PV.Env)
inductive tQP(K:W.Frag)(f:FP)(σ:L2.St)(H:Hp)(Q:Option Int->Hp->Prop):Prop
 |mk:∀G env fp i env',Rel K G H env σ fp->f env=.ok (i,env')->(∀H' G' Hk,Step G H fp G' H' Hk->Rel K G' H' env' σ Hk->Q i H')->tQP K f σ H Q
def QP(X:Cx)(e:Option Expr)(f:FP):Prop:=PO X e (tQP X.K f)
def sR:FP:=fun env=>.ok (none,env)
def kJ(f:FX):FP:=fun env=>(f env).bind fun p=>match p.1.2 with
 | .int i=>.ok (some i,p.2)
 |_=>.bad
theorem yD{X:Cx}{e:Option Expr}{t t':TO}(h:PO X e t)(k:∀σ H Q,t' σ H Q->t σ H Q):PO X e t':=fun pr s σ H Q I w=>h pr s σ H Q I (k σ H Q w)
theorem mR:QP X none sR:=yD ze fun σ H Q Hs=>by
 obtain⟨G,env,fp,i,env',rel,e,k⟩:=Hs;cases e;exact k H G fp .refl rel
theorem fL{e:Expr}{f:FX}(h:QE X e f):QP X (some e) (kJ f):=yD (zf h) fun σ H Q Hs=>by
 obtain⟨G,env,fp,i,env',rel,e,k⟩:=Hs;obtain⟨⟨⟨o,d⟩,Hg⟩,e1,e⟩:=au e;dsimp only at e;split at e
 ·rename_i j;cases e;refine⟨G,env,fp,_,_,rel,e1,fun v H1 G1 HB Hv Hi=>?_⟩;have hv:=Hi.top;obtain⟨b,Hh,Hn⟩:=Hi.drop;exact⟨j,bH hv,k H1 G1 b (Hv.trans Hn) Hh⟩
 ·cases e
def i6{α:Type}(xs:List α)(lo hi:Option Int):List α:=(xs.drop (HT.sIx xs.length 0 lo)).take (HT.sIx xs.length xs.length hi-HT.sIx xs.length 0 lo)
noncomputable def Pk(k:D)(lo hi:Option Int):Res R:=match k with
 | .lst ds=>.ok (.l .f,.lst (i6 ds lo hi))
 | .tup ds=>if ¬ (HT.sIx ds.length 0 lo=0/\HT.sIx ds.length ds.length hi=ds.length) then .ok (.f,.tup (i6 ds lo hi)) else .bad
 | .str l=>.ok (.f,.str (i6 l lo hi))
 |_=>.bad
def eSl(fa:FO)(lo hi:FP):FX:=fun env=>(fa env).bind fun p=>(lo p.2).bind fun q=>(hi q.2).bind fun t=>(IK t.2 p.1).bind fun d=>(Pk d q.1 t.1).bind fun r=>.ok (r,t.2)
theorem qV{K:W.Frag}{G:Hp}{ds:List D}{xs:List V}{lo hi:Option Int}(r:Reps K G ds xs):Reps K G (i6 ds lo hi) (yn xs lo hi):=by
 unfold i6 yn;rw[r.length];exact(r.drop _).take _
theorem zZ{α:Type}(xs:List α)(lo hi:Option Int):(i6 xs lo hi).length<=xs.length:=by
 unfold i6;rw[TC,UU];lia
inductive rSl(K:W.Frag)(x:V)(lo:Option Int)(hi:Option Int)(H:Hp)(Q:VK):Prop
 |mk:∀G fp es vs d r,Goes K H G fp es vs r Q->Vw K G H d x->Pk d lo hi=.ok r->rSl K x lo hi H Q
theorem CA:Nz X (rSl X.K):=by
 rintro pr s σ H x v vl vu lo hi sl Q I rx hs pl pu ⟨G,fp,es,vs,d,r,⟨rel,k⟩,vd,e⟩;unfold Pk at e;split at e
 ·rename_i ds;cases e;obtain⟨p,xs,ev,sq,rs⟩:=vd;subst ev;refine zi pr s σ H _ v vl vu lo hi sl Q I rx hs pl pu ⟨p,xs,rfl,sq,fun q hq=>?_⟩;obtain⟨Hh,Hn⟩:=rel.newL hq (qV (lo:=lo) (hi:=hi) rs);exact k _ _ G _ Hn Hh
 ·rename_i ds;split at e
  ·rename_i hw;cases e;obtain⟨p,xs,ev,sq,rs⟩:=ik vd;subst ev;refine B6 pr s σ H _ v vl vu lo hi sl Q I rx hs pl pu ⟨p,xs,rfl,bV rel.gh sq,by rw[rs.length];exact hw,fun q hq=>?_⟩;obtain⟨G2,Hh,Hn⟩:=mQ rel hq (qV (lo:=lo) (hi:=hi) rs);exact k _ _ G2 _ Hn Hh
  ·cases e
 ·rename_i l;cases e;obtain⟨ev,hl⟩:=fZ vd;subst ev;exact Cd pr s σ H _ v vl vu lo hi sl Q I rx hs pl pu ⟨l,rfl,hl,k _ H G fp .refl (rel.push (iE (l:=Cc l lo hi) (Td (zZ l lo hi) hl)))⟩
 ·cases e
def uP(env:PV.Env)(i:Nat):Bool:=match env[i]? with
 |some (some (_,.lst _))=>true
 |_=>false
theorem xy{K:W.Frag}{G H:Hp}{es:PV.Env}{σ:L2.St}{fp:List Addr}{i:Nat}(rel:Rel K G H es σ fp)(h:uP es i=true):∃v,σ[i]?=some (some v)/\Q0 K "list" v H:=by
 unfold uP at h;split at h
 ·rename_i o ds hr;obtain⟨v,ev,rv⟩:=rel.view hr;obtain⟨p,xs,e,sq,_⟩:=bE rv;subst e;exact⟨_,ev,.inl ⟨rfl,xs,sq⟩⟩
 ·cases h
def qW(i:Nat)(f:FX):FX:=fun env=>if uP env i then(f env).bind fun p=>match p.2[i]? with
 |some (some (.l .f,.lst ds))=>if ds.length<sizeLine then .ok ((.f,.non),p.2.set i (some (.l .f,.lst (ds++[p.1.2])))) else .bad
 |_=>.bad
 else .bad
theorem cC{i:Nat}{o e:Expr}{f:FX}{apos HE:Pos}(ho:PE X o (tL i))(he:QE X e f)
  (IL:attributeBase o "append" X.env (eval o X.env)=eval o X.env:=by rfl)
  (JJ:((backTo HE (starEach [e] X.env)).all (fun x=>!x.1)&&(backToKw HE (keywordEach [] X.env)).all (fun x=>x.1.isSome)&&decide ([e].length+([]:List Keyword).length+(if([]:List Keyword).isEmpty then 0 else 1)<30))=true:=by rfl)
  (IM:(apos.endLine==HE.line)=true:=by rfl) (hs:starEach [e] X.env=(false,eval e X.env)::starEach [] X.env:=by rfl) (Ie:(backTo HE (starEach [] X.env)).any (·.1)=false:=by rfl):
  QE X (.Call (.Attribute o "append" apos) [e] [] HE) (qW i f):=by
 refine bS (zj Wj PySem.F.slot_list_append PySem.F.type_list_append oq ho (ai he aF hs) IL JJ IM hs Ie) fun σ H Q HD=>?_
 obtain⟨G,env,fp,r,env',rel,e,k⟩:=HD;unfold qW at e;split at e
 ·rename_i Nk;obtain⟨v,ev,ty⟩:=xy rel Nk;obtain⟨⟨r1,Hg⟩,e1,e⟩:=au e;dsimp only at e;split at e
  ·rename_i ds Ny;split at e
   ·rename_i hl;cases e;refine⟨v,ev,ty,G,env,fp,[r1.2],Hg,rel,by show(f env).bind _=_;rw[e1];rfl,fun vs H1 G1 HB Hv Hi rs=>?_⟩;rw[Reps]at rs;obtain⟨y,ys,eys,ry,rn⟩:=rs;rw[Reps]at rn;subst rn;obtain⟨p,xs,ep,hp,Pm,cg⟩:=Hi.chg (ds':=ds++[r1.2]) Ny;rw[ev]at ep;cases ep;obtain⟨fq,Hh,Hn⟩:=cg (xs++[y]) (Pm.app (.one ry));exact⟨p,xs,y,rfl,eys,hp,by rw[Pm.length];exact hl,k _ _ G1 fq (Hv.trans Hn) (Hh.push p3)⟩
   ·cases e
  ·cases e
 ·cases e
def E3:List D->Res R
 |[.lst ds]=>.ok (.f,.int ds.length)
 |[.tup ds]=>.ok (.f,.int ds.length)
 |[.str l]=>.ok (.f,.int l.length)
 |_=>.bad
theorem nR{K:W.Frag}{G H:Hp}{d:D}{xs:List V}(h:Ni K G H [d] xs):∃v,xs=[v]/\Vw K G H d v:=by
 obtain⟨y,ys,e,v1,e2⟩:=h;have e2:ys=[]:=e2;subst e2;exact⟨y,e,v1⟩
theorem FU{K:W.Frag}{G H:Hp}{d d':D}{xs:List V}(h:Ni K G H [d,d'] xs):∃v w,xs=[v,w]/\Vw K G H d v/\Vw K G H d' w:=by
 obtain⟨y,ys,e,v1,h2⟩:=h;obtain⟨z,e2,v2⟩:=nR h2;subst e2;exact⟨y,z,e,v1,v2⟩
theorem CB:dm X (.builtin "len") (rC X.K E3):=by
 rintro pr s σ H xs us Q I rx ⟨G,fp,es,vs,ds,r,⟨rel,k⟩,vd,e⟩;unfold E3 at e;split at e
 ·rename_i ds;cases e;obtain⟨v,ev,p,ys,ep,sq,rs⟩:=nR vd;subst ev;subst ep;refine jR pr s σ H _ us Q I rx ⟨p,ys,rfl,.inl sq,?_⟩;rw[rs.length];exact k _ H G fp .refl (rel.push (bI _))
 ·rename_i ds;cases e;obtain⟨v,ev,vt⟩:=nR vd;obtain⟨p,ys,ep,sq,rs⟩:=ik vt;subst ev;subst ep;refine jR pr s σ H _ us Q I rx ⟨p,ys,rfl,.inr (bV rel.gh sq),?_⟩;rw[rs.length];exact k _ H G fp .refl (rel.push (bI _))
 ·rename_i l;cases e;obtain⟨v,ev,vt⟩:=nR vd;obtain⟨ep,hl⟩:=fZ vt;subst ev;subst ep;refine oj pr s σ H _ us Q I rx ⟨S l,rfl,by rw[lK];exact hl,?_⟩;rw[lK];exact k _ H G fp .refl (rel.push (bI _))
 ·cases e
def mS:List D->Res R
 |[.lst ds]=>.ok (.l .f,.lst ds)
 |[.tup ds]=>.ok (.l .f,.lst ds)
 |_=>.bad
theorem mT:dm X (.type "list") (rC X.K mS):=by
 rintro pr s σ H xs us Q I rx ⟨G,fp,es,vs,ds,r,⟨rel,k⟩,vd,e⟩;unfold mS at e;split at e
 ·rename_i ds;cases e;obtain⟨v,ev,p,ys,ep,sq,rs⟩:=nR vd;subst ev;subst ep;refine jS pr s σ H _ us Q I rx ⟨p,ys,rfl,.inl sq,fun q hq=>?_⟩;obtain⟨Hh,Hn⟩:=rel.newL hq rs;exact k _ _ G _ Hn Hh
 ·rename_i ds;cases e;obtain⟨v,ev,vt⟩:=nR vd;obtain⟨p,ys,ep,sq,rs⟩:=ik vt;subst ev;subst ep;refine jS pr s σ H _ us Q I rx ⟨p,ys,rfl,.inr (bV rel.gh sq),fun q hq=>?_⟩;obtain⟨Hh,Hn⟩:=rel.newL hq rs;exact k _ _ G _ Hn Hh
 ·cases e
def eE:List D->Res R
 |[.lst ds]=>.ok (.f,.tup ds)
 |[.tup ds]=>.ok (.f,.tup ds)
 |_=>.bad
theorem dB:dm X (.type "tuple") (rC X.K eE):=by
 rintro pr s σ H xs us Q I rx ⟨G,fp,es,vs,ds,r,⟨rel,k⟩,vd,e⟩;unfold eE at e;split at e
 ·rename_i ds;cases e;obtain⟨v,ev,p,ys,ep,sq,rs⟩:=nR vd;subst ev;subst ep;refine iS pr s σ H _ us Q I rx ⟨p,ys,rfl,.inl ⟨sq,fun q hq=>?_⟩⟩;obtain⟨G2,Hh,Hn⟩:=mQ rel hq rs;exact k _ _ G2 _ Hn Hh
 ·rename_i ds;cases e;obtain⟨v,ev,vt⟩:=nR vd;obtain⟨p,ys,ep,sq,rs⟩:=ik vt;subst ev;subst ep;exact iS pr s σ H _ us Q I rx ⟨p,ys,rfl,.inr ⟨bV rel.gh sq,k _ H G fp .refl (rel.push vt)⟩⟩
 ·cases e
def oM:List D->Option (List Bool)
 |[]=>some []
 | .bl b::ds=>(oM ds).map (b:: ·)
 |_=>none
def dS:List D->Option (List Int)
 |[]=>some []
 | .int b::ds=>(dS ds).map (b:: ·)
 |_=>none
theorem lZ{K:W.Frag}{G:Hp}:∀{ds:List D}{bs:List Bool}{xs:List V},oM ds=some bs->Reps K G ds xs->xs=bs.map V.bl
 |[],_,_,e,r=>by
  cases e;rw[Reps]at r;exact r
 | .bl b::ds,_,_,e,r=>by
  rw[oM,Ts]at e;obtain⟨bs,e1,e2⟩:=e;subst e2;rw[Reps]at r;obtain⟨y,ys,e3,r1,r2⟩:=r;rw[e3,dq r1,lZ e1 r2];rfl
 | .non::_,_,_,e,_ | .int _::_,_,_,e,_ | .str _::_,_,_,e,_ | .tup _::_,_,_,e,_ | .lst _::_,_,_,e,_ | .dct _ _ _::_,_,_,e,_=>by simp[oM]at e
theorem iF{K:W.Frag}{G:Hp}:∀{ds:List D}{bs:List Int}{xs:List V},dS ds=some bs->Reps K G ds xs->xs=bs.map V.int
 |[],_,_,e,r=>by
  cases e;rw[Reps]at r;exact r
 | .int b::ds,_,_,e,r=>by
  rw[dS,Ts]at e;obtain⟨bs,e1,e2⟩:=e;subst e2;rw[Reps]at r;obtain⟨y,ys,e3,r1,r2⟩:=r;rw[e3,bH r1,iF e1 r2];rfl
 | .non::_,_,_,e,_ | .bl _::_,_,_,e,_ | .str _::_,_,_,e,_ | .tup _::_,_,_,e,_ | .lst _::_,_,_,e,_ | .dct _ _ _::_,_,_,e,_=>by simp[dS]at e
theorem sS(ns:List Int):dS (ns.map D.int)=some ns:=by
 induction ns with
 |nil=>rfl
 |cons n ns ih=>rw[S5,dS,ih];rfl
theorem uQ(ns:List Bool):oM (ns.map D.bl)=some ns:=by
 induction ns with
 |nil=>rfl
 |cons n ns ih=>rw[S5,oM,ih];rfl
def oN:D->Option (List D)
 | .lst ds=>some ds
 | .tup ds=>some ds
 |_=>none
theorem uR{K:W.Frag}{G H:Hp}{d:D}{ds:List D}{v:V}(gh:Same G H)(e:oN d=some ds)(h:Vw K G H d v):∃p xs,v=.ref p/\(SqL K H p xs\/SqT K H p xs)/\Reps K G ds xs:=by
 cases d with
 |lst es=>
  cases e;obtain⟨p,xs,ev,sq,rs⟩:=h;exact⟨p,xs,ev,.inl sq,rs⟩
 |tup es=>
  cases e;obtain⟨p,xs,ev,sq,rs⟩:=bA h;exact⟨p,xs,ev,.inr (bV gh sq),rs⟩
 |_=>cases e
def CC:List D->Res R
 |[d]=>match(oN d).bind oM with
  |some bs=>.ok (.f,.bl (bs.all id))
  |none=>.bad
 |_=>.bad
theorem xA(bs:List Bool):(bs.map V.bl).all EO=true:=by
 rw[Uu,Tq];intro b _;rfl
theorem z4(bs:List Bool):(bs.map V.bl).all Cf=bs.all id:=by
 rw[Uu];rfl
theorem CD(hc:X.calm=true):dm X (.builtin "all") (rC X.K CC):=by
 rintro pr s σ H xs us Q I rx ⟨G,fp,es,vs,ds,r,⟨rel,k⟩,vd,e⟩;unfold CC at e;split at e
 ·rename_i d;split at e
  ·rename_i bs hb;cases e;obtain⟨l,hl,hb⟩:=Ut.mp hb;obtain⟨v,ev,vt⟩:=nR vd;obtain⟨p,ys,ep,sq,rs⟩:=uR rel.gh hl vt;have:=lZ hb rs;subst this;subst ev;subst ep;refine xi hc pr s σ H _ us Q I rx ⟨p,_,rfl,sq,xA bs,?_⟩;rw[z4];exact k _ H G fp .refl (rel.push (cQ _))
  ·cases e
 ·cases e
def maxD:List D->Res R
 |[d]=>match(oN d).bind dS with
  |some (n::ns)=>.ok (.f,.int (fJ (n::ns)))
  |_=>.bad
 |[.int i,.int j]=>.ok (.f,.int (if i<j then j else i))
 |_=>.bad
theorem kK{K:W.Frag}{G H:Hp}{d:D}{ns:List Int}{v:V}(gh:Same G H)(hb:(oN d).bind dS=some ns)(vt:Vw K G H d v):∃p,v=.ref p/\(SqL K H p (ns.map V.int)\/SqT K H p (ns.map V.int)):=by
 obtain⟨l,hl,hb⟩:=Ut.mp hb;obtain⟨p,ys,ep,sq,rs⟩:=uR gh hl vt;have:=iF hb rs;subst this;exact⟨p,ep,sq⟩
end
mutual
noncomputable def Hl:D->D->Bool
 | .non,.non=>true
 | .bl a,.bl b=>a==b
 | .bl a,.int j=>(if a then 1 else 0)==j
 | .int i,.bl b=>i==(if b then 1 else 0)
 | .int i,.int j=>i==j
 | .str a,.str b=>a==b
 | .tup a,.tup b=>jH a b
 | .lst a,.lst b=>jH a b
 |_,_=>false
noncomputable def jH:List D->List D->Bool
 |[],[]=>true
 |a::as,b::bs=>Hl a b&&jH as bs
 |_,_=>false
end
mutual
noncomputable def plainD:Nat->D->Bool
 |n+1,.tup ds=>plainDs n ds
 |n+1,.lst ds=>plainDs n ds
 | 0,.tup _=>false
 | 0,.lst _=>false
 |_,.dct _ _ _=>false
 |_,_=>true
noncomputable def plainDs:Nat->List D->Bool
 |_,[]=>true
 |n,d::ds=>plainD n d&&plainDs n ds
end
theorem plainDs_mem:∀{n:Nat}{ds:List D},plainDs n ds=true->∀{i:Nat}{d:D},ds[i]?=some d->plainD n d=true
 |_,[],_,_,_,e=>by simp at e
 |n,a::ds,h,0,d,e=>by
  rw[plainDs,SY]at h;simp at e;rw[<-e];exact h.1
 |n,a::ds,h,i+1,d,e=>by
  rw[plainDs,SY]at h;exact plainDs_mem h.2 (i:=i) (by simpa using e)
theorem i7:∀{a b:List D},a.length≠b.length->jH a b=false
 |[],[],h=>absurd rfl h
 |[],_::_,_=>by simp only[jH]
 |_::_,[],_=>by simp only[jH]
 |x::xs,y::ys,h=>by
  rw[jH,i7 (fun e=>h (by simp[e])),V5]
theorem fD:∀{a b:List D},a.length=b.length->(List.range a.length).all (fun j=>Hl (a.getD j .non) (b.getD j .non))=jH a b
 |[],[],_=>rfl
 |[],_::_,h=>by simp at h
 |_::_,[],h=>by simp at h
 |x::xs,y::ys,h=>by
  rw[jH,<-fD (a:=xs) (b:=ys) (by simpa using h),S4,List.range_succ_eq_map,U8,Uu];rfl
section
variable{X:Cx}{pr:List (Addr×Obj)}{σ:L2.St}{H:Hp}{s:Shared}
theorem kM(I:Inv X pr σ H s){p:Addr}{xs ys:List V}(h:SqL X.K H p xs)(h':SqT X.K H p ys):False:=by
 obtain⟨us,_,p1,_⟩:=I.list h;obtain⟨ws,_,p2,_⟩:=I.tuple h';exact SeqAt.ne_of_list_tuple p1.isList (show s.heap.IsTuple p ws.toArray from p2) rfl
mutual
theorem kO(I:Inv X pr σ H s):∀(d e:D) (x:V) (n:Nat),plainD n d=true->Rep X.K H d x->Rep X.K H e x->d=e
 | .non,e,x,n,_,r,q=>by
  cases cA r;cases e with
  |non=>rfl
  |bl b=>cases dq q
  |int i=>cases bH q
  |str l=>cases(bz q).1
  |tup l=>obtain⟨p,xs,ev,_⟩:=bA q;cases ev
  |lst l=>obtain⟨p,xs,ev,_⟩:=bE q;cases ev
  |dct tk ks vs=>rw[Rep]at q;obtain⟨p,xs,o,ev,_⟩:=q;cases ev
 | .bl b,e,x,n,_,r,q=>by
  cases dq r;cases e with
  |non=>cases cA q
  |bl b=>cases dq q;rfl
  |int i=>cases bH q
  |str l=>cases(bz q).1
  |tup l=>obtain⟨p,xs,ev,_⟩:=bA q;cases ev
  |lst l=>obtain⟨p,xs,ev,_⟩:=bE q;cases ev
  |dct tk ks vs=>rw[Rep]at q;obtain⟨p,xs,o,ev,_⟩:=q;cases ev
 | .int i,e,x,n,_,r,q=>by
  cases bH r;cases e with
  |non=>cases cA q
  |bl b=>cases dq q
  |int i=>cases bH q;rfl
  |str l=>cases(bz q).1
  |tup l=>obtain⟨p,xs,ev,_⟩:=bA q;cases ev
  |lst l=>obtain⟨p,xs,ev,_⟩:=bE q;cases ev
  |dct tk ks vs=>rw[Rep]at q;obtain⟨p,xs,o,ev,_⟩:=q;cases ev
 | .str l,e,x,n,_,r,q=>by
  have hr:=(bz r).1;subst hr;cases e with
  |non=>cases cA q
  |bl b=>cases dq q
  |int i=>cases bH q
  |str l'=>
   have hq:=(bz q).1;injection hq with hq;rw[S_inj hq]
  |tup l=>obtain⟨p,xs,ev,_⟩:=bA q;cases ev
  |lst l=>obtain⟨p,xs,ev,_⟩:=bE q;cases ev
  |dct tk ks vs=>rw[Rep]at q;obtain⟨p,xs,o,ev,_⟩:=q;cases ev
 | .tup l,e,x,n,h,r,q=>by
  obtain⟨p,xs,ev,sq,rs⟩:=bA r;subst ev;cases e with
  |non=>cases cA q
  |bl b=>cases dq q
  |int i=>cases bH q
  |str l=>cases(bz q).1
  |tup l'=>
   obtain⟨p',IP,Jm,Jc,Jv⟩:=bA q;cases Jm;have:=I.tuple_inj sq Jc;subst this;cases n with
   |zero=>simp only[plainD]at h;cases h
   |succ n=>
    simp only[plainD]at h;rw[mU I l l' xs n h rs Jv]
  |lst l'=>
   obtain⟨p',IP,Jm,Jc,Jv⟩:=bE q;cases Jm;exact(kM I Jc sq).elim
  |dct tk ks vs=>
   exfalso;rw[Rep]at q;obtain⟨p',IP,o,Jm,rd,dd,_⟩:=q;cases Jm;obtain⟨Hj,_,ip,_⟩:=I.tuple sq;obtain⟨ob,ho,hc,_⟩:=ip;have NR:=rd.ok I.hok;cases tk with
   |true=>
    obtain⟨kvs,eo,_⟩:=dd;subst eo;obtain⟨_,_,_,_,o2,_,_,Jd,ex,_⟩:=NR;rw[ho]at Jd;cases Jd;rw[ex.1]at hc;exact absurd hc (by decide)
   |false=>
    obtain⟨kvs,eo,_⟩:=dd;subst eo;obtain⟨_,_,_,_,o2,_,_,Jd,ex,_⟩:=NR;rw[ho]at Jd;cases Jd;rw[ex.1]at hc;exact absurd hc (by decide)
 | .lst l,e,x,n,h,r,q=>by
  obtain⟨p,xs,ev,sq,rs⟩:=bE r;subst ev;cases e with
  |non=>cases cA q
  |bl b=>cases dq q
  |int i=>cases bH q
  |str l=>cases(bz q).1
  |tup l'=>
   obtain⟨p',IP,Jm,Jc,Jv⟩:=bA q;cases Jm;exact(kM I sq Jc).elim
  |lst l'=>
   obtain⟨p',IP,Jm,Jc,Jv⟩:=bE q;cases Jm;have:=I.list_inj sq Jc;subst this;cases n with
   |zero=>simp only[plainD]at h;cases h
   |succ n=>
    simp only[plainD]at h;rw[mU I l l' xs n h rs Jv]
  |dct tk ks vs=>
   exfalso;rw[Rep]at q;obtain⟨p',IP,o,Jm,rd,dd,_⟩:=q;cases Jm;obtain⟨Hj,_,ip,_⟩:=I.list sq;obtain⟨ob,_,ho,hc,_⟩:=ip;have NR:=rd.ok I.hok;cases tk with
   |true=>
    obtain⟨kvs,eo,_⟩:=dd;subst eo;obtain⟨_,_,_,_,o2,_,_,Jd,ex,_⟩:=NR;rw[ho]at Jd;cases Jd;rw[ex.1]at hc;exact absurd hc (by decide)
   |false=>
    obtain⟨kvs,eo,_⟩:=dd;subst eo;obtain⟨_,_,_,_,o2,_,_,Jd,ex,_⟩:=NR;rw[ho]at Jd;cases Jd;rw[ex.1]at hc;exact absurd hc (by decide)
 | .dct _ _ _,_,_,n,h,_,_=>by cases n <;> (simp only[plainD]at h;cases h)
theorem mU(I:Inv X pr σ H s):∀(ds es:List D) (xs:List V) (n:Nat),plainDs n ds=true->Reps X.K H ds xs->Reps X.K H es xs->ds=es
 |[],es,xs,n,_,r,q=>by
  rw[Reps]at r;subst r;cases es with
  |nil=>rfl
  |cons e es=>
   rw[Reps]at q;obtain⟨y,ys,ev,_⟩:=q;cases ev
 |d::ds,es,xs,n,h,r,q=>by
  rw[Reps]at r;obtain⟨y,ys,ev,r1,r2⟩:=r;subst ev;rw[plainDs,SY]at h;cases es with
  |nil=>
   rw[Reps]at q;cases q
  |cons e es=>
   rw[Reps]at q;obtain⟨y',ys',ev,q1,q2⟩:=q;cases ev;rw[kO I d e y n h.1 r1 q1,mU I ds es ys n h.2 r2 q2]
end
mutual
theorem i8:∀(d:D) (n:Nat),plainD n d=true->Hl d d=true
 | .non,_,_=>by simp only[Hl]
 | .bl _,_,_=>by simp only[Hl,Um]
 | .int _,_,_=>by simp only[Hl,Um]
 | .str _,_,_=>by simp only[Hl,Um]
 | .tup ds,0,h=>by simp only[plainD]at h;cases h
 | .tup ds,n+1,h=>by simp only[plainD]at h;simp only[Hl];exact kP ds n h
 | .lst ds,0,h=>by simp only[plainD]at h;cases h
 | .lst ds,n+1,h=>by simp only[plainD]at h;simp only[Hl];exact kP ds n h
 | .dct _ _ _,n,h=>by cases n <;> (simp only[plainD]at h;cases h)
theorem kP:∀(ds:List D) (n:Nat),plainDs n ds=true->jH ds ds=true
 |[],_,_=>by simp only[jH]
 |d::ds,n,h=>by
  rw[plainDs,SY]at h;rw[jH,i8 d n h.1,kP ds n h.2];rfl
end
open PySem.SeqAt
theorem bN{n:Nat}{tk:Bool}{ks vs:List D}(h:plainD n (.dct tk ks vs)=true):False:=by cases n <;> (simp only[plainD]at h;cases h)
mutual
theorem z5(I:Inv X pr σ H s):∀(d e:D) (x y:V) (v u:Value) (A:Around) (n:Nat),plainD n d=true->plainD n e=true->A.units+n<cLine->Rep X.K H d x->Rep X.K H e y->RelV x v->RelV y u->EqAt A s v u (Hl d e)
 | .non,e,x,y,v,u,A,n,h,h',hu,r,q,rx,ry=>by
  cases cA r;cases rx;cases e with
  |non=>cases cA q;cases ry;simp only[Hl];exact .same _
  |bl b=>cases dq q;cases ry;simp only[Hl];exact .none_bool _
  |int i=>cases bH q;obtain⟨t,rfl⟩:=ry;simp only[Hl];exact .none_int _ _
  |str l=>cases(bz q).1;obtain⟨t,rfl⟩:=ry;simp only[Hl];exact .none_str _ _
  |tup l=>obtain⟨p,xs,rfl,sq,_⟩:=bA q;cases ry;obtain⟨Hj,_,ip,_⟩:=I.tuple sq;simp only[Hl];exact .none_tuple (show s.heap.IsTuple p Hj.toArray from ip) (by lia)
  |lst l=>obtain⟨p,xs,rfl,sq,_⟩:=bE q;cases ry;obtain⟨Hj,_,ip,_⟩:=I.list sq;simp only[Hl];exact .none_list ip.isList (by lia)
  |dct tk ks vs=>exact(bN h').elim
 | .bl b,e,x,y,v,u,A,n,h,h',hu,r,q,rx,ry=>by
  cases dq r;cases rx;cases e with
  |non=>cases cA q;cases ry;simp only[Hl];exact .bool_none _
  |bl b=>cases dq q;cases ry;simp only[Hl];exact .bool_bool _ _
  |int i=>cases bH q;obtain⟨t,rfl⟩:=ry;simp only[Hl];exact .bool_int _ _ _
  |str l=>cases(bz q).1;obtain⟨t,rfl⟩:=ry;simp only[Hl];exact .bool_str _ _ _
  |tup l=>obtain⟨p,xs,rfl,sq,_⟩:=bA q;cases ry;obtain⟨Hj,_,ip,_⟩:=I.tuple sq;simp only[Hl];exact .bool_tuple _ (show s.heap.IsTuple p Hj.toArray from ip) (by lia)
  |lst l=>obtain⟨p,xs,rfl,sq,_⟩:=bE q;cases ry;obtain⟨Hj,_,ip,_⟩:=I.list sq;simp only[Hl];exact .bool_list _ ip.isList (by lia)
  |dct tk ks vs=>exact(bN h').elim
 | .int b,e,x,y,v,u,A,n,h,h',hu,r,q,rx,ry=>by
  cases bH r;obtain⟨t0,rfl⟩:=rx;cases e with
  |non=>cases cA q;cases ry;simp only[Hl];exact .int_none _ _
  |bl b=>cases dq q;cases ry;simp only[Hl];exact .int_bool _ _ _
  |int i=>cases bH q;obtain⟨t,rfl⟩:=ry;simp only[Hl];exact .int_int _ _ _ _
  |str l=>cases(bz q).1;obtain⟨t,rfl⟩:=ry;simp only[Hl];exact .int_str _ _ _ _
  |tup l=>obtain⟨p,xs,rfl,sq,_⟩:=bA q;cases ry;obtain⟨Hj,_,ip,_⟩:=I.tuple sq;simp only[Hl];exact .int_tuple _ _ (show s.heap.IsTuple p Hj.toArray from ip) (by lia)
  |lst l=>obtain⟨p,xs,rfl,sq,_⟩:=bE q;cases ry;obtain⟨Hj,_,ip,_⟩:=I.list sq;simp only[Hl];exact .int_list _ _ ip.isList (by lia)
  |dct tk ks vs=>exact(bN h').elim
 | .str b,e,x,y,v,u,A,n,h,h',hu,r,q,rx,ry=>by
  have hr:=(bz r).1;subst hr;obtain⟨t0,rfl⟩:=rx;cases e with
  |non=>cases cA q;cases ry;simp only[Hl];exact .str_none _ _
  |bl b=>cases dq q;cases ry;simp only[Hl];exact .str_bool _ _ _
  |int i=>cases bH q;obtain⟨t,rfl⟩:=ry;simp only[Hl];exact .str_int _ _ _ _
  |str l=>
   have hq:=(bz q).1;subst hq;obtain⟨t,rfl⟩:=ry;have e1:(b==l)=(S b==S l):=by
    rw[Th,Tu,Tu];exact⟨fun z=>by rw[z],S_inj⟩
   simp only[Hl,e1];exact .str_str _ _ _ _
  |tup l=>obtain⟨p,xs,rfl,sq,_⟩:=bA q;cases ry;obtain⟨Hj,_,ip,_⟩:=I.tuple sq;simp only[Hl];exact .str_tuple _ _ (show s.heap.IsTuple p Hj.toArray from ip) (by lia)
  |lst l=>obtain⟨p,xs,rfl,sq,_⟩:=bE q;cases ry;obtain⟨Hj,_,ip,_⟩:=I.list sq;simp only[Hl];exact .str_list _ _ ip.isList (by lia)
  |dct tk ks vs=>exact(bN h').elim
 | .tup l,e,x,y,v,u,A,n,h,h',hu,r,q,rx,ry=>by
  have rr:=r;obtain⟨p,xs,ev,sq,rs⟩:=bA r;subst ev;cases rx;obtain⟨Hj,vl,ip,_⟩:=I.tuple sq;have ip:s.heap.IsTuple p Hj.toArray:=ip;cases e with
  |non=>cases cA q;cases ry;simp only[Hl];exact .tuple_none ip (by lia)
  |bl b=>cases dq q;cases ry;simp only[Hl];exact .tuple_bool _ ip (by lia)
  |int i=>cases bH q;obtain⟨t,rfl⟩:=ry;simp only[Hl];exact .tuple_int _ _ ip (by lia)
  |str l=>cases(bz q).1;obtain⟨t,rfl⟩:=ry;simp only[Hl];exact .tuple_str _ _ ip (by lia)
  |tup l'=>
   obtain⟨p',IP,Jm,Jc,Jv⟩:=bA q;subst Jm;cases ry;by_cases hp:p=p'
   ·subst hp;have hz:=kO I _ _ _ n h rr q;rw[<-hz,i8 _ n h];exact .same _
   ·obtain⟨its',LQ,Jn,_⟩:=I.tuple Jc;have Jn:s.heap.IsTuple p' its'.toArray:=Jn;cases n with
    |zero=>simp only[plainD]at h;cases h
    |succ n=>
     simp only[plainD]at h h';have l1:=vl.length;have l2:=LQ.length;have l3:=rs.length;have l4:=Jv.length;have key:=RcAt.tuples (A:=A) (e:=fun j=>Hl (l.getD j .non) (l'.getD j .non)) ip Jn (by lia) fun j h1 h2=>by
      simp only[SQ]at h1 h2;have g1:l[j]?=some (l[j]'(by lia)):=List.getElem?_eq_getElem _;have g2:l'[j]?=some (l'[j]'(by lia)):=List.getElem?_eq_getElem _;obtain⟨w1,KO,KP⟩:=rs.get g1;obtain⟨w2,LR,LS⟩:=Jv.get g2;obtain⟨u1,JM,KQ⟩:=vl.get KO;obtain⟨u2,Kq,LU⟩:=LQ.get LR;have q1:Hj.toArray[j]=u1:=by rw[List.getElem?_eq_getElem h1]at JM;simpa using JM
      have q2:its'.toArray[j]=u2:=by rw[List.getElem?_eq_getElem h2]at Kq;simpa using Kq
      rw[q1,q2,List.getD_eq_getElem?_getD,List.getD_eq_getElem?_getD,g1,g2];exact oO I l j _ g1 _ w1 w2 u1 u2 A.in1 n (plainDs_mem h g1) (plainDs_mem h' g2) (by show A.units+1+n<cLine;lia) KP LS KQ LU
     simp only[Hl];have fin:((List.range (min Hj.toArray.size its'.toArray.size)).all (fun j=>Hl (l.getD j .non) (l'.getD j .non))&&Hj.toArray.size==its'.toArray.size)=jH l l':=by
      simp only[SQ];by_cases hl:l.length=l'.length
      ·rw[<-fD hl,show min Hj.length its'.length=l.length by lia,show(Hj.length==its'.length)=true by rw[Tu];lia,VJ]
      ·rw[i7 hl,show(Hj.length==its'.length)=false by rw[TN];lia,V5]
     rw[<-fin];exact .of_refs hp key
  |lst l'=>obtain⟨p',IP,Jm,Jc,_⟩:=bE q;subst Jm;cases ry;obtain⟨its',_,Jn,_⟩:=I.list Jc;simp only[Hl];exact .tuple_list ip Jn.isList (by lia)
  |dct tk ks vs=>exact(bN h').elim
 | .lst l,e,x,y,v,u,A,n,h,h',hu,r,q,rx,ry=>by
  have rr:=r;obtain⟨p,xs,ev,sq,rs⟩:=bE r;subst ev;cases rx;obtain⟨Hj,vl,ip,_⟩:=I.list sq;have ip:=ip.isList;cases e with
  |non=>cases cA q;cases ry;simp only[Hl];exact .list_none ip (by lia)
  |bl b=>cases dq q;cases ry;simp only[Hl];exact .list_bool _ ip (by lia)
  |int i=>cases bH q;obtain⟨t,rfl⟩:=ry;simp only[Hl];exact .list_int _ _ ip (by lia)
  |str l=>cases(bz q).1;obtain⟨t,rfl⟩:=ry;simp only[Hl];exact .list_str _ _ ip (by lia)
  |lst l'=>
   obtain⟨p',IP,Jm,Jc,Jv⟩:=bE q;subst Jm;cases ry;by_cases hp:p=p'
   ·subst hp;have hz:=kO I _ _ _ n h rr q;rw[<-hz,i8 _ n h];exact .same _
   ·obtain⟨its',LQ,Jn,_⟩:=I.list Jc;have Jn:=Jn.isList;cases n with
    |zero=>simp only[plainD]at h;cases h
    |succ n=>
     simp only[plainD]at h h';have l1:=vl.length;have l2:=LQ.length;have l3:=rs.length;have l4:=Jv.length;simp only[Hl];by_cases hl:l.length=l'.length
     ·have key:=RcAt.lists (A:=A) (e:=fun j=>Hl (l.getD j .non) (l'.getD j .non)) ip Jn (by simp only[SQ];lia) (by lia) fun j h1 h2=>by
       simp only[SQ]at h1 h2;have g1:l[j]?=some (l[j]'(by lia)):=List.getElem?_eq_getElem _;have g2:l'[j]?=some (l'[j]'(by lia)):=List.getElem?_eq_getElem _;obtain⟨w1,KO,KP⟩:=rs.get g1;obtain⟨w2,LR,LS⟩:=Jv.get g2;obtain⟨u1,JM,KQ⟩:=vl.get KO;obtain⟨u2,Kq,LU⟩:=LQ.get LR;have q1:Hj.toArray[j]=u1:=by rw[List.getElem?_eq_getElem h1]at JM;simpa using JM
       have q2:its'.toArray[j]=u2:=by rw[List.getElem?_eq_getElem h2]at Kq;simpa using Kq
       rw[q1,q2,List.getD_eq_getElem?_getD,List.getD_eq_getElem?_getD,g1,g2];exact oO I l j _ g1 _ w1 w2 u1 u2 A.in1 n (plainDs_mem h g1) (plainDs_mem h' g2) (by show A.units+1+n<cLine;lia) KP LS KQ LU
      rw[<-fD hl,show l.length=Hj.toArray.size by simp only[SQ];lia];exact .of_refs hp key
     ·rw[i7 hl];exact .of_refs hp (RcAt.lists_lengths ip Jn (by simp only[SQ,Yu];lia) (by lia))
  |tup l'=>obtain⟨p',IP,Jm,Jc,_⟩:=bA q;subst Jm;cases ry;obtain⟨its',_,Jn,_⟩:=I.tuple Jc;simp only[Hl];exact .list_tuple ip (show s.heap.IsTuple p' its'.toArray from Jn) (by lia)
  |dct tk ks vs=>exact(bN h').elim
 | .dct _ _ _,_,_,_,_,_,_,n,h,_,_,_,_,_,_=>(bN h).elim
theorem oO(I:Inv X pr σ H s):∀(ds:List D) (j:Nat) (d:D),ds[j]?=some d->∀(e:D) (x y:V) (v u:Value) (A:Around) (n:Nat),plainD n d=true->plainD n e=true->A.units+n<cLine->Rep X.K H d x->Rep X.K H e y->RelV x v->RelV y u->EqAt A s v u (Hl d e)
 |[],_,_,hj=>by simp at hj
 |d'::ds,0,d,hj=>by
  simp at hj;subst hj;exact z5 I d'
 |d'::ds,j+1,d,hj=>oO I ds j d (by simpa using hj)
end
end
section
variable{X:Cx}
def Ip(a b:D):Res R:=if plainD 40 a&&plainD 40 b then .ok (.f,.bl (Hl a b)) else .bad
def Je(a b:D):Res R:=if plainD 40 a&&plainD 40 b then .ok (.f,.bl (!Hl a b)) else .bad
open PySem.SeqAt in
theorem CF{pr:List (Addr×Obj)}{σ:L2.St}{H:Hp}{s:Shared}(I:Inv X pr σ H s){d e:D}{x y:V}{v u:Value}{A:Around}(h:plainD 40 d=true)(h':plainD 40 e=true)(hu:A.units+64<cLine)(r:Rep X.K H d x)(q:Rep X.K H e y)(rx:RelV x v)(ry:RelV y u):
  RcAt A s v u (Hl d e)/\RcNeAt A s v u (!Hl d e):=by
 cases d with
 |non=>
  cases cA r;cases rx;cases e with
  |non=>cases cA q;cases ry;simp only[Hl];exact⟨.none_none,.none_none⟩
  |bl b=>cases dq q;cases ry;simp only[Hl];exact⟨.none_bool _,.none_bool _⟩
  |int i=>cases bH q;obtain⟨t,rfl⟩:=ry;simp only[Hl];exact⟨.none_int _ _,.none_int _ _⟩
  |str l=>cases(bz q).1;obtain⟨t,rfl⟩:=ry;simp only[Hl];exact⟨.none_str _ _,.none_str _ _⟩
  |tup l=>obtain⟨p,xs,rfl,sq,_⟩:=bA q;cases ry;obtain⟨Hj,_,ip,_⟩:=I.tuple sq;simp only[Hl];exact⟨.none_tuple (show s.heap.IsTuple p Hj.toArray from ip) (by lia),.none_tuple (show s.heap.IsTuple p Hj.toArray from ip) (by lia)⟩
  |lst l=>obtain⟨p,xs,rfl,sq,_⟩:=bE q;cases ry;obtain⟨Hj,_,ip,_⟩:=I.list sq;simp only[Hl];exact⟨.none_list ip.isList (by lia),.none_list ip.isList (by lia)⟩
  |dct tk ks vs=>exact(bN h').elim
 |bl b=>
  cases dq r;cases rx;cases e with
  |non=>cases cA q;cases ry;simp only[Hl];exact⟨.bool_none _,.bool_none _⟩
  |bl b=>cases dq q;cases ry;simp only[Hl];exact⟨.bool_bool _ _,.bool_bool _ _⟩
  |int i=>cases bH q;obtain⟨t,rfl⟩:=ry;simp only[Hl];exact⟨.bool_int _ _ _,.bool_int _ _ _⟩
  |str l=>cases(bz q).1;obtain⟨t,rfl⟩:=ry;simp only[Hl];exact⟨.bool_str _ _ _,.bool_str _ _ _⟩
  |tup l=>obtain⟨p,xs,rfl,sq,_⟩:=bA q;cases ry;obtain⟨Hj,_,ip,_⟩:=I.tuple sq;simp only[Hl];exact⟨.bool_tuple _ (show s.heap.IsTuple p Hj.toArray from ip) (by lia),.bool_tuple _ (show s.heap.IsTuple p Hj.toArray from ip) (by lia)⟩
  |lst l=>obtain⟨p,xs,rfl,sq,_⟩:=bE q;cases ry;obtain⟨Hj,_,ip,_⟩:=I.list sq;simp only[Hl];exact⟨.bool_list _ ip.isList (by lia),.bool_list _ ip.isList (by lia)⟩
  |dct tk ks vs=>exact(bN h').elim
 |int b=>
  cases bH r;obtain⟨t0,rfl⟩:=rx;cases e with
  |non=>cases cA q;cases ry;simp only[Hl];exact⟨.int_none _ _,.int_none _ _⟩
  |bl b=>cases dq q;cases ry;simp only[Hl];exact⟨.int_bool _ _ _,.int_bool _ _ _⟩
  |int i=>cases bH q;obtain⟨t,rfl⟩:=ry;simp only[Hl];exact⟨.int_int _ _ _ _,.int_int _ _ _ _⟩
  |str l=>cases(bz q).1;obtain⟨t,rfl⟩:=ry;simp only[Hl];exact⟨.int_str _ _ _ _,.int_str _ _ _ _⟩
  |tup l=>obtain⟨p,xs,rfl,sq,_⟩:=bA q;cases ry;obtain⟨Hj,_,ip,_⟩:=I.tuple sq;simp only[Hl];exact⟨.int_tuple _ _ (show s.heap.IsTuple p Hj.toArray from ip) (by lia),.int_tuple _ _ (show s.heap.IsTuple p Hj.toArray from ip) (by lia)⟩
  |lst l=>obtain⟨p,xs,rfl,sq,_⟩:=bE q;cases ry;obtain⟨Hj,_,ip,_⟩:=I.list sq;simp only[Hl];exact⟨.int_list _ _ ip.isList (by lia),.int_list _ _ ip.isList (by lia)⟩
  |dct tk ks vs=>exact(bN h').elim
 |str b=>
  have hr:=(bz r).1;subst hr;obtain⟨t0,rfl⟩:=rx;cases e with
  |non=>cases cA q;cases ry;simp only[Hl];exact⟨.str_none _ _,.str_none _ _⟩
  |bl b=>cases dq q;cases ry;simp only[Hl];exact⟨.str_bool _ _ _,.str_bool _ _ _⟩
  |int i=>cases bH q;obtain⟨t,rfl⟩:=ry;simp only[Hl];exact⟨.str_int _ _ _ _,.str_int _ _ _ _⟩
  |str l=>
   have hq:=(bz q).1;subst hq;obtain⟨t,rfl⟩:=ry;have e1:(b==l)=(S b==S l):=by
    rw[Th,Tu,Tu];exact⟨fun z=>by rw[z],S_inj⟩
   simp only[Hl,e1];exact⟨.str_str _ _ _ _,.str_str _ _ _ _⟩
  |tup l=>obtain⟨p,xs,rfl,sq,_⟩:=bA q;cases ry;obtain⟨Hj,_,ip,_⟩:=I.tuple sq;simp only[Hl];exact⟨.str_tuple _ _ (show s.heap.IsTuple p Hj.toArray from ip) (by lia),.str_tuple _ _ (show s.heap.IsTuple p Hj.toArray from ip) (by lia)⟩
  |lst l=>obtain⟨p,xs,rfl,sq,_⟩:=bE q;cases ry;obtain⟨Hj,_,ip,_⟩:=I.list sq;simp only[Hl];exact⟨.str_list _ _ ip.isList (by lia),.str_list _ _ ip.isList (by lia)⟩
  |dct tk ks vs=>exact(bN h').elim
 |tup l=>
  obtain⟨p,xs,ev,sq,rs⟩:=bA r;subst ev;cases rx;obtain⟨Hj,vl,ip,_⟩:=I.tuple sq;have ip:s.heap.IsTuple p Hj.toArray:=ip;cases e with
  |non=>cases cA q;cases ry;simp only[Hl];exact⟨.tuple_none ip (by lia),.tuple_none ip (by lia)⟩
  |bl b=>cases dq q;cases ry;simp only[Hl];exact⟨.tuple_bool _ ip (by lia),.tuple_bool _ ip (by lia)⟩
  |int i=>cases bH q;obtain⟨t,rfl⟩:=ry;simp only[Hl];exact⟨.tuple_int _ _ ip (by lia),.tuple_int _ _ ip (by lia)⟩
  |str l=>cases(bz q).1;obtain⟨t,rfl⟩:=ry;simp only[Hl];exact⟨.tuple_str _ _ ip (by lia),.tuple_str _ _ ip (by lia)⟩
  |tup l'=>
   obtain⟨p',IP,Jm,Jc,Jv⟩:=bA q;subst Jm;cases ry;obtain⟨its',LQ,Jn,_⟩:=I.tuple Jc;have Jn:s.heap.IsTuple p' its'.toArray:=Jn;simp only[plainD]at h h';have l1:=vl.length;have l2:=LQ.length;have l3:=rs.length;have l4:=Jv.length;have el:∀j (h1:j<Hj.toArray.size) (h2:j<its'.toArray.size),EqAt A.in1 s Hj.toArray[j] its'.toArray[j] ((fun j=>Hl (l.getD j .non) (l'.getD j .non)) j):=fun j h1 h2=>by
    simp only[SQ]at h1 h2;have g1:l[j]?=some (l[j]'(by lia)):=List.getElem?_eq_getElem _;have g2:l'[j]?=some (l'[j]'(by lia)):=List.getElem?_eq_getElem _;obtain⟨w1,KO,KP⟩:=rs.get g1;obtain⟨w2,LR,LS⟩:=Jv.get g2;obtain⟨u1,JM,KQ⟩:=vl.get KO;obtain⟨u2,Kq,LU⟩:=LQ.get LR;have q1:Hj.toArray[j]=u1:=by rw[List.getElem?_eq_getElem h1]at JM;simpa using JM
    have q2:its'.toArray[j]=u2:=by rw[List.getElem?_eq_getElem h2]at Kq;simpa using Kq
    dsimp only;rw[q1,q2,List.getD_eq_getElem?_getD,List.getD_eq_getElem?_getD,g1,g2];exact oO I l j _ g1 _ w1 w2 u1 u2 A.in1 39 (plainDs_mem h g1) (plainDs_mem h' g2) (by show A.units+1+39<cLine;lia) KP LS KQ LU
   simp only[Hl];have fin:((List.range (min Hj.toArray.size its'.toArray.size)).all (fun j=>Hl (l.getD j .non) (l'.getD j .non))&&Hj.toArray.size==its'.toArray.size)=jH l l':=by
    simp only[SQ];by_cases hl:l.length=l'.length
    ·rw[<-fD hl,show min Hj.length its'.length=l.length by lia,show(Hj.length==its'.length)=true by rw[Tu];lia,VJ]
    ·rw[i7 hl,show(Hj.length==its'.length)=false by rw[TN];lia,V5]
   rw[<-fin];exact⟨.tuples ip Jn (by lia) el,.tuples ip Jn (by lia) el⟩
  |lst l'=>obtain⟨p',IP,Jm,Jc,_⟩:=bE q;subst Jm;cases ry;obtain⟨its',_,Jn,_⟩:=I.list Jc;simp only[Hl];exact⟨.tuple_list ip Jn.isList (by lia),.tuple_list ip Jn.isList (by lia)⟩
  |dct tk ks vs=>exact(bN h').elim
 |lst l=>
  obtain⟨p,xs,ev,sq,rs⟩:=bE r;subst ev;cases rx;obtain⟨Hj,vl,ip,_⟩:=I.list sq;have ip:=ip.isList;cases e with
  |non=>cases cA q;cases ry;simp only[Hl];exact⟨.list_none ip (by lia),.list_none ip (by lia)⟩
  |bl b=>cases dq q;cases ry;simp only[Hl];exact⟨.list_bool _ ip (by lia),.list_bool _ ip (by lia)⟩
  |int i=>cases bH q;obtain⟨t,rfl⟩:=ry;simp only[Hl];exact⟨.list_int _ _ ip (by lia),.list_int _ _ ip (by lia)⟩
  |str l=>cases(bz q).1;obtain⟨t,rfl⟩:=ry;simp only[Hl];exact⟨.list_str _ _ ip (by lia),.list_str _ _ ip (by lia)⟩
  |lst l'=>
   obtain⟨p',IP,Jm,Jc,Jv⟩:=bE q;subst Jm;cases ry;obtain⟨its',LQ,Jn,_⟩:=I.list Jc;have Jn:=Jn.isList;simp only[plainD]at h h';have l1:=vl.length;have l2:=LQ.length;have l3:=rs.length;have l4:=Jv.length;simp only[Hl];by_cases hl:l.length=l'.length
   ·have el:∀j (h1:j<Hj.toArray.size) (h2:j<its'.toArray.size),EqAt A.in1 s Hj.toArray[j] its'.toArray[j] ((fun j=>Hl (l.getD j .non) (l'.getD j .non)) j):=fun j h1 h2=>by
     simp only[SQ]at h1 h2;have g1:l[j]?=some (l[j]'(by lia)):=List.getElem?_eq_getElem _;have g2:l'[j]?=some (l'[j]'(by lia)):=List.getElem?_eq_getElem _;obtain⟨w1,KO,KP⟩:=rs.get g1;obtain⟨w2,LR,LS⟩:=Jv.get g2;obtain⟨u1,JM,KQ⟩:=vl.get KO;obtain⟨u2,Kq,LU⟩:=LQ.get LR;have q1:Hj.toArray[j]=u1:=by rw[List.getElem?_eq_getElem h1]at JM;simpa using JM
     have q2:its'.toArray[j]=u2:=by rw[List.getElem?_eq_getElem h2]at Kq;simpa using Kq
     dsimp only;rw[q1,q2,List.getD_eq_getElem?_getD,List.getD_eq_getElem?_getD,g1,g2];exact oO I l j _ g1 _ w1 w2 u1 u2 A.in1 39 (plainDs_mem h g1) (plainDs_mem h' g2) (by show A.units+1+39<cLine;lia) KP LS KQ LU
    rw[<-fD hl,show l.length=Hj.toArray.size by simp only[SQ];lia];exact⟨.lists ip Jn (by simp only[SQ];lia) (by lia) el,.lists ip Jn (by simp only[SQ];lia) (by lia) el⟩
   ·rw[i7 hl];exact⟨.lists_lengths ip Jn (by simp only[SQ,Yu];lia) (by lia),.lists_lengths ip Jn (by simp only[SQ,Yu];lia) (by lia)⟩
  |tup l'=>obtain⟨p',IP,Jm,Jc,_⟩:=bA q;subst Jm;cases ry;obtain⟨its',_,Jn,_⟩:=I.tuple Jc;simp only[Hl];exact⟨.list_tuple ip (show s.heap.IsTuple p' its'.toArray from Jn) (by lia),.list_tuple ip (show s.heap.IsTuple p' its'.toArray from Jn) (by lia)⟩
  |dct tk ks vs=>exact(bN h').elim
 |dct tk ks vs=>exact(bN h).elim
theorem fM(hu:X.A.units+64<cLine):HX X (compareOp .Eq) (rGA X.K Ip):=by
 rintro pr s σ H x y v u Q I rx ry ⟨G,fp,es,vs,a,b,r,⟨rel,k⟩,va,vb,e⟩;unfold Ip at e;split at e
 ·rename_i hp;cases e;rw[SY]at hp;exact(CF I hp.1 hp.2 hu va vb rx ry).1 _ _ _ _ ⟨.bl _,H,I,rfl,k _ H G fp .refl (rel.push (cQ _))⟩
 ·cases e
theorem mV(hu:X.A.units+64<cLine):HX X (compareOp .NotEq) (rGA X.K Je):=by
 rintro pr s σ H x y v u Q I rx ry ⟨G,fp,es,vs,a,b,r,⟨rel,k⟩,va,vb,e⟩;unfold Je at e;split at e
 ·rename_i hp;cases e;rw[SY]at hp;exact(CF I hp.1 hp.2 hu va vb rx ry).2 _ _ _ _ ⟨.bl _,H,I,rfl,k _ H G fp .refl (rel.push (cQ _))⟩
 ·cases e
def tw(a:D)(ds:List D):Bool:=ds.any fun d=>Hl d a
noncomputable def Ly(a b:D):Res R:=match b with
 | .lst ds=>if plainD 40 a&&plainDs 40 ds then .ok (.f,.bl (tw a ds)) else .bad
 | .tup ds=>if plainD 40 a&&plainDs 40 ds then .ok (.f,.bl (tw a ds)) else .bad
 | .str l=>match a with
  | .str [c]=>.ok (.f,.bl (decide (c∈l)))
  |_=>.bad
 |_=>.bad
def wJ(a b:D):Res R:=(Ly a b).bind fun r=>match r.2 with
 | .bl k=>.ok (.f,.bl (!k))
 |_=>.bad
open PySem.SeqAt in
theorem qX{pr:List (Addr×Obj)}{σ:L2.St}{H:Hp}{s:Shared}(I:Inv X pr σ H s){a:D}{x:V}{v:Value}{A:Around}(h:plainD 40 a=true)(hu:A.units+64<cLine)(r:Rep X.K H a x)(rx:RelV x v):
  ∀(ds:List D) (xs:List V) (us:List Value),plainDs 40 ds=true->Reps X.K H ds xs->Vals xs us->∃e:Value->Bool,us.any e=tw a ds/\∀u∈us,EqAt A s u v (e u):=by
 classical
 intro ds xs us hp rs vl;refine⟨fun u=>decide (∃(j:Nat) (d:D),ds[j]?=some d/\us[j]?=some u/\Hl d a=true),?_,fun u Rn=>?_⟩
 ·rw[Th,Ua];unfold tw;rw[Ua];constructor
  ·rintro⟨u,_,hd⟩;obtain⟨j,d,h1,_,h2⟩:=U6 hd;exact⟨d,Ta h1,h2⟩
  ·rintro⟨d,hd,h2⟩;obtain⟨j,hj⟩:=Uh.mp hd;obtain⟨w1,KO,KP⟩:=rs.get hj;obtain⟨u1,JM,KQ⟩:=vl.get KO;exact⟨u1,Ta JM,Tr ⟨j,d,hj,JM,h2⟩⟩
 ·obtain⟨j,hj⟩:=Uh.mp Rn;have l1:=vl.length;have l2:=rs.length;have R7:=(List.getElem?_eq_some_iff.mp hj).1;have g1:ds[j]?=some (ds[j]'(by lia)):=List.getElem?_eq_getElem _;obtain⟨w1,KO,KP⟩:=rs.get g1;obtain⟨u1,JM,KQ⟩:=vl.get KO;rw[hj]at JM;cases JM;have z:=z5 I _ _ w1 x u v A 40 (plainDs_mem hp g1) h (by lia) KP r KQ rx;have e:decide (∃(j:Nat) (d:D),ds[j]?=some d/\us[j]?=some u/\Hl d a=true)=Hl (ds[j]'(by lia)) a:=by
   rw[Th,S3];constructor
   ·rintro⟨j2,d2,k1,k2,k3⟩;obtain⟨w2,LR,LS⟩:=rs.get k1;obtain⟨u2,Kq,LU⟩:=vl.get LR;rw[k2]at Kq;cases Kq;have:=KQ.inj LU;subst this;rw[kO I _ _ _ 40 (plainDs_mem hp g1) KP LS];exact k3
   ·intro k3;exact⟨j,_,g1,hj,k3⟩
  show EqAt A s u v (decide (∃(j:Nat) (d:D),ds[j]?=some d/\us[j]?=some u/\Hl d a=true));rw[e];exact z
theorem oP(l:List Nat)(c:Nat):(!(Builtin.Str.occurrences (S l) (S [c]) 0 (S l).length 1).isEmpty)=decide (c∈l):=by
 have h:=PySem.StrLaws.found_one (S l) c;rw[dC]at h;exact h
theorem mW{e:Value->Bool}(us:List Value):us.toArray.any e=us.any e:=by simp
theorem E4(hu:X.A.units+65<cLine):HX X (compareOp .In) (rGA X.K Ly):=by
 rintro pr s σ H x y v u Q I rx ry ⟨G,fp,es,vs,a,b,r,⟨rel,k⟩,va,vb,e⟩;unfold Ly at e;split at e
 ·rename_i ds;split at e
  ·rename_i hp;cases e;rw[SY]at hp;obtain⟨p,xs,ev,sq,rs⟩:=bE vb;subst ev;cases ry;obtain⟨Hj,vl,ip,_⟩:=I.list sq;obtain⟨ef,e1,e2⟩:=qX (A:=X.A.in1) I hp.1 (by show X.A.units+1+64<cLine;lia) va rx ds xs Hj hp.2 rs vl;refine SeqAt.in_listAt ef ip.isList (fun z hz=>e2 z (by simpa using hz)) ?_;rw[mW,e1];exact⟨.bl _,H,I,rfl,k _ H G fp .refl (rel.push (cQ _))⟩
  ·cases e
 ·rename_i ds;split at e
  ·rename_i hp;cases e;rw[SY]at hp;obtain⟨p,xs,ev,sq,rs⟩:=bA vb;subst ev;cases ry;obtain⟨Hj,vl,ip,_⟩:=I.tuple sq;obtain⟨ef,e1,e2⟩:=qX (A:=X.A.in1) I hp.1 (by show X.A.units+1+64<cLine;lia) va rx ds xs Hj hp.2 rs vl;refine SeqAt.in_tupleAt ef (show s.heap.IsTuple p Hj.toArray from ip) (fun z hz=>e2 z (by simpa using hz)) ?_;rw[mW,e1];exact⟨.bl _,H,I,rfl,k _ H G fp .refl (rel.push (cQ _))⟩
  ·cases e
 ·rename_i l;split at e
  ·rename_i c;cases e;obtain⟨e1,h1⟩:=bz va;obtain⟨e2,h2⟩:=bz vb;subst e1;subst e2;refine tX pr s σ H _ _ v u Q I rx ry ⟨_,_,rfl,rfl,?_⟩;rw[oP];exact k _ H G fp .refl (rel.push (cQ _))
  ·cases e
 ·cases e
theorem CG(hu:X.A.units+65<cLine):HX X (compareOp .NotIn) (rGA X.K wJ):=by
 rintro pr s σ H x y v u Q I rx ry ⟨G,fp,es,vs,a,b,r,⟨rel,k⟩,va,vb,e⟩;unfold wJ at e;obtain⟨r0,e0,e⟩:=au e;unfold Ly at e0;split at e0
 ·rename_i ds;split at e0
  ·rename_i hp;cases e0;cases e;rw[SY]at hp;obtain⟨p,xs,ev,sq,rs⟩:=bE vb;subst ev;cases ry;obtain⟨Hj,vl,ip,_⟩:=I.list sq;obtain⟨ef,e1,e2⟩:=qX (A:=X.A.in1) I hp.1 (by show X.A.units+1+64<cLine;lia) va rx ds xs Hj hp.2 rs vl;refine SeqAt.notIn_listAt ef ip.isList (fun z hz=>e2 z (by simpa using hz)) ?_;rw[mW,e1];exact⟨.bl _,H,I,rfl,k _ H G fp .refl (rel.push (cQ _))⟩
  ·cases e0
 ·rename_i ds;split at e0
  ·rename_i hp;cases e0;cases e;rw[SY]at hp;obtain⟨p,xs,ev,sq,rs⟩:=bA vb;subst ev;cases ry;obtain⟨Hj,vl,ip,_⟩:=I.tuple sq;obtain⟨ef,e1,e2⟩:=qX (A:=X.A.in1) I hp.1 (by show X.A.units+1+64<cLine;lia) va rx ds xs Hj hp.2 rs vl;refine SeqAt.notIn_tupleAt ef (show s.heap.IsTuple p Hj.toArray from ip) (fun z hz=>e2 z (by simpa using hz)) ?_;rw[mW,e1];exact⟨.bl _,H,I,rfl,k _ H G fp .refl (rel.push (cQ _))⟩
  ·cases e0
 ·rename_i l;split at e0
  ·rename_i c;cases e0;cases e;obtain⟨e1,h1⟩:=bz va;obtain⟨e2,h2⟩:=bz vb;subst e1;subst e2;refine nW pr s σ H _ _ v u Q I rx ry ⟨_,_,rfl,rfl,?_⟩;rw[oP];exact k _ H G fp .refl (rel.push (cQ _))
  ·cases e0
 ·cases e0
def Nl(a b:D):Res R:=match b with
 | .bl k=>.ok (.f,.bl (match a with | .bl j=>j==k|_=>false))
 | .non=>.ok (.f,.bl (match a with | .non=>true|_=>false))
 |_=>.bad
def isnO(a b:D):Res R:=(Nl a b).bind fun r=>match r.2 with
 | .bl k=>.ok (.f,.bl (!k))
 |_=>.bad
theorem qY{K:W.Frag}{H:Hp}{a b:D}{x y:V}{v u:Value}{r:R}(va:Rep K H a x)(vb:Rep K H b y)(rx:RelV x v)(ry:RelV y u)(e:Nl a b=.ok r):plainIs v u=true/\r=(.f,.bl (v==u)):=by
 unfold Nl at e;split at e
 ·rename_i k;cases e;cases dq vb;cases ry;cases a with
  |non=>cases cA va;cases rx;exact⟨rfl,rfl⟩
  |bl j=>cases dq va;cases rx;refine⟨rfl,?_⟩;cases j <;> cases k <;> rfl
  |int i=>cases bH va;obtain⟨t,rfl⟩:=rx;exact⟨rfl,rfl⟩
  |str l=>cases(bz va).1;obtain⟨t,rfl⟩:=rx;exact⟨rfl,rfl⟩
  |tup l=>obtain⟨p,xs,rfl,_⟩:=bA va;cases rx;exact⟨rfl,rfl⟩
  |lst l=>obtain⟨p,xs,rfl,_⟩:=bE va;cases rx;exact⟨rfl,rfl⟩
  |dct tk ks vs=>rw[Rep]at va;obtain⟨p,xs,o,rfl,_⟩:=va;cases rx;exact⟨rfl,rfl⟩
 ·cases e;cases cA vb;cases ry;cases a with
  |non=>cases cA va;cases rx;exact⟨rfl,rfl⟩
  |bl j=>cases dq va;cases rx;exact⟨rfl,rfl⟩
  |int i=>cases bH va;obtain⟨t,rfl⟩:=rx;exact⟨rfl,rfl⟩
  |str l=>cases(bz va).1;obtain⟨t,rfl⟩:=rx;exact⟨rfl,rfl⟩
  |tup l=>obtain⟨p,xs,rfl,_⟩:=bA va;cases rx;exact⟨rfl,rfl⟩
  |lst l=>obtain⟨p,xs,rfl,_⟩:=bE va;cases rx;exact⟨rfl,rfl⟩
  |dct tk ks vs=>rw[Rep]at va;obtain⟨p,xs,o,rfl,_⟩:=va;cases rx;exact⟨rfl,rfl⟩
 ·cases e
theorem CI:HX X (compareOp .Is) (rGA X.K Nl):=by
 rintro pr s σ H x y v u Q I rx ry ⟨G,fp,es,vs,a,b,r,⟨rel,k⟩,va,vb,e⟩;obtain⟨h1,h2⟩:=qY va vb rx ry e;subst h2;exact wpAny_is_plain h1 ⟨.bl _,H,I,rfl,k _ H G fp .refl (rel.push (cQ _))⟩
theorem kQ:HX X (compareOp .IsNot) (rGA X.K isnO):=by
 rintro pr s σ H x y v u Q I rx ry ⟨G,fp,es,vs,a,b,r,⟨rel,k⟩,va,vb,e⟩;obtain⟨r0,e0,e⟩:=au e;obtain⟨h1,h2⟩:=qY va vb rx ry e0;subst h2;cases e;exact wpAny_isNot_plain h1 ⟨.bl _,H,I,rfl,k _ H G fp .refl (rel.push (cQ _))⟩
end
section
variable{X:Cx}
theorem oQ(hc:X.calm=true):dm X (.builtin "max") (rC X.K maxD):=by
 rintro pr s σ H xs us Q I rx ⟨G,fp,es,vs,ds,r,⟨rel,k⟩,vd,e⟩;unfold maxD at e;split at e
 ·rename_i d;split at e
  ·rename_i n ns hb;cases e;obtain⟨v,ev,vt⟩:=nR vd;obtain⟨p,ep,sq⟩:=kK rel.gh hb vt;subst ev;subst ep;exact ux hc pr s σ H _ us Q I rx ⟨p,n::ns,rfl,sq,by simp,k _ H G fp .refl (rel.push (bI _))⟩
  ·cases e
 ·rename_i i j;cases e;obtain⟨v,w',ev,v1,v2⟩:=FU vd;subst ev;cases bC v1;cases bC v2;obtain⟨u,u',rfl,⟨t,rfl⟩,t',rfl⟩:=wX rx;refine max_two_ints (I.ok.hd hc) fun h' tk kk=>?_
  have I2:Inv X pr σ H {s with heap:=h',toks:=tk}:=I.kept kk;refine⟨.int (if i<j then j else i),H,I2,?_,k _ H G fp .refl (rel.push (bI _))⟩;by_cases Mf:i<j
  ·rw[SU Mf,SU (show j>i from Mf)];exact⟨_,rfl⟩
  ·rw[SX Mf,SX (show ¬ j>i from Mf)];exact⟨_,rfl⟩
 ·cases e
def z6(f g:FX):FX:=fun env=>(f env).bind fun p=>(g p.2).bind fun q=>match(oN p.1.2).bind dS,q.1.2 with
 |some ns,.int d=>.ok ((.f,.int (NX.maxD ns d)),q.2)
 |_,_=>.bad
theorem z7{e k:Expr}{f g:FX}{p pos Lf:Pos}(hc:X.calm=true)(hg:Gl X "max")(hm:X.mg "max" = none)(he:QE X e f)(hk:QE X k g)(hs:starEach [e] X.env=[(false,eval e X.env)]:=by rfl):
  QE X (.Call (.Name "max" p) [e] [⟨some "default",k,Lf⟩] pos) (z6 f g):=bS (zw hc hg hm he hk hs) fun σ H Q Hs=>by
 obtain⟨G,env,fp,r,env',rel,e,k⟩:=Hs;obtain⟨⟨r1,Hg⟩,e1,e⟩:=au e;obtain⟨⟨r2,Hm⟩,e2,e⟩:=au e;dsimp only at e;split at e
 ·rename_i ns d OL hd;cases e;refine⟨G,env,fp,r1,Hg,rel,e1,fun v H1 G1 HB Hv Hi=>?_⟩;obtain⟨G2,b,rv,Hh,Hn⟩:=Hi.freeze;refine⟨G2,Hg,b,r2,_,Hh,e2,fun w' H3 G3 IJ HM HJ=>?_⟩;have hw:=HJ.top;obtain⟨b3,HY,Io⟩:=HJ.drop;rw[hd]at hw;obtain⟨p',ep,sq⟩:=kK HY.gh OL (Vw.of HY.gh (Rep.mono HM.gg rv));subst ep;exact⟨p',ns,d,rfl,by rw[bH hw],sq,k _ H3 G3 b3 (Hv.trans (Hn.trans (HM.trans Io))) (HY.push (bI _))⟩
 ·cases e
def Hd:List D->Res R
 |[.bl b]=>.ok (.f,.int (if b then 1 else 0))
 |[.int i]=>.ok (.f,.int i)
 |_=>.bad
def p6:D->String
 | .non=>"NoneType"
 | .bl _=>"bool"
 | .int _=>"int"
 | .str _=>"str"
 | .tup _=>"tuple"
 | .lst _=>"list"
 | .dct _ _ _=>"dict"
def wK(T:String)(d:D):Bool:=p6 d==T||(p6 d == "bool" && T == "int")
def Qv(T:String)(f:FO):FX:=fun env=>(f env).bind fun p=>(sO p.2 p.1).bind fun d=>.ok ((.f,.bl (wK T d)),p.2)
theorem CJ(K:W.Frag)(d:D){T:String}(hT:T = "int"\/T = "bool"\/T = "str"\/T = "list"\/T = "tuple"\/T = "dict"):PySem.W.kitOne K (.type (p6 d)) (.type T)=some (wK T d):=by
 rcases hT with rfl|rfl|rfl|rfl|rfl|rfl <;> cases d <;> (unfold PySem.W.kitOne PySem.W.kitCls PySem.W.subIn;kernel_rfl)
theorem xB:dm X (.builtin "isinstance") (fun xs H Q=>∃d x T,xs=[x,.ty T]/\Rep X.K H d x/\(T = "int"\/T = "bool"\/T = "str"\/T = "list"\/T = "tuple"\/T = "dict")/\Q (.bl (wK T d)) H):=by
 intro pr s σ H xs us Q I r h;obtain⟨d,x,T,rfl,rd,hT,q⟩:=h;obtain⟨u,w',rfl,r1,r2⟩:=wX r;cases(show w'=Value.type T from r2);have e:=CJ X.K d hT;have fin:∀tk,EP X pr σ Q (.bool (wK T d)) {s with toks:=tk}:=fun tk=>⟨.bl (wK T d),H,I.tok tk,rfl,q⟩
 cases d with
 |non=>cases cA rd;cases(show u=Value.none from r1);exact Uz PySem.W.kitx_none I.kIn True.intro e (fun z=>nomatch z) fin
 |bl y=>cases dq rd;cases(show u=Value.bool y from r1);exact Uz PySem.W.kitx_bool I.kIn True.intro e (fun z=>nomatch z) fin
 |int i=>cases bH rd;obtain⟨t,z⟩:=(show ∃t,u=Value.int i t from r1);cases z;exact Uz PySem.W.kitx_int I.kIn True.intro e (fun z=>nomatch z) fin
 |str l=>
  have hr:=(bz rd).1;subst hr;obtain⟨t,z⟩:=(show ∃t,u=Value.str (S l) t from r1)
  cases z;exact Uz PySem.W.kitx_str I.kIn True.intro e (fun z=>nomatch z) fin
 |lst l=>
  obtain⟨p,xs,ev,sq,_⟩:=bE rd;subst ev;cases(show u=Value.ref p from r1);obtain⟨Hj,_,ip,_⟩:=I.list sq;obtain⟨o,ho,hc,_⟩:=ip.isList;exact Uz PySem.W.kitx_list I.kIn ⟨o,ho,hc⟩ e (fun z=>nomatch z) fin
 |tup l=>
  obtain⟨p,xs,ev,sq,_⟩:=bA rd;subst ev;cases(show u=Value.ref p from r1);obtain⟨Hj,_,ip,_⟩:=I.tuple sq;obtain⟨o,ho,hc,_⟩:=ip;exact Uz PySem.W.kitx_tuple I.kIn ⟨o,ho,hc⟩ e (fun z=>nomatch z) fin
 |dct tk ks vs=>
  rw[Rep]at rd;obtain⟨p,xs,o,ev,hr,dd,_⟩:=rd;subst ev;cases(show u=Value.ref p from r1);have ok:=hr.ok I.hok;cases tk with
  |true=>
   obtain⟨kvs,eo,_⟩:=dd;subst eo;obtain⟨_,_,_,_,o2,_,_,Jd,ex,_⟩:=ok;exact Uz PySem.W.kitx_dict I.kIn ⟨o2,Jd,ex.1⟩ e (fun z=>nomatch z) fin
  |false=>
   obtain⟨kvs,eo,_⟩:=dd;subst eo;obtain⟨_,_,_,_,o2,_,_,Jd,ex,_⟩:=ok;exact Uz PySem.W.kitx_dict I.kIn ⟨o2,Jd,ex.1⟩ e (fun z=>nomatch z) fin
theorem E5{T:String}{x:Str}{e:Expr}{f:FO}{p q pos:Pos}(hT:T = "int"\/T = "bool"\/T = "str"\/T = "list"\/T = "tuple"\/T = "dict")(he:QO X e f)(hg:Gl X "isinstance")(hm:X.mg "isinstance" = none)(hg2:Gl X x)(hm2:X.mg x=none)(hv2:bootBuiltins x=some (.type T))(hn:x≠"__name__":=by decide)(JA:(x==("__debug__" : Str))=false:=by decide)
  (hs:starEach [e,.Name x q] X.env=(false,eval e X.env)::starEach [.Name x q] X.env:=by rfl) (OJ:starEach [.Name x q] X.env=(false,eval (.Name x q) X.env)::starEach [] X.env:=by rfl) (IZ:(backTo pos (starEach [.Name x q] X.env)).any (·.1)=false:=by rfl):
  QE X (.Call (.Name "isinstance" p) [e,.Name x q] [] pos) (Qv T f):=
 bS (qC xB hg hm mB (gq he (gq (y0 (v:=.ty T) hg2 hm2 hv2 rfl hn JA) nX OJ) hs) (by decide) (by decide) hs IZ) fun σ H Q Hs=>by
  obtain⟨G,env,fp,r,env',rel,e,k⟩:=Hs;obtain⟨⟨o,Hg⟩,e1,e⟩:=au e;obtain⟨d,e2,e⟩:=au e;cases e;exact⟨G,env,fp,o,_,rel,e1,fun v H1 G1 HB Hv Hi IQ=>⟨d,v,T,rfl,Hi.vwA IQ e2,hT,k _ H1 G1 HB Hv (Hi.push (cQ _))⟩⟩
def II{α:Type}(f g:PV.Env->Res α):PV.Env->Res α:=fun env=>match f env with
 | .ok a=>.ok a
 |_=>g env
theorem yE{α:Type}{f g:PV.Env->Res α}{env:PV.Env}{a:α}(h:II f g env=.ok a):f env=.ok a\/g env=.ok a:=by
 unfold II at h;split at h
 ·rename_i b hb;cases h;exact .inl hb
 ·exact .inr h
theorem uS{tg e:Expr}{f g:FI}(h:QI X tg e f)(h2:QI X tg e g):QI X tg e (II f g):=fun pr s σ H R I Hs=>by
 obtain⟨G,env,fp,ds,env',rel,ee,k⟩:=Hs;rcases yE ee with z|z
 ·exact h pr s σ H R I ⟨G,env,fp,ds,env',rel,z,k⟩
 ·exact h2 pr s σ H R I ⟨G,env,fp,ds,env',rel,z,k⟩
end
section
variable{α:Type}
def ins(lt:α->α->Bool)(x:α):List α->List α
 |[]=>[x]
 |y::ys=>if lt y x then y::ins lt x ys else x::y::ys
def bu(lt:α->α->Bool)(l:List α):List α:=l.foldr (ins lt) []
structure Ord(lt:α->α->Bool):Prop where
 irr:∀a,lt a a=false
 trans:∀a b c,lt a b=true->lt b c=true->lt a c=true
 tot:∀a b,lt a b=false->lt b a=false->a=b
theorem mX(lt:α->α->Bool)(x:α):∀l,(ins lt x l).Perm (x::l)
 |[]=>.refl _
 |y::ys=>by
  unfold ins;split
  ·exact(List.Perm.cons y (mX lt x ys)).trans (List.Perm.swap x y ys)
  ·exact .refl _
theorem d4(lt:α->α->Bool):∀l,(bu lt l).Perm l
 |[]=>.refl _
 |x::l=>(mX lt x _).trans (List.Perm.cons x (d4 lt l))
theorem l5{lt:α->α->Bool}(o:Ord lt)(x:α):∀l:List α,l.Pairwise (fun a b=>lt b a=false)->(ins lt x l).Pairwise (fun a b=>lt b a=false)
 |[],_=>by simp[ins]
 |y::ys,h=>by
  rw[U0]at h;unfold ins;split
  ·rename_i hy;rw[U0];refine⟨fun z hz=>?_,l5 o x ys h.2⟩;rcases SV.mp ((mX lt x ys).mem_iff.mp hz) with rfl|hz
   ·cases e:lt z y with
    |false=>rfl
    |true=>
     have:=o.trans y z y hy e;rw[o.irr]at this;cases this
   ·exact h.1 z hz
  ·rename_i hy;have hy:lt y x=false:=by simpa using hy
   rw[U0,U0];refine⟨fun z hz=>?_,h⟩;rcases SV.mp hz with rfl|Mg
   ·exact hy
   ·cases e:lt z x with
    |false=>rfl
    |true=>
     exfalso;cases e2:lt x y with
     |true=>
      have:=o.trans z x y e e2;rw[h.1 z Mg]at this;cases this
     |false=>
      have hxy:=o.tot x y e2 hy;rw[hxy,h.1 z Mg]at e;cases e
theorem eU{lt:α->α->Bool}(o:Ord lt):∀l:List α,(bu lt l).Pairwise (fun a b=>lt b a=false)
 |[]=>.nil
 |x::l=>l5 o x _ (eU o l)
theorem oR{lt:α->α->Bool}(o:Ord lt):∀{a b:List α},a.Perm b->a.Pairwise (fun a b=>lt b a=false)->b.Pairwise (fun a b=>lt b a=false)->a=b
 |[],_,p,_,_=>p.nil_eq
 |x::xs,[],p,_,_=>absurd p.length_eq (by simp)
 |x::xs,y::ys,p,ha,hb=>by
  rw[U0]at ha hb;have hx:x∈y::ys:=p.mem_iff.mp SI;have hy:y∈x::xs:=p.mem_iff.mpr SI;have e:x=y:=by
   rcases SV.mp hx with e|hx
   ·exact e
   ·rcases SV.mp hy with e|hy
    ·exact e.symm
    ·exact o.tot x y (hb.1 x hx) (ha.1 y hy)
  subst e;rw[oR o p.cons_inv ha.2 hb.2]
theorem i9{lt:α->α->Bool}(o:Ord lt){l ms:List α}(p:ms.Perm l)(h:ms.Pairwise (fun a b=>lt b a=false)):ms=bu lt l:=oR o (p.trans (d4 lt l).symm) h (eU o l)
end
def ltI(a b:Int):Bool:=decide (a<b)
def La(a b:List Nat):Bool:=decide (a<b)
theorem z8:Ord ltI:=⟨fun a=>by simp[ltI],fun a b c=>by simp only[ltI,S3];lia,fun a b=>by simp only[ltI,TU];lia⟩
theorem p7:Ord La:=by
 refine⟨fun a=>?_,fun a b c h1 h2=>?_,fun a b h1 h2=>?_⟩
 ·unfold La;rw[TU];exact List.lt_irrefl a
 ·unfold La at *;rw[S3] at *;exact List.lt_trans h1 h2
 ·unfold La at *;rw[TU] at *;exact List.le_antisymm (Wi.mp h2) (Wi.mp h1)
theorem uT:Ord dI:=⟨iz,g5,g6⟩
def f7:List D->Option (List (List Nat))
 |[]=>some []
 | .str b::ds=>(f7 ds).map (b:: ·)
 |_=>none
def kR:D->Option Key
 | .int i=>some (.inl i)
 | .str l=>some (.inr (S l))
 |_=>none
def fN:List D->Option (List Key)
 |[]=>some []
 |d::ds=>(kR d).bind fun k=>(fN ds).map (k:: ·)
def fO:D->Option (List Key)
 | .tup ds=>fN ds
 |_=>none
def jW:List D->Option (List (List Key))
 |[]=>some []
 |d::ds=>(fO d).bind fun k=>(jW ds).map (k:: ·)
def kT(k:List Key):D:=.tup (k.map kD)
section
variable{K:W.Frag}{G:Hp}
theorem iG:∀{ds:List D}{bs:List (List Nat)}{xs:List V},f7 ds=some bs->Reps K G ds xs->xs=bs.map (fun l=>V.str (S l))/\∀l∈bs,l.length<=sizeLine
 |[],_,_,e,r=>by
  cases e;rw[Reps]at r;exact⟨r,fun _ h=>nomatch h⟩
 |d::ds,_,_,e,r=>by
  cases d with
  |str b=>
   rw[f7,Ts]at e;obtain⟨bs,e1,e2⟩:=e;subst e2;rw[Reps]at r;obtain⟨y,ys,e3,r1,r2⟩:=r;obtain⟨h1,h2⟩:=iG e1 r2;obtain⟨h3,h4⟩:=bz r1;subst h3;refine⟨by rw[e3,h1];rfl,fun l hl=>?_⟩;rcases SV.mp hl with rfl|hl
   ·exact h4
   ·exact h2 l hl
  |_=>simp[f7]at e
theorem fE{d:D}{k:Key}{v:V}(e:kR d=some k)(r:Rep K G d v):v=kV k/\d=kD k:=by
 cases d with
 |int i=>
  cases e;exact⟨bH r,rfl⟩
 |str l=>
  cases e;refine⟨(bz r).1,?_⟩;show D.str l=D.str (S l).cps.toList;rw[dC]
 |_=>cases e
theorem jX:∀{ds:List D}{ks:List Key}{xs:List V},fN ds=some ks->Reps K G ds xs->xs=ks.map kV/\ds=ks.map kD
 |[],_,_,e,r=>by
  cases e;rw[Reps]at r;exact⟨r,rfl⟩
 |d::ds,_,_,e,r=>by
  rw[fN,Ut]at e;obtain⟨k,e1,e⟩:=e;rw[Ts]at e;obtain⟨ks,e2,e3⟩:=e;subst e3;rw[Reps]at r;obtain⟨y,ys,e4,r1,r2⟩:=r;obtain⟨h1,h2⟩:=fE e1 r1;obtain⟨h3,h4⟩:=jX e2 r2;rw[e4,h1,h2,h3,h4];exact⟨rfl,rfl⟩
theorem cD{d:D}{ks:List Key}{v:V}(e:fO d=some ks)(r:Rep K G d v):∃p,v=.ref p/\G p=some (.tup (ks.map kV))/\d=kT ks:=by
 cases d with
 |tup ds=>
  obtain⟨p,xs,ev,g,rs⟩:=p4 r;obtain⟨h1,h2⟩:=jX e rs;subst h1;exact⟨p,ev,g,by rw[h2];rfl⟩
 |_=>cases e
theorem kS:∀{ds:List D}{JN:List (List Key)}{xs:List V},jW ds=some JN->Reps K G ds xs->∃al:List (Addr×List Key),xs=al.map (fun a=>V.ref a.1)/\JN=al.map (·.2)/\ds=al.map (fun a=>kT a.2)/\∀a∈al,G a.1=some (.tup (a.2.map kV))/\Rep K G (kT a.2) (.ref a.1)
 |[],_,_,e,r=>by
  cases e;rw[Reps]at r;exact⟨[],r,rfl,rfl,fun _ h=>nomatch h⟩
 |d::ds,_,_,e,r=>by
  rw[jW,Ut]at e;obtain⟨k,e1,e⟩:=e;rw[Ts]at e;obtain⟨ks,e2,e3⟩:=e;subst e3;rw[Reps]at r;obtain⟨y,ys,e4,r1,r2⟩:=r;obtain⟨p,h1,h2,h5⟩:=cD e1 r1;obtain⟨al,h3,h4,h6,h7⟩:=kS e2 r2;subst h1;refine⟨(p,k)::al,by rw[e4,h3];rfl,by rw[h4];rfl,by rw[h5,h6];rfl,fun a ha=>?_⟩;rcases SV.mp ha with rfl|ha
  ·exact⟨h2,by rw[<-h5];exact r1⟩
  ·exact h7 a ha
theorem fP{α:Type}{f:α->D}{g:α->V}:∀{l:List α},(∀a∈l,Rep K G (f a) (g a))->Reps K G (l.map f) (l.map g)
 |[],_=>Reps.nil
 |a::l,h=>.cons (h a SI) (fP fun b hb=>h b (SM _ hb))
end
def sameKinds(k:List Key)(JN:List (List Key)):Bool:=!k.isEmpty&&JN.all fun j=>kinds j==kinds k
noncomputable def kU(ds:List D):Option (List D):=match dS ds with
 |some ns=>some ((bu ltI ns).map D.int)
 |none=>match f7 ds with
  |some ls=>some ((bu La ls).map D.str)
  |none=>match jW ds with
   |some (k::JN)=>if sameKinds k JN then some ((bu dI (k::JN)).map kT) else none
   |_=>none
noncomputable def fg:List D->Res R
 |[.lst ds]=>if ds.length<64 then match kU ds with
  |some l=>.ok (.l .f,.lst l)
  |none=>.bad
  else .bad
 |[.dct true ks _]=>if ks.length<64 then match ks,jW ks with
  |[],_=>.ok (.l .f,.lst [])
  |_,some (k::JN)=>if sameKinds k JN then .ok (.l .f,.lst ((bu dI (k::JN)).map kT)) else .bad
  |_,_=>.bad
  else .bad
 |_=>.bad
theorem ja{k:List Key}{JN:List (List Key)}(h:sameKinds k JN=true):∃top t,∀j∈k::JN,kinds j=top::t:=by
 unfold sameKinds at h;rw[SY,Tq]at h;cases k with
 |nil=>simp at h
 |cons a k=>
  refine⟨a.isLeft,kinds k,fun j hj=>?_⟩;rcases SV.mp hj with rfl|hj
  ·rfl
  ·exact Tu.mp (h.2 j hj)
def jY(H G:Hp):Hp:=fun p=>match H p with
 |some (HO.tup xs)=>some (HO.tup xs)
 |_=>G p
theorem sT{H G:Hp}{p:Addr}{xs:List V}(e:H p=some (.tup xs)):jY H G p=some (.tup xs):=by
 unfold jY;rw[e]
theorem kW{H G:Hp}{p:Addr}{u:HO}(e:jY H G p=some u):G p=some u\/(isT u=true/\H p=some u):=by
 unfold jY at e;split at e
 ·rename_i xs hx;cases e;exact .inr ⟨rfl,hx⟩
 ·exact .inl e
theorem uU{H G:Hp}(gh:Same G H):Same G (jY H G):=fun p u e=>by
 unfold jY;rw[gh p u e];cases u with
 |tup xs=>rfl
 |_=>exact e
theorem Rel.addT{K:W.Frag}{G H:Hp}{es:PV.Env}{vs:L2.St}{fp:List Addr}(q:Rel K G H es vs fp):∃G',Rel K G' H es vs fp/\Step G H fp G' H fp/\∀p xs,H p=some (.tup xs)->G' p=some (.tup xs):=by
 have gg:=uU q.gh;refine⟨jY H G,⟨q.rep.step gg fun _ _=>rfl,q.nd,fun p hp=>?_,fun p u e=>?_⟩,⟨gg,fun _ _ e _=>e,fun _ h=>.inl h,fun p u e=>(kW e).imp_right fun z=>.inr (.inr z),fun _ u e=>⟨u,e⟩⟩,fun p xs e=>sT e⟩
 ·cases e:jY H G p with
  |none=>rfl
  |some u=>
   exfalso;rcases kW e with z|⟨t,z⟩
   ·rw[q.gn p hp]at z;cases z
   ·obtain⟨u2,h2,hm⟩:=q.rep.mut p hp;rw[z]at h2;cases h2;cases u with
    |tup _=>cases hm
    |frz _ _=>cases hm
    |_=>cases t
 ·rcases kW e with z|z
  ·exact q.gh p u z
  ·exact z.2
theorem uV{K:W.Frag}{G:Hp}{k:Key}(h:pQ k):Rep K G (kD k) (kV k):=by
 cases k with
 |inl i=>exact bI i
 |inr x=>
  have:=iE (K:=K) (G:=G) (l:=x.cps.toList) h;rw[ox]at this;exact this
theorem CK(k:Key):kR (kD k)=some k:=by
 cases k with
 |inl i=>rfl
 |inr x=>
  show some (Sum.inr (S x.cps.toList))=_;rw[ox]
theorem kX:∀ks:List Key,fN (ks.map kD)=some ks
 |[]=>rfl
 |k::ks=>by
  rw[S5,fN,CK,kX ks];rfl
theorem jI:∀JN:List (List Key),jW (JN.map kT)=some JN
 |[]=>rfl
 |k::JN=>by
  rw[S5,jW];show(fN (k.map kD)).bind _=_;rw[kX,jI JN];rfl
section
variable{X:Cx}
theorem R8{α:Type}{lt:α->α->Bool}{p:α->α->Prop}(h:∀a b,p a b->lt b a=false){l:List α}(q:l.Pairwise p):l.Pairwise (fun a b=>lt b a=false):=q.imp (h _ _)
theorem jb(hc:X.calm=true):dm X (.builtin "sorted") (rC X.K fg):=by
 rintro pr s σ H xs us Q I rx ⟨G,fp,es,vs,ds,r,⟨rel,k⟩,vd,e⟩;unfold fg at e;split at e
 ·rename_i ds;split at e
  ·rename_i Lj;split at e
   ·rename_i l hl;cases e;obtain⟨v,ev,p,ys,ep,sq,rs⟩:=nR vd;subst ev;subst ep;unfold kU at hl;split at hl
    ·rename_i ns OL;cases hl;have hy:=iF OL rs;subst hy;have hlen:ns.length<64:=by have:=rs.length;rw[SJ]at this;lia
     refine j9 hc pr s σ H _ us Q I rx ⟨p,ns,rfl,sq,hlen,fun q ms hq pm sm=>?_⟩;have em:=i9 z8 pm (R8 (fun a b h=>by unfold ltI;rw[TU];lia) sm);subst em;obtain⟨Hh,Hn⟩:=rel.newL hq (fP (K:=X.K) (G:=G) (f:=D.int) (g:=V.int) fun a _=>bI a);exact k _ _ G _ Hn Hh
    ·split at hl
     ·rename_i ls hls;cases hl;obtain⟨hy,hz⟩:=iG hls rs;subst hy;have hlen:ls.length<64:=by have:=rs.length;rw[SJ]at this;lia
      refine ka hc pr s σ H _ us Q I rx ⟨p,ls,rfl,sq,hlen,fun q ms hq pm sm=>?_⟩;have em:=i9 p7 pm (R8 (fun a b h=>by unfold La;rw[TU];exact h) sm);obtain⟨Hh,Hn⟩:=rel.newL hq (fP (K:=X.K) (G:=G) (f:=D.str) (g:=fun l=>V.str (S l)) (l:=ms) fun a ha=>iE (hz a (pm.mem_iff.mp ha)));rw[<-em]at k;exact k _ _ G _ Hn Hh
     ·split at hl
      ·rename_i kk JN hk;split at hl
       ·rename_i hsk;cases hl;obtain⟨al,h1,h2,h3,h4⟩:=kS hk rs;obtain⟨top,t,JO⟩:=ja hsk;subst h1;have hlen:al.length<64:=by have:=rs.length;rw[SJ]at this;lia
        refine kc hc pr s σ H _ us Q I rx ⟨p,al,top,t,rfl,sq,fun a ha=>⟨SqT.of (rel.gh _ _ (h4 a ha).1),JO a.2 (by rw[h2];exact TX.mpr ⟨a,ha,rfl⟩)⟩,hlen,fun q ms hq pm sm=>?_⟩;have em:ms.map (·.2)=bu dI (kk::JN):=by
         rw[h2];refine i9 uT (pm.map _) ?_;rw[Vu];exact sm
        obtain⟨Hh,Hn⟩:=rel.newL hq (fP (K:=X.K) (G:=G) (f:=fun a:Addr×List Key=>kT a.2) (g:=fun a=>V.ref a.1) (l:=ms) fun a ha=>(h4 a (pm.mem_iff.mp ha)).2);have ek:ms.map (fun a=>kT a.2)=(bu dI (kk::JN)).map kT:=by rw[<-em,S9];rfl
        rw[ek]at Hh;exact k _ _ G _ Hn Hh
       ·cases hl
      ·cases hl
   ·cases e
  ·cases e
 ·rename_i ks vv;split at e
  ·rename_i Lj;obtain⟨v,ev,vt⟩:=nR vd;obtain⟨p,ys,o,ep,rd,dd,rs⟩:=vt;subst ev;subst ep;obtain⟨kvs,eo,ek,ex,JP⟩:=dd;subst eo;have ek:ks=(kvs.map (·.1)).map kT:=by rw[ek,S9];rfl
   have hlen:kvs.length<64:=by rw[ek,SJ,SJ]at Lj;exact Lj
   have go:∀(top:Bool) (t:List Bool),(∀kv∈kvs,kinds kv.1=top::t)->r=(.l .f,.lst ((bu dI (kvs.map (·.1))).map kT))->wpAny (model X.prog X.w) X.A (call (.builtin "sorted") us) (EP X pr σ Q) X.xe s:=fun top t JO er=>by
    subst er;refine lN hc pr s σ H _ us Q I rx ⟨p,kvs,top,t,rfl,rd,JO,hlen,fun q ms hq hm pm sm=>?_⟩;have em:ms.map (·.2)=bu dI (kvs.map (·.1)):=by
     refine i9 uT pm ?_;rw[Vu];exact sm
    obtain⟨G2,Hh,Hn,ht⟩:=rel.addT;have JC:∀a∈ms,Rep X.K G2 (kT a.2) (.ref a.1):=fun a ha=>by
     unfold kT;rw[Rep];refine⟨a.1,_,rfl,ht _ _ (hm a ha),?_⟩;refine fP (f:=kD) (g:=kV) fun key Ji=>uV ?_
     have:a.2∈kvs.map (·.1):=pm.mem_iff.mp (TX.mpr ⟨a,ha,rfl⟩);obtain⟨kv,JB,e2⟩:=TX.mp this;exact JP kv JB key (by rw[e2];exact Ji)
    obtain⟨HJ,HM⟩:=Hh.newL hq (fP (K:=X.K) (G:=G2) (f:=fun a:Addr×List Key=>kT a.2) (g:=fun a=>V.ref a.1) (l:=ms) JC);have ek:ms.map (fun a=>kT a.2)=(bu dI (kvs.map (·.1))).map kT:=by rw[<-em,S9];rfl
    rw[ek]at HJ;exact k _ _ G2 _ (Hn.trans HM) HJ
   rw[ek,jI]at e;split at e
   ·rename_i hnil;cases e;have:kvs=[]:=by
     cases kvs with
     |nil=>rfl
     |cons a b=>cases hnil
    subst this;exact go true [] (fun _ h=>nomatch h) rfl
   ·rename_i kk JN heq Kz;split at e
    ·rename_i hsk;cases e;obtain⟨top,t,JO⟩:=ja hsk;have heq:kvs.map (·.1)=kk::JN:=by
      injection heq
     refine go top t (fun kv JB=>JO kv.1 ?_) (by rw[heq]);rw[<-heq];exact TX.mpr ⟨kv,JB,rfl⟩
    ·cases e
   ·cases e
  ·cases e
 ·cases e
def J3(a b:D):Res R:=match fO a,fO b with
 |some ks,some js=>if kinds ks==kinds js then .ok (.f,.bl (dI ks js)) else .bad
 |_,_=>OO a b
def Po(a b:D):Res R:=match fO a,fO b with
 |some ks,some js=>if kinds ks==kinds js then .ok (.f,.bl (!dI ks js)) else .bad
 |_,_=>match a,b with
  | .str a,.str b=>.ok (.f,.bl (!decide (a<b)))
  |a,b=>Rl a b
theorem l6(hu:X.A.units<cLine):HX X (compareOp .Lt) (rG X.K J3):=by
 rintro pr s σ H x y v u Q I rx ry ⟨G,fp,es,vs,a,b,r,⟨rel,k⟩,va,vb,e⟩;unfold J3 at e;split at e
 ·rename_i ks js h1 h2;split at e
  ·rename_i hk;cases e;have ra:Rep X.K G a x:=by cases a <;> first|exact va|cases h1
   have rb:Rep X.K G b y:=by cases b <;> first|exact vb|cases h2
   obtain⟨p,e1,g1,_⟩:=cD h1 ra;obtain⟨p2,e2,g2,_⟩:=cD h2 rb;subst e1;subst e2;exact Co hu pr s σ H _ _ v u Q I rx ry ⟨p,p2,ks,js,rfl,rfl,SqT.of (rel.gh _ _ g1),SqT.of (rel.gh _ _ g2),Tu.mp hk,k _ H G fp .refl (rel.push (cQ _))⟩
  ·cases e
 ·exact EZ pr s σ H x y v u Q I rx ry ⟨G,fp,es,vs,a,b,r,⟨rel,k⟩,va,vb,e⟩
theorem CL(hu:X.A.units<cLine):HX X (compareOp .GtE) (rG X.K Po):=by
 rintro pr s σ H x y v u Q I rx ry ⟨G,fp,es,vs,a,b,r,⟨rel,k⟩,va,vb,e⟩;unfold Po at e;split at e
 ·rename_i ks js h1 h2;split at e
  ·rename_i hk;cases e;have ra:Rep X.K G a x:=by cases a <;> first|exact va|cases h1
   have rb:Rep X.K G b y:=by cases b <;> first|exact vb|cases h2
   obtain⟨p,e1,g1,_⟩:=cD h1 ra;obtain⟨p2,e2,g2,_⟩:=cD h2 rb;subst e1;subst e2;exact Cp hu pr s σ H _ _ v u Q I rx ry ⟨p,p2,ks,js,rfl,rfl,SqT.of (rel.gh _ _ g1),SqT.of (rel.gh _ _ g2),Tu.mp hk,k _ H G fp .refl (rel.push (cQ _))⟩
  ·cases e
 ·split at e
  ·rename_i l l';cases e;obtain⟨e1,h1⟩:=fZ va;obtain⟨e2,h2⟩:=fZ vb;subst e1;subst e2;obtain⟨t,rfl⟩:=rx;obtain⟨t',rfl⟩:=ry;refine PySem.P.ge_str ?_;rw[dC,dC];exact⟨.bl _,H,I,rfl,k _ H G fp .refl (rel.push (cQ _))⟩
  ·exact E1 pr s σ H x y v u Q I rx ry ⟨G,fp,es,vs,_,_,r,⟨rel,k⟩,va,vb,e⟩
end
def eNewD(tk:Bool):FX:=fun env=>.ok ((.d,.dct tk [] []),env)
section
variable{md:Mode}{X:Cx}
def kY(ks vs:List D)(k v:D):List D×List D:=if ks.any (Hl k) then(ks,(ks.zip vs).map fun p=>if Hl k p.1 then v else p.2) else(ks++[k],vs++[v])
def dg(tk:Bool)(k:D):Bool:=if tk then(fO k).isSome else(kR k).isSome
noncomputable def z9(i:Nat)(fk fv:FX):FS:=fun env=>(fv env).bind fun p=>(fk p.2).bind fun q=>match p.2[i]?,q.2[i]? with
 |some (some _),some (some (.d,.dct tk ks vs))=>if dg tk q.1.2&&decide (ks.length<sizeLine) then .ok (.nx (q.2.set i (some (.d,.dct tk (kY ks vs q.1.2 p.1.2).1 (kY ks vs q.1.2 p.1.2).2)))) else .bad
 |_,_=>.bad
theorem qZ(a b:Key):Hl (kD a) (kD b)=decide (a=b):=by
 cases a with
 |inl i=>
  cases b with
  |inl j=>simp only[kD,Hl];rw[Th];simp
  |inr y=>simp only[kD,Hl];simp
 |inr x=>
  cases b with
  |inl j=>simp only[kD,Hl];simp
  |inr y=>
   simp only[kD,Hl];rw[Th];simp only[Tu,S3,Sum.inr.injEq];exact⟨fun h=>by rw[<-ox x,<-ox y,h],fun h=>by rw[h]⟩
theorem uW:∀a b:List Key,jH (a.map kD) (b.map kD)=decide (a=b)
 |[],[]=>by simp[jH]
 |[],_::_=>by simp[jH]
 |_::_,[]=>by simp[jH]
 |a::r,b::t=>by
  rw[S5,S5,jH,qZ,uW r t,Th];simp
theorem uX(a b:List Key):Hl (kT a) (kT b)=decide (a=b):=by
 unfold kT;rw[Hl];exact uW a b
theorem jc{κ:Type}[DecidableEq κ]{K:W.Frag}{G:Hp}(f:κ->D)(hf:∀a b,Hl (f a) (f b)=decide (a=b)){kvs:List (κ×V)}{vs:List D}{k:κ}{v:D}{y:V}(r:Reps K G vs (kvs.map (·.2)))(ry:Rep K G v y):
  (iW kvs k y).map (fun kv=>f kv.1)=(kY (kvs.map fun kv=>f kv.1) vs (f k) v).1/\Reps K G (kY (kvs.map fun kv=>f kv.1) vs (f k) v).2 ((iW kvs k y).map (·.2)):=by
 have e:(kvs.map fun kv=>f kv.1).any (Hl (f k))=kvs.any fun kv=>decide (kv.1=k):=by
  rw[UQ];congr 1
  funext kv
  show Hl (f k) (f kv.1)=_;rw[hf,Th];simp only[S3];exact⟨fun z=>z.symm,fun z=>z.symm⟩
 unfold kY iW;rw[e];split
 ·refine⟨?_,?_⟩
  ·rw[S9];refine Ue fun kv _=>?_
   show f (if kv.1=k then(kv.1,y) else kv).1=f kv.1;split <;> rfl
  ·rename_i hany;clear e hany;induction kvs generalizing vs with
   |nil=>
    have:vs=[]:=TH (by rw[<-r.length];rfl);subst this;exact Reps.nil
   |cons kv kvs ih=>
    cases vs with
    |nil=>have:=r.length;simp at this
    |cons d vs=>
     rw[S5,Reps.cons_iff]at r;rw[S5,T8,S5,S5,S5];refine .cons ?_ (ih r.2);show Rep K G (if Hl (f k) (f kv.1)=true then v else d) (if kv.1=k then(kv.1,y) else kv).2;rw[hf];by_cases hk:kv.1=k
     ·rw[SU (by simp[hk]),SU hk];exact ry
     ·rw[SX (by simp;exact fun z=>hk z.symm),SX hk];exact r.1
 ·refine⟨?_,?_⟩
  ·rw[S6];rfl
  ·rw[S6];exact r.app (.one ry)
theorem Rel.chgD{K:W.Frag}{G H:Hp}{es:PV.Env}{vs:L2.St}{fp:List Addr}{i:Nat}{tk:Bool}{ks ws:List D}(q:Rel K G H es vs fp)(e:es[i]?=some (some (.d,.dct tk ks ws))):∃p xs u,vs[i]?=some (some (.ref p))/\H p=some u/\DictO u tk ks xs/\Reps K G ws xs/\
  ∀u' Jb IP LP,DictO u' tk Jb IP->Reps K G LP IP->∃fq,Rel K G (upd H p u') (es.set i (some (.d,.dct tk Jb LP))) vs fq/\Step G H fp G (upd H p u') fq:=by
 obtain⟨v,fq,ev,g,st,Jr⟩:=q.out e;obtain⟨y,ys,e0,v',a,b,e1,e2,r1,r2⟩:=g.rep;cases e0;cases e1;rw[RepO]at r1;obtain⟨p,xs,u,e3,hp,dd,e4,rs⟩:=r1;subst e3;subst e4;subst e2;have nd:=Tf.mp (show(p::b).Nodup from g.nd);refine⟨p,xs,u,ev,hp,dd,rs,fun u' Jb IP LP Mt Jv=>?_⟩;have g2:Rel K G (upd H p u') (some (.d,.dct tk Jb LP)::es.set i none) (some (.ref p)::vs) (p::b):=by
  refine⟨⟨some (.ref p),vs,rfl,.ref p,[p],b,rfl,rfl,?_,r2.step (.refl _) fun z hz=>aE fun e=>nd.1 (e▸hz)⟩,g.nd,g.gn,fun z o ez=>?_⟩
  ·rw[RepO];exact⟨p,IP,u',rfl,aY,Mt,rfl,Jv⟩
  ·have:z≠p:=fun w=>by
    subst w;rw[g.gn z SI]at ez;cases ez
   rw[aE this];exact g.gh z o ez
 have Rj:Step G H (p::b) G (upd H p u') (p::b):=by
  refine⟨.refl _,fun z o ez nz=>?_,fun z hz=>.inl hz,fun z o ez=>.inl ez,fun z o ez=>?_⟩
  ·have:z≠p:=fun w=>nz (by rw[w];exact SI)
   rw[aE this];exact ez
  ·by_cases w:z=p
   ·subst w;exact⟨_,aY⟩
   ·exact⟨o,by rw[aE w];exact ez⟩
 obtain⟨fz,g3,HM⟩:=g2.back (i:=i) (by rw[Tt];exact(List.getElem?_eq_some_iff.mp e).1) ev;rw[Ui]at g3;exact⟨fz,g3,st.trans (Rj.trans HM)⟩
theorem q0{K:W.Frag}{G:Hp}{d:D}{k:Key}{v:V}(e:kR d=some k)(r:Rep K G d v):pQ k:=by
 cases d with
 |int i=>cases e;trivial
 |str l=>
  cases e;show(S l).cps.toList.length<=sizeLine;rw[dC];exact(bz r).2
 |_=>cases e
theorem p8{K:W.Frag}{G:Hp}:∀{ds:List D}{ks:List Key}{xs:List V},fN ds=some ks->Reps K G ds xs->∀k∈ks,pQ k
 |[],_,_,e,_=>by
  cases e;exact fun _ h=>nomatch h
 |d::ds,_,_,e,r=>by
  rw[fN,Ut]at e;obtain⟨k,e1,e⟩:=e;rw[Ts]at e;obtain⟨ks,e2,e3⟩:=e;subst e3;rw[Reps]at r;obtain⟨y,ys,e4,r1,r2⟩:=r;intro z hz;rcases SV.mp hz with rfl|hz
  ·exact q0 e1 r1
  ·exact p8 e2 r2 z hz
theorem kr{κ:Type}[DecidableEq κ]{P:κ->Prop}{kvs:List (κ×V)}{k:κ}{y:V}(h:∀kv∈kvs,P kv.1)(hk:P k):∀kv∈iW kvs k y,P kv.1:=by
 intro kv JB;unfold iW at JB;split at JB
 ·obtain⟨z,hz,e⟩:=TX.mp JB;rw[<-e];split
  ·exact h z hz
  ·exact h z hz
 ·rcases Tj.mp JB with JB|JB
  ·exact h kv JB
  ·rw[S7]at JB;rw[JB];exact hk
theorem yF{i:Nat}{o ix value:Expr}{fk fv:FX}{pos pos':Pos}(hu:X.A.units+1<cLine)(ho:PE X o (tL i))(hi:QE X ix fk)(hv:QE X value fv)(hs:swapsWith value (some (.Subscript o ix pos')) pos.line X.env=pure false:=by rfl):
  QS (md:=md) X (.Assign [.Subscript o ix pos'] value pos) (z9 i fk fv):=d6 (uF hu ho hi hv hs) fun Dd σ H Hs=>by
 obtain⟨G,env,fp,rel,k⟩:=Hs;unfold z9 at k;match q1:fv env,k with
 | .ok (r1,Hg),k=>
  have k:OutOk X.K G H fp Dd ((fk Hg).bind fun q=>match Hg[i]?,q.2[i]? with
   |some (some _),some (some (.d,.dct tk ks vs))=>if dg tk q.1.2&&decide (ks.length<sizeLine) then .ok (.nx (q.2.set i (some (.d,.dct tk (kY ks vs q.1.2 r1.2).1 (kY ks vs q.1.2 r1.2).2)))) else .bad
   |_,_=>.bad):=k
  match q2:fk Hg,k with
  | .ok (r2,Hm),k=>
   have k:OutOk X.K G H fp Dd (match Hg[i]?,Hm[i]? with
    |some (some _),some (some (.d,.dct tk ks vs))=>if dg tk r2.2&&decide (ks.length<sizeLine) then .ok (.nx (Hm.set i (some (.d,.dct tk (kY ks vs r2.2 r1.2).1 (kY ks vs r2.2 r1.2).2)))) else .bad
    |_,_=>.bad):=k
   split at k
   ·rename_i rr tk ks ws h1 h2;split at k
    ·rename_i hc;rw[SY,S3]at hc;refine⟨G,env,fp,r1,Hg,rel,q1,fun y H1 G1 HB Hv Hi=>?_⟩;obtain⟨G2,b,ry,Hh,Hn⟩:=Hi.freeze;obtain⟨v0,My,_⟩:=Hh.view h1;refine⟨v0,My,G2,Hg,b,r2,Hm,Hh,q2,fun z H3 G3 IJ HM HJ=>?_⟩;obtain⟨G4,b4,rz,HY,Io⟩:=HJ.freeze;obtain⟨p,xs,u,ep,hp,dd,rs,cg⟩:=HY.chgD h2;rw[My]at ep;cases ep;have NS:Rep X.K G4 r1.2 y:=Rep.mono (HM.gg.trans Io.gg) ry;cases tk with
     |true=>
      obtain⟨kvs,eu,ek,ex,JP⟩:=dd;subst eu;subst ex;have hk:=hc.1;unfold dg at hk;rw[SU rfl,TF]at hk;obtain⟨kk,hk⟩:=hk;obtain⟨pz,ez,gz,dz⟩:=cD hk rz;subst ez;obtain⟨t1,t2⟩:=jc (K:=X.K) (G:=G4) kT uX (k:=kk) rs NS;have ek:ks=kvs.map fun kv=>kT kv.1:=ek
      rw[<-ek,<-dz]at t1 t2;have Ro:∀key∈kk,pQ key:=by
       cases hd:r2.2 with
       |tup ds=>
        rw[hd]at hk rz;obtain⟨_,IP,_,_,Jv⟩:=p4 rz;exact p8 hk Jv
       |_=>rw[hd]at hk;cases hk
      obtain⟨fq,Iq,Js⟩:=cg (.dT (iW kvs kk y)) _ _ _ ⟨iW kvs kk y,rfl,t1.symm,rfl,kr (P:=fun ks=>∀k∈ks,pQ k) JP Ro⟩ t2;have hlen:kvs.length<sizeLine:=by have:=hc.2;rw[ek,SJ]at this;exact this
      exact⟨p,_,rfl,DPut.t hp (HY.gh _ _ gz) hlen,k _ _ G4 fq (Hv.trans (Hn.trans (HM.trans (Io.trans Js)))) Iq⟩
     |false=>
      obtain⟨kvs,eu,ek,ex,JP⟩:=dd;subst eu;subst ex;have hk:=hc.1;unfold dg at hk;rw[SX SN,TF]at hk;obtain⟨kk,hk⟩:=hk;obtain⟨ez,dz⟩:=fE hk rz;subst ez;obtain⟨t1,t2⟩:=jc (K:=X.K) (G:=G4) kD qZ (k:=kk) rs NS;rw[<-ek,<-dz]at t1 t2;obtain⟨fq,Iq,Js⟩:=cg (.dK (iW kvs kk y)) _ _ _ ⟨iW kvs kk y,rfl,t1.symm,rfl,kr (P:=pQ) JP (q0 hk rz)⟩ t2;have hlen:kvs.length<sizeLine:=by have:=hc.2;rw[ek,SJ]at this;exact this
      exact⟨p,_,rfl,DPut.k hp hlen,k _ _ G4 fq (Hv.trans (Hn.trans (HM.trans (Io.trans Js)))) Iq⟩
    ·exact k.elim
   ·exact k.elim
end
end PV
namespace NX
open PySem PySem.Spec PyProof.Rows L2
section
variable{prog:Program}{w:World}{A:Around}{E:Value->Shared->Prop}{s:Shared}{d:Addr}{es:Array DictEntry}{ep:Nat}
theorem mY(nm:(d==sysModules)=false):MeetsIn prog w (Builtin.«dict.__len__» ⟨[.ref d],[]⟩) (fun _ R s=>RawD s.heap d es ep/\R (.ok (.ret (.int es.size s.toks))) {s with toks:=s.toks+1}):=
 .of_wp fun A R s Hs=>by
  obtain⟨⟨o,g,_,dat⟩,h⟩:=Hs;show wpAny _ _ (dictSize d >>= fun _=>_) _ _ s;unfold dictSize;refine SH (SH (Vt g dat (SO ?_)));show wpAny _ _ (Builtin.Dict.pendingCount d >>= fun _=>_) _ _ s;refine SH (wpAny_pendingCount_other nm (wpAny_ret_mkInt ?_));rw[Nat.add_zero];exact h
theorem Aa{Q:Value->Shared->Prop}(nm:(d==sysModules)=false)(x:RawD s.heap d es ep)(hf:(es.size:Int)<2 ^ 63)(h:Q (.int es.size (s.toks+1)) {s with toks:=s.toks+1+1}):wpAny (model prog w) A (call (.builtin "len") [.ref d]) Q E s:=by
 have ty:=ko x;refine Va kind_len plain_len entry_len (args_len1 _) ?_;unfold Builtin.«len»;refine SH (m:=oneArg "len" _) (SO (SH (m:=callSpecial? (.ref d) (Str.ofString "__len__")) (wpAny_callSpecial?_slot (name:=Str.ofString "__len__") ty F.slot_dict_len
  (call_meetsIn F.slot_dict_len ty F.entry_dict_len (F.args_dict_len_1 _) (mY (es:=es) (ep:=ep) nm) ⟨x,?_⟩))))
 show wpAny _ _ _ _ _ {s with toks:=s.toks+1};refine SH (UE (SO (SH (Ve ?_))));show wpAny _ _ (if((es.size:Nat):Int)<0 then _ else _) _ _ _;rw[SX (Int.not_lt.mpr (Int.natCast_nonneg _))];show wpAny _ _ (if((es.size:Nat):Int)>=2 ^ 63 then _ else _) _ _ _;rw[SX (Int.not_le.mpr hf)];exact SH (wpAny_mkInt (SO ⟨_,rfl,h⟩))
end
end NX
namespace PV
open PySem PySem.Spec PyProof.Rows L2 NX
section
variable{X:Cx}
def iR:List D->Res R
 |[.dct _ ks _]=>.ok (.f,.int ks.length)
 |ds=>E3 ds
theorem CM{pr:List (Addr×Obj)}{σ:L2.St}{H:Hp}{s:Shared}(I:Inv X pr σ H s){p:Addr}{o:HO}{tk:Bool}{ks:List D}{xs:List V}(rd:Rd H p o)(dd:DictO o tk ks xs):(p==sysModules)=false/\∃es ep,RawD s.heap p es ep/\es.size=ks.length/\ks.length<=sizeLine:=by
 have ok:=rd.ok I.hok;cases tk with
 |true=>
  obtain⟨kvs,eo,ek,_⟩:=dd;subst eo;obtain⟨z,nm,ws,r,o2,es,ep,h1,h2,h3,h4,_⟩:=ok;refine⟨nm,es,ep,⟨o2,h1,h2,h3⟩,?_,by rw[ek,SJ];exact z⟩;have:=T3 List.length h4;rw[SJ,TZ,<-VH r]at this;rw[ek,SJ];exact this
 |false=>
  obtain⟨kvs,eo,ek,_⟩:=dd;subst eo;obtain⟨z,nm,ws,r,o2,es,ep,h1,h2,h3,h4,h5,_⟩:=ok;refine⟨nm,es,ep,⟨o2,h1,h2,h3⟩,?_,by rw[ek,SJ];exact z⟩;have l1:=h5.length;have l2:kvs.length=ws.length:=VH r;rw[ek,SJ];rw[TZ]at l1;lia
theorem dP:dm X (.builtin "len") (rC X.K iR):=by
 rintro pr s σ H xs us Q I rx ⟨G,fp,es,vs,ds,r,⟨rel,k⟩,vd,e⟩;unfold iR at e;split at e
 ·rename_i tk ks ws;cases e;obtain⟨v,ev,p,ys,o,ep,rd,dd,_⟩:=nR vd;subst ev;subst ep;obtain⟨u,rfl,ru⟩:=gk rx;cases ru;obtain⟨nm,en,ep,raw,h1,h2⟩:=CM I rd dd;refine Aa nm raw (by rw[h1];rw[TV]at h2;lia) ?_;refine⟨.int ks.length,H,I.tok _,⟨_,by rw[h1]⟩,k _ H G fp .refl (rel.push (bI _))⟩
 ·exact CB pr s σ H xs us Q I rx ⟨G,fp,es,vs,_,r,⟨rel,k⟩,vd,e⟩
def E6(g:List Nat->List D->Res R)(fa:FO)(fs:FOs):FX:=fun env=>(fa env).bind fun p=>match IK p.2 p.1 with
 | .ok (.str l)=>(fs p.2).bind fun q=>(oI q.2 q.1).bind fun ds=>(g l ds).bind fun r=>.ok (r,q.2)
 |_=>.bad
inductive rMtS(K:W.Frag)(g:List Nat->List D->Res R)(x:V)(xs:List V)(H:Hp)(Q:VK):Prop
 |mk:∀G fp es vs l ds r,Goes K H G fp es vs r Q->x=.str (S l)->l.length<=sizeLine->Ni K G H ds xs->g l ds=.ok r->rMtS K g x xs H Q
theorem CN{g:List Nat->List D->Res R}{id:String}{name:Str}{o e:Expr}{es:List Expr}{fa:FO}{fs:FOs}{apos HE:Pos}(slot:Slot "str" name id)(LG:typeOf (.builtin id)=pure (.type "method_descriptor"))(hm:Nd X id (rMtS X.K g))(ho:QO X o fa)(ha:K9 X (e::es) fs)
  (IL:attributeBase o name X.env (eval o X.env)=eval o X.env:=by rfl)
  (JJ:((backTo HE (starEach (e::es) X.env)).all (fun x=>!x.1)&&(backToKw HE (keywordEach [] X.env)).all (fun x=>x.1.isSome)&&decide ((e::es).length+([]:List Keyword).length+(if([]:List Keyword).isEmpty then 0 else 1)<30))=true:=by rfl)
  (IM:(apos.endLine==HE.line)=true:=by rfl) (hs:starEach (e::es) X.env=(false,eval e X.env)::starEach es X.env:=by rfl) (Ie:(backTo HE (starEach es X.env)).any (·.1)=false:=by rfl):
  QE X (.Call (.Attribute o name apos) (e::es) [] HE) (E6 g fa fs):=by
 refine bS (zj PySem.F.plainAttrs_str slot LG hm ho ha IL JJ IM hs Ie) fun σ H Q HD=>?_
 obtain⟨G,env,fp,r,env',rel,e,k⟩:=HD;obtain⟨⟨oa,Hg⟩,e1,e⟩:=au e;dsimp only at e;split at e
 ·rename_i l hl;obtain⟨⟨os,Hm⟩,e2,e⟩:=au e;obtain⟨ds,e3,e⟩:=au e;obtain⟨r',e4,e⟩:=au e;cases e;refine⟨G,env,fp,oa,Hg,rel,e1,fun v H1 G1 HB Hv Hi IQ=>?_⟩;obtain⟨ev,hz⟩:=fZ (Hi.vw IQ hl);subst ev;exact⟨rfl,G1,Hg,HB,os,Hm,Hi,e2,fun vs H2 G2 HQ Hn Hh Ll=>⟨G2,HQ,Hm,σ,l,ds,r,⟨Hh,fun v H' G' Hk st HN=>k v H' G' Hk (Hv.trans (Hn.trans st)) HN⟩,rfl,hz,Hh.vws Ll e3,e4⟩⟩
 ·cases e
end
theorem fnok_of{P:Program}{w:World}{K:W.Frag}{mg:Str->Option Value}{base:Heap}{x:Str}{st:Stmt}{N ps:List Str}{k:Nat}{g:FS}{f:Addr}{fd:FuncData}(F:Fun K x x st f fd)(sc:FnScope N ps (defScope st))
  (body:∀(HG:Value) (A:Around) (outer:List PySem.Env) (s:Shared) (H:Hp) (E:XK),Room k (A.deeper (envOfC x (defScope st) s.heap.objs.size f HG))->Lk (md:=.plain) (wH Lh P w K mg base N x (defScope st) f HG A outer s H E).nox (cW st) g):
  FnOk P w K mg base Lh (k+1) f fd ps (spF K (fBody ps.length (N.length-ps.length) g)):=by
 refine F.ok sc (fun vs H Q E h=>?_) (fun HG A outer s H vs Q E hr h=>?_)
 ·obtain⟨G,ds,r,_,rs,e,_⟩:=h;unfold fBody at e;split at e
  ·rename_i hl;rw[rs.length,hl]
  ·cases e
 ·obtain⟨G,ds,r,gh,rs,e,q⟩:=h;unfold fBody at e;split at e
  ·rename_i hl;refine⟨_,body HG A outer s H E hr,G,ds.map (fun d=>some (O.f,d))++List.replicate (N.length-ps.length) none,[],⟨?_,Ug,(fun _ h=>nomatch h),gh⟩,?_⟩
   ·have:=gu (K:=K) (G:=G) (H:=H) (N.length-ps.length) rs;unfold L2.j8;rw[rs.length,hl];exact this
   ·obtain⟨o,eo,e⟩:=au e;rw[eo];cases o with
    |rt r'=>
     cases e;exact fun v H' G' Hk st rel=>q v H' G' Hk st rel
    |nx env'=>
     cases e;exact fun σ' H' G' Hk st rel=>q .non H' G' [] (st.trans (Step.cut fun _ h=>nomatch h)) (rel.nilF.push p3)
    |bk env'=>cases e
    |ct env'=>cases e
  ·cases e
def xC(K:W.Frag):Sp:=fun vs H Q _=>∃(a:Addr) (ns:List Int),vs=[.ref a]/\SqL K H a (ns.map V.int)/\ns.length<=63/\∀H',Q (.bl true) H'
theorem CO{K:W.Frag}{F:List D->Res R}(h:∀ns:List Int,ns.length<=63->∃o,F [.lst (ns.map D.int)]=.ok (o,.bl true)):∀vs H Q E,xC K vs H Q E->spF K F vs H Q E:=by
 rintro vs H Q E ⟨a,ns,rfl,sq,hl,q⟩;obtain⟨o,e⟩:=h ns hl;refine⟨H,_,_,.refl _,?_,e,fun v H' G' Hk st rel=>?_⟩
 ·refine .one ?_;rw[Rep];exact⟨a,_,rfl,sq,fP fun n _=>bI n⟩
 ·rw[dq rel.top];exact q H'
theorem _root_.L2.Room.u65{k:Nat}{A:Around}(r:Room k A):A.units+65<cLine:=by have:=r.un;lia
def Eh(f:FX)(a:FG):FS:=fun env=>(f env).bind fun p=>(a p.1.2 p.2).bind fun e=>.ok (.nx e)
theorem CP{X:Cx}{tg e:Expr}{f:FX}{a:FG}{pos:Pos}(he:QE X e f)(hg:QG X tg a)(hs:swapsWithSole [tg] e pos.line X.env=pure false:=by rfl)(hw:swappedStores [tg] e X.env=pure none:=by rfl)
  (h1:(assignEach [tg] X.env).map (·.2)=[assign tg X.env]:=by rfl):QS (md:=md) X (.Assign [tg] e pos) (Eh f a):=d6 (BP he hg hs hw h1) fun Dd σ H Hs=>by
 obtain⟨G,env,fp,rel,k⟩:=Hs;unfold Eh at k;match q:f env,k with
 | .ok (r,Hg),k=>
  have k:OutOk X.K G H fp Dd ((a r.2 Hg).bind fun e=>.ok (.nx e)):=k;match q2:a r.2 Hg,k with
  | .ok Hm,k=>
   refine⟨G,env,fp,r,Hg,rel,q,fun v H1 G1 HB Hv Hi=>?_⟩;obtain⟨G2,b,rv,Hh,Hn⟩:=Hi.freeze;exact⟨G2,Hg,b,r.2,Hm,Hh,rv,q2,fun σ' G' Hk st HN=>k σ' H1 G' Hk (Hv.trans (Hn.trans st)) HN⟩
theorem walk{l:PySem.W.OpenLaw}{q:Program}{loose:List Str}{XP:(Str->Option Value)->Heap->Prop}{YP:World->Heap->Prop}{d:DefRec}{K:Params->W.Frag}{k:Nat}{x:Str}(hn:l.most=some 63)(O7:d.params.defaults=[])(hr:Room k PySem.callerA)
  (hY:∀(w:World) (h:Heap),YP w h->(K w.params).In h)
  (F:∀(w:World) (mg:Str->Option Value) (fa:Addr) (h:Heap),(K w.params).In h->h.Ns mainGlobals mg->mg d.name=some (.ref fa)->
   ∃fd:FuncData,(∀(s:Shared) (u:Value),BindsTo s fd ⟨[u],[]⟩ [(x,u)])/\∀base:Heap,(K w.params).In base->base.Ns mainGlobals mg->FnOk l.prog w (K w.params) mg base Lh k fa fd [x] (xC (K w.params))):
  PySem.W.WalkO q loose XP YP l.row.toRowW d [] (fun f vs=>PySem.call f vs):=
 L2.zl (n:=63) (k:=k) (x:=x) (CX:=fun _=>Lh) (sp:=fun w=>xC (K w.params)) hn (by decide) O7 hr hY F (fun _ _ a ns hl _ hS=>⟨a,ns,rfl,hS,hl,fun _=>rfl⟩) fun _ _ _ _ _ z=>z
theorem oS:bootBuiltins "max" = some (.builtin "max"):=by decide +kernel
theorem CQ:bootBuiltins "min" = some (.builtin "min"):=by decide +kernel
theorem CS:bootBuiltins "all" = some (.builtin "all"):=by decide +kernel
theorem jd:bootBuiltins "sorted" = some (.builtin "sorted"):=by decide +kernel
theorem cE{K:W.Frag}{h:Heap}{mg:Str->Option Value}{x:Str}{st:Stmt}{f:Addr}{oc:Value}{od an:Option Addr}{Me:Array (Option Value)}{kV doc pm HG ct:Value}(X:K.In h)(G:h.Ns mainGlobals mg)
  (a:PySem.W.nsIn K mainGlobals x=some (some (.ref f))) (l:K.lookup f=some ⟨oc,od,.func (PySem.W.fnOf x x (e7 st) (cW st) (defScope st) .none kV doc pm an HG ct),Me⟩)
  (c:PySem.W.codeIn K HG x=true) (k:PySem.W.keepIn K (.ref f)=true):Def K mg x st:=⟨f,_,yp l c k,PySem.W.mg_of X G a⟩
inductive tQL(K:W.Frag)(f:FI)(σ:L2.St)(H:Hp)(R:It->Hp->Prop):Prop
 |mk:∀G env fp ds env',Rel K G H env σ fp->f env=.ok (ds,env')->(∀J H' G' Hk,Step G H fp G' H' Hk->Rel K G' H' env' σ Hk->(∀G2,Same G' G2->(∀(i:Nat) (r:PV.R) (v:V),env'[i]?=some (some r)->σ[i]?=some (some v)->Rep K G2 r.2 v)->Walk K G2 J ds)->R J H')->tQL K f σ H R
def NT(X:Cx)(tg e:Expr)(f:FI):Prop:=PI X tg e (tQL X.K f)
theorem Walk.mono{K:W.Frag}{G G2:Hp}{J:It}{ds:List D}(w:Walk K G J ds)(gg:Same G G2):Walk K G2 J ds:=fun G' H' es vs fp g rel=>w G' H' es vs fp (gg.trans g) rel
theorem yG{K:W.Frag}{fi:FI}{ix:List (Option Nat)}{a:FG}{c:FT}{f:FX}{σ:L2.St}{H:Hp}{Q:VK}(h:tQ K (dE fi ix a c f) σ H Q):zp (tQL K fi) ix (tQG K a) (tQT K c) (tQ K f) σ H Q:=by
 obtain⟨G,env,fp,r,env',rel,e,k⟩:=h;obtain⟨⟨ds,Hg⟩,e1,e⟩:=au e;obtain⟨rs,e2,e⟩:=au e;refine⟨G,env,fp,ds,Hg,rel,e1,fun J H1 G1 HB Hv Hi wk D hD=>?_⟩;dsimp only at e e2;split at e
 ·rename_i hz;have er:r=(.l .f,.lst rs):=by cases e;rfl
  have ee:env'=if flatDs rs then Hg else Hg.map frz:=by cases e;rfl
  subst er;obtain⟨G2,Mw,NP,JC,hrE,JL⟩:=Hi.lend;have wk2:=wk G2 Mw JC;have Hh:Rel K G2 H1 (eC ix Hg) (lT ix σ) []:=⟨gv JC (fun i r er=>let⟨v,ev,_⟩:=Hi.view er;⟨v,ev⟩) ix,Ug,(fun _ h=>nomatch h),NP⟩
  obtain⟨HJ,HM⟩:=Hh.newL (ds:=[]) (xs:=[]) hD .nil;refine⟨fun i m σ1 H2=>m=ds.length-i/\i<=ds.length/\∃G' es Hk acc dA,Step G2 H1 [] G' H2 Hk/\Rel K G' H2 (some (.l .f,.lst acc)::es) (some (.ref D)::σ1) Hk/\c9 a c f (ds.drop i) es=.ok dA/\acc++dA=rs,
   ⟨_,rfl,Tw _,G2,eC ix Hg,_,[],rs,HM,HJ,e2,rfl⟩,?_⟩
  rintro i m σ1 H2 ⟨rfl,hi,G3,es,IJ,acc,dA,Io,HY,e4,LV⟩;obtain⟨w1,w2⟩:=wk2 G3 H2 _ _ _ Io.gg HY i;by_cases HW:i<ds.length
  ·have hd:ds[i]?=some ds[i]:=List.getElem?_eq_getElem HW;obtain⟨go,yl⟩:=w1 _ hd;rw[Vb HW]at e4;unfold c9 at e4;obtain⟨R9,h1,e4⟩:=au e4;obtain⟨⟨b,Pp⟩,h2,e4⟩:=au e4;dsimp only at e4;refine .inr ⟨go,fun x H3 y=>?_⟩;obtain⟨G4,rx,Iq,Js⟩:=yl x H3 y;obtain⟨fa,fb,Sa,ra,relb,bk⟩:=Iq.frame;refine⟨G4,es,fb,ds[i],R9,relb,rx,h1,fun σ2 G5 Pq st6 rel6=>?_⟩;refine⟨G5,R9,Pq,b,Pp,rel6,h2,fun H6 G6 Sb st7 Pr=>?_⟩;have Pt:=st6.trans st7;cases b with
   |false=>
    refine iteF ⟨ds.length-(i+1),by lia,rfl,HW,?_⟩;obtain⟨LX,Mz⟩:=bk G6 H6 Pp σ2 Sb Pt Pr;rw[<-Sa]at Mz;exact⟨G6,Pp,_,acc,dA,Io.trans (Js.trans Mz),LX,e4,LV⟩
   |true=>
    have e4:((f Pp).bind fun q=>(c9 a c f (ds.drop (i+1)) q.2).bind fun rs=>.ok (q.1.2::rs))=.ok dA:=e4;obtain⟨⟨r,Rp⟩,h3,e4⟩:=au e4;obtain⟨Pu,h4,e4⟩:=au e4;cases e4;refine EM ⟨G6,Pp,Sb,r,Rp,Pr,h3,fun v H7 G7 fp7 st8 rel8=>?_⟩;obtain⟨G8,fp8,rv,rel9,st9⟩:=rel8.freeze;obtain⟨LX,Mz⟩:=bk G8 H7 Rp σ2 fp8 (Pt.trans (st8.trans st9)) rel9;rw[<-Sa]at Mz;obtain⟨p,xs,ep,hp,Pm,cg⟩:=LX.chg (i:=0) (ds:=acc) (ds':=acc++[r.2]) rfl;have ep:some (some (V.ref D))=some (some (V.ref p)):=ep;cases ep;obtain⟨fq,rely,sty⟩:=cg (xs++[v]) (Pm.app (.one rv));refine⟨xs,hp,?_,ds.length-(i+1),by lia,rfl,HW,G8,Rp,fq,acc++[r.2],Pu,Io.trans (Js.trans (Mz.trans sty)),rely,h4,?_⟩
    ·rw[Pm.length];have:=T3 List.length LV;rw[To,S4]at this;lia
    ·rw[<-LV,Tx];rfl
  ·have ei:i=ds.length:=by lia
   subst ei;rw[Wq]at e4;cases e4;rw[Te]at LV;subst LV;refine .inl ⟨w2 rfl,?_⟩;obtain⟨fa,relo,sto⟩:=HY.only;obtain⟨k1,k2⟩:=JL H2 G3 fa _ _ (Io.trans sto) relo;rw[ee]at k;by_cases hc:flatDs acc=true
   ·rw[SU hc]at k;obtain⟨G5,Pq,Js,Iq⟩:=k1 (by rw[cleanR,mP];exact hc);exact k _ H2 G5 Pq (Hv.trans Js) Iq
   ·rw[SX hc]at k;obtain⟨G5,Pq,Js,Iq⟩:=k2;exact k _ H2 G5 Pq (Hv.trans Js) Iq
 ·cases e
section
variable{md:Mode}{X:Cx}{scope:Scope}{N:List Str}{tg iter elt:Expr}{ifs:List Expr}{pos:Pos}{fi:FI}{a:FG}{c:FT}{f:FX}
variable{l e:Expr}{g fj:FI}
theorem bU(h:QI X tg e fi):NT X tg e fi:=jU h fun σ H R ⟨G,env,fp,ds,env',rel,e,k⟩=>⟨G,env,fp,ds,env',rel,e,fun J H' G' Hk st HN wk=>k J H' G' Hk st HN fun _ gg _=>wk.mono gg⟩
theorem dU(h:NT X tg e fi)(h2:NT X tg e fj):NT X tg e (II fi fj):=fun pr s σ H R I Hs=>by
 obtain⟨G,env,fp,ds,env',rel,ee,k⟩:=Hs;rcases yE ee with z|z
 ·exact h pr s σ H R I ⟨G,env,fp,ds,env',rel,z,k⟩
 ·exact h2 pr s σ H R I ⟨G,env,fp,ds,env',rel,z,k⟩
def je(i:Nat):FI:=fun env=>match env[i]? with
 |some (some (_,.lst ds))=>.ok (ds,env)
 |_=>.bad
theorem gw{i:Nat}(h:PE X l (tL i)):NT X tg l (je i):=jU (tP h) fun σ H R Hs=>by
 obtain⟨G,env,fp,ds,env',rel,e,k⟩:=Hs;unfold je at e;split at e
 ·rename_i o ds hr;cases e;obtain⟨v,ev,rv⟩:=rel.view hr;obtain⟨p,xs,Sd,sq,rs⟩:=bE rv;refine⟨v,ev,p,Sd,⟨xs,sq⟩,k _ H G fp .refl rel fun G2 gg JC=>?_⟩;obtain⟨p',IP,Pw,Jc,Jv⟩:=bE (JC i _ v hr ev);rw[Sd]at Pw;cases Pw;exact oK Jc Jv
 ·cases e
theorem bO(ix:List (Option Nat))(N:List Str)(hc:X.calm=true)(hi:NT X tg iter fi)(hg:∀C s H fp pn,QG (cp X scope N C s H fp pn) tg a)(ht:∀C s H fp pn,Qu (cp X scope N C s H fp pn) ifs c)(he:∀C s H fp pn,QE (cp X scope N C s H fp pn) elt f)
  (hf:iT scope X.env=true:=by rfl) (hk:scope.kind=.function:=by rfl) (Ic:∀y∈scope.names,y.2≠.cell:=by decide +kernel) (Jh:∀y∈scope.names,y.2=.local->scope.names.lookup y.1=some .local:=by decide +kernel) (Ja:yr X scope N ix=true:=by rfl)
  (hs:∀x,foldedSetIterable iter X.env x=pure x:=by intro _;rfl):QE X (.ListComp elt [⟨tg,iter,ifs,0⟩] scope pos) (dE fi ix a c f):=
 bS (zt (g:=tQG X.K a) (tc:=tQT X.K c) (te:=tQ X.K f) ix N hc hi hg ht he hf hk Ic Jh Ja hs) fun _ _ _=>yG
theorem m6{i:Nat}{y:Str}{py LK:Pos}(ix:List (Option Nat))(N:List Str)(hN:X.N.Nodup)(Q4:X.N[i]?=some y)(hy:Loc X.env.scope y)(hc:X.calm=true)(hi:NT X tg iter fi)(hg:∀C s H fp pn,QG (cp X scope N C s H fp pn) tg a)(ht:∀C s H fp pn,Qu (cp X scope N C s H fp pn) ifs c)
  (he:∀C s H fp pn,QE (cp X scope N C s H fp pn) elt f) (Q5:swapsWith (.ListComp elt [⟨tg,iter,ifs,0⟩] scope pos) (some (.Name y py)) LK.line X.env=pure true:=by rfl)
  (hf:iT scope X.env=true:=by rfl) (hk:scope.kind=.function:=by rfl) (Ic:∀y∈scope.names,y.2≠.cell:=by decide +kernel) (Jh:∀y∈scope.names,y.2=.local->scope.names.lookup y.1=some .local:=by decide +kernel) (Ja:yr X scope N ix=true:=by rfl)
  (hs:∀x,foldedSetIterable iter X.env x=pure x:=by intro _;rfl) (Le:X.fn y=true\/X.env.scope.names.lookup y=some .local:=by first|exact .inl rfl|exact .inr rfl):
  QS (md:=md) X (.Assign [.Name y py] (.ListComp elt [⟨tg,iter,ifs,0⟩] scope pos) LK) (bL i (dE fi ix a c f)):=
 d6 (zu (i:=i) (g:=tQG X.K a) (tc:=tQT X.K c) (te:=tQ X.K f) ix N hN Q4 hy hc hi hg ht he Q5 hf hk Ic Jh Ja hs Le) fun D σ H ⟨G,env,fp,rel,k⟩=>yG (uL rel k)
end
section
variable{X:Cx}{a:Expr}{pos:Pos}{fa:FO}
def He(fa:FO):FX:=fun env=>(fa env).bind fun p=>(IK p.2 p.1).bind fun d=>match d with
 | .int i=>.ok ((.f,.int (-i)),p.2)
 |_=>.bad
theorem uY{i:Int}(h:i.natAbs<2 ^ 1000):Builtin.Int.intBits i<=2 ^ 20:=by
 unfold Builtin.Int.intBits;split
 ·exact Tw _
 ·rename_i h0;have h1:i.natAbs≠0:=by
   intro e;rw[Int.natAbs_eq_zero]at e;exact h0 (by rw[e];rfl)
  have:=(Nat.log2_lt h1).mpr h;have e:(2:Nat) ^ 20=1048576:=by decide
  lia
theorem Ab:HX X (binaryOp .Mult) (rI (fun i j=>i.natAbs<2 ^ 1000/\j.natAbs<2 ^ 1000) fun i j=>.int (i*j)):=O3 fun _ _ _ _ _ _ _ hc q=>mul_int q (.of_bits (uY hc.1) (uY hc.2))
theorem oT{α:Type}:∀(ls:List (Array α)) (acc:Array α),(ls.foldl (·++·) acc).toList=acc.toList++(ls.map Array.toList).flatten
 |[],acc=>by simp
 |a::ls,acc=>by
  rw[U2,oT ls,Array.toList_append,S5,Uv,Tx]
theorem E7(l:List Nat)(n:Nat):(⟨(List.replicate n (S l).cps).foldl (·++·) #[]⟩:Str)=S (List.replicate n l).flatten:=by
 have h:((List.replicate n (S l).cps).foldl (·++·) #[]).toList=(List.replicate n l).flatten:=by
  rw[oT,List.map_replicate];simp only[dC,Uj]
 show Str.mk _=Str.mk _;rw[<-h]
theorem Ac(a b:Int):EY (.int a) (.int b)=if dR a||dR b then .ok (.f,.int (a*b)) else .bad:=rfl
noncomputable def Ad:D->D->Res R
 | .int i,.int j=>if dR i||dR j then .ok (.f,.int (i*j)) else if i.natAbs<2 ^ 1000/\j.natAbs<2 ^ 1000 then .ok (.f,.int (i*j)) else .bad
 | .str l,.int k=>if 2<=k/\k<=1000/\1<=l.length/\l.length<=1000 then .ok (.f,.str (List.replicate k.toNat l).flatten) else .bad
 |_,_=>.bad
theorem Ae:HX X (binaryOp .Mult) (rG X.K Ad):=by
 rintro pr s σ H x y v u Q I rx ry ⟨G,fp,es,vs,a,b,r,⟨rel,k⟩,va,vb,e⟩;unfold Ad at e;split at e
 ·rename_i i j;split at e
  ·rename_i hc;exact Cw pr s σ H x y v u Q I rx ry ⟨G,fp,es,vs,.int i,.int j,r,⟨rel,k⟩,va,vb,by rw[Ac,SU hc];exact e⟩
  ·split at e
   ·rename_i hc;cases e;cases bC va;cases bC vb;exact Ab pr s σ H _ _ v u Q I rx ry ⟨i,j,rfl,rfl,hc,k _ H G fp .refl (rel.push (bI _))⟩
   ·cases e
 ·rename_i l j;split at e
  ·rename_i hc;cases e;obtain⟨ev,hl⟩:=fZ va;subst ev;cases bC vb;obtain⟨t,rfl⟩:=rx;obtain⟨t',rfl⟩:=ry;have hlen:(S l).length=l.length:=lK l;have hz:(List.replicate j.toNat l).flatten.length<=1000000:=by
    rw[mz];exact Nat.mul_le_mul (by lia:j.toNat<=1000) hc.2.2.2
   have Mg:(List.replicate j.toNat l).flatten.length<=sizeLine:=Td hz (by decide);refine PySem.P.mul_str ?_ ?_ ?_ ?_
   ·rw[Tb (by lia),Tb (by lia)];rfl
   ·intro _ _;rw[hlen];have h1:1000<=(2 ^ 63-1) / j:=(Int.le_ediv_iff_mul_le (by lia)).mpr (by lia);lia
   ·intro _ _;unfold Builtin.Str.tooLong;rw[TU,hlen,XA,<-mz];lia
   ·rw[SX (by lia),SX (by rw[hlen,WE,Tu,Tu];lia),E7];refine⟨?_,?_⟩
    ·rw[lK];exact Mg
    ·exact⟨.str (S (List.replicate j.toNat l).flatten),H,I.tok _,⟨_,rfl⟩,k _ H G fp .refl (rel.push (iE Mg))⟩
  ·cases e
 ·cases e
end
end PV
namespace HT
open PySem PySem.Spec PyProof.Rows L2
variable{prog:Program}{w:World}{A:Around}{E:Value->Shared->Prop}{s:Shared}
theorem jg{t sl:Addr}{items:Array Value}{vl vu:Value}{lo hi:Option Int}{Q:Value->Shared->Prop}(ht:IsTup s.heap t items)(hs:s.heap.IsSliceOf sl vl vu .none)(pl:IsPart vl lo)(pu:IsPart vu hi)
  (hw:sIx items.size 0 lo=0/\sIx items.size items.size hi=items.size) (h:Q (.ref t) s):wpAny (model prog w) A (getItem (.ref t) (.ref sl)) Q E s:=by
 obtain⟨os,Mp,Qm,Ny⟩:=id hs;have QY:s.TypeIs (.ref sl) "slice":=⟨os,Mp,Qm⟩
 unfold getItem;try with_reducible refine UE ?_
 first|refine SH (SO ?_)|skip
 refine SH (wpAny_sequenceKey ht.typeIs (by decide) ?_);refine SH (wpAny_callSpecial?_slot (name:=Str.ofString "__getitem__") ht.typeIs Uc
  (TQ Uc ht.typeIs entry_tuple_getitem ?_ (args_tuple_getitem _ _)))
 show wpAny _ _ (Builtin.Tuple.tupleItemsOf (.ref t) >>= _) _ _ s;refine SH (tupleItemsOf_ ht ?_);refine SH (Vi QY ?_);rw[SU (by decide)];refine SH (fY hs pl pu ?_);have hyes:(((sIx items.size 0 lo:Nat):Int)==0&&(1:Int)==1&&(sIx items.size items.size hi-sIx items.size 0 lo)==items.size)=true:=by
  rw[hw.1,hw.2];simp
 show wpAny _ _ (if(((sIx items.size 0 lo:Nat):Int)==0&&(1:Int)==1&&(sIx items.size items.size hi-sIx items.size 0 lo)==items.size)=true then _ else _) _ _ s;rw[SU hyes];refine SH (m:=Builtin.Tuple.tupleIsExact _) ?_;unfold Builtin.Tuple.tupleIsExact;refine SH (Vi ht.typeIs (SO ?_));rw[SU (by decide)];exact SH (WT (SO ⟨_,rfl,SO h⟩))
end HT
namespace PV
open PySem PySem.Spec PyProof.Rows L2 NX
section
variable{X:Cx}{pos:Pos}{fa:FO}
theorem Af:Nz X (fun x lo hi H Q=>∃a xs,x=.ref a/\SqT X.K H a xs/\(HT.sIx xs.length 0 lo=0/\HT.sIx xs.length xs.length hi=xs.length)/\Q x H):=by
 intro pr s σ H x v vl vu lo hi sl Q I rx hs pl pu h;obtain⟨a,xs,rfl,hx,hw,q⟩:=h;cases rx;obtain⟨Hj,r,ht,hz⟩:=I.tuple hx;have hlen:Hj.toArray.size=xs.length:=by rw[SQ];exact r.length.symm
 refine⟨"tuple",_,PyProof.Rows.slot_tuple_getitem.lookup,ht.typeIs,?_⟩;exact HT.jg ht hs pl pu (by rw[hlen];exact hw) ⟨.ref a,H,I,rfl,q⟩
def Px(k:D)(lo hi:Option Int):Res R:=match k with
 | .tup ds=>if HT.sIx ds.length 0 lo=0/\HT.sIx ds.length ds.length hi=ds.length then .ok (.f,.tup ds) else Pk k lo hi
 |_=>Pk k lo hi
def Ag(fa:FO)(lo hi:FP):FX:=fun env=>(fa env).bind fun p=>(lo p.2).bind fun q=>(hi q.2).bind fun t=>(IK t.2 p.1).bind fun d=>(Px d q.1 t.1).bind fun r=>.ok (r,t.2)
inductive rSlW(K:W.Frag)(x:V)(lo:Option Int)(hi:Option Int)(H:Hp)(Q:VK):Prop
 |mk:∀G fp es vs d r,Goes K H G fp es vs r Q->Vw K G H d x->Px d lo hi=.ok r->rSlW K x lo hi H Q
theorem CT:Nz X (rSlW X.K):=by
 rintro pr s σ H x v vl vu lo hi sl Q I rx hs pl pu ⟨G,fp,es,vs,d,r,⟨rel,k⟩,vd,e⟩;unfold Px at e;split at e
 ·rename_i ds;split at e
  ·rename_i hw;cases e;obtain⟨p,xs,ev,sq,rs⟩:=ik vd;subst ev;refine Af pr s σ H _ v vl vu lo hi sl Q I rx hs pl pu ⟨p,xs,rfl,bV rel.gh sq,by rw[rs.length];exact hw,?_⟩;exact k _ H G fp .refl (rel.push vd)
  ·exact CA pr s σ H x v vl vu lo hi sl Q I rx hs pl pu ⟨G,fp,es,vs,_,r,⟨rel,k⟩,vd,e⟩
 ·exact CA pr s σ H x v vl vu lo hi sl Q I rx hs pl pu ⟨G,fp,es,vs,_,r,⟨rel,k⟩,vd,e⟩
theorem oU{e:Expr}{lo hi:Option Expr}{p2:Pos}{fl fh:FP}(he:QO X e fa)(hl:QP X lo fl)(hh:QP X hi fh):QE X (.Subscript e (.Slice lo hi none p2) pos) (Ag fa fl fh):=
 bS (w5 CT he hl hh) fun σ H Q Hs=>by
  obtain⟨G,env,fp,r,env',rel,e,k⟩:=Hs;obtain⟨⟨o,Hg⟩,e1,e⟩:=au e;obtain⟨⟨i,Hm⟩,e2,e⟩:=au e;obtain⟨⟨j,HV⟩,e3,e⟩:=au e;obtain⟨d,e4,e⟩:=au e;obtain⟨r',e5,e⟩:=au e;cases e;exact⟨G,env,fp,o,Hg,rel,e1,fun v H1 G1 HB Hv Hi IQ=>⟨G1,Hg,HB,i,Hm,Hi,e2,fun H2 G2 HQ Hn Hh=>⟨G2,Hm,HQ,j,HV,Hh,e3,fun H3 G3 IJ HM HJ=>
   ⟨G3,IJ,HV,σ,d,r,⟨HJ,fun v H' G' Hk st HN=>k v H' G' Hk (Hv.trans (Hn.trans (HM.trans st))) HN⟩,HJ.vw ((IQ.mono Hn.gg).mono HM.gg) e4,e5⟩⟩⟩⟩
end
end PV
namespace L2
open PySem PySem.Spec PyProof.Rows
section
variable{X:Cx}{tg:Expr}
def uZ(i j c:Int):Prop:=(-1048576<=i/\i<=1048576)/\(-1048576<=j/\j<=1048576)/\(c = -1\/1<=c)/\c<=1048576
instance (i j c:Int):Decidable (uZ i j c):=by unfold uZ;infer_instance
end
end L2
namespace PV
open PySem PySem.Spec PyProof.Rows L2 NX
section
variable{X:Cx}{tg:Expr}
def Ei:List D->Res R
 |[d]=>match(oN d).bind dS with
  |some (n::ns)=>.ok (.f,.int (zv (n::ns)))
  |_=>.bad
 |[.int i,.int j]=>.ok (.f,.int (if j<i then j else i))
 |_=>.bad
theorem CU(hc:X.calm=true):dm X (.builtin "min") (rC X.K Ei):=by
 rintro pr s σ H xs us Q I rx ⟨G,fp,es,vs,ds,r,⟨rel,k⟩,vd,e⟩;unfold Ei at e;split at e
 ·rename_i d;split at e
  ·rename_i n ns hb;cases e;obtain⟨v,ev,vt⟩:=nR vd;obtain⟨p,ep,sq⟩:=kK rel.gh hb vt;subst ev;subst ep;exact uy hc pr s σ H _ us Q I rx ⟨p,n::ns,rfl,sq,by simp,k _ H G fp .refl (rel.push (bI _))⟩
  ·cases e
 ·rename_i i j;cases e;obtain⟨v,w',ev,v1,v2⟩:=FU vd;subst ev;cases bC v1;cases bC v2;exact ub hc pr s σ H _ us Q I rx ⟨i,j,rfl,k _ H G fp .refl (rel.push (bI _))⟩
 ·cases e
def Hf:List D->Res R
 |[.int i]=>.ok (.f,.int (if i<0 then -i else i))
 |_=>.bad
noncomputable def E8(fs:FOs):FI:=fun env=>(fs env).bind fun p=>(oI p.2 p.1).bind fun d=>match d with
 |[.int i,.int j,.int c]=>if uZ i j c then .ok ((List.range (Builtin.Range.rangeSize i j c).toNat).map fun(k:Nat)=>D.int (i+(k:Int)*c),p.2) else .bad
 |_=>.bad
end
end PV
namespace NX
open PySem PySem.Spec PyProof.Rows L2
section
open PySem.SeqAt
open PySem.AutoSeq1 (wpAny_loadPart')
theorem kZ{M:Model}{A:Around}{E:Value->Shared->Prop}{s:Shared}{β:Type}(f:Nat->β->Sem (ForInStep β))(n:Nat)(I:Nat->β->Shared->Prop)(Q:β->Shared->Prop)
  (turn:∀(i:Nat) (b:β) (s:Shared),i<n->I i b s->wpAny M A (f i b) (fun r s'=>match r with | .yield b'=>I (i+1) b' s' | .done b'=>Q b' s') E s)
  (fin:∀(b:β) (s:Shared),I n b s->Q b s) (b:β) (h:I 0 b s):wpAny M A (forIn [0:n] b f) Q E s:=by
 rw[Std.Legacy.Range.forIn_eq_forIn_range'];refine Wo f (fun dA b s=>∃i,i<=n/\dA=List.range' i (n-i)/\I i b s) Q ?_ ?_ _ b ?_
 ·rintro x dA b s ⟨i,hi,hr,h⟩;by_cases Km:i<n
  ·have e:n-i=(n-(i+1))+1:=by lia
   rw[e,List.range'_succ]at hr;injection hr with h1 h2;subst h1;refine HA (turn x b s Km h) fun r s' Se=>?_
   cases r with
   |yield b'=>exact⟨x+1,by lia,h2,Se⟩
   |done b'=>exact Se
  ·have e:n-i=0:=by lia
   rw[e]at hr;cases hr
 ·rintro b s ⟨i,hi,hr,h⟩;by_cases Km:i<n
  ·have e:n-i=(n-(i+1))+1:=by lia
   rw[e,List.range'_succ]at hr;cases hr
  ·have e:i=n:=by lia
   subst e;exact fin b s h
 ·refine⟨0,Tw _,?_,h⟩;simp[Std.Legacy.Range.size]
theorem ke(l:Addr)(items:Array Value)(n:Nat)(dd:Option Addr)(sl:Array (Option Value))(ns:List Str)(c:Str)(t:Tok)(hi:Vals (ns.map V.str) items.toList)(i:Nat)(hx:ns[i]?=some c)(h0:∀j,j<i->ns[j]?≠some c):
  Meets (Builtin.«tuple.index» ⟨[.ref l,.str c t],[]⟩)
   (fun _ R s=>s.heap.get? l=some {cls:=.type "tuple",dict:=dd,data:=.seq items n,slots:=sl}/\R (.ok (.ret (.int (i:Int) s.toks))) {s with toks:=s.toks+1}):=
 .of_wp fun prog w A R s h=>by
  obtain⟨hp,g,d,tk,os⟩:=s;obtain⟨hl,h⟩:=h;have z1:items.size=ns.length:=by have:=hi.length;simp at this;lia
  have Km:i<ns.length:=(List.getElem?_eq_some_iff.mp hx).1;have key:∀(j:Nat),j<ns.length->∃(b:Str) (u:Tok),items[j]?=some (.str b u)/\ns[j]?=some b:=by
   intro j hj;obtain⟨v,hv,hr⟩:=hi.get (i:=j) (x:=V.str ns[j]) (by simp[hj]);obtain⟨u,rfl⟩:=hr;exact⟨ns[j],u,by rw[<-Array.getElem?_toList];exact hv,by simp[hj]⟩
  wp_walk using wpAny_loadPart' hl,kZ _ _ (fun j b s'=>b.1=none/\s'=⟨hp,g,d,tk,os⟩/\j<=i) _
  case turn=>
   rintro j ⟨b1,b2⟩ s' hj ⟨hb,rfl,Sf⟩;simp only at hb;subst hb;obtain⟨b,u,e1,e2⟩:=key j (by lia);have he:EqAt A.in1 ⟨hp,g,d,tk,os⟩ (.str b u) (.str c t) (b==c):=EqAt.str_str b u c t;by_cases Mh:b=c
   ·have hji2:j=i:=by
     rcases Nat.lt_or_ge j i with HW|hge
     ·exact absurd (by rw[e2,Mh]) (h0 j HW)
     ·lia
    subst hji2 Mh;rw[e1];refine SH (he prog w _ _ ?_);rw[show(b==b)=true from Um b]
    wp_walk
    exact⟨_,rfl,h⟩
   ·rw[e1];refine SH (he prog w _ _ ?_);rw[show(b==c)=false from TN.mpr Mh]
    wp_walk
    refine⟨rfl,rfl,?_⟩;rcases Nat.lt_or_ge j i with HW|hge
    ·exact HW
    ·have:j=i:=by lia
     subst this;rw[e2]at hx;cases hx;exact absurd rfl Mh
  case fin=>
   rintro⟨b1,b2⟩ s' ⟨hb,rfl,Sf⟩;rw[Nat.min_self]at Sf;lia
  case h=>exact⟨rfl,rfl,Tw _⟩
end
end NX
namespace L2
open PySem PySem.Spec PyProof.Rows
section
variable{X:Cx}{o e:Expr}{es:List Expr}{to:TE}{t:TA}{name:Str}{apos HE:Pos}{id:String}{r:V->List V->Hp->VK->Prop}
def GL(K:W.Frag)(r:V->List V->Hp->VK->Prop)(to:TE)(t:TA):TE:=fun σ H Q=>to σ H fun x H1=>(∃p ys,x=.ref p/\SqT K H1 p ys)/\t σ H1 fun xs H2=>r x xs H2 Q
theorem CV(slot:Slot "tuple" name id)(LG:typeOf (.builtin id)=pure (.type "method_descriptor"))(hm:Nd X id r)(ho:PE X o to)(ha:PA X (e::es) t)
  (IL:attributeBase o name X.env (eval o X.env)=eval o X.env:=by rfl)
  (JJ:((backTo HE (starEach (e::es) X.env)).all (fun x=>!x.1)&&(backToKw HE (keywordEach [] X.env)).all (fun x=>x.1.isSome)
   && decide ((e::es).length+([]:List Keyword).length+(if([]:List Keyword).isEmpty then 0 else 1)<30))=true:=by rfl)
  (IM:(apos.endLine==HE.line)=true:=by rfl) (hs:starEach (e::es) X.env=(false,eval e X.env)::starEach es X.env:=by rfl) (Ie:(backTo HE (starEach es X.env)).any (·.1)=false:=by rfl):
  PE X (.Call (.Attribute o name apos) (e::es) [] HE) (GL X.K r to t):=by
 intro pr s σ H Q I h;refine wpAny_Call_method_late IL JJ IM rfl (HA (ho pr s σ H _ I h) fun v s1 HD=>?_);obtain⟨x,H1,I1,r1,⟨p,ys,ex,sq⟩,q1⟩:=HD;subst ex;cases r1;obtain⟨Hj,_,⟨ob,ho,hc,⟨n,hd⟩,hn⟩,_⟩:=I1.tupleN sq;refine⟨"tuple",id,PySem.F.plainAttrs_tuple,slot,LG,⟨ob,ho,hc⟩,fun a e2=>?_,?_⟩
 ·cases e2;exact⟨ob,ho,hn⟩
 have hA:=ha HE pr s1 σ H1 _ I1 q1;rw[hs]at hA ⊢;refine Calls.callWith_builtin (by show(false||(backTo HE (starEach es X.env)).any (·.1))=false;rw[Ie] <;> rfl) (Calls.evalArgs_plain ?_);exact HA hA fun us s2 ⟨vs,H2,I2,r2,q2⟩=>hm pr s2 σ H2 (.ref p) vs _ us Q I2 rfl r2 q2
end
end L2
namespace PV
open PySem PySem.Spec PyProof.Rows L2 NX
section
variable{X:Cx}
noncomputable def CW(g:List D->List D->Res R)(fa:FO)(fs:FOs):FX:=fun env=>(fa env).bind fun p=>(IK p.2 p.1).bind fun a=>match a with
 | .tup _=>(fs p.2).bind fun q=>(IK q.2 p.1).bind fun a2=>match a2 with
  | .tup l=>(oI q.2 q.1).bind fun ds=>(g l ds).bind fun r=>.ok (r,q.2)
  |_=>.bad
 |_=>.bad
inductive rMtT(K:W.Frag)(g:List D->List D->Res R)(x:V)(xs:List V)(H:Hp)(Q:VK):Prop
 |mk:∀G fp es vs l ds r,Goes K H G fp es vs r Q->Vw K G H (.tup l) x->Ni K G H ds xs->g l ds=.ok r->rMtT K g x xs H Q
theorem u0{g:List D->List D->Res R}{id:String}{name:Str}{o e:Expr}{es:List Expr}{fa:FO}{fs:FOs}{apos HE:Pos}(slot:Slot "tuple" name id)(LG:typeOf (.builtin id)=pure (.type "method_descriptor"))(hm:Nd X id (rMtT X.K g))(ho:QO X o fa)(ha:K9 X (e::es) fs)
  (IL:attributeBase o name X.env (eval o X.env)=eval o X.env:=by rfl)
  (JJ:((backTo HE (starEach (e::es) X.env)).all (fun x=>!x.1)&&(backToKw HE (keywordEach [] X.env)).all (fun x=>x.1.isSome)&&decide ((e::es).length+([]:List Keyword).length+(if([]:List Keyword).isEmpty then 0 else 1)<30))=true:=by rfl)
  (IM:(apos.endLine==HE.line)=true:=by rfl) (hs:starEach (e::es) X.env=(false,eval e X.env)::starEach es X.env:=by rfl) (Ie:(backTo HE (starEach es X.env)).any (·.1)=false:=by rfl):
  QE X (.Call (.Attribute o name apos) (e::es) [] HE) (CW g fa fs):=by
 refine bS (CV slot LG hm ho ha IL JJ IM hs Ie) fun σ H Q HD=>?_
 obtain⟨G,env,fp,r,env',rel,e,k⟩:=HD;obtain⟨⟨oa,Hg⟩,e1,e⟩:=au e;obtain⟨da,Mv,e⟩:=au e;dsimp only at e;split at e
 ·obtain⟨⟨os,Hm⟩,e2,e⟩:=au e;obtain⟨d2,hd2,e⟩:=au e;dsimp only at e;split at e
  ·obtain⟨ds,e3,e⟩:=au e;obtain⟨r',e4,e⟩:=au e;cases e;refine⟨G,env,fp,oa,Hg,rel,e1,fun v H1 G1 HB Hv Hi IQ=>?_⟩;obtain⟨p,xs,ev,sq,_⟩:=bA (Vw.rep Hi.gh (Hi.vw IQ Mv));exact⟨⟨p,xs,ev,sq⟩,G1,Hg,HB,os,_,Hi,e2,fun vs H2 G2 HQ Hn Hh Ll=>⟨G2,HQ,_,σ,_,ds,r,⟨Hh,fun v H' G' Hk st HN=>k v H' G' Hk (Hv.trans (Hn.trans st)) HN⟩,Hh.vw (IQ.mono Hn.gg) hd2,Hh.vws Ll e3,e4⟩⟩
  ·cases e
 ·cases e
def oV(l:List D):List D->Res R
 |[.str c]=>match f7 l with
  |some bs=>if c∈bs then .ok (.f,.int (bs.idxOf c:Nat)) else .bad
  |none=>.bad
 |_=>.bad
theorem CY{a b:List Nat}(h:S a=S b):a=b:=by
 have:=T3 (fun s:Str=>s.cps.toList) h;simpa only[dC] using this
theorem q5:∀(bs:List (List Nat)) (c:List Nat) (j:Nat),bs[j]?=some c->bs.idxOf c<=j
 |[],c,j,h=>by simp at h
 |b::bs,c,0,h=>by
  simp at h;subst h;simp[List.idxOf_cons]
 |b::bs,c,j+1,h=>by
  rw[List.getElem?_cons_succ]at h;have:=q5 bs c j h;rw[List.idxOf_cons];cases b==c with
  |true=>exact Tw _
  |false=>exact Nat.succ_le_succ this
theorem iH:Nd X "tuple.index" (rMtT X.K oV):=by
 rintro pr s σ H x xs v us Q I rx rv ⟨G,fp,es,vs,l,ds,r,⟨rel,k⟩,vx,vd,e⟩;unfold oV at e;split at e
 ·rename_i c;split at e
  ·rename_i bs hb;split at e
   ·rename_i hc;cases e;obtain⟨p,ys,ev,sq,rs⟩:=bA (Vw.rep rel.gh vx);obtain⟨hy,_⟩:=iG hb rs;subst ev;cases rx;obtain⟨w',ew,vc⟩:=nR vd;obtain⟨ev,_⟩:=fZ vc;subst ew;subst ev;obtain⟨u,rfl,t',rfl⟩:=gk rv;obtain⟨Hj,vl,⟨ob,h1,h2,⟨n,h3⟩,h4⟩,_⟩:=I.tupleN sq;subst hy;obtain⟨cls,dict,data,slots⟩:=ob;dsimp only at h2 h3 h4;subst h2 h3 h4;have HW:=T9 hc;refine PySem.call_meets UM ⟨_,h1,rfl⟩ PySem.F.entry_tuple_index (PySem.F.args_tuple_index_2 _ _) (ke p Hj.toArray n _ _ (bs.map S) (S c) t' (by rw[S9];exact vl) (bs.idxOf c) ?_ ?_) ⟨h1,⟨.int (bs.idxOf c:Nat),H,I.tok _,⟨_,rfl⟩,k _ H G fp .refl (rel.push (bI _))⟩⟩
    ·rw[List.getElem?_map,List.getElem?_eq_getElem HW,List.getElem_idxOf HW];rfl
    ·intro j hj he;rw[List.getElem?_map,List.getElem?_eq_getElem (by lia)]at he;have he:=CY (Tc he);have:=q5 bs c j (by rw[List.getElem?_eq_getElem (by lia),he]);lia
   ·cases e
  ·cases e
 ·cases e
def cY(a b:D):Res R:=match a,b with
 | .tup [],.tup l=>.ok (.f,.tup l)
 |a,b=>addD a b
theorem aQ:HX X (binaryOp .Add) (rG X.K cY):=by
 rintro pr s σ H x y v u Q I rx ry ⟨G,fp,es,vs,a,b,r,⟨rel,k⟩,va,vb,e⟩;unfold cY at e;split at e
 ·rename_i l;cases e;obtain⟨p,xs,e1,h1,r1⟩:=ik va;obtain⟨p2,OP,e2,h2,r2⟩:=ik vb;subst e1;subst e2;cases rx;cases ry;have hx:xs=[]:=TH (by rw[r1.length];rfl);subst hx;obtain⟨Hj,v1,⟨⟨cls,dd,data,sl⟩,ho,hc,n,hd⟩,_⟩:=I.tuple (bV rel.gh h1);obtain⟨KG,v2,⟨⟨Mo,K5,data2,K6⟩,Jd,Ko,n2,hd2⟩,_⟩:=I.tuple (bV rel.gh h2);dsimp only at hc hd Ko hd2;subst hc hd Ko hd2;cases v1;exact WC ⟨_,ho,rfl⟩ ⟨_,Jd,rfl⟩ Wm W9 Vr Vk (Vh _ _) (tuple_addW0 p p2 _ _ n n2 dd K5 sl K6 rfl) ⟨ho,Jd,⟨.ref p2,H,I,rfl,k _ H G fp .refl (rel.push vb)⟩⟩
 ·exact Cv pr s σ H _ _ v u Q I rx ry ⟨G,fp,es,vs,a,b,r,⟨rel,k⟩,va,vb,e⟩
def sU(fs:FOs):FI:=II (sQ true true fs) (II (sQ true false fs) (II (sQ false true fs) (sQ false false fs)))
theorem qe{Lm:List Expr}{kt:Nat}{pt:Pos}{e1 e2:Expr}{fs:FOs}{p pos:Pos}(hg:Gl X "zip")(hm:X.mg "zip" = none)(ha:K9 X [e1,e2] fs)(he:starEach [e1,e2] X.env=(false,eval e1 X.env)::starEach [e2] X.env:=by rfl)(IZ:(backTo pos (starEach [e2] X.env)).any (·.1)=false:=by rfl):
  QI X (.Tuple Lm kt pt) (.Call (.Name "zip" p) [e1,e2] [] pos) (sU fs):=uS (qT true true hg hm ha he IZ) (uS (qT true false hg hm ha he IZ) (uS (qT false true hg hm ha he IZ) (qT false false hg hm ha he IZ)))
end
end PV
namespace NX
open PySem PySem.Spec PyProof.Rows L2
section
open PySem.AutoSeq1 (wpAny_loadPart')
theorem oW(l:Addr)(items:Array Value)(n:Nat)(dd:Option Addr)(sl:Array (Option Value))(x:Int)(u:Tok)(h1:¬ (!Builtin.List.listFitsIndex x)=true)(h2:¬ items.size*x.toNat>(2 ^ 63-1) / 8)(h3:¬ Builtin.List.listTooLong (items.size*x.toNat)=true)(h4:(List.foldl (fun x1 x2=>x1++x2) #[] (List.replicate (if items.isEmpty=true then 0 else x.toNat) items)).size<=sizeLine):
  Meets (Builtin.«list.__mul__» ⟨[.ref l,.int x u],[]⟩)
   (fun _ R s=>s.heap.get? l=some {cls:=.type "list",dict:=dd,data:=.seq items n,slots:=sl}/\R (.ok (.ret (.ref s.heap.objs.size))) {s with heap:=s.heap.push {cls:=.type "list",data:=.seq (List.foldl (fun x1 x2=>x1++x2) #[] (List.replicate (if items.isEmpty=true then 0 else x.toNat) items))}}):=
 .of_wp fun prog w A R s h=>by
  obtain⟨hp,g,d,tk,os⟩:=s;obtain⟨hl,h⟩:=h
  wp_walk using wpAny_loadPart' hl
  rw[SX (by lia)]
  wp_walk
  exact⟨_,rfl,h⟩
theorem oX(a:Int)(t:Tok)(l:Addr)(T:String)(items:Array Value)(n:Nat)(dd:Option Addr)(sl:Array (Option Value)):
  Meets (Builtin.«int.__rmul__» ⟨[.int a t,.ref l],[]⟩)
   (fun _ R s=>s.heap.get? l=some {cls:=.type "list",dict:=dd,data:=.seq items n,slots:=sl}/\R (.ok (.ret .notImplemented)) s):=
 .of_wp fun prog w A R s h=>by
  obtain⟨hp,g,d,tk,os⟩:=s;obtain⟨hl,h⟩:=h
  wp_walk using wpAny_loadPart' hl
  exact⟨_,rfl,h⟩
end
end NX
namespace PV
open PySem PySem.Spec PyProof.Rows L2 NX
section
variable{md:Mode}{X:Cx}
inductive rRepS(K:W.Frag)(x:V)(y:V)(H:Hp)(Q:VK):Prop
 |mk:∀l k xs,x=.ref l->y=.int k->SqL K H l xs->-(2 ^ 62)<=k->k<2 ^ 62->xs.length*k.toNat<=sizeLine->(∀p,H p=none->Q (.ref p) (upd H p (.lst (List.replicate k.toNat xs).flatten)))->rRepS K x y H Q
theorem Ah:HX X (binaryOp .Mult) (rRepS X.K):=by
 intro pr s σ H x y v u Q I rx ry h;obtain⟨l,k,xs,rfl,rfl,hH,h1,h2,hz,q⟩:=h;cases rx;obtain⟨t,rfl⟩:=ry;obtain⟨Hj,r,p1,_⟩:=I.list hH;have hl:=r.length;obtain⟨⟨cls,dd,data,sl⟩,ho,hc,n,hd⟩:=id p1.isList;simp only at hc hd;subst hc hd;have hlen:Hj.toArray.size*k.toNat<=sizeLine:=by rw[SQ,<-hl];exact hz
 have hcap:¬ Hj.toArray.size*k.toNat>(2 ^ 63-1) / 8:=by
  have:(sizeLine:Nat)<=(2 ^ 63-1) / 8:=by decide
  lia
 have JP:¬ (!Builtin.List.listFitsIndex k)=true:=by
  rw[fitsIndex_both (by lia) (by lia)];exact SN
 have Py:¬ Builtin.List.listTooLong (Hj.toArray.size*k.toNat)=true:=by
  rw[xc hlen];exact SN
 have Pz:List.foldl (fun x1 x2=>x1++x2) #[] (List.replicate (if Hj.toArray.isEmpty=true then 0 else k.toNat) Hj.toArray)=(List.replicate k.toNat Hj).flatten.toArray:=by
  have f0:∀m:Nat,List.foldl (fun x1 x2=>x1++x2) #[] (List.replicate m Hj.toArray)=(List.replicate m Hj).flatten.toArray:=fun m=>by
   have:=om Hj m [];rw[Uj]at this;exact this
  rw[f0];cases Hj with
  |nil=>simp
  |cons a r'=>rw[SX (by simp)]
 have hsz:(List.foldl (fun x1 x2=>x1++x2) #[] (List.replicate (if Hj.toArray.isEmpty=true then 0 else k.toNat) Hj.toArray)).size<=sizeLine:=by
  rw[Pz,SQ,mz,XA];rw[SQ]at hlen;exact hlen
 refine wpAny_binaryOp_repeat_ref (T:="list") (U:="int") (by decide) ⟨_,ho,rfl⟩ (fun s'=>WS s' k t) noFill_list_mul F.fills_int_mul F.slot_int_rmul repeat_list F.slot_int_index.lookup
  (call_meets F.slot_int_rmul (WS s k t) F.entry_int_rmul (F.args_int_rmul_2 _ _) (oX k t l "" Hj.toArray n dd sl)
   ⟨ho,rfl,⟨_,ho,rfl⟩,call_meets F.slot_list_mul ⟨_,ho,rfl⟩ F.entry_list_mul (F.args_list_mul_2 _ _) (oW l Hj.toArray n dd sl k t JP hcap Py hsz) ⟨ho,?_⟩⟩)
 rw[Pz];exact⟨.ref _,_,I.lnew (t':=s.toks) (r.rep k.toNat) (by rw[mz,XA];exact hz),rfl,q _ I.fresh⟩
theorem rg{K:W.Frag}{G:Hp}{ds:List D}{xs:List V}(r:Reps K G ds xs):∀n:Nat,Reps K G (List.replicate n ds).flatten (List.replicate n xs).flatten
 | 0=>.nil
 |n+1=>by
  rw[Ud,Ud,Uv,Uv];exact r.app (rg r n)
def m7(a b:D):Res R:=match a,b with
 | .lst ds,.int k=>if 0<=k/\k<1000000/\ds.length*k.toNat<=sizeLine then .ok (.l .f,.lst (List.replicate k.toNat ds).flatten) else .bad
 |a,b=>Ad a b
theorem gx:HX X (binaryOp .Mult) (rG X.K m7):=by
 rintro pr s σ H x y v u Q I rx ry ⟨G,fp,es,vs,a,b,r,⟨rel,k⟩,va,vb,e⟩;unfold m7 at e;split at e
 ·rename_i ds j;split at e
  ·rename_i hj;cases e;obtain⟨p,xs,e1,h1,r1⟩:=va;subst e1;cases bC vb;refine Ah pr s σ H _ _ v u Q I rx ry ⟨p,j,xs,rfl,rfl,h1,by lia,by lia,by rw[r1.length];exact hj.2.2,fun q hq=>?_⟩;obtain⟨Hh,Hn⟩:=rel.newL hq (rg r1 j.toNat);exact k _ _ G _ Hn Hh
  ·cases e
 ·exact Ae pr s σ H _ _ v u Q I rx ry ⟨G,fp,es,vs,a,b,r,⟨rel,k⟩,va,vb,e⟩
def E9(td ty tv:TE):TS:=fun Dd σ H=>tv σ H fun v H1=>td σ H1 fun x H2=>ty σ H2 fun y H3=>B9 x y v H3 fun H4=>Dd.nx σ H4
theorem Ai{o i value:Expr}{td ty tv:TE}{pos pos':Pos}(ho:PE X o td)(hi:PE X i ty)(hv:PE X value tv)(hs:swapsWith value (some (.Subscript o i pos')) pos.line X.env=pure false):
  PS X (.Assign [.Subscript o i pos'] value pos) (E9 td ty tv):=by
 intro pr s σ H Dd I h;refine wpAny_Assign_Subscript (HA (hv pr s σ H _ I h) fun r s1 ⟨v,H1,I1,rv,q1⟩=>HA (ho pr s1 σ H1 _ I1 q1) fun u s2 ⟨x,H2,I2,rx,q2⟩=>HA (hi pr s2 σ H2 _ I2 q2) fun iv s3 ⟨y,H3,I3,ry,q3⟩=>?_) hs;exact HA (xa pr s3 σ H3 x y v u iv r _ I3 rx ry rv q3) fun _ s4 ⟨H4,I4,q4⟩=>⟨σ,H4,I4,q4⟩
noncomputable def ve(i:Nat)(fk fv:FX):FS:=fun env=>(fv env).bind fun p=>(fk p.2).bind fun q=>match p.2[i]?,q.2[i]? with
 |some (some _),some (some (.l .f,.lst ds))=>(match q.1.2 with
  | .int k=>(match ixN ds.length k with
   |some j=>.ok (.nx (q.2.set i (some (.l .f,.lst (ds.set j p.1.2)))))
   |none=>.bad)
  |_=>.bad)
 |_,_=>.bad
theorem vf{i:Nat}{o ix value:Expr}{fk fv:FX}{pos pos':Pos}(ho:PE X o (tL i))(hi:QE X ix fk)(hv:QE X value fv)(hs:swapsWith value (some (.Subscript o ix pos')) pos.line X.env=pure false:=by rfl):
  QS (md:=md) X (.Assign [.Subscript o ix pos'] value pos) (ve i fk fv):=d6 (Ai ho hi hv hs) fun Dd σ H Hs=>by
 obtain⟨G,env,fp,rel,k⟩:=Hs;unfold ve at k;match q1:fv env,k with
 | .ok (r1,Hg),k=>
  have k:OutOk X.K G H fp Dd ((fk Hg).bind fun q=>match Hg[i]?,q.2[i]? with
   |some (some _),some (some (.l .f,.lst ds))=>(match q.1.2 with
    | .int k=>(match ixN ds.length k with
     |some j=>.ok (.nx (q.2.set i (some (.l .f,.lst (ds.set j r1.2)))))
     |none=>.bad)
    |_=>.bad)
   |_,_=>.bad):=k
  match q2:fk Hg,k with
  | .ok (r2,Hm),k=>
   have k:OutOk X.K G H fp Dd (match Hg[i]?,Hm[i]? with
    |some (some _),some (some (.l .f,.lst ds))=>(match r2.2 with
     | .int k=>(match ixN ds.length k with
      |some j=>.ok (.nx (Hm.set i (some (.l .f,.lst (ds.set j r1.2)))))
      |none=>.bad)
     |_=>.bad)
    |_,_=>.bad):=k
   split at k
   ·rename_i rr ds h1 h2;split at k
    ·rename_i kk KN;split at k
     ·rename_i j hj;refine⟨G,env,fp,r1,Hg,rel,q1,fun y H1 G1 HB Hv Hi=>?_⟩;obtain⟨G2,b,ry,Hh,Hn⟩:=Hi.freeze;obtain⟨v0,My,_⟩:=Hh.view h1;refine⟨v0,My,G2,Hg,b,r2,Hm,Hh,q2,fun z H3 G3 IJ HM HJ=>?_⟩;obtain⟨G4,b4,rz,HY,Io⟩:=HJ.freeze;have NS:Rep X.K G4 r1.2 y:=Rep.mono (HM.gg.trans Io.gg) ry;obtain⟨p,xs,ep,hp,rs,cg⟩:=HY.chg (ds':=ds.set j r1.2) h2;rw[My]at ep;cases ep;rw[KN]at rz;have hz:=bH rz;obtain⟨fq,Iq,Js⟩:=cg _ (rs.set j NS);exact⟨p,xs,kk,j,rfl,hz,hp,by rw[rs.length];exact hj,k _ _ G4 fq (Hv.trans (Hn.trans (HM.trans (Io.trans Js)))) Iq⟩
     ·exact k.elim
    ·exact k.elim
   ·exact k.elim
end
section
variable{X:Cx}
theorem Rel.own{K:W.Frag}{G H:Hp}{es:PV.Env}{vs:L2.St}{fp:List Addr}{p:Addr}{u:HO}{tk:Bool}{ks ws:List D}{xs:List V}(q:Rel K G H es vs fp)(np:p∉fp)(gp:G p=none)(h:DictO u tk ks xs)(rs:Reps K G ws xs):
  Rel K G (upd H p u) (some (.d,.dct tk ks ws)::es) (some (.ref p)::vs) (p::fp):=by
 refine⟨⟨some (.ref p),vs,rfl,.ref p,[p],fp,rfl,rfl,?_,q.rep.step (.refl _) fun z hz=>aE fun e=>np (e▸hz)⟩,Tf.mpr ⟨np,q.nd⟩,fun z hz=>?_,fun b o e=>?_⟩
 ·rw[RepO];exact⟨p,xs,u,rfl,aY,h,rfl,rs⟩
 ·rcases SV.mp hz with rfl|hz
  ·exact gp
  ·exact q.gn z hz
 ·rw[aE fun z=>by subst z;rw[gp]at e;cases e];exact q.gh b o e
theorem Rel.aside{K:W.Frag}{G H:Hp}{es:PV.Env}{vs:L2.St}{fp:List Addr}{p:Addr}{u:HO}(q:Rel K G H es vs fp)(hp:H p=none):Rel K G (upd H p u) es vs fp:=by
 have np:p∉fp:=fun z=>by
  obtain⟨u,e⟩:=q.rep.live p z;rw[hp]at e;cases e
 exact⟨q.rep.step (.refl _) fun z hz=>aE fun e=>np (e▸hz),q.nd,q.gn,fun b o e=>by rw[aE (bc (q.gh b o e) hp)];exact q.gh b o e⟩
theorem Step.aside{K:W.Frag}{G H G2 H2:Hp}{es:PV.Env}{vs:L2.St}{fp HQ:List Addr}{p:Addr}{u u2:HO}(q:Rel K G H es vs fp)(hp:H p=none)(hu:isT u=false)(st:Step G (upd H p u) fp G2 H2 HQ):
  Step G H fp G2 (upd H2 p u2) (p::HQ)/\p∉HQ/\G2 p=none/\H2 p=some u:=by
 have np:p∉fp:=fun z=>by
  obtain⟨u,e⟩:=q.rep.live p z;rw[hp]at e;cases e
 have ne:∀{b o},H b=some o->b≠p:=fun e=>bc e hp
 refine⟨⟨st.gg,fun b o e nb=>?_,fun b hb=>?_,fun b o e=>?_,fun b o e=>?_⟩,fun z=>?_,?_,st.keep p u aY np⟩
 ·rw[aE (ne e)];exact st.keep b o (by rw[aE (ne e)];exact e) nb
 ·rcases SV.mp hb with rfl|hb
  ·exact .inr hp
  ·rcases st.fpn b hb with h|h
   ·exact .inl h
   ·by_cases e:b=p
    ·subst e;exact .inr hp
    ·rw[aE e]at h;exact .inr h
 ·rcases st.gnew b o e with h|h|h|⟨h1,h2⟩
  ·exact .inl h
  ·exact .inr (.inl h)
  ·by_cases e:b=p
   ·subst e;exact .inr (.inr (.inl hp))
   ·rw[aE e]at h;exact .inr (.inr (.inl h))
  ·by_cases e:b=p
   ·subst e;exact .inr (.inr (.inl hp))
   ·rw[aE e]at h2;exact .inr (.inr (.inr ⟨h1,h2⟩))
 ·obtain⟨o',h⟩:=st.there b o (by rw[aE (ne e)];exact e);exact⟨o',by rw[aE (ne e)];exact h⟩
 ·rcases st.fpn p z with h|h
  ·exact np h
  ·rw[aY]at h;cases h
 ·cases e:G2 p with
  |none=>rfl
  |some o=>
   rcases st.gnew p o e with h|h|h|⟨h1,h2⟩
   ·have:=q.gh p o h;rw[hp]at this;cases this
   ·exact absurd h np
   ·rw[aY]at h;cases h
   ·rw[aY]at h2;cases h2;rw[hu]at h1;cases h1
def oY(fk fv:FX):FX:=fun env=>(fk env).bind fun p=>(fv p.2).bind fun q=>if dg false p.1.2 then .ok ((.d,.dct false [p.1.2] [q.1.2]),q.2) else .bad
theorem m9{k v:Expr}{fk fv:FX}{pos:Pos}(hk:QE X k fk)(hv:QE X v fv):QE X (.Dict [some k] [v] pos) (oY fk fv):=
 bS (zQ (xo hk hv zP) rfl rfl (List.cons_ne_nil _ _) (show 1<=15 by decide)) fun σ H Q Hs p hp=>by
  obtain⟨G,env,fp,r,env',rel,e,kk⟩:=Hs;obtain⟨⟨r1,Hg⟩,e1,e⟩:=au e;obtain⟨⟨r2,Hm⟩,e2,e⟩:=au e;dsimp only at e;split at e
  ·rename_i Ji;cases e;refine⟨G,env,fp,r1,Hg,rel.aside hp,e1,fun x H1 G1 HB Hv Hi=>?_⟩;obtain⟨G2,b,rx,Hh,Hn⟩:=Hi.freeze;refine⟨G2,Hg,b,r2,_,Hh,e2,fun y H3 G3 IJ HM HJ=>?_⟩;obtain⟨G4,b4,ry,HY,Io⟩:=HJ.freeze;have Sg:Rep X.K G4 r1.2 x:=Rep.mono (HM.gg.trans Io.gg) rx;unfold dg at Ji;rw[SX SN,TF]at Ji;obtain⟨kd,Pa⟩:=Ji;obtain⟨ex,dx⟩:=fE Pa Sg;obtain⟨st,np,gp,Pe⟩:=Step.aside (u2:=.dK [(kd,y)]) rel hp rfl (Hv.trans (Hn.trans (HM.trans Io)));refine⟨Pe,[(kd,y)],by rw[ex];rfl,(show 1<=15 by decide),?_⟩;exact kk _ _ G4 _ st (HY.own np gp ⟨[(kd,y)],rfl,by rw[dx];rfl,rfl,fun kv JB=>by rw[S7.mp JB];exact q0 Pa Sg⟩ (.one ry))
  ·cases e
def getD(ks vs:List D)(k:D):Option D:=((ks.zip vs).find? fun p=>Hl k p.1).map (·.2)
theorem k4{κ:Type}[DecidableEq κ]{K:W.Frag}{G:Hp}(f:κ->D)(hf:∀a b,Hl (f a) (f b)=decide (a=b)){k:κ}:∀{kvs:List (κ×V)}{vs:List D},Reps K G vs (kvs.map (·.2))->((getD (kvs.map fun kv=>f kv.1) vs (f k)).isSome=(oC kvs k).isSome)/\∀d,getD (kvs.map fun kv=>f kv.1) vs (f k)=some d->∃v,oC kvs k=some v/\Rep K G d v
 |[],vs,r=>⟨rfl,fun d h=>nomatch h⟩
 |kv::kvs,vs,r=>by
  cases vs with
  |nil=>have:=r.length;simp at this
  |cons d0 vs=>
   rw[S5,Reps.cons_iff]at r;obtain⟨h1,h2⟩:=k4 f hf (k:=k) r.2;unfold getD oC at h1 h2 ⊢;rw[S5,T8];have e:Hl (f k) (f kv.1)=decide (kv.1=k):=by
    rw[hf,Th,S3,S3];exact⟨fun z=>z.symm,fun z=>z.symm⟩
   by_cases hk:kv.1=k
   ·rw[List.find?_cons_of_pos (by show Hl (f k) (f kv.1)=true;rw[e];exact Tr hk),List.find?_cons_of_pos (by exact Tr hk)];refine⟨rfl,fun d h=>?_⟩;cases h;exact⟨_,rfl,r.1⟩
   ·rw[List.find?_cons_of_neg (by show ¬ Hl (f k) (f kv.1)=true;rw[e];simpa using hk),List.find?_cons_of_neg (by simpa using hk)];exact⟨h1,h2⟩
theorem qf{K:W.Frag}{G H:Hp}(gh:Same G H){tk:Bool}{ks vs:List D}{xs:List V}{o:HO}{p:Addr}{b:D}{y:V}(rd:Rd H p o)(dd:DictO o tk ks xs)(rs:Reps K G vs xs)(hk:dg tk b=true)(ry:Rep K G b y):
  ∃ov,DGet H p y ov/\(getD ks vs b).isSome=ov.isSome/\∀d,getD ks vs b=some d->∃v,ov=some v/\Rep K G d v:=by
 unfold dg at hk;cases tk with
 |true=>
  rw[SU rfl,TF]at hk;obtain⟨kk,hk⟩:=hk;obtain⟨pz,ez,gz,dz⟩:=cD hk ry;obtain⟨kvs,eo,ek,ex,_⟩:=dd;subst eo ex ez dz;have ek:ks=kvs.map fun kv=>kT kv.1:=ek
  obtain⟨h1,h2⟩:=k4 (K:=K) (G:=G) kT uX (k:=kk) rs;rw[<-ek]at h1 h2;exact⟨oC kvs kk,.inr ⟨kvs,kk,pz,rd,rfl,gh _ _ gz,rfl⟩,h1,h2⟩
 |false=>
  rw[SX SN,TF]at hk;obtain⟨kk,hk⟩:=hk;obtain⟨ez,dz⟩:=fE hk ry;obtain⟨kvs,eo,ek,ex,_⟩:=dd;subst eo ex ez dz;obtain⟨h1,h2⟩:=k4 (K:=K) (G:=G) kD qZ (k:=kk) rs;rw[<-ek]at h1 h2;exact⟨oC kvs kk,.inl ⟨kvs,kk,rd,rfl,rfl⟩,h1,h2⟩
def Jq(a b:D):Res R:=match a with
 | .dct tk ks vs=>if dg tk b then(match getD ks vs b with
  |some d=>.ok (.f,d)
  |none=>.bad) else .bad
 |_=>.bad
theorem ie{a b:Expr}{fa fb:FO}{pos:Pos}(hu:X.A.units+1<cLine)(ha:QO X a fa)(hb:QO X b fb)(hs:NoSl b:=by exact fun _ _=>rfl):QE X (.Subscript a b pos) (aB Jq fa fb):=
 bS (zO hu ha hb hs) fun σ H Q h=>by
  obtain⟨G,env,fp,r,env',rel,e,k⟩:=h;obtain⟨⟨oa,e1⟩,ha,e⟩:=au e;obtain⟨⟨ob,e2⟩,hb,e⟩:=au e;obtain⟨da,Mv,e⟩:=au e;obtain⟨db,JA,e⟩:=au e;obtain⟨r',hr,e⟩:=au e;cases e;refine⟨G,env,fp,oa,e1,rel,ha,fun x H1 G1 HB Hv Hi IQ=>⟨G1,e1,HB,ob,e2,Hi,hb,fun y H2 G2 HQ Hn Hh Ll=>?_⟩⟩;have va:=Hh.vw (IQ.mono Hn.gg) Mv;have vb:=Hh.vw Ll JA;unfold Jq at hr;split at hr
  ·rename_i tk ks vs;split at hr
   ·rename_i Ji;split at hr
    ·rename_i d hd;cases hr;obtain⟨p,xs,o,ev,rd,dd,rs⟩:=va;subst ev;have vb':Rep X.K G2 db y:=by
      cases db with
      |lst l=>cases tk <;> simp[dg,fO,kR]at Ji
      |dct _ _ _=>cases tk <;> simp[dg,fO,kR]at Ji
      |_=>exact vb
     obtain⟨ov,g,_,h2⟩:=qf Hh.gh rd dd rs Ji vb';obtain⟨v,ho,rv⟩:=h2 d hd;subst ho;exact⟨p,v,rfl,g,k _ H2 G2 HQ (Hv.trans Hn) (Hh.push rv)⟩
    ·cases hr
   ·cases hr
  ·cases hr
def Nm(a b:D):Res R:=match b with
 | .dct tk ks vs=>if dg tk a then .ok (.f,.bl (getD ks vs a).isSome) else .bad
 |_=>Ly a b
def tF(a b:D):Res R:=match b with
 | .dct tk ks vs=>if dg tk a then .ok (.f,.bl (!(getD ks vs a).isSome)) else .bad
 |_=>wJ a b
theorem vg(hu:X.A.units+65<cLine):HX X (compareOp .In) (rGA X.K Nm):=by
 rintro pr s σ H x y v u Q I rx ry ⟨G,fp,es,vs,a,b,r,⟨rel,k⟩,va,vb,e⟩;unfold Nm at e;split at e
 ·rename_i tk ks ws;split at e
  ·rename_i Ji;cases e;obtain⟨p,xs,o,ev,rd,dd,rs⟩:=vb;subst ev;cases ry;obtain⟨ov,g,h1,_⟩:=qf (K:=X.K) (G:=H) (fun _ _ z=>z) rd dd rs Ji va;exact GK (by lia) I g rx fun s' I'=>⟨.bl ov.isSome,H,I',rfl,by rw[<-h1];exact k _ H G fp .refl (rel.push (cQ _))⟩
  ·cases e
 ·exact E4 hu pr s σ H x y v u Q I rx ry ⟨G,fp,es,vs,a,b,r,⟨rel,k⟩,va,vb,e⟩
theorem k7(hu:X.A.units+65<cLine):HX X (compareOp .NotIn) (rGA X.K tF):=by
 rintro pr s σ H x y v u Q I rx ry ⟨G,fp,es,vs,a,b,r,⟨rel,k⟩,va,vb,e⟩;unfold tF at e;split at e
 ·rename_i tk ks ws;split at e
  ·rename_i Ji;cases e;obtain⟨p,xs,o,ev,rd,dd,rs⟩:=vb;subst ev;cases ry;obtain⟨ov,g,h1,_⟩:=qf (K:=X.K) (G:=H) (fun _ _ z=>z) rd dd rs Ji va;exact zM (by lia) I g rx fun s' I'=>⟨.bl (!ov.isSome),H,I',rfl,by rw[<-h1];exact k _ H G fp .refl (rel.push (cQ _))⟩
  ·cases e
 ·exact CG hu pr s σ H x y v u Q I rx ry ⟨G,fp,es,vs,a,b,r,⟨rel,k⟩,va,vb,e⟩
end
def isLf:O->Bool
 | .l .f=>true
 | .pin _ (.l .f)=>true
 |_=>false
section
variable{K:W.Frag}{G G' H H':Hp}{es:PV.Env}{vs:L2.St}{fp:List Addr}
theorem RepE.append:∀{es JG:PV.Env}{vs JU:L2.St}{a b:List Addr},RepE K G H es vs a->RepE K G H JG JU b->RepE K G H (es++JG) (vs++JU) (a++b)
 |[],JG,vs,JU,a,b,r,q=>by
  rw[r.1,r.2];exact q
 |none::es,JG,vs,JU,a,b,r,q=>by
  obtain⟨y,ys,e,r⟩:=r;subst e;exact⟨y,ys++JU,rfl,RepE.append r q⟩
 |some x::es,JG,vs,JU,a,b,r,q=>by
  obtain⟨y,ys,e,v,a1,b1,e1,e2,r1,r2⟩:=r;subst e e2;exact⟨y,ys++JU,rfl,v,a1,b1++b,e1,Tx _ _ _,r1,RepE.append r2 q⟩
theorem RepE.clean{G2 G3:Hp}(h:∀p u,isT u=true->G2 p=some u->G3 p=some u):∀{es:PV.Env}{vs:L2.St}{a:List Addr},(∀r,some r∈es->cleanR r.1 r.2=true)->RepE K G2 H es vs a->RepE K G3 H es vs a
 |[],_,_,_,r=>r
 |none::es,vs,a,hc,r=>by
  obtain⟨y,ys,e,r⟩:=r;exact⟨y,ys,e,RepE.clean h (fun r hr=>hc r (SM _ hr)) r⟩
 |some x::es,vs,a,hc,r=>by
  obtain⟨y,ys,e,v,a1,b1,e1,e2,r1,r2⟩:=r;exact⟨y,ys,e,v,a1,b1,e1,e2,r1.clean h (hc x SI),RepE.clean h (fun r hr=>hc r (SM _ hr)) r2⟩
end
section
variable{X:Cx}
def GN(i:Nat):FX:=fun env=>match env[i]? with
 |some (some (ow,.lst ds))=>if isLf ow then(match ds.getLast? with
  |some d=>.ok ((.f,d),env.set i (some (ow,.lst ds.dropLast)))
  |none=>.bad) else .bad
 |_=>.bad
def k8(i:Nat)(f:FX):FS:=fun env=>(f env).bind fun p=>match p.2[i]? with
 |some (some (.pin q c,d0))=>.ok (.rt (.t [p.1.1,.pin q c],.tup [p.1.2,d0]))
 |_=>.bad
theorem iI{i:Nat}{e:Expr}{f:FX}{pos:Pos}(he:QE X e f):QS (md:=.mut) X (.Return (some e) pos) (k8 i f):=d6 (yj he) fun Dd σ H Hs=>by
 obtain⟨G,env,fp,rel,k⟩:=Hs;unfold k8 at k;match q:f env,k with
 | .ok (r,Hg),k=>
  have k:OutOk (md:=.mut) X.K G H fp Dd (match Hg[i]? with
   |some (some (.pin q c,d0))=>.ok (.rt (.t [r.1,.pin q c],.tup [r.2,d0]))
   |_=>.bad):=k
  split at k
  ·rename_i z c d0 hz;refine⟨G,env,fp,r,Hg,rel,q,fun v H1 G1 HB Hv Hi=>?_⟩;obtain⟨y,ys,ey,v',a,b,e1,e2,r1,r2⟩:=Hi.rep;cases ey;cases e1;subst e2;obtain⟨v0,a0,b0,My,ro,_,pm⟩:=r2.take hz;have hv0:v0=.ref z:=by
    have:=ro;rw[RepO]at this;exact this.1
   subst hv0;have sub:∀w∈a++a0,w∈a++b:=fun w hw=>by
    rcases Tj.mp hw with hw|hw
    ·exact SR _ hw
    ·exact SK _ (pm.mem_iff.mpr (SR _ hw))
   have nd:=Ti.mp Hi.nd;have nd2:=Ti.mp (pm.nodup_iff.mp nd.2.1);refine k v H1 G1 (a++a0) (Hv.trans (Step.cut sub)) ⟨r.1,r.2,z,c,d0,rfl,⟨⟨some v,[some (.ref z)],rfl,v,a,a0,rfl,rfl,r1,some (.ref z),[],rfl,.ref z,a0,[],rfl,(Te _).symm,ro,rfl,rfl⟩,?_,fun p hp=>Hi.gn p (sub p hp),Hi.gh⟩⟩;rw[Ti];exact⟨nd.1,nd2.1,fun p hp w hw e=>nd.2.2 p hp w (pm.mem_iff.mpr (SR _ hw)) e⟩
  ·exact k.elim
def l7(np nn:Nat)(c:O)(g:FS)(p:Addr):List D->Res R
 |d0::ds=>if ds.length+1=np then(g (some (.pin p c,d0)::(ds.map (fun d=>some (O.f,d))++List.replicate nn none))).bind fun o=>match o with
  | .rt r=>.ok r
  |_=>.bad
  else .bad
 |[]=>.bad
inductive spM(K:W.Frag)(c:O)(F:Addr->List D->Res R)(vs:List V)(H:Hp)(Q:VK)(zz:XK):Prop
 |mk:∀G p JU d0 ds r Ln,Same G H->vs=.ref p::JU->RepO K G H c d0 (.ref p) Ln->Ln.Nodup->(∀z∈Ln,G z=none)->Reps K G ds JU->F p (d0::ds)=.ok r->(∀v H' G' Hk,Step G H Ln G' H' Hk->FQ .mut K G' H' r v Hk->Q v H')->spM K c F vs H Q zz
theorem CZ{P:Program}{w:World}{K:W.Frag}{mg:Str->Option Value}{base:Heap}{x:Str}{st:Stmt}{N ps:List Str}{k:Nat}{c:O}{g:FS}(Df:Def K mg x st)(sc:FnScope N ps (defScope st))
  (hb:∀(kV doc pm:Value) (an:Option Addr) (HG ct:Value) (us:List Value),us.length=ps.length->bindArgs (PySem.W.fnOf x x (e7 st) (cW st) (defScope st) .none kV doc pm an HG ct) ⟨us,[]⟩=pure (ps.zip us))
  (body:∀(f:Addr) (HG:Value) (A:Around) (outer:List PySem.Env) (s:Shared) (H:Hp) (E:XK),Room k (A.deeper (envOfC x (defScope st) s.heap.objs.size f HG))->Lk (md:=.mut) (wH Lh P w K mg base N x (defScope st) f HG A outer s H E).nox (cW st) g):
  Ct P w K mg base x (k+1) (spM K c (l7 ps.length (N.length-ps.length) c g)):=by
 obtain⟨f,fd,F,m⟩:=Df;refine⟨f,fd,ps,F.ok sc (fun vs H Q E h=>?_) (fun HG A outer s H vs Q E hr h=>?_),m,F.kp,F.binds hb⟩
 ·obtain⟨G,p,JU,d0,ds,r,Ln,_,ev,_,_,_,rs,e,_⟩:=h;unfold l7 at e;split at e
  ·rename_i Rq ds' heq;cases heq;split at e
   ·rename_i hl;rw[ev,S4,rs.length,hl]
   ·cases e
  ·cases e
 ·obtain⟨G,p,JU,d0,ds,r,Ln,gh,ev,r0,nd,gn,rs,e,q⟩:=h;unfold l7 at e;split at e
  ·rename_i Rq ds' heq;cases heq;split at e
   ·rename_i hl;refine⟨_,body f HG A outer s H E hr,G,some (.pin p c,d0)::(ds.map (fun d=>some (O.f,d))++List.replicate (N.length-ps.length) none),Ln,⟨?_,nd,gn,gh⟩,?_⟩
    ·have:=gu (K:=K) (G:=G) (H:=H) (N.length-ps.length) rs;unfold L2.j8;rw[ev,S4,rs.length,hl];exact⟨some (.ref p),_,rfl,.ref p,Ln,[],rfl,(Te _).symm,by rw[RepO];exact⟨rfl,r0⟩,this⟩
    ·obtain⟨o,eo,e⟩:=au e;rw[eo];cases o with
     |rt r'=>
      cases e;exact fun v H' G' Hk st rel=>q v H' G' Hk st rel
     |nx env'=>cases e
     |bk env'=>cases e
     |ct env'=>cases e
   ·cases e
  ·cases e
def oZ:O->O->Bool
 | .l .f,.l .f=>true
 | .l .f,.pin _ (.l .f)=>true
 | .d,.d=>true
 | .d,.pin _ .d=>true
 |_,_=>false
theorem yH{K:W.Frag}{G H:Hp}{c ow:O}{d:D}{v:V}{a:List Addr}(h:oZ c ow=true)(r:RepO K G H ow d v a):(∃p,v=.ref p)/\RepO K G H c d v a/\∀(G' H':Hp) (d':D) (a':List Addr),RepO K G' H' c d' v a'->RepO K G' H' ow d' v a':=by
 have NU:∀{d:D},RepO K G H (.l .f) d v a->∃p,v=.ref p:=fun{d} r=>by
  cases d with
  |lst ds=>obtain⟨p,_,e,_⟩:=iC.mp r;exact⟨p,e⟩
  |_=>simp only[RepO]at r
 have NV:∀{d:D},RepO K G H .d d v a->∃p,v=.ref p:=fun{d} r=>by
  cases d with
  |dct tk ks ws=>rw[RepO]at r;obtain⟨p,_,_,e,_⟩:=r;exact⟨p,e⟩
  |_=>simp only[RepO]at r
 unfold oZ at h;split at h
 ·exact⟨NU r,r,fun _ _ _ _ z=>z⟩
 ·rw[RepO]at r;exact⟨⟨_,r.1⟩,r.2,fun _ _ _ _ z=>by rw[RepO];exact⟨r.1,z⟩⟩
 ·exact⟨NV r,r,fun _ _ _ _ z=>z⟩
 ·rw[RepO]at r;exact⟨⟨_,r.1⟩,r.2,fun _ _ _ _ z=>by rw[RepO];exact⟨r.1,z⟩⟩
 ·cases h
open Classical in
def jJ(F:Addr->List D->Res R)(c:O)(d0:D)(ds:List D):Res (R×D):=
 if h:∃x:R×D,∀p,F p (d0::ds)=.ok (.t [x.1.1,.pin p c],.tup [x.1.2,x.2]) then .ok (Classical.choose h) else .bad
theorem rh{F:Addr->List D->Res R}{c:O}{d0:D}{ds:List D}{r:R}{d':D}(h:∀p,F p (d0::ds)=.ok (.t [r.1,.pin p c],.tup [r.2,d'])):jJ F c d0 ds=.ok (r,d'):=by
 have h':∃x:R×D,∀p,F p (d0::ds)=.ok (.t [x.1.1,.pin p c],.tup [x.1.2,x.2]):=⟨(r,d'),h⟩
 unfold jJ;rw[dif_pos h'];have e:=(U3 h' 0).symm.trans (h 0);generalize Classical.choose h'=x at e;obtain⟨⟨o,d⟩,d2⟩:=x;cases e;rfl
theorem rq{F:Addr->List D->Res R}{c:O}{d0:D}{ds:List D}{x:R×D}(h:jJ F c d0 ds=.ok x)(p:Addr):F p (d0::ds)=.ok (.t [x.1.1,.pin p c],.tup [x.1.2,x.2]):=by
 unfold jJ at h;split at h
 ·rename_i h';cases h;exact U3 h' p
 ·cases h
end
section
variable{X:Cx}{x:Str}{p pos:Pos}{e:Expr}{es:List Expr}{fs:FOs}
end
def pinFrom(S:List Nat)(ps:Nat->Addr):Nat->PV.Env->PV.Env
 |_,[]=>[]
 |k,r::es=>(if k∈S then r.map fun r=>(.pin (ps k) .f,r.2) else r)::pinFrom S ps (k+1) es
def xD(S:List Nat)(ps:Nat->Addr)(env:PV.Env):PV.Env:=pinFrom S ps 0 env
theorem k9(S:List Nat)(ps:Nat->Addr):∀(env:PV.Env) (m k:Nat),(pinFrom S ps m env)[k]?=(env[k]?).map fun r=>if m+k∈S then r.map fun r=>(.pin (ps (m+k)) .f,r.2) else r
 |[],m,k=>by simp[pinFrom]
 |r::es,m,0=>by simp[pinFrom]
 |r::es,m,k+1=>by
  rw[pinFrom,List.getElem?_cons_succ,List.getElem?_cons_succ,k9 S ps es (m+1) k,show m+1+k=m+(k+1) by lia]
theorem eV(S:List Nat)(ps:Nat->Addr)(env:PV.Env)(k:Nat):(xD S ps env)[k]?=(env[k]?).map fun r=>if k∈S then r.map fun r=>(.pin (ps k) .f,r.2) else r:=by
 unfold xD;rw[k9,V1]
theorem rA(S:List Nat)(ps:Nat->Addr)(env:PV.Env):(xD S ps env).length=env.length:=by
 have:∀(env:PV.Env) (m:Nat),(pinFrom S ps m env).length=env.length:=by
  intro env;induction env with
  |nil=>intro m;rfl
  |cons r es ih=>intro m;rw[pinFrom,S4,ih,S4]
 exact this env 0
def xE:D->Bool
 | .tup _=>true
 | .lst _=>true
 |_=>false
structure LendOk(i:Nat)(J:List Nat)(g:FS)(env e':PV.Env):Prop where
 ds:∃ds,env[i]?=some (some (.l .f,.lst ds))/\e'[i]?=some (some (.l .f,.lst ds))
 js:∀j∈J,j≠i/\∃o d,xE d=true/\(o=.f\/∃q,o=.pin q .f)/\env[j]?=some (some (o,d))/\e'[j]?=some (some (o,d))
 cl:∀k r,e'[k]?=some (some r)->k=i\/k∈J\/cleanR r.1 r.2=true
 run:∀ps:Nat->Addr,g (xD (i::J) ps env)=.ok (.nx (xD (i::J) ps e'))
theorem LendOk.uniq{i:Nat}{J:List Nat}{g:FS}{env e1 e2:PV.Env}(a:LendOk i J g env e1)(b:LendOk i J g env e2):e1=e2:=by
 have h:xD (i::J) (fun _=>0) e1=xD (i::J) (fun _=>0) e2:=by
  have:=(a.run fun _=>0).symm.trans (b.run fun _=>0);injection this with h;injection h
 apply U7;intro k;by_cases hk:k∈i::J
 ·rcases SV.mp hk with rfl|hk
  ·obtain⟨d1,q1,q2⟩:=a.ds;obtain⟨d2,q3,q4⟩:=b.ds;rw[q1]at q3;cases q3;rw[q2,q4]
  ·obtain⟨_,o1,d1,_,_,q1,q2⟩:=a.js k hk;obtain⟨_,o2,d2,_,_,q3,q4⟩:=b.js k hk;rw[q1]at q3;cases q3;rw[q2,q4]
 ·have h1:=eV (i::J) (fun _=>0) e1 k;have h2:=eV (i::J) (fun _=>0) e2 k;rw[h,h2]at h1;simp only[hk,Vl,Option.map_id']at h1;simpa using h1.symm
open Classical in
def vh(i:Nat)(J:List Nat)(g:FS):FS:=fun env=>if h:∃e',LendOk i J g env e' then .ok (.nx (Classical.choose h)) else .bad
theorem Aj{i:Nat}{J:List Nat}{g:FS}{env e':PV.Env}(h:LendOk i J g env e'):vh i J g env=.ok (.nx e'):=by
 have h':∃e',LendOk i J g env e':=⟨e',h⟩
 unfold vh;rw[dif_pos h',(U3 h').uniq h]
section
variable{K:W.Frag}{G G' H H':Hp}
theorem RepE.conv:∀{es JG:PV.Env}{vs:L2.St}{fp:List Addr},es.length=JG.length->(∀k:Nat,es[k]?=some none->JG[k]?=some none)->(∀(k:Nat) (r:R),es[k]?=some (some r)->∃r':R,JG[k]?=some (some r')/\∀v a,vs[k]?=some (some v)->RepO K G H r.1 r.2 v a->RepO K G' H' r'.1 r'.2 v a)->RepE K G H es vs fp->RepE K G' H' JG vs fp
 |[],[],_,_,_,_,_,r=>r
 |[],_::_,_,_,h,_,_,_=>by cases h
 |_::_,[],_,_,h,_,_,_=>by cases h
 |none::es,e'::JG,vs,fp,hl,hn,hs,r=>by
  obtain⟨y,ys,e,r⟩:=r;have h0:=hn 0 rfl;simp at h0;subst h0 e;exact⟨y,ys,rfl,RepE.conv (by simpa using hl) (fun k hk=>by simpa using hn (k+1) (by simpa using hk)) (fun k x hk=>by simpa using hs (k+1) x (by simpa using hk)) r⟩
 |some x::es,e'::JG,vs,fp,hl,hn,hs,r=>by
  obtain⟨y,ys,e,v,a,b,e1,e2,r1,r2⟩:=r;obtain⟨x',h0,hx⟩:=hs 0 x rfl;simp at h0;subst h0 e e1;exact⟨_,ys,rfl,v,a,b,rfl,e2,hx v a rfl r1,RepE.conv (by simpa using hl) (fun k hk=>by simpa using hn (k+1) (by simpa using hk)) (fun k z hk=>by simpa using hs (k+1) z (by simpa using hk)) r2⟩
theorem C0{d:D}{v:V}(h:xE d=true)(r:Rep K G d v):∃q,v=.ref q:=by
 cases d with
 |tup ds=>rw[Rep]at r;obtain⟨p,_,e,_⟩:=r;exact⟨p,e⟩
 |lst ds=>rw[Rep]at r;obtain⟨p,_,e,_⟩:=r;exact⟨p,e⟩
 |_=>cases h
end
section
variable{X:Cx}{md:Mode}
theorem Ak{i:Nat}{J:List Nat}{st:Stmt}{g:FS}(h:QS (md:=md) X st g):QS (md:=md) X st (vh i J g):=d6 h fun Dd σ H Hs=>by
 obtain⟨G,env,fp,rel,k⟩:=Hs;unfold vh at k;split at k
 ·rename_i he;have L:=U3 he;generalize Classical.choose he=e' at k L;obtain⟨ds,hi,KL⟩:=L.ds;obtain⟨v,a,b,ev,r0,r2,pm⟩:=rel.rep.take hi;obtain⟨p,xs,e3,hp,e4,rs⟩:=iC.mp r0;subst e3 e4;have Sh:p∈fp:=pm.mem_iff.mpr SI;have Qw:∀z∈b,z∈fp:=fun z hz=>pm.mem_iff.mpr (SM _ hz)
  have gp:=rel.gn p Sh;have nd:=Tf.mp (show(p::b).Nodup from pm.nodup_iff.mp rel.nd);have Si:∀j∈J,∃o d q,xE d=true/\(o=.f\/o=.pin q .f)/\env[j]?=some (some (o,d))/\e'[j]?=some (some (o,d))/\σ[j]?=some (some (.ref q))/\Rep X.K G d (.ref q):=fun j hj=>by
   obtain⟨_,o,d,hd,ho,h1,h2⟩:=L.js j hj;obtain⟨vj,aj,bj,Rr,rj,_,_⟩:=rel.rep.take h1;rcases ho with rfl|⟨q,rfl⟩
   ·have rj:=(dD.mp rj).1;obtain⟨q,rfl⟩:=C0 hd rj;exact⟨.f,d,q,hd,.inl rfl,h1,h2,Rr,rj⟩
   ·rw[RepO]at rj;have r2:=(dD.mp rj.2).1;rw[rj.1]at Rr r2;exact⟨_,d,q,hd,.inr rfl,h1,h2,Rr,r2⟩
  let ps:Nat->Addr:=fun j=>match σ[j]? with|some (some (.ref q))=>q|_=>0
  have Qx:∀j q,σ[j]?=some (some (.ref q))->ps j=q:=fun j q h=>by show(match σ[j]? with|some (some (.ref q))=>q|_=>0)=q;rw[h]
  have g1:Same G (fun z=>if z=p then some (.lst xs) else G z):=fun z u e=>by
   show(if z=p then some (.lst xs) else G z)=some u;rw[SX fun w=>by subst w;rw[gp]at e;cases e];exact e
  have Sj:(fun z=>if z=p then some (HO.lst xs) else G z) p=some (.lst xs):=SU rfl;obtain⟨HB,q1,OQ⟩:=(r2.step g1 (H':=H) fun _ _=>rfl).put (i:=i) (r:=(.pin p .f,.lst ds)) (v:=.ref p) (a:=[]) (by rw[List.getElem?_set_self (List.getElem?_eq_some_iff.mp hi).1]) (by
   rw[RepO];refine⟨rfl,dD.mpr ⟨?_,rfl⟩⟩;rw[Rep];exact⟨p,xs,rfl,SqL.of Sj,rs.mono g1⟩)
  rw[Ui,g9 ev]at q1;rw[Uj]at OQ;have Hi:Rel X.K (fun z=>if z=p then some (.lst xs) else G z) H (xD (i::J) ps env) σ HB:=by
   refine⟨RepE.conv (by rw[Tt,rA]) (fun k hk=>?_) (fun k r hk=>?_) q1,OQ.symm.nodup_iff.mp nd.2,fun z hz=>?_,fun z u e=>?_⟩
   ·rw[eV];by_cases e:k=i
    ·subst e;rw[List.getElem?_set_self (List.getElem?_eq_some_iff.mp hi).1]at hk;cases hk
    ·rw[List.getElem?_set_ne (Ub e)]at hk;rw[hk];split <;> rfl
   ·rw[eV];by_cases e:k=i
    ·subst e;rw[List.getElem?_set_self (List.getElem?_eq_some_iff.mp hi).1]at hk;cases hk;refine⟨(.pin (ps k) .f,.lst ds),by rw[hi];simp,fun v a hv ro=>?_⟩;rw[Qx k p ev];exact ro
    ·rw[List.getElem?_set_ne (Ub e)]at hk;by_cases hj:k∈J
     ·obtain⟨o,d,q,_,ho,h1,_,h3,h4⟩:=Si k hj;rw[h1]at hk;cases hk;refine⟨(.pin (ps k) .f,d),by rw[h1];simp[hj],fun v a hv ro=>?_⟩;rw[Qx k q h3];rw[h3]at hv;cases hv;show RepO X.K _ H (.pin q .f) d _ a;rcases ho with rfl|rfl
      ·rw[RepO];exact⟨rfl,ro⟩
      ·exact ro
     ·exact⟨r,by rw[hk];simp[hj,e],fun v a hv ro=>ro⟩
   ·show(if z=p then some (HO.lst xs) else G z)=none;have hz:=OQ.mem_iff.mp hz;rw[SX (fun w:z=p=>nd.1 (w▸hz))];exact rel.gn z (Qw z hz)
   ·have e:(if z=p then some (HO.lst xs) else G z)=some u:=e;by_cases w:z=p
    ·subst w;rw[SU rfl]at e;cases e;exact hp
    ·rw[SX w]at e;exact rel.gh z u e
  refine⟨_,_,HB,Hi,?_⟩;rw[L.run ps];intro σ' H2 G2 HQ Hn Hh;have k:∀σ' H' G' Hk,Step G H fp G' H' Hk->Rel X.K G' H' e' σ' Hk->Dd.nx σ' H':=k;have NW:G2 p=some (.lst xs):=Hn.gg p _ Sj;have h2p:=Hh.gh p _ NW;have np2:p∉HQ:=fun w=>by
   have:=Hh.gn p w;rw[NW]at this;cases this
  have gG:Same G (fun z=>if z=p then none else G2 z):=fun z u e=>by
   show(if z=p then none else G2 z)=some u;rw[SX fun w=>by subst w;rw[gp]at e;cases e];exact Hn.gg z u (g1 z u e)
  have LO:σ'[i]?=some (some (.ref p)):=by
   obtain⟨v',a',b',Jm,ro,_,_⟩:=Hh.rep.take (i:=i) (r:=(.pin (ps i) .f,.lst ds)) (by rw[eV,KL];simp);rw[RepO]at ro;rw[Jm,ro.1,Qx i p ev]
  obtain⟨v',a',b',Jm,ro,rr,Rt⟩:=Hh.rep.take (i:=i) (r:=(.pin (ps i) .f,.lst ds)) (by rw[eV,KL];simp);have ha':a'=[]:=by
   rw[RepO]at ro;exact(dD.mp ro.2).2
  subst ha';rw[Uj]at Rt;have hlen:(xD (i::J) ps e').length=e'.length:=by rw[rA]
  have Nk:=(List.getElem?_eq_some_iff.mp KL).1;have q3:RepE X.K (fun z=>if z=p then none else G2 z) H2 (e'.set i none) σ' b':=by
   refine RepE.conv (by rw[Tt,Tt,hlen]) (fun k hk=>?_) (fun k r hk=>?_) rr
   ·by_cases e:k=i
    ·subst e;rw[List.getElem?_set_self Nk]
    ·rw[List.getElem?_set_ne (Ub e),eV]at hk;rw[List.getElem?_set_ne (Ub e)];cases hx:e'[k]? with
     |none=>rw[hx]at hk;cases hk
     |some w=>
      cases w with
      |none=>rfl
      |some w=>
       rw[hx]at hk;simp only[VU]at hk;split at hk <;> cases hk
   ·by_cases e:k=i
    ·subst e;rw[List.getElem?_set_self (by rw[hlen];exact Nk)]at hk;cases hk
    ·rw[List.getElem?_set_ne (Ub e),eV]at hk;rw[List.getElem?_set_ne (Ub e)];by_cases hj:k∈J
     ·obtain⟨o,d,q,_,ho,_,h2,h3,h4⟩:=Si k hj;rw[h2]at hk;simp only[SV,hj,or_true,Vm,VU,UN]at hk;subst hk;refine⟨(o,d),h2,fun v a hv ro=>?_⟩;rw[RepO]at ro;rw[ro.1,Qx k q h3];have fin:RepO X.K (fun z=>if z=p then none else G2 z) H2 .f d (.ref q) a:=dD.mpr ⟨h4.mono gG,(dD.mp ro.2).2⟩;rcases ho with rfl|rfl
      ·exact fin
      ·rw[RepO];exact⟨rfl,fin⟩
     ·cases hx:e'[k]? with
      |none=>rw[hx]at hk;cases hk
      |some w=>
       rw[hx]at hk;simp only[SV,e,hj,or_self,Vl,VU,UN]at hk;subst hk;refine⟨r,rfl,fun v a hv ro=>ro.clean (fun z u t ez=>?_) ?_⟩
       ·show(if z=p then none else G2 z)=some u;by_cases w:z=p
        ·subst w;rw[NW]at ez;cases ez;cases t
        ·rw[SX w];exact ez
       ·rcases L.cl k r hx with w|w|w
        ·exact absurd w e
        ·exact absurd w hj
        ·exact w
  obtain⟨fq,q4,Sk⟩:=q3.put (i:=i) (r:=(.l .f,.lst ds)) (v:=.ref p) (a:=[p]) (by rw[List.getElem?_set_self Nk]) (iC.mpr ⟨p,xs,rfl,h2p,rfl,rs.mono gG⟩);rw[Ui,g9 LO,g9 KL]at q4;have JK:∀z∈b',z∈HQ:=fun z hz=>Rt.mem_iff.mpr hz
  have Sl:∀z∈fq,z=p\/z∈HQ:=fun z hz=>by
   rcases SV.mp (show z∈p::b' from Sk.mem_iff.mp hz) with w|w
   ·exact .inl w
   ·exact .inr (JK z w)
  refine k σ' H2 _ fq ⟨gG,fun z u e n=>?_,fun z hz=>?_,fun z u e=>?_,Hn.there⟩ ⟨q4,?_,fun z hz=>?_,fun z u e=>?_⟩
  ·exact Hn.keep z u e fun w=>n (Qw z (OQ.mem_iff.mp w))
  ·rcases Sl z hz with rfl|hz
   ·exact .inl Sh
   ·exact(Hn.fpn z hz).imp_left fun w=>Qw z (OQ.mem_iff.mp w)
  ·have e:(if z=p then none else G2 z)=some u:=e;by_cases w:z=p
   ·rw[SU w]at e;cases e
   ·rw[SX w]at e;rcases Hn.gnew z u e with y|y|y
    ·have y:(if z=p then some (HO.lst xs) else G z)=some u:=y;rw[SX w]at y;exact .inl y
    ·exact .inr (.inl (Qw z (OQ.mem_iff.mp y)))
    ·exact .inr (.inr y)
  ·refine Sk.symm.nodup_iff.mp ?_;show(p::b').Nodup;exact Tf.mpr ⟨fun w=>np2 (JK p w),Rt.nodup_iff.mp Hh.nd⟩
  ·show(if z=p then none else G2 z)=none;by_cases w:z=p
   ·rw[SU w]
   ·rw[SX w];rcases Sl z hz with y|y
    ·exact absurd y w
    ·exact Hh.gn z y
  ·have e:(if z=p then none else G2 z)=some u:=e;by_cases w:z=p
   ·rw[SU w]at e;cases e
   ·rw[SX w]at e;exact Hh.gh z u e
 ·exact k.elim
end
end PV
namespace NX
open PySem PySem.Spec PyProof.Rows L2
theorem C1{P:Program}{w:World}{k:Key}{u:Value}(h:(mixKind P w).is k u=true):RelV (kV k) u:=by
 rw[sj]at h;cases k with
 |inl i=>
  have h:Value.isInt i u=true:=h;cases u with
  |int j t=>
   have e:(j==i)=true:=h;rw[Tu]at e;exact⟨t,by rw[e]⟩
  |_=>cases h
 |inr x=>
  obtain⟨t,e⟩:=Value.isStrOf_shape h;exact⟨t,e⟩
theorem C2{κ:Type}{kvs:List (κ×V)}{vs:List (κ×Value)}(r:KV kvs vs):∀{i:Nat}{k:κ}{v:V},kvs[i]?=some (k,v)->∃u,vs[i]?=some (k,u)/\RelV v u:=by
 induction r with
 |nil=>intro i k v e;simp at e
 | @cons p q ps qs hq _ ih=>
  intro i k v e;cases i with
  |zero=>
   simp at e;subst e;obtain⟨qk,qv⟩:=q;obtain⟨e1,e2⟩:=hq;cases e1;exact⟨qv,rfl,e2⟩
  |succ i=>exact ih (by simpa using e)
theorem rB{X:Cx}{pr:List (Addr×Obj)}{σ:L2.St}{H:Hp}{s:Shared}{a:Addr}{o:Obj}{ep:Nat}{es:Array DictEntry}{kvs:List (Key×V)}(I:Inv X pr σ H s)(hd:o.data=.dict es ep)(ha:H a=some (.frz o (.dK kvs))):
  s.heap.get? a=some o/\∃vs,KV kvs vs/\s.heap.DictAt (mixKind X.prog X.w) a vs ep:=by
 obtain⟨ho,z,nm,vs,r,o',JG,Nv,g1,ex,dat,dA⟩:=(show ObjOk X.prog X.w H s.heap a (.frz o (.dK kvs)) from I.hok a _ ha)
 have e:=g1.symm.trans ho;cases e;have e2:=dat.symm.trans hd;cases e2;exact⟨ho,vs,r,o,es,ho,ex,hd,dA⟩
theorem xF{X:Cx}{pr:List (Addr×Obj)}{σ:L2.St}{H:Hp}{s:Shared}{a:Addr}{o:Obj}{kvs:List (Key×V)}(I:Inv X pr σ H s)(ha:H a=some (.dK kvs))(ho:s.heap.get? a=some o):Inv X pr σ (upd H a (.frz o (.dK kvs))) s:=by
 have ok:=(show ObjOk X.prog X.w H s.heap a (.dK kvs) from I.hok a _ ha)
 have nt:∀c xs,H c=some (.tup xs)->c≠a:=fun c xs e z=>by rw[z,ha]at e;cases e
 have nf:∀c q u,H c=some (.frz q u)->c≠a:=fun c q u e z=>by rw[z,ha]at e;cases e
 have nb:∀c ps,H c=some (.tbl ps)->c≠a:=fun c ps e z=>by rw[z,ha]at e;cases e
 have no:∀c b,H c=some (.own b)->c≠a:=fun c b e z=>by rw[z,ha]at e;cases e
 have S0:Inv X pr σ (upd H a (.frz o (.dK kvs))) {s with heap:=s.heap,gens:=s.gens,drawn:=s.drawn,toks:=s.toks}:=by
  refine I.step (ch:=[]) (fun c hc=>nomatch hc) (fun c q _ _ _ e _=>e) (fun c q _ _ _ e _=>⟨q.slots,e⟩) (fun c q _ e n=>?_) (fun c q _ e=>⟨q,e⟩)
   (fun c l e=>by rw[aE (nt c l e)];exact e) (fun c q u e=>by rw[aE (nf c q u e)];exact e) (fun c ps e=>⟨#[],by rw[aE (nb c ps e),e];simp⟩) (fun m hm=>hm) (fun c ob e=>?_) I.bare
  ·have:c≠a:=fun z=>by rw[z,ha]at n;cases n
   rw[aE this];exact n
  ·by_cases ec:c=a
   ·subst ec;rw[aY]at e;cases e;exact⟨ho,ok.stay (fun _ _ _ q=>q) (fun d q=>by rw[aE (no d _ q)];exact q) fun d l q=>by rw[aE (nt d l q)];exact q⟩
   ·rw[aE ec]at e;exact(I.hok c ob e).stay (fun _ _ _ q=>q) (fun d q=>by rw[aE (no d _ q)];exact q) fun d l q=>by rw[aE (nt d l q)];exact q
 exact S0
end NX
namespace PV
open PySem PySem.Spec PyProof.Rows L2 NX
def FV(f:FX):FI:=fun env=>(f env).bind fun p=>match p.1 with
 |(.d,.dct false ks vs)=>.ok ((ks.zip vs).map fun z=>D.tup [z.1,z.2],p.2)
 |_=>.bad
section
variable{X:Cx}
def FW(i:Nat):FX:=fun env=>match env[i]? with
 |some (some (.t [.f,.l .f],.tup [a,.lst _]))=>.ok ((.f,.non),env.set i (some (.t [.f,.l .f],.tup [a,.lst []])))
 |_=>.bad
def vk:List D->Res R
 |[.dct false ks _]=>.ok (.l .f,.lst ks)
 |ds=>mS ds
theorem vm:∀{xs:List V}{us:List Value},xs.length=us.length->(∀(i:Nat) (a:V) (b:Value),xs[i]?=some a->us[i]?=some b->RelV a b)->Vals xs us
 |[],[],_,_=>.nil
 |x::xs,u::us,hl,h=>.cons (h 0 x u rfl rfl) (vm (by simpa using hl) fun i a b ha hb=>h (i+1) a b (by simpa using ha) (by simpa using hb))
 |[],_::_,hl,_=>by simp at hl
 |_::_,[],hl,_=>by simp at hl
theorem o4(hc:X.calm=true):dm X (.type "list") (fun vs H Q=>∃p kvs,vs=[.ref p]/\Rd H p (.dK kvs)/\∀l,H l=none->Q (.ref l) (upd H l (.lst (kvs.map fun kv=>kV kv.1)))):=by
 intro pr s σ H xs us Q I r h;obtain⟨p,kvs,rfl,hp,q⟩:=h;obtain⟨u,rfl,rx⟩:=gk r;cases rx;obtain⟨z,nm,vs,rr,hD⟩:=sM I.hok hp;obtain⟨ep,Ka⟩:=hD.dictAt;have hl:=rr.length;refine PySem.W.kdl_call (PySem.W.kdl_dict (knd:=mixKind X.prog X.w) (kvs:=vs) (ep:=ep) nm) (I.ok.hd hc) Ka (by rw[<-hl];exact z) fun h' tk PB c' hk hS KI=>?_
 refine⟨.ref s.heap.objs.size,_,I.laid (o:=.lst (kvs.map fun kv=>kV kv.1)) (t':=tk) hk (SS _) ⟨by rw[SJ];exact z,PB.toList,c',?_,by rw[Array.toArray_toList];exact hS⟩,rfl,q _ (I.hok.fresh (SS _))⟩;refine vm (by rw[SJ,hl];exact(KI.1.symm.trans (TZ (xs:=PB)).symm)) fun i a b ha hb=>?_
 rw[Array.getElem?_toList]at hb;obtain⟨k,x,e1,e2⟩:=KI.2 i b hb;rw[List.getElem?_map]at ha;cases JB:kvs[i]? with
 |none=>rw[JB]at ha;cases ha
 |some kv=>
  rw[JB]at ha;obtain⟨k',v'⟩:=kv;obtain⟨u,hu,_⟩:=C2 rr JB;rw[e1]at hu;cases hu;cases ha;exact C1 e2
theorem xG(hc:X.calm=true):dm X (.type "list") (rC X.K vk):=by
 rintro pr s σ H xs us Q I rx ⟨G,fp,es,vs,ds,r,⟨rel,k⟩,vd,e⟩;unfold vk at e;split at e
 ·rename_i ks ws;cases e;obtain⟨v,ev,vt⟩:=nR vd;have rp:=vt.rep rel.gh;rw[Rep]at rp;obtain⟨p,ys,o,ep,rd,dd,rs⟩:=rp;obtain⟨kvs,eo,ek,ex,hf⟩:=(show ∃kvs:List (Key×V),o=.dK kvs/\ks=kvs.map (fun kv=>kD kv.1)/\ys=kvs.map (·.2)/\∀kv∈kvs,pQ kv.1 from dd)
  subst ev ep eo;refine o4 hc pr s σ H _ us Q I rx ⟨p,kvs,rfl,rd,fun q hq=>?_⟩;have rk:Reps X.K G ks (kvs.map fun kv=>kV kv.1):=by
   rw[ek];refine Reps.ofAll (by rw[SJ,SJ]) fun i d v hd hv=>?_
   rw[List.getElem?_map]at hd hv;cases JB:kvs[i]? with
   |none=>rw[JB]at hd;cases hd
   |some kv=>
    rw[JB]at hd hv;cases hd;cases hv;exact uV (hf _ (Ta JB))
  obtain⟨Hh,Hn⟩:=rel.newL hq rk;exact k _ _ G _ Hn Hh
 ·exact mT pr s σ H xs us Q I rx ⟨G,fp,es,vs,ds,r,⟨rel,k⟩,vd,e⟩
end
end PV
namespace NX
open PySem PySem.Spec PyProof.Rows L2
section
variable{prog:Program}{w:World}{A:Around}{E:Value->Shared->Prop}{s:Shared}
end
section
variable{prog:Program}{w:World}{A:Around}{E:Value->Shared->Prop}{s:Shared}
end
section
variable{X:Cx}{e:Expr}{ta:TA}{p p2 pos pos2:Pos}
end
end NX
namespace PV
open PySem PySem.Spec PyProof.Rows L2 NX
section
variable{X:Cx}{e:Expr}{fs:FOs}{p p2 pos pos2:Pos}
end
end PV
namespace NX
open PySem PySem.Spec PyProof.Rows L2
section
open PySem.AutoSeq1 (wpAny_loadPart')
end
end NX
namespace PV
open PySem PySem.Spec PyProof.Rows L2 NX
section
variable{X:Cx}
end
section
variable{md:Mode}{X:Cx}{scope:Scope}{N:List Str}{tg iter elt:Expr}{ifs:List Expr}{pos:Pos}{fi:FI}{a:FG}{c:FT}{f:FX}{j k0:Nat}
end
section
variable{X:Cx}{x:Str}{p pos:Pos}{e:Expr}{es:List Expr}{f0:FX}{fs:FOs}
end
def joinL(sep:List Nat):List (List Nat)->List Nat
 |[]=>[]
 |[x]=>x
 |x::y::r=>x++sep++joinL sep (y::r)
def vn(sep:List Nat):List D->Res R
 |[.lst ds]=>match f7 ds with
  |some ys=>if(ys.map List.length).sum+ys.length*sep.length<=16777216 then .ok (.f,.str (joinL sep ys)) else .bad
  |none=>.bad
 |_=>.bad
theorem vo(sep:List Nat):∀ys:List (List Nat),Str.join (S sep) (ys.map S)=S (joinL sep ys)
 |[]=>rfl
 |[x]=>rfl
 |x::y::r=>by
  have ih:=vo sep (y::r);show S x++S sep++Str.join (S sep) ((y::r).map S)=S (x++sep++joinL sep (y::r));rw[ih];apply Str.ext';simp[Str.cps_append]
theorem C3(sep:List Nat):∀ys:List (List Nat),Txt.join (S sep) (ys.map S)=S (joinL sep ys)
 |ys=>by
  show Builtin.Str.glued (S sep) (ys.map S)=_;rw[StrLaws.glued_eq_join];exact vo sep ys
theorem o5(sep:List Nat):∀ys:List (List Nat),(joinL sep ys).length<=(ys.map List.length).sum+ys.length*sep.length
 |[]=>Tw _
 |[x]=>by
  show x.length<=_;rw[S5,Xi];lia
 |x::y::r=>by
  have ih:=o5 sep (y::r);show(x++sep++joinL sep (y::r)).length<=_;rw[To,To,S5,Xi,S4,Nat.add_mul];lia
theorem o6{K:W.Frag}{G:Hp}:∀{ds:List D}{ys:List (List Nat)}{xs:List V}{us:List Value},f7 ds=some ys->Reps K G ds xs->Vals xs us->StrsAre us (ys.map S)
 |[],ys,xs,us,e,r,v=>by
  cases e;rw[Reps]at r;subst r;cases v;exact .nil
 | .str b::ds,ys,xs,us,e,r,v=>by
  rw[Reps]at r;obtain⟨y,zs,ex,r1,r2⟩:=r;subst ex;cases v with
  |cons h t=>
   rw[f7,Ts]at e;obtain⟨ws,hw,rfl⟩:=e;rw[Rep]at r1;obtain⟨r1,_⟩:=r1;subst r1;obtain⟨tk,rfl⟩:=h;exact .cons _ tk (o6 hw r2 t)
 | .non::_,_,_,_,e,_,_ | .bl _::_,_,_,_,e,_,_ | .int _::_,_,_,_,e,_,_ | .tup _::_,_,_,_,e,_,_ | .lst _::_,_,_,_,e,_,_ | .dct _ _ _::_,_,_,_,e,_,_=>by cases e
section
variable{X:Cx}
theorem Al:Nd X "str.join" (rMtS X.K vn):=by
 rintro pr s σ H x xs v us Q I rx rv ⟨G,fp,es,vs,l,ds,r,⟨rel,k⟩,ex,hz,vd,e⟩;unfold vn at e;split at e
 ·rename_i ds;split at e
  ·rename_i ys Q2;split at e
   ·rename_i hb;cases e;subst ex;obtain⟨w',ew,p,zs,ep,sq,rs⟩:=nR vd;subst ew ep;obtain⟨t,rfl⟩:=rx;obtain⟨u,rfl,ru⟩:=gk rv;cases ru;obtain⟨Hj,r',pl,Mg⟩:=I.list sq;refine join_list pl.isList (ys:=ys.map S) (o6 Q2 rs r') ?_ fun t' kk=>?_
    ·rw[S9,SJ];have e1:((fun x:Str=>x.length)∘S)=List.length:=by funext z;exact lK z
     rw[e1,lK];exact hb
    ·rw[C3];refine⟨.str (S (joinL l ys)),H,I.tok _,⟨_,rfl⟩,k _ H G fp .refl (rel.push ?_)⟩;rw[Rep];have:=o5 l ys;exact⟨rfl,by rw[line_eq];lia⟩
   ·cases e
  ·cases e
 ·cases e
end
end PV
namespace NX
open PySem PySem.Spec PyProof.Rows L2
section
variable{prog:Program}{w:World}{A:Around}{R:Result->Shared->Prop}{it:Addr}{fp wr:List Addr}{n:Nat}{Pv:Nat->Value->Prop}{Sx:Nat->Heap->Prop}{kw:List (Str×Value)}
end
section
variable{X:Cx}{e k:Expr}{te tk:TE}{p pos Lf:Pos}
end
end NX
namespace PV
open PySem PySem.Spec PyProof.Rows L2 NX
section
variable{X:Cx}
end
section
variable{X:Cx}
noncomputable def C4(g:List D->List D->Res R)(fa:FO)(fs:FOs):FX:=fun env=>(fa env).bind fun p=>(IK p.2 p.1).bind fun a=>match a with
 | .lst _=>(fs p.2).bind fun q=>(IK q.2 p.1).bind fun a2=>match a2 with
  | .lst l=>(oI q.2 q.1).bind fun ds=>(g l ds).bind fun r=>.ok (r,q.2)
  |_=>.bad
 |_=>.bad
inductive rMtL(K:W.Frag)(g:List D->List D->Res R)(x:V)(xs:List V)(H:Hp)(Q:VK):Prop
 |mk:∀G fp es vs l ds r,Goes K H G fp es vs r Q->Vw K G H (.lst l) x->Ni K G H ds xs->g l ds=.ok r->rMtL K g x xs H Q
theorem vp{g:List D->List D->Res R}{id:String}{name:Str}{o e:Expr}{es:List Expr}{fa:FO}{fs:FOs}{apos HE:Pos}(slot:Slot "list" name id)(LG:typeOf (.builtin id)=pure (.type "method_descriptor"))(hm:Nd X id (rMtL X.K g))(ho:QO X o fa)(ha:K9 X (e::es) fs)
  (IL:attributeBase o name X.env (eval o X.env)=eval o X.env:=by rfl)
  (JJ:((backTo HE (starEach (e::es) X.env)).all (fun x=>!x.1)&&(backToKw HE (keywordEach [] X.env)).all (fun x=>x.1.isSome)&&decide ((e::es).length+([]:List Keyword).length+(if([]:List Keyword).isEmpty then 0 else 1)<30))=true:=by rfl)
  (IM:(apos.endLine==HE.line)=true:=by rfl) (hs:starEach (e::es) X.env=(false,eval e X.env)::starEach es X.env:=by rfl) (Ie:(backTo HE (starEach es X.env)).any (·.1)=false:=by rfl):
  QE X (.Call (.Attribute o name apos) (e::es) [] HE) (C4 g fa fs):=by
 refine bS (zj Wj slot LG hm ho ha IL JJ IM hs Ie) fun σ H Q HD=>?_
 obtain⟨G,env,fp,r,env',rel,e,k⟩:=HD;obtain⟨⟨oa,Hg⟩,e1,e⟩:=au e;obtain⟨da,Mv,e⟩:=au e;dsimp only at e;split at e
 ·obtain⟨⟨os,Hm⟩,e2,e⟩:=au e;obtain⟨d2,hd2,e⟩:=au e;dsimp only at e;split at e
  ·obtain⟨ds,e3,e⟩:=au e;obtain⟨r',e4,e⟩:=au e;cases e;refine⟨G,env,fp,oa,Hg,rel,e1,fun v H1 G1 HB Hv Hi IQ=>?_⟩;obtain⟨p,xs,ev,sq,_⟩:=Hi.vw IQ Mv;subst ev;exact⟨.inl ⟨rfl,xs,sq⟩,G1,Hg,HB,os,_,Hi,e2,fun vs H2 G2 HQ Hn Hh Ll=>⟨G2,HQ,_,σ,_,ds,r,⟨Hh,fun v H' G' Hk st HN=>k v H' G' Hk (Hv.trans (Hn.trans st)) HN⟩,Hh.vw (IQ.mono Hn.gg) hd2,Hh.vws Ll e3,e4⟩⟩
  ·cases e
 ·cases e
open PySem.SeqAt in
theorem Am{pr:List (Addr×Obj)}{σ:L2.St}{H:Hp}{s:Shared}(I:Inv X pr σ H s){a:D}{x:V}{v:Value}{A:Around}(h:plainD 40 a=true)(hu:A.units+64<cLine)(r:Rep X.K H a x)(rx:RelV x v):
  ∀(ds:List D) (xs:List V) (us:List Value),plainDs 40 ds=true->Reps X.K H ds xs->Vals xs us->∃e:Value->Bool,(∀(j:Nat) (d:D) (u:Value),ds[j]?=some d->us[j]?=some u->e u=Hl d a)/\∀u∈us,EqAt A s u v (e u):=by
 classical
 intro ds xs us hp rs vl;have key:∀(j:Nat) (d:D) (u:Value),ds[j]?=some d->us[j]?=some u->decide (∃(j:Nat) (d:D),ds[j]?=some d/\us[j]?=some u/\Hl d a=true)=Hl d a:=by
  intro j d u hd hj;obtain⟨w1,KO,KP⟩:=rs.get hd;obtain⟨u1,JM,KQ⟩:=vl.get KO;rw[hj]at JM;cases JM;rw[Th,S3];constructor
  ·rintro⟨j2,d2,k1,k2,k3⟩;obtain⟨w2,LR,LS⟩:=rs.get k1;obtain⟨u2,Kq,LU⟩:=vl.get LR;rw[k2]at Kq;cases Kq;have:=KQ.inj LU;subst this;rw[kO I _ _ _ 40 (plainDs_mem hp hd) KP LS];exact k3
  ·intro k3;exact⟨j,_,hd,hj,k3⟩
 refine⟨fun u=>decide (∃(j:Nat) (d:D),ds[j]?=some d/\us[j]?=some u/\Hl d a=true),key,fun u Rn=>?_⟩;obtain⟨j,hj⟩:=Uh.mp Rn;have l1:=vl.length;have l2:=rs.length;have R7:=(List.getElem?_eq_some_iff.mp hj).1;have g1:ds[j]?=some (ds[j]'(by lia)):=List.getElem?_eq_getElem _;obtain⟨w1,KO,KP⟩:=rs.get g1;obtain⟨u1,JM,KQ⟩:=vl.get KO;rw[hj]at JM;cases JM;have z:=z5 I _ _ w1 x u v A 40 (plainDs_mem hp g1) h (by lia) KP r KQ rx;show EqAt A s u v (decide (∃(j:Nat) (d:D),ds[j]?=some d/\us[j]?=some u/\Hl d a=true));rw[key j _ u g1 hj];exact z
def ng(l:List D):List D->Res R
 |[a]=>if plainD 40 a&&plainDs 40 l&&l.any (fun d=>Hl d a) then .ok (.f,.int (l.findIdx (fun d=>Hl d a):Nat)) else .bad
 |_=>.bad
theorem iJ(hu:X.A.units+65<cLine):Nd X "list.index" (rMtL X.K ng):=by
 rintro pr s σ H x xs v us Q I rx rv ⟨G,fp,es,vs,l,ds,r,⟨rel,k⟩,vx,vd,e⟩;unfold ng at e;split at e
 ·rename_i a;split at e
  ·rename_i hp;rw[SY,SY]at hp;cases e;obtain⟨p,ys,ev,sq,rs⟩:=vx;subst ev;cases rx;obtain⟨w',ew,va⟩:=nR vd;subst ew;obtain⟨u,rfl,ru⟩:=gk rv;obtain⟨Hj,vl,pl,hz⟩:=I.list sq;obtain⟨⟨cls,dd,data,sl⟩,ho,hc,n,hd⟩:=id pl.isList;simp only at hc hd;subst hc hd;obtain⟨ef,Mi,he2⟩:=Am (A:=X.A.in1) I hp.1.1 (by first|lia|(simp only[Around.in1_units];lia)) (va.rep rel.gh) ru l ys Hj hp.1.2 (Reps.mono rel.gh rs) vl;have HW:l.findIdx (fun d=>Hl d a)<l.length:=List.findIdx_lt_length.mpr (by rw[<-Ua];exact hp.2);have l1:=vl.length;have l2:=rs.length;have hlt2:l.findIdx (fun d=>Hl d a)<Hj.toArray.size:=by rw[SQ];lia
   have hb:(l.findIdx (fun d=>Hl d a):Int)<2 ^ 63-1:=by
    rw[TV]at hz;lia
   refine PySem.call_meets UT ⟨_,ho,rfl⟩ PySem.F.entry_list_index (PySem.F.args_list_index_2 _ _) (PySem.SeqAt.list_indexAt p Hj.toArray n _ _ u ef (l.findIdx fun d=>Hl d a) hlt2 hb ?_ ?_) ⟨ho,fun y hy=>?_,⟨.int (l.findIdx (fun d=>Hl d a):Nat),H,I.tok _,⟨_,rfl⟩,k _ H G fp .refl (rel.push (bI _))⟩⟩
   ·rw[Mi _ _ _ (List.getElem?_eq_getElem HW) (by rw[WX];exact List.getElem?_eq_getElem _)];exact WY (w:=HW)
   ·intro m hm hlt3;rw[Mi m (l[m]'(by lia)) _ (List.getElem?_eq_getElem _) (by rw[WX];exact List.getElem?_eq_getElem _)];exact List.not_of_lt_findIdx hlt3
   ·exact he2 y (by simpa using hy)
  ·cases e
 ·cases e
end
section
variable{K:W.Frag}{G G' H H':Hp}{es:PV.Env}{vs:L2.St}{fp:List Addr}
theorem Rel.lendM2(q:Rel K G H es vs fp)(a:List Addr)(ha:∀z∈a,z∉fp)(hga:∀z∈a,G z=none):∃G1,Same G G1/\Same G1 H/\(∀z∈a,G1 z=none)/\(∀(i:Nat) (r:R) (v:V),es[i]?=some (some r)->vs[i]?=some (some v)->Rep K G1 r.2 v)/\
  ∀(H2 G2:Hp) (HQ:List Addr) (rs:PV.Env) (ws:L2.St),Step G1 H a G2 H2 HQ->Rel K G2 H2 rs ws HQ->((∀r,some r∈rs->cleanR r.1 r.2=true)->∃G3 IJ,Step G H (a++fp) G3 H2 IJ/\Rel K G3 H2 (rs++es) (ws++vs) IJ)/\∃G3 IJ,Step G H (a++fp) G3 H2 IJ/\Rel K G3 H2 (rs++es.map PV.frz) (ws++vs) IJ:=by
 have hg:Same G (fun p=>if p∈fp then H p else G p):=fun p u e=>by
  show(if p∈fp then H p else G p)=some u;by_cases hp:p∈fp
  ·rw[SU hp];exact q.gh p u e
  ·rw[SX hp];exact e
 have hh:Same (fun p=>if p∈fp then H p else G p) H:=fun p u e=>by
  have e:(if p∈fp then H p else G p)=some u:=e;by_cases hp:p∈fp
  ·rw[SU hp]at e;exact e
  ·rw[SX hp]at e;exact q.gh p u e
 have hk:∀p∈fp,∀u,H p=some u->(fun p=>if p∈fp then H p else G p) p=some u:=fun p hp u e=>by
  show(if p∈fp then H p else G p)=some u;rw[SU hp];exact e
 refine⟨fun p=>if p∈fp then H p else G p,hg,hh,fun z hz=>?_,fun i r v e ev=>q.rep.rep hg hk e ev,fun H2 G2 HQ rs ws st k=>⟨fun cl=>?_,?_⟩⟩
 ·show(if z∈fp then H z else G z)=none;rw[SX (ha z hz)];exact hga z hz
 ·have kept:∀p∈fp,H2 p=H p:=fun p hp=>by
   obtain⟨u,hu⟩:=q.rep.live p hp;rw[hu];exact st.keep p u hu fun z=>ha p z hp
  have apart:∀p∈HQ,p∉fp:=fun p hp hf=>by
   rcases st.fpn p hp with z|z
   ·exact ha p z hf
   ·obtain⟨u,hu⟩:=q.rep.live p hf;rw[z]at hu;cases hu
  have g3:Same G (fun p=>if p∈fp then none else G2 p):=fun p u e=>by
   show(if p∈fp then none else G2 p)=some u;rw[SX (fun z=>by rw[q.gn p z]at e;cases e)];exact st.gg p u (hg p u e)
  refine⟨fun p=>if p∈fp then none else G2 p,HQ++fp,⟨g3,fun p u e n=>?_,fun p hp=>?_,fun p u e=>?_,st.there⟩,⟨RepE.append (RepE.clean (fun p u t e=>?_) cl k.rep) (q.rep.step g3 kept),?_,fun p hp=>?_,fun p u e=>?_⟩⟩
  ·exact st.keep p u e fun z=>n (SR _ z)
  ·rcases Tj.mp hp with hp|hp
   ·exact(st.fpn p hp).imp_left (SR _)
   ·exact .inl (SK _ hp)
  ·have e:(if p∈fp then none else G2 p)=some u:=e;by_cases hp:p∈fp
   ·rw[SU hp]at e;cases e
   ·rw[SX hp]at e;rcases st.gnew p u e with z|z|z
    ·have z:(if p∈fp then H p else G p)=some u:=z;rw[SX hp]at z;exact .inl z
    ·exact .inr (.inl (SR _ z))
    ·exact .inr (.inr z)
  ·show(if p∈fp then none else G2 p)=some u;by_cases hp:p∈fp
   ·exfalso;obtain⟨u',hu,hm⟩:=q.rep.mut p hp;have:=st.gg p u' (hk p hp u' hu);rw[e]at this;cases this;cases u with
    |lst _=>cases t
    |dK _=>cases t
    |dT _=>cases t
    |_=>cases hm
   ·rw[SX hp];exact e
  ·rw[Ti];exact⟨k.nd,q.nd,fun p hp z hz e=>apart p hp (e▸hz)⟩
  ·show(if p∈fp then none else G2 p)=none;by_cases hf:p∈fp
   ·rw[SU hf]
   ·rw[SX hf];rcases Tj.mp hp with hp|hp
    ·exact k.gn p hp
    ·exact absurd hp hf
  ·have e:(if p∈fp then none else G2 p)=some u:=e;by_cases hp:p∈fp
   ·rw[SU hp]at e;cases e
   ·rw[SX hp]at e;exact k.gh p u e
 ·have Sm:=hg.trans st.gg;have rf:RepE K G2 H2 (es.map PV.frz) vs []:=q.rep.frz Sm fun p hp u e=>st.gg p u (hk p hp u e)
  have ra:=RepE.append k.rep rf;rw[Te]at ra;refine⟨G2,HQ,⟨Sm,fun p u e n=>st.keep p u e fun z=>n (SR _ z),fun p hp=>(st.fpn p hp).imp_left (SR _),fun p u e=>?_,st.there⟩,⟨ra,k.nd,k.gn,k.gh⟩⟩;rcases st.gnew p u e with z|z|z
  ·have z:(if p∈fp then H p else G p)=some u:=z;by_cases hp:p∈fp
   ·exact .inr (.inl (SK _ hp))
   ·rw[SX hp]at z;exact .inl z
  ·exact .inr (.inl (SR _ z))
  ·exact .inr (.inr z)
end
noncomputable def eFunW(c:O)(F:Addr->List D->Res R)(i:Nat)(fs:FOs):FX:=fun env=>(fs env).bind fun p=>match p.1 with
 | .var j::os=>if j=i then(match p.2[i]? with
  |some (some (ow,d0))=>if oZ c ow then(iY (p.2.set i none) os).bind fun ds=>(jJ F c d0 ds).bind fun x=>if cleanR x.1.1 x.1.2&&cleanR c x.2 then .ok (x.1,(p.2.set i none).set i (some (ow,x.2))) else .ok (x.1,((p.2.set i none).map frz).set i (some (ow,x.2))) else .bad
  |_=>.bad) else .bad
 |_=>.bad
section
variable{X:Cx}{x:Str}{p pos:Pos}{e:Expr}{es:List Expr}{f0:FX}{fs:FOs}
theorem An{F:Addr->List D->Res R}{c:O}{i k:Nat}(C:Ct X.prog X.w X.K X.mg X.base x k (spM X.K c F))(hr:Room k X.A)(hg:Gl X x)(ha:K9 X (e::es) fs)(JA:(x==("__debug__" : Str))=false:=by decide)
  (he:starEach (e::es) X.env=(false,eval e X.env)::starEach es X.env:=by rfl) (IZ:(backTo pos (starEach es X.env)).any (·.1)=false:=by rfl):QE X (.Call (.Name x p) (e::es) [] pos) (eFunW c F i fs):=
 bS (zo C hr hg ha JA he IZ) fun σ H Q Hs=>by
  obtain⟨G,env,fp,r,env',rel,e,k⟩:=Hs;obtain⟨⟨os,e1⟩,ha,e⟩:=au e;dsimp only at e;split at e
  ·rename_i j RX;split at e
   ·rename_i hj;subst hj;split at e
    ·rename_i ow d0 hi;split at e
     ·rename_i how;obtain⟨ds,hd,e⟩:=au e;obtain⟨z,hz,e⟩:=au e;refine⟨G,env,fp,_,e1,rel,ha,fun vs H1 G1 HB Hv Hi IQ=>?_⟩;show spM X.K c F (vs++[]) H1 Q _;rw[Te];obtain⟨y,ys,ey,k1,k2⟩:=IQ;obtain⟨v0,a,b,ev,r0,r2,pm⟩:=Hi.rep.take hi;have k1:σ[j]?=some (some y):=k1;rw[k1]at ev;cases ev;obtain⟨⟨q,hq⟩,rc,back⟩:=yH how r0;subst hq;have nd:=Ti.mp (pm.nodup_iff.mp Hi.nd);have NY:Rel X.K G1 H1 (e1.set j none) σ b:=⟨r2,nd.2.1,fun w hw=>Hi.gn w (pm.mem_iff.mpr (SK _ hw)),Hi.gh⟩
      obtain⟨G2,Mw,NP,Ru,JC,JL⟩:=NY.lendM2 a (fun w hw hb=>nd.2.2 w hw w hb rfl) (fun w hw=>Hi.gn w (pm.mem_iff.mpr (SR _ hw)));refine⟨G2,q,ys,d0,ds,_,a,NP,ey,rc.step Mw (fun _ _=>rfl),nd.1,Ru,iZ Mw JC k2 hd,rq hz q,fun v H' G' Hk st rt=>?_⟩;obtain⟨o',d',p',c',Rq,er,rl⟩:=rt;cases er;have fin:∀(ee:PV.Env),ee.length=e1.length->(∃G3 IJ,Step G1 H1 (a++b) G3 H' IJ/\Rel X.K G3 H' (some z.1::some (.pin q c,z.2)::ee) (some v::some (.ref q)::σ) IJ)->(z.1,ee.set j (some (ow,z.2)))=(r,env')->Q v H':=by
       rintro ee PD ⟨G3,IJ,HM,HJ⟩ Rv;cases Rv;obtain⟨a1,b1,ef,ro,H0,comb⟩:=Rel.frame HJ;have NZ:Rel X.K G3 H' (some (ow,z.2)::ee) (some (.ref q)::σ) b1:=by
        obtain⟨y2,ys2,N1,v2,a2,b2,Rw,Rx,PF,Ry⟩:=H0.rep;cases N1;cases Rw;rw[RepO]at PF;exact⟨⟨_,_,rfl,_,a2,b2,rfl,Rx,back _ _ _ _ PF.2,Ry⟩,H0.nd,H0.gn,H0.gh⟩
       obtain⟨fq,N3,Rz⟩:=NZ.back (i:=j) (by rw[PD];exact(List.getElem?_eq_some_iff.mp hi).1) k1;obtain⟨N4,PH⟩:=comb G3 H' _ _ fq Rz N3;rw[<-ef]at PH;exact k v H' G3 _ (Hv.trans ((HM.perm (fun w=>pm.mem_iff.symm) (fun w hw=>hw)).trans PH)) N4
      obtain⟨b1,b2⟩:=JL H' G' Hk _ _ st rl;split at e
      ·rename_i JT;rw[SY]at JT;have e:=Res.ok.inj e;refine fin (e1.set j none) (by rw[Tt]) (b1 fun w hw=>?_) e;rcases SV.mp hw with hw|hw
       ·cases hw;exact JT.1
       ·rw[S7]at hw;cases hw;simp only[cleanR];exact JT.2
      ·have e:=Res.ok.inj e;exact fin ((e1.set j none).map frz) (by rw[SJ,Tt]) b2 e
     ·cases e
    ·cases e
   ·cases e
  ·cases e
end
def SlR3(X:Cx)(r:V->Option Int->Option Int->Option Int->Hp->VK->Prop):Prop:=
 ∀(pr:List (Addr×Obj)) (s:Shared) (σ:L2.St) (H:Hp) (x:V) (v vl vu vt:Value) (lo hi st:Option Int) (sl:Addr) (Q:VK),Inv X pr σ H s->RelV x v->s.heap.IsSliceOf sl vl vu vt->IsPart vl lo->IsPart vu hi->IsPart vt st->r x lo hi st H Q->
  ∃T id,typeLookup (.type T) "__getitem__" = pure (some (.builtin id))/\s.TypeIs v T/\wpAny (model X.prog X.w) X.A (getItem v (.ref sl)) (EP X pr σ Q) X.xe s
def GO(r:V->Option Int->Option Int->Option Int->Hp->VK->Prop)(te:TE)(tl th ts:TO):TE:=fun σ H Q=>te σ H fun x H1=>tl σ H1 fun l H2=>th σ H2 fun u H3=>ts σ H3 fun t H4=>r x l u t H4 Q
theorem vq{X:Cx}{e:Expr}{te:TE}{lo hi:Option Expr}{se:Expr}{tl th ts:TO}{pos p2:Pos}{r:V->Option Int->Option Int->Option Int->Hp->VK->Prop}(hr:SlR3 X r)(he:PE X e te)(hl:PO X lo tl)(hu:PO X hi th)(hs:PO X (some se) ts):PE X (.Subscript e (.Slice lo hi (some se) p2) pos) (GO r te tl th ts):=by
 intro pr s σ H Q I h;refine Subscript_ (HA (he pr s σ H _ I h) fun v s1 HD=>?_);obtain⟨x,H1,I1,r1,q1⟩:=HD;refine wpAny_Slice (HA (hl pr s1 σ H1 _ I1 q1) fun vl s2 ⟨l,H2,I2,pl,q2⟩=>HA (hu pr s2 σ H2 _ I2 q2) fun vu s3 ⟨u,H3,I3,pu,q3⟩=>HA (hs pr s3 σ H3 _ I3 q3) fun vt s4 HD=>?_);obtain⟨t,H4,I4,pt,q4⟩:=HD;have I5:Inv X pr σ H4 {s4 with heap:=s4.heap.push {cls:=.type "slice",data:=.fields #[vl,vu,vt]}}:=I4.kept (t':=s4.toks) fun b ob q=>Heap.get?_push_of_some _ q
 obtain⟨T,id,hT,ht,hg⟩:=hr pr {s4 with heap:=s4.heap.push {cls:=.type "slice",data:=.fields #[vl,vu,vt]}} σ H4 x v vl vu vt l u t s4.heap.objs.size Q I5 r1 (Heap.IsSliceOf.new ..) pl pu pt q4;show wpAny (model X.prog X.w) X.A (subscriptTail e (.Slice lo hi (some se) p2) v (.ref s4.heap.objs.size)) (EP X pr σ Q) X.xe {s4 with heap:=s4.heap.push {cls:=.type "slice",data:=.fields #[vl,vu,vt]}};exact tail_any (ops:=[v,.ref s4.heap.objs.size]) ht hT hg (by with_unfolding_all rfl)
def gy{α:Type}(xs:List α)(lo hi:Option Int)(c:Int):List α:=
 (sliceRange (sliceBounds lo hi (some c) xs.length).1 (sliceBounds lo hi (some c) xs.length).2.1 (sliceBounds lo hi (some c) xs.length).2.2).filterMap (fun i=>xs[i]?)
theorem o7{K:W.Frag}{G:Hp}{ds:List D}{xs:List V}(r:Reps K G ds xs):∀ix:List Nat,Reps K G (ix.filterMap fun i=>ds[i]?) (ix.filterMap fun i=>xs[i]?)
 |[]=>.nil
 |i::ix=>by
  have ih:=o7 r ix;cases e:ds[i]? with
  |none=>
   have e2:xs[i]?=none:=by
    rw[List.getElem?_eq_none_iff]at e ⊢;rw[r.length];exact e
   rw[UO e,UO e2];exact ih
  |some d=>
   obtain⟨v,e2,rv⟩:=r.get e;rw[UP e,UP e2];exact .cons rv ih
theorem vals_pick{xs:List V}{us:List Value}(r:Vals xs us):∀ix:List Nat,Vals (ix.filterMap fun i=>xs[i]?) (ix.filterMap fun i=>us[i]?)
 |[]=>.nil
 |i::ix=>by
  have ih:=vals_pick r ix;cases e:xs[i]? with
  |none=>
   rw[UO e,UO (r.none_of e)];exact ih
  |some d=>
   obtain⟨v,e2,rv⟩:=r.get e;rw[UP e,UP e2];exact .cons rv ih
theorem rD(Hj:List Value)(lo hi:Option Int)(c:Int):slicePick Hj.toArray lo hi (some c)=(gy Hj lo hi c).toArray:=by
 unfold slicePick gy;simp only[SQ,List.getElem?_toArray]
theorem Ao(Hj:List Value)(lo hi:Option Int)(c:Int):(gy Hj lo hi c).length<=Hj.length:=by
 have:=slicePick_size_le Hj.toArray lo hi (some c);rw[rD]at this;simpa using this
def C5(k:D)(lo hi st:Option Int):Res R:=match k,st with
 | .lst ds,some c=>if c≠0 then .ok (.l .f,.lst (gy ds lo hi c)) else .bad
 |_,_=>.bad
def Fb(fa:FO)(lo hi st:FP):FX:=fun env=>(fa env).bind fun p=>(lo p.2).bind fun q=>(hi q.2).bind fun t=>(st t.2).bind fun u=>(IK u.2 p.1).bind fun d=>(C5 d q.1 t.1 u.1).bind fun r=>.ok (r,u.2)
section
variable{X:Cx}{pos:Pos}{fa:FO}
inductive rSl3(K:W.Frag)(x:V)(lo:Option Int)(hi:Option Int)(st:Option Int)(H:Hp)(Q:VK):Prop
 |mk:∀G fp es vs d r,Goes K H G fp es vs r Q->Vw K G H d x->C5 d lo hi st=.ok r->rSl3 K x lo hi st H Q
theorem C6:SlR3 X (rSl3 X.K):=by
 rintro pr s σ H x v vl vu vt lo hi st sl Q I rx hs pl pu pt ⟨G,fp,es,vs,d,r,⟨rel,k⟩,vd,e⟩;unfold C5 at e;split at e
 ·rename_i ds c;split at e
  ·rename_i hc;cases e;obtain⟨p,xs,ev,sq,rs⟩:=vd;subst ev;cases rx;obtain⟨Hj,r,ht,hz⟩:=I.list sq;have hlen:=r.length;refine⟨"list",_,slot_list_getitem.lookup,ht.isList.typeIs,?_⟩;refine V8 ht.isList hs pl pu pt (fun h=>hc (Tc h)) ?_ (by rw[SQ];lia);rw[rD];have r2:Vals (gy xs lo hi c) (gy Hj lo hi c):=by
    unfold gy;rw[hlen];exact vals_pick r _
   have rs2:Reps X.K G (gy ds lo hi c) (gy xs lo hi c):=by
    unfold gy;rw[rs.length];exact o7 rs _
   have Mg:(gy xs lo hi c).length<=sizeLine:=by
    rw[r2.length];have:=Ao Hj lo hi c;lia
   have hq:=I.hok.fresh (SS s.heap.objs.size);obtain⟨Hh,Hn⟩:=rel.newL hq rs2;refine⟨.ref s.heap.objs.size,_,I.laid (t':=s.toks) (o:=.lst (gy xs lo hi c)) (fun b ob q=>Heap.get?_push_of_some _ q) (SS _) ?_,rfl,k _ _ G _ Hn Hh⟩;exact⟨Mg,_,0,r2,Heap.get?_push_size _ rfl⟩
  ·cases e
 ·cases e
theorem C7{e:Expr}{lo hi:Option Expr}{se:Expr}{p2:Pos}{fl fh fs:FP}(he:QO X e fa)(hl:QP X lo fl)(hh:QP X hi fh)(hs:QP X (some se) fs):QE X (.Subscript e (.Slice lo hi (some se) p2) pos) (Fb fa fl fh fs):=
 bS (vq C6 he hl hh hs) fun σ H Q Hs=>by
  obtain⟨G,env,fp,r,env',rel,e,k⟩:=Hs;obtain⟨⟨o,Hg⟩,e1,e⟩:=au e;obtain⟨⟨i,Hm⟩,e2,e⟩:=au e;obtain⟨⟨j,HV⟩,e3,e⟩:=au e;obtain⟨⟨t,PJ⟩,e4,e⟩:=au e;obtain⟨d,e5,e⟩:=au e;obtain⟨r',e6,e⟩:=au e;cases e;exact⟨G,env,fp,o,Hg,rel,e1,fun v H1 G1 HB Hv Hi IQ=>⟨G1,Hg,HB,i,Hm,Hi,e2,fun H2 G2 HQ Hn Hh=>⟨G2,Hm,HQ,j,HV,Hh,e3,fun H3 G3 IJ HM HJ=>⟨G3,HV,IJ,t,PJ,HJ,e4,fun H4 G4 NQ Io HY=>
   ⟨G4,NQ,PJ,σ,d,r,⟨HY,fun v H' G' Hk st HN=>k v H' G' Hk (Hv.trans (Hn.trans (HM.trans (Io.trans st)))) HN⟩,HY.vw (((IQ.mono Hn.gg).mono HM.gg).mono Io.gg) e5,e6⟩⟩⟩⟩⟩
end
section
variable{X:Cx}
def Ap(fa fb fc:FX):FX:=fun env=>(fa env).bind fun p=>(fb p.2).bind fun q=>(fc q.2).bind fun t=>.ok ((.t [.f,q.1.1,t.1.1],.tup [p.1.2,q.1.2,t.1.2]),t.2)
theorem Aq{a b c:Expr}{fa fb fc:FX}{x1}{pos:Pos}(ha:QE X a fa)(hb:QE X b fb)(hc:QE X c fc)(h1:starEach [a,b,c] X.env=(false,eval a X.env)::starEach [b,c] X.env:=by rfl)(h2:starEach [b,c] X.env=(false,eval b X.env)::starEach [c] X.env:=by rfl)(h3:starEach [c] X.env=(false,eval c X.env)::starEach [] X.env:=by rfl):
  QE X (.Tuple [a,b,c] x1 pos) (Ap fa fb fc):=
 bS (ym (gq ha (gq hb (gq hc nX h3) h2) h1)) fun σ H Q Hs=>by
  obtain⟨G,env,fp,r,env',rel,e,k⟩:=Hs;obtain⟨⟨r1,Hg⟩,e1,e⟩:=au e;obtain⟨⟨⟨o2,d2⟩,Hm⟩,e2,e⟩:=au e;obtain⟨⟨⟨o3,d3⟩,HV⟩,e3,e⟩:=au e;cases e;refine⟨G,env,fp,r1,Hg,rel,e1,fun v H1 G1 HB Hv Hi=>?_⟩;obtain⟨G2,b,rv,Hh,Hn⟩:=Hi.freeze;refine⟨G2,Hg,b,(o2,d2),Hm,Hh,e2,fun v2 H3 G3 IJ HM HJ=>?_⟩;obtain⟨a3,b3,ef3,ro3,PL,bk3⟩:=HJ.frame;refine⟨G3,Hm,b3,(o3,d3),HV,PL,e3,fun v3 H4 G4 NQ Io HY=>⟨by rw[line_eq];exact(by decide:3<=16777216),fun p hp=>?_⟩⟩;obtain⟨LX,Mz⟩:=bk3 G4 H4 _ _ NQ Io HY;rw[<-ef3]at Mz;obtain⟨Iq,Js⟩:=LX.newF (u:=.tup [v,v2,v3]) hp;refine k _ _ _ _ (Hv.trans (Hn.trans (HM.trans (Mz.trans Js)))) ?_;obtain⟨y,ys,ey,v',a',b',N1,ef,q1,q2⟩:=Iq.rep;cases ey;cases N1;obtain⟨y,ys,ey,v'',PM,b'',N1,ef',q3,q4⟩:=q2;cases ey;cases N1;subst ef';refine⟨⟨some (.ref p),σ,rfl,.ref p,a'++PM,b'',rfl,by rw[ef,Tx],?_,q4⟩,Iq.nd,Iq.gn,Iq.gh⟩;show RepO X.K _ _ (.t [.f,o2,o3]) (.tup [r1.2,d2,d3]) (.ref p) (a'++PM);rw[RepO];refine⟨p,[v,v2,v3],rfl,aY,?_⟩;rw[RepT];refine⟨v,[v2,v3],[],a'++PM,rfl,rfl,dD.mpr ⟨Rep.mono (HM.gg.trans (Mz.gg.trans Js.gg)) rv,rfl⟩,?_⟩;rw[RepT];refine⟨v2,[v3],a',PM,rfl,rfl,q1,?_⟩;rw[RepT];refine⟨v3,[],PM,[],rfl,by rw[Te],q3,?_⟩;rw[RepT];exact⟨rfl,rfl⟩
end
section
variable{X:Cx}{scope:Scope}{N:List Str}{tg iter elt:Expr}{ifs:List Expr}{pos:Pos}{fi:FI}{a:FG}{c:FT}{f:FX}
end
end PV
namespace L2
open PySem PySem.Spec PyProof.Rows NX
section
variable{X:Cx}{tg:Expr}
end
end L2
namespace PV
open PySem PySem.Spec PyProof.Rows L2 NX
section
variable{X:Cx}{tg:Expr}
end
noncomputable def fBodyJ(j np nn:Nat)(c:O)(g:FS)(p:Addr):List D->Res R
 |d0::ds=>if ds.length+1=np/\j<=ds.length then(g ((ds.take j).map (fun d=>some (O.f,d))++some (.pin p c,d0)::((ds.drop j).map (fun d=>some (O.f,d))++List.replicate nn none))).bind fun o=>match o with
  | .rt r=>.ok r
  |_=>.bad
  else .bad
 |[]=>.bad
inductive spJ(j:Nat)(K:W.Frag)(c:O)(F:Addr->List D->Res R)(vs:List V)(H:Hp)(Q:VK)(zz:XK):Prop
 |mk:∀va v vb,vs=va++v::vb->va.length=j->spM K c F (v::(va++vb)) H Q zz->spJ j K c F vs H Q zz
theorem rE{K:W.Frag}{G H:Hp}{es:PV.Env}{us:L2.St}{fp:List Addr}(h:RepE K G H es us fp):∀{ds:List D}{vs:List V},Reps K G ds vs->RepE K G H (ds.map (fun d=>some (O.f,d))++es) (vs.map some++us) fp
 |[],vs,r=>by
  rw[Reps]at r;subst r;exact h
 |d::ds,vs,r=>by
  rw[Reps]at r;obtain⟨y,ys,e,r1,r2⟩:=r;subst e;exact⟨some y,_,rfl,y,[],fp,rfl,rfl,dD.mpr ⟨r1,rfl⟩,rE h r2⟩
theorem l8{K:W.Frag}{G:Hp}:∀{j:Nat}{ds:List D}{va vb:List V},va.length=j->Reps K G ds (va++vb)->Reps K G (ds.take j) va/\Reps K G (ds.drop j) vb
 | 0,ds,[],vb,_,r=>⟨by rw[Vz];exact .nil,r⟩
 |j+1,[],v::va,vb,_,r=>by
  rw[Reps]at r;cases r
 |j+1,d::ds,v::va,vb,hl,r=>by
  rw[Uq,Reps]at r;obtain⟨y,ys,e,r1,r2⟩:=r;cases e;obtain⟨q1,q2⟩:=l8 (Nat.succ.inj hl) r2;exact⟨.cons r1 q1,q2⟩
theorem C8{P:Program}{w:World}{K:W.Frag}{mg:Str->Option Value}{base:Heap}{x:Str}{st:Stmt}{N ps:List Str}{j k:Nat}{c:O}{g:FS}(Df:Def K mg x st)(sc:FnScope N ps (defScope st))
  (hb:∀(kV doc pm:Value) (an:Option Addr) (HG ct:Value) (us:List Value),us.length=ps.length->bindArgs (PySem.W.fnOf x x (e7 st) (cW st) (defScope st) .none kV doc pm an HG ct) ⟨us,[]⟩=pure (ps.zip us))
  (body:∀(f:Addr) (HG:Value) (A:Around) (outer:List PySem.Env) (s:Shared) (H:Hp) (E:XK),Room k (A.deeper (envOfC x (defScope st) s.heap.objs.size f HG))->Lk (md:=.mut) (wH Lh P w K mg base N x (defScope st) f HG A outer s H E).nox (cW st) g):
  Ct P w K mg base x (k+1) (spJ j K c (fBodyJ j ps.length (N.length-ps.length) c g)):=by
 obtain⟨f,fd,F,m⟩:=Df;refine⟨f,fd,ps,F.ok sc (fun vs H Q E h=>?_) (fun HG A outer s H vs Q E hr h=>?_),m,F.kp,F.binds hb⟩
 ·obtain⟨va,v,vb,Qy,Qz,G,p,JU,d0,ds,r,Ln,_,ev,_,_,_,rs,e,_⟩:=h;cases ev;unfold fBodyJ at e;dsimp only at e;split at e
  ·rename_i hl;have:=rs.length;rw[To]at this;rw[Qy,To,S4];lia
  ·cases e
 ·obtain⟨va,v,vb,Qy,Qz,G,p,JU,d0,ds,r,Ln,gh,ev,r0,nd,gn,rs,e,q⟩:=h;cases ev;unfold fBodyJ at e;dsimp only at e;split at e
  ·rename_i hl;have hlen:=rs.length;rw[To]at hlen;obtain⟨ra,rb⟩:=l8 Qz rs;refine⟨_,body f HG A outer s H E hr,G,(ds.take j).map (fun d=>some (O.f,d))++some (.pin p c,d0)::((ds.drop j).map (fun d=>some (O.f,d))++List.replicate (N.length-ps.length) none),Ln,⟨?_,nd,gn,gh⟩,?_⟩
   ·have z:=gu (K:=K) (G:=G) (H:=H) (N.length-ps.length) rb;have z2:RepE K G H (some (.pin p c,d0)::((ds.drop j).map (fun d=>some (O.f,d))++List.replicate (N.length-ps.length) none)) (some (.ref p)::(vb.map some++List.replicate (N.length-ps.length) none)) Ln:=
     ⟨some (.ref p),_,rfl,.ref p,Ln,[],rfl,(Te _).symm,by rw[RepO];exact⟨rfl,r0⟩,z⟩
    have z3:=rE z2 ra;unfold L2.j8;have e1:vs.length=ps.length:=by rw[Qy,To,S4];lia
    rw[e1,Qy,S6,S5,Tx,Uq];exact z3
   ·obtain⟨o,eo,e⟩:=au e;rw[eo];cases o with
    |rt r'=>
     cases e;exact fun v H' G' Hk st rel=>q v H' G' Hk st rel
    |nx env'=>cases e
    |bk env'=>cases e
    |ct env'=>cases e
  ·cases e
noncomputable def vy(j:Nat)(c:O)(F:Addr->List D->Res R)(i:Nat)(fs:FOs):FX:=fun env=>(fs env).bind fun p=>match p.1[j]? with
 |some (.var j')=>if j'=i then(match p.2[i]? with
  |some (some (ow,d0))=>if oZ c ow then(iY (p.2.set i none) (p.1.eraseIdx j)).bind fun ds=>(jJ F c d0 ds).bind fun x=>if cleanR x.1.1 x.1.2&&cleanR c x.2 then .ok (x.1,(p.2.set i none).set i (some (ow,x.2))) else .ok (x.1,((p.2.set i none).map frz).set i (some (ow,x.2))) else .bad
  |_=>.bad) else .bad
 |_=>.bad
theorem l9{K:W.Frag}{G:Hp}{σ:L2.St}:∀{j:Nat}{os:List Opd}{vs:List V}{o:Opd},lW K G σ os vs->os[j]?=some o->∃va y vb,vs=va++y::vb/\va.length=j/\OpdOk K G σ o y/\lW K G σ (os.eraseIdx j) (va++vb)
 | 0,o'::os,_,o,⟨y,ys,e,k1,k2⟩,h=>by
  cases h;exact⟨[],y,ys,e,rfl,k1,k2⟩
 |j+1,o'::os,_,o,⟨y,ys,e,k1,k2⟩,h=>by
  obtain⟨va,z,vb,e2,hl,q1,q2⟩:=l9 (j:=j) k2 (by simpa using h);exact⟨y::va,z,vb,by rw[e,e2];rfl,by rw[S4,hl],q1,y,va++vb,rfl,k1,q2⟩
section
variable{X:Cx}{x:Str}{p pos:Pos}{e:Expr}{es:List Expr}{fs:FOs}
theorem Ar{F:Addr->List D->Res R}{c:O}{i j0 k:Nat}(C:Ct X.prog X.w X.K X.mg X.base x k (spJ j0 X.K c F))(hr:Room k X.A)(hg:Gl X x)(ha:K9 X (e::es) fs)(JA:(x==("__debug__" : Str))=false:=by decide)
  (he:starEach (e::es) X.env=(false,eval e X.env)::starEach es X.env:=by rfl) (IZ:(backTo pos (starEach es X.env)).any (·.1)=false:=by rfl):QE X (.Call (.Name x p) (e::es) [] pos) (vy j0 c F i fs):=
 bS (zo C hr hg ha JA he IZ) fun σ H Q Hs=>by
  obtain⟨G,env,fp,r,env',rel,e,k⟩:=Hs;obtain⟨⟨os,e1⟩,ha,e⟩:=au e;dsimp only at e;split at e
  ·rename_i j Mp;split at e
   ·rename_i hj;subst hj;split at e
    ·rename_i ow d0 hi;split at e
     ·rename_i how;obtain⟨ds,hd,e⟩:=au e;obtain⟨z,hz,e⟩:=au e;refine⟨G,env,fp,_,e1,rel,ha,fun vs H1 G1 HB Hv Hi IQ=>?_⟩;show spJ j0 X.K c F (vs++[]) H1 Q _;rw[Te];obtain⟨va,y,vb,ey,Qz,k1,k2⟩:=l9 IQ Mp;refine⟨va,y,vb,ey,Qz,?_⟩;obtain⟨v0,a,b,ev,r0,r2,pm⟩:=Hi.rep.take hi;have k1:σ[j]?=some (some y):=k1;rw[k1]at ev;cases ev;obtain⟨⟨q,hq⟩,rc,back⟩:=yH how r0;subst hq;have nd:=Ti.mp (pm.nodup_iff.mp Hi.nd);have NY:Rel X.K G1 H1 (e1.set j none) σ b:=⟨r2,nd.2.1,fun w hw=>Hi.gn w (pm.mem_iff.mpr (SK _ hw)),Hi.gh⟩
      obtain⟨G2,Mw,NP,Ru,JC,JL⟩:=NY.lendM2 a (fun w hw hb=>nd.2.2 w hw w hb rfl) (fun w hw=>Hi.gn w (pm.mem_iff.mpr (SR _ hw)));refine⟨G2,q,va++vb,d0,ds,_,a,NP,rfl,rc.step Mw (fun _ _=>rfl),nd.1,Ru,iZ Mw JC k2 hd,rq hz q,fun v H' G' Hk st rt=>?_⟩;obtain⟨o',d',p',c',Rq,er,rl⟩:=rt;cases er;have fin:∀(ee:PV.Env),ee.length=e1.length->(∃G3 IJ,Step G1 H1 (a++b) G3 H' IJ/\Rel X.K G3 H' (some z.1::some (.pin q c,z.2)::ee) (some v::some (.ref q)::σ) IJ)->(z.1,ee.set j (some (ow,z.2)))=(r,env')->Q v H':=by
       rintro ee PD ⟨G3,IJ,HM,HJ⟩ Rv;cases Rv;obtain⟨a1,b1,ef,ro,H0,comb⟩:=Rel.frame HJ;have NZ:Rel X.K G3 H' (some (ow,z.2)::ee) (some (.ref q)::σ) b1:=by
        obtain⟨y2,ys2,N1,v2,a2,b2,Rw,Rx,PF,Ry⟩:=H0.rep;cases N1;cases Rw;rw[RepO]at PF;exact⟨⟨_,_,rfl,_,a2,b2,rfl,Rx,back _ _ _ _ PF.2,Ry⟩,H0.nd,H0.gn,H0.gh⟩
       obtain⟨fq,N3,Rz⟩:=NZ.back (i:=j) (by rw[PD];exact(List.getElem?_eq_some_iff.mp hi).1) k1;obtain⟨N4,PH⟩:=comb G3 H' _ _ fq Rz N3;rw[<-ef]at PH;exact k v H' G3 _ (Hv.trans ((HM.perm (fun w=>pm.mem_iff.symm) (fun w hw=>hw)).trans PH)) N4
      obtain⟨b1,b2⟩:=JL H' G' Hk _ _ st rl;split at e
      ·rename_i JT;rw[SY]at JT;have e:=Res.ok.inj e;refine fin (e1.set j none) (by rw[Tt]) (b1 fun w hw=>?_) e;rcases SV.mp hw with hw|hw
       ·cases hw;exact JT.1
       ·rw[S7]at hw;cases hw;simp only[cleanR];exact JT.2
      ·have e:=Res.ok.inj e;exact fin ((e1.set j none).map frz) (by rw[SJ,Tt]) b2 e
     ·cases e
    ·cases e
   ·cases e
  ·cases e
end
section
variable{X:Cx}{x:Str}{p pos:Pos}{e:Expr}{es:List Expr}{f0:FX}{fs:FOs}
end
end PV
namespace NX
open PySem PySem.Spec PyProof.Rows L2
noncomputable def PN(o:Obj)(n:Nat)(a:Addr):It:=
 ⟨fun i H=>∃kvs k v,H a=some (.frz o (.dK kvs))/\kvs.length=n/\kvs[i]?=some (k,v),
  fun i H x H'=>H'=H/\∀kvs k v,H a=some (.frz o (.dK kvs))->kvs[i]?=some (k,v)->x=kV k,
  fun i H=>∃kvs,H a=some (.frz o (.dK kvs))/\kvs.length=n/\kvs.length<=i⟩
theorem vz{P:Program}{w:World}{K:W.Frag}{tg:Expr}(o:Obj)(es:Array DictEntry)(ep n:Nat)(a it:Addr)(hd:o.data=.dict es ep):
  Turn P w K tg (PN o n a) [it] it (fun i h=>h.IsKeyIter it a i n ep) where
 mem:=by simp
 obj:=fun i h st b hb=>by
  have e:b=it:=by simpa using hb
  subst e;obtain⟨o,e,c,d⟩:=st;exact⟨o,e,fun v z=>by rw[d]at z;cases z⟩
 keep:=fun i h h' st k=>by
  obtain⟨o,e,c,d⟩:=st;exact⟨o,k it (by simp) o e,c,d⟩
 item:=by
  intro X hP hw hK hc i pr s σ H E I hf st hg;subst hP hw hK;obtain⟨kvs,k,v,ha,hn,hx⟩:=hg;obtain⟨ho,vs,r,hm⟩:=rB I hd ha;have hl:vs.length=n:=by rw[<-hn];exact r.length.symm
  subst hl;obtain⟨u,hu,ru⟩:=C2 r hx;obtain⟨f0,f1,f2,f3,f4,f5⟩:=hf it (by simp);refine wpAny_pyNext_dict_item st hm hu fun key h' Ji Jr sb=>?_
  have I1:Inv X pr σ H {s with heap:=h'}:=I.turned (t':=s.toks) (fun b o hb e=>(sb.2 b hb).trans e) f0 f1 f3 f4 f5;obtain⟨o',e,c,d⟩:=id Jr;exact⟨key,rfl,tM (s:={s with heap:=h'}) e c d (by decide) ⟨kV k,H,I1,C1 Ji,⟨rfl,fun kvs' k' v' h1 h2=>by
   rw[ha]at h1;cases h1;rw[hx]at h2;cases h2;rfl⟩,Jr,fun b hb=>(hf b hb).1⟩⟩
 done:=by
  intro X hP hw hK hc i pr s σ H E I hf st hg;subst hP hw hK;obtain⟨kvs,ha,hn,hi⟩:=hg;obtain⟨ho,vs,r,hm⟩:=rB I hd ha;have hl:vs.length=n:=by rw[<-hn];exact r.length.symm
  subst hl;obtain⟨f0,f1,f2,f3,f4,f5⟩:=hf it (by simp);exact wpAny_pyNext_dict_end (I.ok.hd hc) st hm (List.getElem?_eq_none (by lia)) fun h' eb=>⟨rfl,I.turned (t':=s.toks) (fun b o hb e=>eb b o hb e) f0 f1 f3 f4 f5⟩
 self:=fun _ _ _ _ _ st h=>wpAny_pyIter_keyiter st h
def GP(td:TE):TI:=fun σ H R=>td σ H fun v H1=>∃a o kvs,v=.ref a/\H1 a=some (.frz o (.dK kvs))/\R (PN o kvs.length a) H1
theorem As{X:Cx}{l tg:Expr}{td:TE}(hl:PE X l td):PI X tg l (GP td):=by
 intro pr s σ H R I h;refine HA (hl pr s σ H _ I h) fun v s1 HD=>?_
 obtain⟨x,H1,I1,r1,a,o,kvs,ex,ha,q⟩:=HD;subst ex;cases r1;obtain⟨ho,z,nm,vs,r,o',JG,Nv,g1,ex,dat,dA⟩:=(show ObjOk X.prog X.w H1 s1.heap a (.frz o (.dK kvs)) from I1.hok a _ ha)
 have e:=g1.symm.trans ho;cases e;have Ka:s1.heap.DictAt (mixKind X.prog X.w) a vs Nv:=⟨_,JG,g1,ex,dat,dA⟩
 refine wpAny_pyIter_dict nm Ka ?_;refine⟨s1.heap.objs.size,[s1.heap.objs.size],_,PN _ kvs.length a,H1,rfl,I1.kept (t':=s1.toks) fun b o e=>Heap.get?_push_of_some _ e,vz _ JG Nv kvs.length a _ dat,⟨_,Heap.get?_push_size _ rfl,rfl,?_⟩,fun b hb=>?_,q⟩
 ·rw[r.length];rfl
 ·have e:b=s1.heap.objs.size:=by simpa using hb
  subst e;exact I1.fpOk (SS _) (I1.hok.fresh (SS _))
theorem hJ{X:Cx}{pr:List (Addr×Obj)}{σ:L2.St}{H:Hp}{s:Shared}{a:Addr}{o:Obj}{kvs:List (Key×V)}(I:Inv X pr σ H s)(ha:H a=some (.frz o (.dK kvs)))(h0:∀q u,X.H₀ a≠some (.frz q u)):Inv X pr σ (upd H a (.dK kvs)) s:=by
 have ok:=(show ObjOk X.prog X.w H s.heap a (.frz o (.dK kvs)) from I.hok a _ ha)
 have nn:∀c,H c=none->c≠a:=fun c e z=>by rw[z,ha]at e;cases e
 have nt:∀c xs,H c=some (.tup xs)->c≠a:=fun c xs e z=>by rw[z,ha]at e;cases e
 have nb:∀c ps,H c=some (.tbl ps)->c≠a:=fun c ps e z=>by rw[z,ha]at e;cases e
 have no:∀c b,H c=some (.own b)->c≠a:=fun c b e z=>by rw[z,ha]at e;cases e
 have nf:∀c,H c=none->upd H a (.dK kvs) c=none:=fun c e=>by rw[aE (nn c e)];exact e
 refine⟨I.ok,I.os,I.bare,⟨I.base.keep,I.base.slot,fun b q e n x=>nf b (I.base.free b q e n x),I.base.there,fun b xs e=>?_,fun b q u e=>?_,fun b ps e=>?_⟩,I.loc,I.cell,nf _ I.free,fun x c e=>nf _ (I.freeC x c e),fun p hp=>?_,fun c ob e=>?_,I.len⟩
 ·have h:=I.base.tups b xs e;rw[aE (nt b xs h)];exact h
 ·have:b≠a:=fun z=>h0 q u (z▸e)
  rw[aE this];exact I.base.frzs b q u e
 ·obtain⟨m,h⟩:=I.base.tbls b ps e;exact⟨m,by rw[aE (nb b _ h)];exact h⟩
 ·obtain⟨h1,h2,h3⟩:=I.pin p hp;exact⟨h1,nf _ h2,h3⟩
 ·by_cases ec:c=a
  ·subst ec;rw[aY]at e;cases e;exact(show ObjOk X.prog X.w H s.heap c (.dK kvs) from ok.2).stay (fun _ _ _ q=>q) (fun d q=>by rw[aE (no d _ q)];exact q) fun d l q=>by rw[aE (nt d l q)];exact q
  ·rw[aE ec]at e;exact(I.hok c ob e).stay (fun _ _ _ q=>q) (fun d q=>by rw[aE (no d _ q)];exact q) fun d l q=>by rw[aE (nt d l q)];exact q
noncomputable def PQ(a:Addr)(o:Obj)(kvs:List (Key×V))(D:Ends):Ends:=
 ⟨fun σ H=>H a=some (.frz o (.dK kvs))/\D.nx σ (upd H a (.dK kvs)),fun v H=>H a=some (.frz o (.dK kvs))/\D.rt v (upd H a (.dK kvs)),fun σ H=>H a=some (.frz o (.dK kvs))/\D.bk σ (upd H a (.dK kvs)),fun σ H=>H a=some (.frz o (.dK kvs))/\D.ct σ (upd H a (.dK kvs))⟩
def Fc(t:TS):TS:=fun D σ H=>∃a kvs,H a=some (.dK kvs)/\∀o,t (PQ a o kvs D) σ (upd H a (.frz o (.dK kvs)))
theorem Au{X:Cx}{st:Stmt}{t:TS}(h:PS X st t):PS X st (Fc t):=by
 rintro pr s σ H D I ⟨a,kvs,ha,k⟩;obtain⟨z,nm,vs,r,o,es,ep,g1,dA⟩:=(show ObjOk X.prog X.w H s.heap a (.dK kvs) from I.hok a _ ha)
 have h0:∀q u,X.H₀ a≠some (.frz q u):=fun q u e=>by
  have:=I.base.frzs a q u e;rw[ha]at this;cases this
 refine HA (h pr s σ _ _ (xF I ha g1) (k o)) fun f s' sp=>?_
 cases f with
 |next=>obtain⟨σ',H',I',e,q⟩:=sp;exact⟨σ',_,hJ I' e h0,q⟩
 |brk=>obtain⟨σ',H',I',e,q⟩:=sp;exact⟨σ',_,hJ I' e h0,q⟩
 |cont=>obtain⟨σ',H',I',e,q⟩:=sp;exact⟨σ',_,hJ I' e h0,q⟩
 |ret u=>obtain⟨v,σ',H',I',rv,e,q⟩:=sp;exact⟨v,σ',_,hJ I' e h0,rv,q⟩
end NX
namespace PV
open PySem PySem.Spec PyProof.Rows L2 NX
section
variable{K:W.Frag}{G H:Hp}{es:PV.Env}{vs:L2.St}{fp:List Addr}
theorem Rel.asD{i:Nat}{p:Addr}{d:D}(q:Rel K G H es vs fp)(e:es[i]?=some (some (.pin p .d,d))):vs[i]?=some (some (.ref p))/\∃fq,Rel K G H (es.set i (some (.d,d))) vs fq/\Step G H fp G H fq:=by
 obtain⟨v,fq,ev,g,st,Jr⟩:=q.out e;obtain⟨y,ys,e0,v',a,b,e1,e2,r1,r2⟩:=g.rep;cases e0;cases e1;rw[RepO]at r1;obtain⟨ep,r1⟩:=r1;subst ep;have g2:Rel K G H (some (.d,d)::es.set i none) (some (.ref p)::vs) fq:=⟨⟨_,_,rfl,_,a,b,rfl,e2,r1,r2⟩,g.nd,g.gn,g.gh⟩
 obtain⟨fz,g3,HM⟩:=g2.back (i:=i) (by rw[Tt];exact(List.getElem?_eq_some_iff.mp e).1) ev;rw[Ui]at g3;exact⟨ev,fz,g3,st.trans HM⟩
theorem Rel.asP{i:Nat}{p:Addr}{d:D}(q:Rel K G H es vs fp)(e:es[i]?=some (some (.d,d)))(hv:vs[i]?=some (some (.ref p))):∃fq,Rel K G H (es.set i (some (.pin p .d,d))) vs fq/\Step G H fp G H fq:=by
 obtain⟨v,fq,ev,g,st,Jr⟩:=q.out e;rw[hv]at ev;cases ev;obtain⟨y,ys,e0,v',a,b,e1,e2,r1,r2⟩:=g.rep;cases e0;cases e1;have g2:Rel K G H (some (.pin p .d,d)::es.set i none) (some (.ref p)::vs) fq:=⟨⟨_,_,rfl,_,a,b,rfl,e2,by rw[RepO];exact⟨rfl,r1⟩,r2⟩,g.nd,g.gn,g.gh⟩
 obtain⟨fz,g3,HM⟩:=g2.back (i:=i) (by rw[Tt];exact(List.getElem?_eq_some_iff.mp e).1) hv;rw[Ui]at g3;exact⟨fz,g3,st.trans HM⟩
theorem Rel.chgP{i:Nat}{pp:Addr}{tk:Bool}{ks ws:List D}(q:Rel K G H es vs fp)(e:es[i]?=some (some (.pin pp .d,.dct tk ks ws))):∃p xs u,vs[i]?=some (some (.ref p))/\H p=some u/\DictO u tk ks xs/\Reps K G ws xs/\
  ∀u' Jb IP LP,DictO u' tk Jb IP->Reps K G LP IP->∃fq,Rel K G (upd H p u') (es.set i (some (.pin pp .d,.dct tk Jb LP))) vs fq/\Step G H fp G (upd H p u') fq:=by
 have hi:i<es.length:=(List.getElem?_eq_some_iff.mp e).1;obtain⟨hv,fa,qa,sa⟩:=q.asD e;obtain⟨p,xs,u,ev,hp,dd,rs,cg⟩:=qa.chgD (i:=i) (by rw[List.getElem?_set_self hi]);rw[hv]at ev;cases ev;refine⟨pp,xs,u,hv,hp,dd,rs,fun u' Jb IP LP d' r'=>?_⟩;obtain⟨fb,qb,sb⟩:=cg u' Jb IP LP d' r';rw[Ui]at qb;obtain⟨fc,qc,sc⟩:=qb.asP (i:=i) (by rw[List.getElem?_set_self hi]) hv;rw[Ui]at qc;exact⟨fc,qc,sa.trans (sb.trans sc)⟩
end
noncomputable def sPutP(i:Nat)(fk fv:FX):FS:=fun env=>(fv env).bind fun p=>(fk p.2).bind fun q=>match p.2[i]?,q.2[i]? with
 |some (some _),some (some (.pin pp .d,.dct tk ks vs))=>if dg tk q.1.2&&decide (ks.length<sizeLine) then .ok (.nx (q.2.set i (some (.pin pp .d,.dct tk (kY ks vs q.1.2 p.1.2).1 (kY ks vs q.1.2 p.1.2).2)))) else .bad
 |_,_=>.bad
section
variable{md:Mode}{X:Cx}
theorem Av{i:Nat}{o ix value:Expr}{fk fv:FX}{pos pos':Pos}(hu:X.A.units+1<cLine)(ho:PE X o (tL i))(hi:QE X ix fk)(hv:QE X value fv)(hs:swapsWith value (some (.Subscript o ix pos')) pos.line X.env=pure false:=by rfl):
  QS (md:=md) X (.Assign [.Subscript o ix pos'] value pos) (sPutP i fk fv):=d6 (uF hu ho hi hv hs) fun Dd σ H Hs=>by
 obtain⟨G,env,fp,rel,k⟩:=Hs;unfold sPutP at k;match q1:fv env,k with
 | .ok (r1,Hg),k=>
  have k:OutOk X.K G H fp Dd ((fk Hg).bind fun q=>match Hg[i]?,q.2[i]? with
   |some (some _),some (some (.pin pp .d,.dct tk ks vs))=>if dg tk q.1.2&&decide (ks.length<sizeLine) then .ok (.nx (q.2.set i (some (.pin pp .d,.dct tk (kY ks vs q.1.2 r1.2).1 (kY ks vs q.1.2 r1.2).2)))) else .bad
   |_,_=>.bad):=k
  match q2:fk Hg,k with
  | .ok (r2,Hm),k=>
   have k:OutOk X.K G H fp Dd (match Hg[i]?,Hm[i]? with
    |some (some _),some (some (.pin pp .d,.dct tk ks vs))=>if dg tk r2.2&&decide (ks.length<sizeLine) then .ok (.nx (Hm.set i (some (.pin pp .d,.dct tk (kY ks vs r2.2 r1.2).1 (kY ks vs r2.2 r1.2).2)))) else .bad
    |_,_=>.bad):=k
   split at k
   ·rename_i rr pp tk ks ws h1 h2;split at k
    ·rename_i hc;rw[SY,S3]at hc;refine⟨G,env,fp,r1,Hg,rel,q1,fun y H1 G1 HB Hv Hi=>?_⟩;obtain⟨G2,b,ry,Hh,Hn⟩:=Hi.freeze;obtain⟨v0,My,_⟩:=Hh.view h1;refine⟨v0,My,G2,Hg,b,r2,Hm,Hh,q2,fun z H3 G3 IJ HM HJ=>?_⟩;obtain⟨G4,b4,rz,HY,Io⟩:=HJ.freeze;obtain⟨p,xs,u,ep,hp,dd,rs,cg⟩:=HY.chgP h2;rw[My]at ep;cases ep;have NS:Rep X.K G4 r1.2 y:=Rep.mono (HM.gg.trans Io.gg) ry;cases tk with
     |true=>
      obtain⟨kvs,eu,ek,ex,JP⟩:=dd;subst eu;subst ex;have hk:=hc.1;unfold dg at hk;rw[SU rfl,TF]at hk;obtain⟨kk,hk⟩:=hk;obtain⟨pz,ez,gz,dz⟩:=cD hk rz;subst ez;obtain⟨t1,t2⟩:=jc (K:=X.K) (G:=G4) kT uX (k:=kk) rs NS;have ek:ks=kvs.map fun kv=>kT kv.1:=ek
      rw[<-ek,<-dz]at t1 t2;have Ro:∀key∈kk,pQ key:=by
       cases hd:r2.2 with
       |tup ds=>
        rw[hd]at hk rz;obtain⟨_,IP,_,_,Jv⟩:=p4 rz;exact p8 hk Jv
       |_=>rw[hd]at hk;cases hk
      obtain⟨fq,Iq,Js⟩:=cg (.dT (iW kvs kk y)) _ _ _ ⟨iW kvs kk y,rfl,t1.symm,rfl,kr (P:=fun ks=>∀k∈ks,pQ k) JP Ro⟩ t2;have hlen:kvs.length<sizeLine:=by have:=hc.2;rw[ek,SJ]at this;exact this
      exact⟨p,_,rfl,DPut.t hp (HY.gh _ _ gz) hlen,k _ _ G4 fq (Hv.trans (Hn.trans (HM.trans (Io.trans Js)))) Iq⟩
     |false=>
      obtain⟨kvs,eu,ek,ex,JP⟩:=dd;subst eu;subst ex;have hk:=hc.1;unfold dg at hk;rw[SX SN,TF]at hk;obtain⟨kk,hk⟩:=hk;obtain⟨ez,dz⟩:=fE hk rz;subst ez;obtain⟨t1,t2⟩:=jc (K:=X.K) (G:=G4) kD qZ (k:=kk) rs NS;rw[<-ek,<-dz]at t1 t2;obtain⟨fq,Iq,Js⟩:=cg (.dK (iW kvs kk y)) _ _ _ ⟨iW kvs kk y,rfl,t1.symm,rfl,kr (P:=pQ) JP (q0 hk rz)⟩ t2;have hlen:kvs.length<sizeLine:=by have:=hc.2;rw[ek,SJ]at this;exact this
      exact⟨p,_,rfl,DPut.k hp hlen,k _ _ G4 fq (Hv.trans (Hn.trans (HM.trans (Io.trans Js)))) Iq⟩
    ·exact k.elim
   ·exact k.elim
end
def cleanE(i:Nat)(env:PV.Env):Bool:=(env.set i none).all fun r=>match r with
 |some r=>cleanR r.1 r.2
 |none=>true
def xH(i:Nat)(p:Addr)(env:PV.Env):Bool:=match env[i]? with
 |some (some (.pin q .f,_))=>decide (q=p)
 |_=>false
noncomputable def sV(i:Nat)(p:Addr)(d:D):Out->Res Out
 | .nx env=>if xH i p env&&cleanE i env then .ok (.nx (env.set i (some (.pin p .d,d)))) else .bad
 | .rt (.t [o,.pin q .f],.tup [r,_])=>if decide (q=p)&&cleanR o r then .ok (.rt (.t [o,.pin p .d],.tup [r,d])) else .bad
 |_=>.bad
def Aw(i:Nat)(a:FG)(g:FS):FS:=fun env=>match env[i]? with
 |some (some (.pin p .d,.dct false ks vs))=>(dN a g ks (env.set i (some (.pin p .f,.dct false ks vs)))).bind (sV i p (.dct false ks vs))
 |_=>.bad
def off(G:Hp)(p:Addr):Hp:=fun z=>if z=p then none else G z
theorem o9{K:W.Frag}{G H G' H':Hp}{fp HB Hk:List Addr}{p:Addr}{kvs:List (Key×V)}{o:Obj}{es:PV.Env}{σ:L2.St}{i:Nat}{d':D}{vs:List D}(gp:G p=none)(pf:p∈fp)(f1:∀z∈HB,z∈fp)
  (st:Step (upd G p (.frz o (.dK kvs))) (upd H p (.frz o (.dK kvs))) HB G' H' Hk) (rel:Rel K G' H' es σ Hk) (hi:es[i]?=some (some (.pin p .f,d'))) (cl:cleanE i es=true) (hf:∀kv∈kvs,pQ kv.1) (rs:Reps K G vs (kvs.map (·.2))):
  H' p=some (.frz o (.dK kvs))/\∃G2 fz,Step G H fp G2 (upd H' p (.dK kvs)) fz/\Rel K G2 (upd H' p (.dK kvs)) (es.set i (some (.pin p .d,.dct false (kvs.map fun kv=>kD kv.1) vs))) σ fz:=by
 have RA:G' p=some (.frz o (.dK kvs)):=st.gg p _ aY;refine⟨rel.gh p _ RA,?_⟩;obtain⟨v,fq,ev,g,Hv,_⟩:=rel.out hi;have Hn:=st.trans Hv;obtain⟨y,ys,e0,v',a,b,e1,e2,r1,r2⟩:=g.rep;cases e0;cases e1;rw[RepO]at r1;obtain⟨ep,r1⟩:=r1;obtain⟨_,ea⟩:=dD.mp r1;subst ea;subst ep;have e2:fq=b:=e2;subst e2;have np:∀z∈fq,z≠p:=fun z hz e=>by
  have:=g.gn z hz;rw[e,RA]at this;cases this
 have NW:(off G' p) p=none:=SU rfl;have PR:∀z,z≠p->(off G' p) z=G' z:=fun z h=>SX h
 have gg:Same G (off G' p):=fun z u e=>by
  have hz:z≠p:=fun h=>by rw[h,gp]at e;cases e
  rw[PR z hz];exact st.gg z u (by rw[aE hz];exact e)
 have rc:RepE K (off G' p) H' (es.set i none) σ fq:=by
  refine RepE.clean (fun z u t e=>?_) (fun r hr=>?_) r2
  ·have hz:z≠p:=fun h=>by rw[h,RA]at e;cases e;cases t
   rw[PR z hz];exact e
  ·have:=Tq.mp cl _ hr;exact this
 have Hh:Rel K (off G' p) (upd H' p (.dK kvs)) (some (.pin p .d,.dct false (kvs.map fun kv=>kD kv.1) vs)::es.set i none) (some (.ref p)::σ) (p::fq):=by
  refine⟨⟨some (.ref p),σ,rfl,.ref p,[p],fq,rfl,rfl,?_,rc.step (.refl _) fun z hz=>aE (np z hz)⟩,Tf.mpr ⟨fun h=>np p h rfl,g.nd⟩,fun z hz=>?_,fun z u e=>?_⟩
  ·rw[RepO];refine⟨rfl,?_⟩;rw[RepO];exact⟨p,kvs.map (·.2),.dK kvs,rfl,aY,⟨kvs,rfl,rfl,rfl,hf⟩,rfl,Reps.mono gg rs⟩
  ·rcases SV.mp hz with h|h
   ·rw[h];exact NW
   ·rw[PR z (np z h)];exact g.gn z h
  ·by_cases hz:z=p
   ·rw[hz,NW]at e;cases e
   ·rw[PR z hz]at e;rw[aE hz];exact rel.gh z u e
 have stp:Step G H fp (off G' p) (upd H' p (.dK kvs)) (p::fq):=by
  refine⟨gg,fun z u e n=>?_,fun z hz=>?_,fun z u e=>?_,fun z u e=>?_⟩
  ·have hz:z≠p:=fun h=>n (h▸pf)
   rw[aE hz];exact Hn.keep z u (by rw[aE hz];exact e) fun h=>n (f1 z h)
  ·rcases SV.mp hz with h|h
   ·exact .inl (h▸pf)
   ·rcases Hn.fpn z h with h2|h2
    ·exact .inl (f1 z h2)
    ·rw[aE (np z h)]at h2;exact .inr h2
  ·by_cases hz:z=p
   ·rw[hz,NW]at e;cases e
   ·rw[PR z hz]at e;rcases Hn.gnew z u e with h|h|h|⟨t,h⟩
    ·rw[aE hz]at h;exact .inl h
    ·exact .inr (.inl (f1 z h))
    ·rw[aE hz]at h;exact .inr (.inr (.inl h))
    ·rw[aE hz]at h;exact .inr (.inr (.inr ⟨t,h⟩))
  ·by_cases hz:z=p
   ·exact⟨_,by rw[hz,aY]⟩
   ·obtain⟨u',h⟩:=Hn.there z u (by rw[aE hz];exact e);exact⟨u',by rw[aE hz];exact h⟩
 obtain⟨fz,g3,HM⟩:=Hh.back (i:=i) (by rw[Tt];exact(List.getElem?_eq_some_iff.mp hi).1) ev;rw[Ui]at g3;exact⟨_,fz,stp.trans HM,g3⟩
theorem xI{K:W.Frag}{G H:Hp}{fp f1 b0:List Addr}{p:Addr}{kvs:List (Key×V)}{o:Obj}{i:Nat}{vs:List D}{D0:Ends}{r:Res Out}(gp:G p=none)(QA:Step G H fp G H (p::b0))(QB:∀z∈f1,z∈p::b0)(hf:∀kv∈kvs,pQ kv.1)(rs:Reps K G vs (kvs.map (·.2)))
  (k:OutOk (md:=.mut) K G H fp D0 (r.bind (sV i p (.dct false (kvs.map fun kv=>kD kv.1) vs)))):OutOk (md:=.mut) K (upd G p (.frz o (.dK kvs))) (upd H p (.frz o (.dK kvs))) f1 (PQ p o kvs D0) r:=by
 cases r with
 |bad=>exact k
 |exc c=>exact k
 |ok out=>
  have k:OutOk (md:=.mut) K G H fp D0 (sV i p (.dct false (kvs.map fun kv=>kD kv.1) vs) out):=k;unfold sV at k;split at k
  ·rename_i e';split at k
   ·rename_i JT;rw[SY]at JT;obtain⟨h1,h2⟩:=JT;unfold xH at h1;split at h1
    ·rename_i q' d' hq';rw[S3]at h1;subst h1;intro σ' H' G' Hk st rl;obtain⟨z,G2,fz,Hn,RB⟩:=o9 (G:=G) (H:=H) (fp:=q'::b0) gp SI QB st rl hq' h2 hf rs;exact⟨z,k σ' _ G2 fz (QA.trans Hn) RB⟩
    ·cases h1
   ·exact k.elim
  ·rename_i o' q' r d0 _;split at k
   ·rename_i JT;rw[SY,S3]at JT;obtain⟨h1,h2⟩:=JT;subst h1;rintro v H' G' Hk st ⟨o2,d2,p2,c2,d02,er,rl⟩;cases er;obtain⟨z,G2,fz,Hn,RB⟩:=o9 (G:=G) (H:=H) (fp:=q'::b0) (i:=1) gp SI QB st rl rfl (by show(List.all [some (o',r),none] _)=true;simp only[U8,List.all_nil,h2,TL]) hf rs;exact⟨z,k v _ G2 fz (QA.trans Hn) ⟨_,_,_,_,_,rfl,RB⟩⟩
   ·exact k.elim
  ·exact k.elim
theorem vA{K:W.Frag}{G:Hp}{a:Addr}{o:Obj}{kvs:List (Key×V)}(h:G a=some (.frz o (.dK kvs)))(hf:∀kv∈kvs,pQ kv.1):Walk K G (PN o kvs.length a) (kvs.map fun kv=>kD kv.1):=by
 intro G' H' es vs fp gg rel i;have h':H' a=some (.frz o (.dK kvs)):=rel.gh _ _ (gg _ _ h);refine⟨fun d hd=>?_,fun e=>⟨kvs,h',rfl,by rw[SJ]at e;lia⟩⟩;rw[List.getElem?_map]at hd;cases hk:kvs[i]? with
 |none=>rw[hk]at hd;cases hd
 |some kv=>
  rw[hk]at hd;cases hd;refine⟨⟨kvs,kv.1,kv.2,h',rfl,hk⟩,fun y H2 ⟨e,hy⟩=>?_⟩;subst e;have:=hy kvs kv.1 kv.2 h' hk;subst this;exact⟨G',uV (hf _ (Ta hk)),rel,.refl⟩
section
variable{X:Cx}
theorem Ax{i:Nat}{tg iter:Expr}{body:List Stmt}{a:FG}{g:FS}{pos:Pos}(hp:PassesOwn (model X.prog X.w) X.A X.env X.xe)(hc:X.calm=true)(hn:PE X iter (tL i))(hg:QG X tg a)(hb:Lk (md:=.mut) X body g)(hs:∀x,foldedSetIterable iter X.env x=pure x:=by intro _;rfl):
  QS (md:=.mut) X (.For tg iter body [] pos) (Aw i a g):=
 d6 (Au (yk hp hc (As hn) hg hb hs)) fun D0 σ H Hs=>by
  obtain⟨G,env,fp,rel,k⟩:=Hs;unfold Aw at k;split at k
  ·rename_i p ks vs hi;obtain⟨v,fq,ev,g1,QA,_⟩:=rel.out hi;obtain⟨y,ys,e0,v',a0,b0,e1,e2,r1,r2⟩:=g1.rep;cases e0;cases e1;rw[RepO]at r1;obtain⟨ep,r1⟩:=r1;subst ep;rw[RepO]at r1;obtain⟨p',xs,o0,ev1,hH,dd,ea,rs⟩:=r1;cases ev1;subst ea;subst e2;obtain⟨kvs,eo,ek,ex,hf⟩:=(show ∃kvs:List (Key×V),o0=.dK kvs/\ks=kvs.map (fun kv=>kD kv.1)/\xs=kvs.map (·.2)/\∀kv∈kvs,pQ kv.1 from dd)
   subst eo ex ek;have nd:=Tf.mp (show(p::b0).Nodup from g1.nd);have gp:G p=none:=g1.gn p SI;have Sn:∀z∈b0,z≠p:=fun z hz e=>nd.1 (e▸hz)
   refine⟨p,kvs,hH,fun o=>?_⟩;have Sq:Same G (upd G p (.frz o (.dK kvs))):=fun z u e=>by rw[aE (bc e gp)];exact e
   have relA:Rel X.K (upd G p (.frz o (.dK kvs))) (upd H p (.frz o (.dK kvs))) (some (.pin p .f,.dct false (kvs.map fun kv=>kD kv.1) vs)::env.set i none) (some (.ref p)::σ) b0:=by
    refine⟨⟨_,_,rfl,.ref p,[],b0,rfl,rfl,?_,r2.step Sq fun z hz=>aE (Sn z hz)⟩,nd.2,fun z hz=>?_,fun z u e=>?_⟩
    ·rw[RepO];refine⟨rfl,dD.mpr ⟨?_,rfl⟩⟩;rw[Rep];exact⟨p,kvs.map (·.2),.dK kvs,rfl,.inr ⟨o,aY⟩,⟨kvs,rfl,rfl,rfl,hf⟩,Reps.mono Sq rs⟩
    ·rw[aE (Sn z hz)];exact g1.gn z (SM _ hz)
    ·by_cases hz:z=p
     ·subst hz;rw[aY]at e ⊢;exact e
     ·rw[aE hz]at e ⊢;exact g1.gh z u e
   obtain⟨f1,Hi,Hv⟩:=relA.back (i:=i) (by rw[Tt];exact(List.getElem?_eq_some_iff.mp hi).1) ev;rw[Ui]at Hi;have QB:∀z∈f1,z∈p::b0:=fun z hz=>by
    rcases Hv.fpn z hz with h|h
    ·exact SM _ h
    ·exfalso;obtain⟨u,hu⟩:=Hi.rep.live z hz;rw[h]at hu;cases hu
   refine⟨.ref p,ev,p,o,kvs,rfl,aY,?_⟩;have k1:=xI (o:=o) (G:=G) (H:=H) (fp:=fp) gp QA QB hf rs k;have wk:Walk X.K (upd G p (.frz o (.dK kvs))) (PN o kvs.length p) (kvs.map fun kv=>kD kv.1):=vA aY hf;generalize (kvs.map fun kv=>kD kv.1)=ds at k1 wk Hi;refine⟨fun j m σ' H'=>m=ds.length-j/\j<=ds.length/\∃G' env' Hk,Same (upd G p (.frz o (.dK kvs))) G'/\Rel X.K G' H' env' σ' Hk/\OutOk (md:=.mut) X.K G' H' Hk (PQ p o kvs D0) (dN a g (ds.drop j) env'),⟨_,rfl,Tw _,_,_,f1,.refl _,Hi,k1⟩,?_⟩;rintro j m σ2 H2 ⟨rfl,hj,G2,Hm,HQ,gg,Hh,k2⟩;obtain⟨w1,w2⟩:=wk G2 H2 _ _ _ gg Hh j;by_cases HW:j<ds.length
   ·have hd:ds[j]?=some ds[j]:=List.getElem?_eq_getElem HW;obtain⟨go,yl⟩:=w1 _ hd;rw[Vb HW]at k2;refine .inr ⟨go,fun σ' H'=>∃G' env' Hk,Same (upd G p (.frz o (.dK kvs))) G'/\Rel X.K G' H' env' σ' Hk/\OutOk (md:=.mut) X.K G' H' Hk (PQ p o kvs D0) (dN a g (ds.drop (j+1)) env'),fun σ' H' z=>⟨ds.length-(j+1),by lia,rfl,HW,z⟩,fun x H3 y=>?_⟩;obtain⟨G3,rx,HJ,HM⟩:=yl x H3 y;unfold dN at k2;match q3:a ds[j] Hm,k2 with
    | .ok HV,k2=>
     refine⟨G3,Hm,HQ,ds[j],HV,HJ,rx,q3,fun σ4 G4 NQ Io HY=>⟨G4,HV,NQ,HY,?_⟩⟩;have k3:OutOk (md:=.mut) X.K G2 H2 HQ (PQ p o kvs D0) ((g HV).bind fun o=>match o with | .nx e=>dN a g (ds.drop (j+1)) e | .ct e=>dN a g (ds.drop (j+1)) e | .bk e=>.ok (.nx e) | .rt r=>.ok (.rt r)):=k2;match q4:g HV,k3 with
     | .ok (.nx e),k3=>exact fun σ' H' G' Hk st rel=>⟨G',e,Hk,gg.trans (HM.gg.trans (Io.gg.trans st.gg)),rel,OutOk.after (HM.trans (Io.trans st)) k3⟩
     | .ok (.ct e),k3=>exact fun σ' H' G' Hk st rel=>⟨G',e,Hk,gg.trans (HM.gg.trans (Io.gg.trans st.gg)),rel,OutOk.after (HM.trans (Io.trans st)) k3⟩
     | .ok (.bk e),k3=>exact fun σ' H' G' Hk st rel=>k3 σ' H' G' Hk (HM.trans (Io.trans st)) rel
     | .ok (.rt r),k3=>exact fun v H' G' Hk st rel=>k3 v H' G' Hk (HM.trans (Io.trans st)) rel
   ·have e:j=ds.length:=by lia
    subst e;rw[Wq]at k2;exact .inl ⟨w2 rfl,k2 σ2 H2 G2 HQ .refl Hh⟩
  ·exact k.elim
end
def lendR(i:Nat)(J:List Nat)(g:FS):FS:=fun env=>match g env with
 | .ok (.rt r)=>.ok (.rt r)
 |_=>vh i J g env
theorem xJ{X:Cx}{md:Mode}{i:Nat}{J:List Nat}{st:Stmt}{g:FS}(h:QS (md:=md) X st g):QS (md:=md) X st (lendR i J g):=fun pr s σ H Dd I Hs=>by
 obtain⟨G,env,fp,rel,k⟩:=Hs;unfold lendR at k;split at k
 ·rename_i r e;exact h pr s σ H Dd I ⟨G,env,fp,rel,by rw[e];exact k⟩
 ·exact Ak h pr s σ H Dd I ⟨G,env,fp,rel,k⟩
end PV
namespace LW
open PySem L2 NX PV
abbrev qg(f:FX):FI:=II (Cu f) (II (ib f) (ic f))
def lb:FS:=(d9 (aB cY (av (aK (.int 1))) (av (z6 (dE (qg (aB Ht (aq 0) (av (aK (.int 1))))) [none,none,none] (jA 3 (aN (aD 0) (aN (aD 1) (aN (aD 2) dr)))) fI (a8 maxD (ah (aq 0) (ah (aq 2) aH)))) (aK (.int 0))))))
def cF:List D->Res R:=fBody 1 0 lb
def pb:FS:=(d9 (dE (qg (aB Ht (aq 0) (av (aK (.int 1))))) [none,none,none,some 1,some 2] (jA 3 (aN (aD 0) (aN (aD 1) (aN (aD 2) dr)))) (sP (HI (bo Ip (aq 0) (aq 3))) (HI (bo Ip (aq 1) (aq 4)))) (aI 2)))
def fF:List D->Res R:=fBody 3 0 pb
def gA:FS:=(d9 (a8 eE (ah (av (dE (qg (aB Ht (aq 0) (av (aK (.int 1))))) [none] (aD 0) fI (aB Ht (aq 0) (av (aK (.int 0)))))) aH)))
def bX:List D->Res R:=fBody 1 0 gA
noncomputable def rF:FS:=(sSeq (bL 3 (CW oV (av (aB Ht (aq 0) (av (aK (.int 0))))) (ah (aq 2) aH)))
  (d9 (a8 CC (ah (av (dE (sU (ah (av (aI 1)) (ah (av (aB Ht (aq 0) (av (aK (.int 1))))) aH))) [none,none,some 3] (jA 2 (aN (aD 0) (aN (aD 1) dr))) fI (aB Po (aq 0) (av (aB Ht (av (aB Ht (aq 1) (av (aK (.int 1))))) (aq 2)))))) aH))))
def hU:List D->Res R:=fBody 3 1 rF
noncomputable def vB:FS:=(sSeq (Iu (Cs (HI (eL hU (ah (aq 0) (ah (aq 1) (ah (aq 2) aH))))))
  (d9 (aK .non))
  cw)
  (sSeq (bL 3 (CW oV (av (aB Ht (aq 0) (av (aK (.int 0))))) (ah (aq 2) aH)))
  (d9 (a8 eE (ah (av (dE (sU (ah (av (aI 1)) (ah (av (aB Ht (aq 0) (av (aK (.int 1))))) aH))) [none,none,some 3] (jA 2 (aN (aD 0) (aN (aD 1) dr))) fI (aB cY (av (aB wI (aq 0) (av (aB Ht (av (aB Ht (aq 1) (av (aK (.int 1))))) (aq 2))))) (av (aB Ht (av (aB Ht (aq 1) (av (aK (.int 2))))) (aq 2)))))) aH)))))
def jK:List D->Res R:=fBody 3 1 vB
noncomputable def eF:FS:=(Iu (sP (HI (bo Je (aq 4) (aq 1))) (HI (bo Ip (av (aB Ht (av (aB Jq (aq 0) (aq 4))) (av (aK (.int 0))))) (aq 2))))
  (k8 0 (dZ (aw (aK (.str [111,110,101])) (aw (aB Ht (av (aB Jq (aq 0) (aq 4))) (av (aK (.int 1)))) (aw (aI 3) aT)))))
  cw)
def jh:FS:=(Aw 0 (aD 4)
  eF)
noncomputable def pd:FS:=(sSeq (Iu (HI (bo tF (aq 1) (aq 0)))
  (sPutP 0 (aI 1) (dZ (aw (aI 2) (aw (aI 3) aT))))
  (Iu (HI (bo Je (av (aB Ht (av (aB Jq (aq 0) (aq 1))) (av (aK (.int 0))))) (aq 2)))
  (k8 0 (dZ (aw (aK (.str [116,119,111])) (aw (aB Ht (av (aB Jq (aq 0) (aq 1))) (av (aK (.int 1)))) (aw (aI 3) aT)))))
  cw))
  (k8 0 (aK .non)))
def yI:FS:=(sSeq jh
  pd)
def lg:Addr->List D->Res R:=l7 4 1 (.d) yI
def cG:FS:=(sSeq (bL 10 (eFunW (.d) lg 2 (ah (aq 2) (ah (aq 9) (ah (aq 7) (ah (av (aB cY (aq 5) (av (dZ (aw (aI 6) aT))))) aH))))))
  (Iu (HI (bo isnO (aq 10) (av (aK .non))))
  (k8 2 (aI 10))
  cw))
def fQ:FS:=(oJ (qg (aI 8)) (aD 9)
  cG)
noncomputable def cH:FS:=(sSeq (bL 7 (eL jK (ah (aq 1) (ah (aq 4) (ah (aq 6) aH)))))
  (sSeq (bL 8 (eL fF (ah (aq 0) (ah (aq 3) (ah (aq 6) aH)))))
  (sSeq (Iu (sP (HI (bo Nl (aq 7) (av (aK .non)))) (HI (aB Ph (av (a8 iR (ah (aq 8) aH))) (av (aK (.int 0))))))
  (k8 2 (dZ (aw (aK (.str [115,116,117,99,107])) (aw (aI 5) (aw (aI 6) aT)))))
  cw)
  (sSeq (Iu (sP (HI (bo isnO (aq 7) (av (aK .non)))) (HI (bo Ip (av (a8 iR (ah (aq 8) aH))) (av (aK (.int 0))))))
  (k8 2 (dZ (aw (aK (.str [102,114,101,101])) (aw (aI 5) (aw (aI 6) aT)))))
  cw)
  fQ))))
def iK:FS:=(oJ (qg (aB Ht (aq 0) (av (aK (.int 0))))) (aD 6)
  cH)
def jZ:FS:=(k8 2 (aK .non))
def pe:FS:=(sSeq (bL 4 (aB Ht (av (aB Jq (aq 2) (aq 3))) (av (aK (.int 0)))))
  (sSeq (bL 5 (aB Ht (av (aB Jq (aq 2) (aq 3))) (av (aK (.int 1)))))
  (sSeq iK
  jZ)))
def dF:Addr->List D->Res R:=fBodyJ 2 4 7 (.d) pe
noncomputable def fG:FS:=(sSeq (bL 4 (vy 2 (.d) dF 2 (ah (aq 0) (ah (aq 1) (ah (aq 2) (ah (av (aB Ht (av (a8 vk (ah (aq 2) aH))) (aq 3))) aH))))))
  (sSeq (Iu (HI (bo isnO (aq 4) (av (aK .non))))
  (d9 (mN 4))
  cw)
  (bL 3 (aB cY (aq 3) (av (aK (.int 1)))))))
def nh:FS:=(cq (HI (aB J3 (aq 3) (av (a8 iR (ah (aq 2) aH)))))
  fG 100000)
def pg:FS:=(d9 (dZ (aw (aK (.str [115,97,109,101])) (aw (dE (dO (av (eL cF (ah (aq 0) aH)))) [none,some 2] (aD 0) fI (aB Ht (av (aB Jq (aq 1) (aq 0))) (av (aK (.int 0))))) aT))))
noncomputable def yJ:FS:=(sSeq (Iu (HI (bo Je (av (aB Ht (aq 0) (av (aK (.int 0))))) (av (aB Ht (aq 1) (av (aK (.int 0)))))))
  yB
  cw)
  (sSeq (bL 2 (oY (aK (.int 0)) (dZ (aw (eL bX (ah (aq 1) aH)) (aw (dZ aT) aT)))))
  (sSeq (bL 3 (aK (.int 0)))
  (sSeq nh
  pg))))
def dX:List D->Res R:=fBody 2 3 yJ
def il:FS:=(sSeq (Iu (HI (aB J3 (aq 1) (av (a8 iR (ah (aq 0) aH)))))
  (d9 (aB Ht (aq 0) (aq 1)))
  cw)
  (d9 (aK (.int 0))))
def aO:List D->Res R:=fBody 2 0 il
noncomputable def j3:FS:=(sSeq (bL 2 (aB cY (av (aB gm (aq 0) (av (aK (.int 2147483647))))) (av (aB m7 (av (aK (.int 48271))) (av (aB cY (aq 1) (av (aK (.int 1)))))))))
  (sSeq (bL 2 (aB gm (av (aB cY (av (aB m7 (aq 2) (aq 2))) (av (aB m7 (av (aK (.int 69621))) (aq 1))))) (av (aK (.int 2147483647)))))
  (d9 (aB gm (av (aB cY (av (aB cY (av (aB m7 (aq 2) (aq 2))) (av (aB m7 (av (aK (.int 16807))) (aq 1))))) (av (aK (.int 1))))) (av (aK (.int 2147483647)))))))
def aZ:List D->Res R:=fBody 2 1 j3
noncomputable def dh:FS:=(sSeq (bL 7 (Ag (aq 2) sR (kJ (aI 3))))
  (sSeq (ve 7 (aI 4) (aB gm (av (aB cY (av (aB Ht (aq 7) (aq 4))) (aq 6))) (av (aK (.int 26)))))
  (sSeq (Iu (HI (bo Ip (av (aB gm (av (aB eD (aq 0) (av (aK (.int 64))))) (av (aK (.int 4))))) (av (aK (.int 1)))))
  (bL 7 (Ag (aq 2) sR (kJ (aB cY (aq 6) (av (aK (.int 1)))))))
  cw)
  (i0 (qW 5 (E6 vn (av (aK (.str []))) (ah (av (dE (II (je 7) (II (ib (aI 7)) (ic (aI 7)))) [none,some 1] (aD 0) fI (aB Ht (aq 1) (aq 0)))) aH)))))))
def iq:FS:=(oJ (dO (av (aK (.int 5)))) (aD 6)
  dh)
def gB:FS:=(sSeq (Iu (HI (bo Nm (av (aK (.str [109,111,118,101,115]))) (aq 5)))
  (bL 5 (dE (II (je 5) (II (ib (aI 5)) (ic (aI 5)))) [none] (aD 0) fI (aB cY (av (aK (.str [115]))) (aq 0))))
  cw)
  (d9 (a8 fg (ah (aq 5) aH))))
noncomputable def j4:FS:=(sSeq (bL 1 (aK (.str [97,98,99,100,101,102,103,104,105,106,107,108,109,110,111,112,113,114,115,116,117,118,119,120,121,122])))
  (sSeq (bL 2 (dE (dO (av (aK (.int 8)))) [none,some 0] (aD 0) fI (aB gm (av (eL aZ (ah (aq 1) (ah (aq 0) aH)))) (av (aK (.int 26))))))
  (sSeq (bL 3 (aB cY (av (aK (.int 1))) (av (aB gm (aq 0) (av (aK (.int 8)))))))
  (sSeq (bL 4 (aB gm (av (aB eD (aq 0) (av (aK (.int 8))))) (aq 3)))
  (sSeq (bL 5 (jV aT))
  (sSeq iq
  gB))))))
def cZ:List D->Res R:=fBody 1 7 j4
noncomputable def cR:FS:=(sSeq (Iu (HI (aB J3 (aq 5) (av (aB Ht (av (aB Ht (aq 6) (av (aK (.int 1))))) (aq 3)))))
  (d9 (aK .non))
  cw)
  (i0 (qW 4 (aB cY (av (aB wI (aq 5) (av (aB Ht (av (aB Ht (aq 6) (av (aK (.int 1))))) (aq 3))))) (av (aB Ht (av (aB Ht (aq 6) (av (aK (.int 2))))) (aq 3)))))))
def fR:FS:=(oJ (sU (ah (av (aI 1)) (ah (av (aB Ht (aq 0) (av (aK (.int 1))))) aH))) (jA 2 (aN (aD 5) (aN (aD 6) dr)))
  cR)
def ir:FS:=(d9 (a8 eE (ah (aq 4) aH)))
def lh:FS:=(sSeq (bL 3 (CW oV (av (aB Ht (aq 0) (av (aK (.int 0))))) (ah (aq 2) aH)))
  (sSeq (bL 4 (jV aT))
  (sSeq fR
  ir)))
def bQ:List D->Res R:=fBody 3 4 lh
noncomputable def di:FS:=(sSeq (bL 6 (eL bQ (ah (aq 0) (ah (av (aB Ht (aq 2) (aq 4))) (ah (aq 5) aH)))))
  (Iu (HI (bo isnO (aq 6) (av (aK .non))))
  (sSeq (Iu (HI (bo tF (aq 6) (aq 2)))
  (sSeq (Iu (HI (bo Ip (av (a8 iR (ah (aq 2) aH))) (aq 1)))
  (d9 (aK .non))
  cw)
  (i0 (qW 2 (aI 6))))
  cw)
  (i0 (qW 3 (dZ (aw (aI 4) (aw (aI 5) (aw (C4 ng (aq 2) (ah (aq 6) aH)) aT)))))))
  cw))
def gC:FS:=(oJ (qg (aB Ht (aq 0) (av (aK (.int 0))))) (aD 5)
  di)
def ji:FS:=(bL 4 (aB cY (aq 4) (av (aK (.int 1)))))
def dj:FS:=(sSeq gC
  ji)
def gD:FS:=(cq (HI (aB J3 (aq 4) (av (a8 iR (ah (aq 2) aH)))))
  dj 100000)
def jj:FS:=(d9 (dZ (aw (a8 fg (ah (aq 3) aH)) (aw (aI 2) aT))))
noncomputable def ma:FS:=(sSeq (bL 2 (jV (aw (a8 eE (ah (av (dE (qg (aB Ht (aq 0) (av (aK (.int 1))))) [none,none,none] (jA 3 (aN (aD 0) (aN (aD 1) (aN (aD 2) dr)))) fI (aI 0))) aH)) aT)))
  (sSeq (bL 3 (jV aT))
  (sSeq (bL 4 (aK (.int 0)))
  (sSeq gD
  jj))))
def bY:List D->Res R:=fBody 2 5 ma
def ft:FS:=(bL 3 (eL aZ (ah (av (aB cY (aq 4) (aq 3))) (ah (aq 2) aH))))
def jk:FS:=(oJ (qg (Fb (aq 0) (kJ (aB cY (aq 1) (aq 2))) (kJ (aB cY (aq 1) (av (aK (.int 84))))) (kJ (aK (.int 6))))) (aD 4)
  ft)
def iu:FS:=(d9 (mN 3))
def lj:FS:=(sSeq (bL 3 (aB cY (av (aK (.int 7))) (aq 2)))
  (sSeq jk
  iu))
def dt:List D->Res R:=fBody 3 2 lj
noncomputable def eG:FS:=(sSeq (bL 5 (eL aZ (ah (aq 0) (ah (aq 4) aH))))
  (sSeq (bL 6 (aB wI (av (aB gm (aq 5) (av (aK (.int 5))))) (av (aK (.int 2)))))
  (sSeq (bL 7 (aB eD (av (aB gm (av (aB eD (aq 5) (av (aK (.int 8))))) (av (aK (.int 4))))) (av (aK (.int 3)))))
  (sSeq (i0 (qW 2 (aB cY (av (a8 maxD (ah (av (aK (.int 0))) (ah (av (aB wI (av (aK (.int 0))) (aq 6))) aH)))) (aq 7))))
  (i0 (qW 3 (aB cY (av (a8 maxD (ah (av (aK (.int 0))) (ah (aq 6) aH)))) (aq 7))))))))
def iw:FS:=(oJ (dO (aq 1)) (aD 4)
  eG)
def gE:FS:=(d9 (Ap (aB gm (av (aB eD (aq 0) (av (aK (.int 16))))) (av (aK (.int 4)))) (mN 2) (mN 3)))
def j5:FS:=(sSeq (bL 2 (jV aT))
  (sSeq (bL 3 (jV aT))
  (sSeq iw
  gE)))
def c5:List D->Res R:=fBody 2 6 j5
noncomputable def jl:FS:=(sSeq (bL 2 (aB cY (av (aK (.int 1))) (av (aB gm (aq 1) (av (aB Bx (av (aK (.int 10))) (av (aK (.int 50)))))))))
  (sSeq (Eh (aI 0) (jA 3 (aN (aD 3) (aN (aD 4) (aN (aD 5) dr)))))
  (sSeq (bL 4 (a8 eE (ah (av (dE (II (je 4) (II (ib (aI 4)) (ic (aI 4)))) [none,some 2] (aD 0) fI (aB m7 (aq 1) (aq 0)))) aH)))
  (d9 (dZ (aw (aB cY (av (aB m7 (aq 2) (aq 3))) (av (aB gm (av (aB eD (aq 1) (av (aK (.int 7))))) (aq 2)))) (aw (aI 4) (aw (a8 eE (ah (av (dE (II (je 5) (II (ib (aI 5)) (ic (aI 5)))) [none,some 2] (aD 0) fI (aB m7 (aq 1) (aq 0)))) aH)) aT))))))))
def b6:List D->Res R:=fBody 2 4 jl
noncomputable def cS:FS:=(sSeq (bL 5 (eL dt (ah (aq 0) (ah (aq 1) (ah (aq 4) aH)))))
  (sSeq (bL 6 (eL c5 (ah (aq 5) (ah (aq 2) aH))))
  (sSeq (i0 (qW 3 (eL b6 (ah (aq 6) (ah (av (eL aO (ah (aq 0) (ah (av (aB cY (aq 1) (aq 4))) aH)))) aH)))))
  (Iu (HI (aB Ph (av (aB gm (av (aB eD (aq 5) (av (aK (.int 64))))) (av (aK (.int 3))))) (av (aK (.int 0)))))
  (sSeq (bL 7 (dZ (aw (aB gm (av (aB eD (aq 5) (av (aK (.int 256))))) (av (aK (.int 4)))) (aw (aB Ht (av (aI 6)) (av (aK (.int 2)))) (aw (aB Ht (av (aI 6)) (av (aK (.int 1)))) aT)))))
  (i0 (qW 3 (eL b6 (ah (aq 7) (ah (av (eL aO (ah (aq 0) (ah (av (aB cY (av (aB cY (aq 1) (av (aK (.int 6))))) (aq 4))) aH)))) aH))))))
  cw))))
def gF:FS:=(oJ (dO (av (aB cY (av (aK (.int 1))) (av (aB gm (av (aB eD (av (eL aO (ah (aq 0) (ah (av (aK (.int 1))) aH)))) (av (aK (.int 4))))) (av (aK (.int 4)))))))) (aD 4)
  cS)
def f9:FS:=(d9 (mN 3))
def jm:FS:=(sSeq (bL 3 (jV aT))
  (sSeq gF
  f9))
def cK:List D->Res R:=fBody 3 5 jm
noncomputable def j6:FS:=(sSeq (bL 1 (eL cZ (ah (av (eL aO (ah (aq 0) (ah (av (aK (.int 0))) aH)))) aH)))
  (sSeq (bL 2 (eL aO (ah (aq 0) (ah (av (aK (.int 1))) aH))))
  (sSeq (bL 3 (aB cY (av (aK (.int 1))) (av (aB gm (aq 2) (av (aK (.int 3)))))))
  (sSeq (bL 4 (aB gm (av (aB eD (aq 2) (av (aK (.int 32))))) (av (aB wI (av (aK (.int 6))) (aq 3)))))
  (d9 (a8 eE (ah (av (Ag (aq 1) (kJ (aI 4)) (kJ (aB cY (aq 4) (aq 3))))) aH)))))))
def c6:List D->Res R:=fBody 1 4 j6
noncomputable def me:FS:=(sSeq (bL 2 (eL c6 (ah (aq 0) aH)))
  (sSeq (bL 3 (a8 iR (ah (aq 2) aH)))
  (sSeq (bL 4 (eL cK (ah (aq 0) (ah (aq 1) (ah (aq 3) aH)))))
  (sSeq (Iu (HI (bo isnO (av (eL bY (ah (av (dZ (aw (aI 2) (aw (aI 4) aT)))) (ah (av (aK (.int 8))) aH)))) (av (aK .non))))
  (d9 (dZ (aw (aI 2) (aw (aI 4) aT))))
  cw)
  (sSeq (bL 5 (a8 eE (ah (av (dE (II (je 2) (II (ib (aI 2)) (ic (aI 2)))) [none] (aD 0) fI (aK (.int 1)))) aH)))
  (sSeq (bL 6 (a8 eE (ah (av (dE (II (je 2) (II (ib (aI 2)) (ic (aI 2)))) [none] (aD 0) fI (aK (.int 0)))) aH)))
  (sSeq (Iu (HI (bo isnO (av (eL bY (ah (av (dZ (aw (aI 2) (aw (aB cY (aq 4) (av (jV (aw (dZ (aw (aK (.int 2)) (aw (aI 5) (aw (aI 6) aT)))) aT)))) aT)))) (ah (av (aK (.int 8))) aH)))) (av (aK .non))))
  (d9 (dZ (aw (aI 2) (aw (aB cY (aq 4) (av (jV (aw (dZ (aw (aK (.int 2)) (aw (aI 5) (aw (aI 6) aT)))) aT)))) aT))))
  cw)
  (d9 (dZ (aw (aI 2) (aw (aB cY (aq 4) (av (jV (aw (dZ (aw (aK (.int 1)) (aw (aI 5) (aw (aI 6) aT)))) aT)))) aT)))))))))))
def du:List D->Res R:=fBody 2 5 me
def cT:FS:=(Iu (HI (bo Nm (aq 3) (aq 1)))
  (sSeq (bL 7 (dZ (aw (C4 ng (aq 1) (ah (aq 3) aH)) (aw (aI 4) (aw (C4 ng (aq 1) (ah (aq 5) aH)) aT)))))
  (Iu (HI (bo tF (aq 7) (aq 6)))
  (i0 (qW 6 (aI 7)))
  cw))
  cw)
def gH:FS:=(oJ (qg (aI 0)) (jA 3 (aN (aD 3) (aN (aD 4) (aN (aD 5) dr))))
  cT)
def gc:FS:=(d9 (a8 fg (ah (aq 6) aH)))
def cU:FS:=(Iu (sP (HI (bo Ip (aq 3) (av (aB Ht (aq 1) (aq 2))))) (HI (bo tF (aq 5) (aq 1))))
  (i0 (qW 1 (aI 5)))
  cw)
def gI:FS:=(oJ (qg (a8 fg (ah (aq 0) aH))) (jA 3 (aN (aD 3) (aN (aD 4) (aN (aD 5) dr))))
  cU)
def gf:FS:=(bL 2 (aB cY (aq 2) (av (aK (.int 1)))))
def dQ:FS:=(sSeq gI
  gf)
def eI:FS:=(cq (HI (aB J3 (aq 2) (av (a8 iR (ah (aq 1) aH)))))
  dQ 100000)
def gj:FS:=(sSeq (bL 6 (jV aT))
  (sSeq gH
  gc))
def jo:FS:=(sSeq (bL 1 (jV (aw (aK (.int 0)) aT)))
  (sSeq (bL 2 (aK (.int 0)))
  (sSeq eI
  gj)))
def b7:List D->Res R:=fBody 1 7 jo
noncomputable def ll:FS:=(sSeq (bL 3 (aB cY (av (aK (.int 1))) (av (a8 maxD (ah (av (aB cY (av (jV (aw (aK (.int 0)) aT))) (av (dE (II (je 1) (II (ib (aI 1)) (ic (aI 1)))) [none] (aD 0) fI (a8 maxD (ah (av (aB Ht (aq 0) (av (aK (.int 0))))) (ah (av (aB Ht (aq 0) (av (aK (.int 2))))) aH))))))) aH)))))
  (sSeq (bL 4 (aB gm (av (aB eD (aq 2) (av (aK (.int 128))))) (av (a8 Ei (ah (av (aB cY (aq 3) (av (aK (.int 1))))) (ah (av (aK (.int 12))) aH))))))
  (sSeq (bL 5 (aB Ht (aq 0) (av (aB gm (av (aB eD (aq 2) (av (aK (.int 2048))))) (av (a8 iR (ah (aq 0) aH)))))))
  (sSeq (Iu (Nj (HI (bo Ip (aq 1) (av (jV aT)))) (HI (bo Ip (av (aB gm (aq 2) (av (aK (.int 5))))) (av (aK (.int 3))))))
  (d9 (aB cY (aq 1) (av (jV (aw (dZ (aw (aB gm (av (aB eD (aq 2) (av (aK (.int 8))))) (aq 3)) (aw (aI 5) (aw (aI 4) aT)))) aT)))))
  cw)
  (sSeq (bL 6 (aB gm (av (aB eD (aq 2) (av (aK (.int 16384))))) (av (a8 iR (ah (aq 1) aH)))))
  (sSeq (bL 7 (aB Ht (aq 1) (aq 6)))
  (sSeq (bL 8 (aB cY (av (Ag (aq 1) sR (kJ (aI 6)))) (av (Ag (aq 1) (kJ (aB cY (aq 6) (av (aK (.int 1))))) sR))))
  (sSeq (Iu (HI (bo Ip (av (aB gm (aq 2) (av (aK (.int 5))))) (av (aK (.int 0)))))
  (d9 (mN 8))
  cw)
  (sSeq (Iu (HI (bo Ip (av (aB gm (aq 2) (av (aK (.int 5))))) (av (aK (.int 1)))))
  (d9 (aB cY (aq 8) (av (jV (aw (dZ (aw (aB Ht (aq 7) (av (aK (.int 0)))) (aw (aB Ht (aq 7) (av (aK (.int 1)))) (aw (aI 4) aT)))) aT)))))
  cw)
  (sSeq (Iu (Nj (HI (bo Ip (av (aB gm (aq 2) (av (aK (.int 5))))) (av (aK (.int 2))))) (HI (bo Ip (aq 3) (av (aK (.int 1))))))
  (d9 (aB cY (aq 8) (av (jV (aw (dZ (aw (aB Ht (aq 7) (av (aK (.int 0)))) (aw (aI 5) (aw (aB Ht (aq 7) (av (aK (.int 2)))) aT)))) aT)))))
  cw)
  (sSeq (bL 9 (aB cY (av (aK (.int 1))) (av (aB gm (av (aB eD (aq 2) (av (aK (.int 8))))) (av (aB wI (aq 3) (av (aK (.int 1)))))))))
  (sSeq (bL 10 (dE (dO (aq 3)) [none] (aD 0) fI (aI 0)))
  (sSeq (ve 10 (aI 9) (aB gm (aq 4) (aq 3)))
  (d9 (dE (II (je 1) (II (ib (aI 1)) (ic (aI 1)))) [none,none,none,some 10] (jA 3 (aN (aD 0) (aN (aD 1) (aN (aD 2) dr)))) fI (dZ (aw (aB Ht (aq 3) (aq 0)) (aw (aI 1) (aw (aB Ht (aq 3) (aq 2)) aT)))))))))))))))))))
def dv:List D->Res R:=fBody 3 8 ll
def j7:FS:=(d9 (a8 eE (ah (av (dE (qg (aB Ht (aq 0) (av (aK (.int 1))))) [none,none,none] (jA 3 (aN (aD 0) (aN (aD 1) (aN (aD 2) dr)))) fI (aI 0))) aH)))
def c7:List D->Res R:=fBody 1 0 j7
def dY:FS:=(Iu (sP (HI (bo Je (aq 12) (aq 10))) (HI (bo Ip (av (aB Jq (aq 2) (aq 12))) (aq 8))))
  (d9 (dZ (aw (aK (.str [111,110,101])) (aw (aB Jq (aq 3) (aq 12)) (aw (aI 11) aT)))))
  cw)
def iy:FS:=(oJ (qg (aI 4)) (aD 12)
  dY)
def gJ:FS:=(lendR 4 [0,1,9] iy)
noncomputable def jq:FS:=(sSeq (Iu (sP (HI (bo Nm (aq 10) (aq 2))) (HI (bo Je (av (aB Jq (aq 2) (aq 10))) (aq 8))))
  (d9 (dZ (aw (aK (.str [116,119,111])) (aw (aB Jq (aq 3) (aq 10)) (aw (aI 11) aT)))))
  cw)
  (Iu (HI (bo tF (aq 10) (aq 2)))
  (sSeq (z9 2 (aI 10) (aI 8))
  (sSeq (z9 3 (aI 10) (aI 11))
  (i0 (qW 4 (aI 10)))))
  cw))
def b8:FS:=(sSeq (bL 11 (aB cY (av (aB Jq (aq 3) (aq 6))) (av (dZ (aw (aI 7) aT)))))
  (sSeq gJ
  jq))
def eW:FS:=(oJ (qg (aI 9)) (aD 10)
  b8)
noncomputable def b9:FS:=(sSeq (bL 8 (eL bQ (ah (aq 1) (ah (av (aB Jq (aq 2) (aq 6))) (ah (aq 7) aH)))))
  (sSeq (bL 9 (dE (qg (aB Ht (aq 0) (av (aK (.int 1))))) [none,none,none,some 6,some 7] (jA 3 (aN (aD 0) (aN (aD 1) (aN (aD 2) dr)))) (sP (HI (bo Ip (aq 0) (aq 3))) (HI (bo Ip (aq 1) (aq 4)))) (aI 2)))
  (sSeq (Iu (sP (HI (bo Je (aq 9) (av (jV aT)))) (HI (bo Nl (aq 8) (av (aK .non)))))
  (d9 (dZ (aw (aK (.str [115,116,117,99,107])) (aw (aB Jq (aq 3) (aq 6)) (aw (aI 7) aT)))))
  cw)
  (sSeq (Iu (sP (HI (bo Ip (aq 9) (av (jV aT)))) (HI (bo isnO (aq 8) (av (aK .non)))))
  (d9 (dZ (aw (aK (.str [102,114,101,101])) (aw (aB Jq (aq 3) (aq 6)) (aw (aI 7) aT)))))
  cw)
  eW))))
def gK:FS:=(oJ (qg (aB Ht (aq 0) (av (aK (.int 0))))) (aD 7)
  b9)
def jr:FS:=(bL 5 (aB cY (aq 5) (av (aK (.int 1)))))
def cM:FS:=(sSeq (bL 6 (aB Ht (aq 4) (aq 5)))
  (sSeq gK
  jr))
def gL:FS:=(cq (HI (aB J3 (aq 5) (av (a8 iR (ah (aq 4) aH)))))
  cM 100000)
def jt:FS:=(d9 (dZ (aw (aK (.str [115,97,109,101])) (aw (dE (dO (av (a8 iR (ah (aq 4) aH)))) [none,some 2] (aD 0) fI (aB Jq (aq 1) (aq 0))) aT))))
def mf:FS:=(sSeq (bL 2 (oY (aK (.int 0)) (eL c7 (ah (aq 1) aH))))
  (sSeq (bL 3 (oY (aK (.int 0)) (dZ aT)))
  (sSeq (bL 4 (jV (aw (aK (.int 0)) aT)))
  (sSeq (bL 5 (aK (.int 0)))
  (sSeq gL
  jt)))))
def cN:List D->Res R:=fBody 2 11 mf
noncomputable def ni:FS:=(sSeq (bL 5 (eL aZ (ah (av (eL aO (ah (aq 0) (ah (aq 4) aH)))) (ah (aq 4) aH))))
  (Iu (HI (bo Ip (av (aB gm (av (aB eD (aq 5) (av (aK (.int 64))))) (av (aK (.int 3))))) (av (aK (.int 0)))))
  (bL 3 (eL b7 (ah (av (eL dv (ah (av (aB Ht (aq 1) (av (aK (.int 0))))) (ah (aq 3) (ah (av (aB eD (aq 5) (av (aK (.int 192))))) aH))))) aH)))
  cw))
def qh:FS:=(oJ (p5 (ah (av (aK (.int 2))) (ah (av (aK (.int 8))) aH))) (aD 4)
  ni)
noncomputable def rH:FS:=(sSeq (bL 6 (dZ (aw (aB Ht (aq 1) (av (aK (.int 0)))) (aw (eL b7 (ah (aq 3) aH)) aT))))
  (sSeq (bL 7 (eL cN (ah (aq 6) (ah (aq 1) aH))))
  (sSeq (bL 8 (jV (aw (dZ (aw (aB Ht (aq 1) (av (aK (.int 0)))) (aw (a8 mS (ah (av (aB Ht (aq 6) (av (aK (.int 1))))) aH)) aT))) (aw (dZ (aw (aB Ht (aq 1) (av (aK (.int 0)))) (aw (a8 mS (ah (av (aB Ht (aq 1) (av (aK (.int 1))))) aH)) aT))) aT))))
  (sSeq (bL 9 (eL dX (ah (av (aB Ht (aq 8) (av (aK (.int 0))))) (ah (av (aB Ht (aq 8) (av (aK (.int 1))))) aH))))
  (sSeq (Iu (Nj (Cs (HI (Qv "tuple" (aq 9)))) (Nj (HI (bo Je (aq 9) (aq 7))) (HI (bo Je (aq 8) (av (jV (aw (aI 6) (aw (aI 1) aT))))))))
  (d9 (aK (.bl false)))
  cw)
  (sSeq (Iu (HI (bo Je (av (aB Ht (av (eL dX (ah (av (dZ (aw (aB Ht (aq 1) (av (aK (.int 0)))) (aw (aI 2) aT)))) (ah (aq 1) aH)))) (av (aK (.int 0))))) (av (aK (.str [115,97,109,101])))))
  (d9 (aK (.bl false)))
  cw)
  (d9 (bo Ip (av (eL dX (ah (av (aB Ht (aq 8) (av (aK (.int 0))))) (ah (av (aB Ht (aq 8) (av (aK (.int 1))))) aH)))) (aq 7)))))))))
def C9:FS:=(sSeq (bL 1 (eL du (ah (aq 0) (ah (av (aK (.int 8))) aH))))
  (sSeq (bL 2 (aB Ht (av (eL bY (ah (aq 1) (ah (av (aK (.int 8))) aH)))) (av (aK (.int 0)))))
  (sSeq (bL 3 (a8 mS (ah (aq 2) aH)))
  (sSeq qh
  rH))))
def Ay:List D->Res R:=fBody 1 9 C9
end LW
namespace LW
open PySem PySem.Spec PyProof.Rows L2 NX PV
theorem By{α:Type}{Q:List α->Prop}(h:∀a,Q [a]):∀us,us.length=1->Q us
 |[a],_=>h a
theorem yK{α:Type}{Q:List α->Prop}(h:∀a b,Q [a,b]):∀us,us.length=2->Q us
 |[a,b],_=>h a b
theorem Az{α:Type}{Q:List α->Prop}(h:∀a b c,Q [a,b,c]):∀us,us.length=3->Q us
 |[a,b,c],_=>h a b c
theorem FY{α:Type}{Q:List α->Prop}(h:∀a b c d,Q [a,b,c,d]):∀us,us.length=4->Q us
 |[a,b,c,d],_=>h a b c d
theorem eJ{X:Cx}{tg e:Expr}{f:FX}(h:QE X e f):QI X tg e (II (Cu f) (II (ib f) (ic f))):=uS (zX h) (uS (i4 h) (i5 h))
def top(i:Nat):Stmt:=PySem.Challenge.pw_netfinder_k26_charts_held.main.body.getD i (.Pass ⟨0,0,0,0⟩)
theorem FZ:Str.ofString "two" = S [116,119,111]:=by decide +kernel
theorem F0:Str.ofString "one" = S [111,110,101]:=by decide +kernel
theorem F1:Str.ofString "free" = S [102,114,101,101]:=by decide +kernel
theorem F2:Str.ofString "stuck" = S [115,116,117,99,107]:=by decide +kernel
theorem Fd:Str.ofString "same" = S [115,97,109,101]:=by decide +kernel
theorem GQ:Str.ofString "moves" = S [109,111,118,101,115]:=by decide +kernel
theorem GR:Str.ofString "s" = S [115]:=by decide +kernel
theorem GS:Str.ofString "" = S []:=by decide +kernel
theorem GU:Str.ofString "abcdefghijklmnopqrstuvwxyz" = S [97,98,99,100,101,102,103,104,105,106,107,108,109,110,111,112,113,114,115,116,117,118,119,120,121,122]:=by decide +kernel
section
variable{P:Program}{w:World}{K:W.Frag}{mg:Str->Option Value}{base:Heap}
abbrev iL:Stmt:=top 4
theorem ph:FnScope ["chart"] ["chart"] (defScope iL):=fs
theorem pj(Df:Def K mg "states_of" iL)(IH:mg "max" = none):Ct P w K mg base "states_of" 1 (spF K cF):=
 fe Df ph (fun _ _ _ _ _ _=>By fun _=>rfl) fun f HG A outer s H E hr=>
  (aA (ba (aM aQ (ae ao) (ae (z7 rfl (by rfl) IH (bO [none,none,none] ["first","move","second"] rfl (bU (eJ (aW (aa (pv 0)) (ae ao)))) (fun _ _ _ _ _=>(have h:=(show List.Nodup (["first","move","second"]:List Str) from by decide +kernel);(f6 rfl (aS (aJ (i:=0) h rfl (lo rfl)) (aS (aJ (i:=1) h rfl (lo rfl)) (aS (aJ (i:=2) h rfl (lo rfl)) dJ)))))) (fun _ _ _ _ _=>cx) (fun _ _ _ _ _=>(a9 (oQ rfl) (by rfl) IH oS (af (aa (pv 0)) (af (aa (pv 2)) ay))))) ao)))))
abbrev lq:Stmt:=top 5
theorem sW:FnScope ["chart","state","move"] ["chart","state","move"] (defScope lq):=fs
theorem sX(Df:Def K mg "goes_to" lq):Ct P w K mg base "goes_to" 1 (spF K fF):=
 fe Df sW (fun _ _ _ _ _ _=>Az fun _ _ _=>rfl) fun f HG A outer s H E hr=>
  (aA (ba (bO [none,none,none,some 1,some 2] ["first","by","second","state","move"] rfl (bU (eJ (aW (aa (pv 0)) (ae ao)))) (fun _ _ _ _ _=>(have h:=(show List.Nodup (["first","by","second","state","move"]:List Str) from by decide +kernel);(f6 rfl (aS (aJ (i:=0) h rfl (lo rfl)) (aS (aJ (i:=1) h rfl (lo rfl)) (aS (aJ (i:=2) h rfl (lo rfl)) dJ)))))) (fun _ _ _ _ _=>(uO (QW.qt (ij (aP (fM hr.units) (aa (pv 0)) (aa (pv 3)) (aV _)) (e9 (aP (fM hr.units) (aa (pv 1)) (aa (pv 4)) (aV _))))))) (fun _ _ _ _ _=>(az (pv 2))))))
abbrev eK:Stmt:=top 7
theorem kg:FnScope ["net"] ["net"] (defScope eK):=fs
theorem kh(Df:Def K mg "first_marking" eK)(Hr:mg "tuple" = none):Ct P w K mg base "first_marking" 1 (spF K bX):=
 fe Df kg (fun _ _ _ _ _ _=>By fun _=>rfl) fun f HG A outer s H E hr=>
  (aA (ba (bK dB (by rfl) Hr df (af (ae (bO [none] ["place"] rfl (bU (eJ (aW (aa (pv 0)) (ae ao)))) (fun _ _ _ _ _=>(aJ (i:=0) (show List.Nodup (["place"]:List Str) from by decide +kernel) rfl (lo rfl))) (fun _ _ _ _ _=>cx) (fun _ _ _ _ _=>(aW (aa (pv 0)) (ae ao))))) ay))))
abbrev nj:Stmt:=top 8
theorem pk:FnScope ["net","marking","move","at"] ["net","marking","move"] (defScope nj):=fs
theorem vC(Df:Def K mg "can_go" nj)(Kr:mg "all" = none)(Jo:mg "zip" = none):Ct P w K mg base "can_go" 1 (spF K hU):=
 fe Df pk (fun _ _ _ _ _ _=>Az fun _ _ _=>rfl) fun f HG A outer s H E hr=>
  (ag (aG (i:=3) pk.nd rfl (lo rfl) (u0 UM Vj iH (ae (aW (aa (pv 0)) (ae ao))) (af (aa (pv 2)) ay)))
  (aA (ba (a9 (CD rfl) (by rfl) Kr CS (af (ae (bO [none,none,some 3] ["beads","place","at"] rfl (bU (qe (by rfl) Jo (af (ae (az (pv 1))) (af (ae (aW (aa (pv 0)) (ae ao))) ay)))) (fun _ _ _ _ _=>(have h:=(show List.Nodup (["beads","place","at"]:List Str) from by decide +kernel);(f6 rfl (aS (aJ (i:=0) h rfl (lo rfl)) (aS (aJ (i:=1) h rfl (lo rfl)) dJ))))) (fun _ _ _ _ _=>cx) (fun _ _ _ _ _=>(Cr (CL hr.units0) (aa (pv 0)) (ae (aW (ae (aW (aa (pv 1)) (ae ao))) (aa (pv 2)))) (aV _))))) ay)))))
abbrev qi:Stmt:=top 9
theorem rJ:FnScope ["net","marking","move","at"] ["net","marking","move"] (defScope qi):=fs
theorem xK(Df:Def K mg "moved" qi)(LY:Ct P w K mg base "can_go" 1 (spF K hU))(Hr:mg "tuple" = none)(Jo:mg "zip" = none):Ct P w K mg base "moved" 2 (spF K jK):=
 fe Df rJ (fun _ _ _ _ _ _=>Az fun _ _ _=>rfl) fun f HG A outer s H E hr=>
  (ag (cJ (yA (yz (bq LY hr.m (by rfl) (af (aa (pv 0)) (af (aa (pv 1)) (af (aa (pv 2)) ay))))))
  (aA (ba eS))
  aX)
  (ag (aG (i:=3) rJ.nd rfl (lo rfl) (u0 UM Vj iH (ae (aW (aa (pv 0)) (ae ao))) (af (aa (pv 2)) ay)))
  (aA (ba (bK dB (by rfl) Hr df (af (ae (bO [none,none,some 3] ["beads","place","at"] rfl (bU (qe (by rfl) Jo (af (ae (az (pv 1))) (af (ae (aW (aa (pv 0)) (ae ao))) ay)))) (fun _ _ _ _ _=>(have h:=(show List.Nodup (["beads","place","at"]:List Str) from by decide +kernel);(f6 rfl (aS (aJ (i:=0) h rfl (lo rfl)) (aS (aJ (i:=1) h rfl (lo rfl)) dJ))))) (fun _ _ _ _ _=>cx) (fun _ _ _ _ _=>(aM aQ (ae (aM lY (aa (pv 0)) (ae (aW (ae (aW (aa (pv 1)) (ae ao))) (aa (pv 2)))))) (ae (aW (ae (aW (aa (pv 1)) (ae ao))) (aa (pv 2)))))))) ay))))))
abbrev vD:Stmt:=top 11
theorem vE:FnScope ["got","state","marking","way","other"] ["got","state","marking","way"] (defScope vD):=fs
theorem AA(Df:Def K mg "give" vD):Ct P w K mg base "give" 1 (spM K (.d) lg):=
 CZ Df vE (fun _ _ _ _ _ _=>FY fun _ _ _ _=>rfl) fun f HG A outer s H E hr=>
  (ag (Ax Tn rfl (pv 0) (aJ (i:=4) vE.nd rfl (lo rfl))
  (aA (cJ (QW.qt (ij (aP (mV hr.units) (aa (pv 4)) (aa (pv 1)) (aV _)) (e9 (aP (fM hr.units) (ae (aW (ae (ie (hu_of hr) (aa (pv 0)) (aa (pv 4)))) (ae ao))) (aa (pv 2)) (aV _)))))
  (aA (iI (i:=0) (bg (ai (d7 F0 (by decide)) (ai (aW (ae (ie (hu_of hr) (aa (pv 0)) (aa (pv 4)))) (ae ao)) (ai (az (pv 3)) aF))))))
  aX)))
  (ag (cJ (aP (k7 hr.u65) (aa (pv 1)) (aa (pv 0)) (by with_unfolding_all rfl))
  (aA (Av (hu_of hr) (pv 0) (az (pv 1)) (bg (ai (az (pv 2)) (ai (az (pv 3)) aF)))))
  (aA (cJ (aP (mV hr.units) (ae (aW (ae (ie (hu_of hr) (aa (pv 0)) (aa (pv 1)))) (ae ao))) (aa (pv 2)) (aV _))
  (aA (iI (i:=0) (bg (ai (d7 FZ (by decide)) (ai (aW (ae (ie (hu_of hr) (aa (pv 0)) (aa (pv 1)))) (ae ao)) (ai (az (pv 3)) aF))))))
  aX)))
  (aA (iI (i:=0) eS))))
abbrev lr:Stmt:=top 12
theorem c8:FnScope ["chart","net","got","state","marking","way","move","coming","seconds","second","against"] ["chart","net","got","state"] (defScope lr):=fs
theorem sY(Df:Def K mg "look_at" lr)(N5:Ct P w K mg base "give" 1 (spM K (.d) lg))(Lo:Ct P w K mg base "goes_to" 1 (spF K fF))(MA:Ct P w K mg base "moved" 2 (spF K jK))(HK:mg "len" = none):Ct P w K mg base "look_at" 3 (spJ 2 K (.d) dF):=
 C8 Df c8 (fun _ _ _ _ _ _=>FY fun _ _ _ _=>rfl) fun f HG A outer s H E hr=>
  (ag (aG (i:=4) c8.nd rfl (lo rfl) (aW (ae (ie (hu_of hr) (aa (pv 2)) (aa (pv 3)))) (ae ao)))
  (ag (aG (i:=5) c8.nd rfl (lo rfl) (aW (ae (ie (hu_of hr) (aa (pv 2)) (aa (pv 3)))) (ae ao)))
  (ag (eT Tn rfl (eJ (aW (aa (pv 0)) (ae ao))) (aJ (i:=6) c8.nd rfl (lo rfl))
  (ag (aG (i:=7) c8.nd rfl (lo rfl) (bq MA hr.m (by rfl) (af (aa (pv 1)) (af (aa (pv 4)) (af (aa (pv 6)) ay)))))
  (ag (aG (i:=8) c8.nd rfl (lo rfl) (bq Lo hr.m (by rfl) (af (aa (pv 0)) (af (aa (pv 3)) (af (aa (pv 6)) ay)))))
  (ag (cJ (QW.qt (ij (aP CI (aa (pv 7)) (ae eS) (aV _)) (e9 (jT Cz (ae (a9 dP (by rfl) HK bt_len (af (aa (pv 8)) ay))) (ae ao) (aV _)))))
  (aA (iI (i:=2) (bg (ai (d7 F2 (by decide)) (ai (az (pv 5)) (ai (az (pv 6)) aF))))))
  aX)
  (ag (cJ (QW.qt (ij (aP kQ (aa (pv 7)) (ae eS) (aV _)) (e9 (aP (fM hr.units) (ae (a9 dP (by rfl) HK bt_len (af (aa (pv 8)) ay))) (ae ao) (aV _)))))
  (aA (iI (i:=2) (bg (ai (d7 F1 (by decide)) (ai (az (pv 5)) (ai (az (pv 6)) aF))))))
  aX)
  (aA (eT Tn rfl (eJ (az (pv 8))) (aJ (i:=9) c8.nd rfl (lo rfl))
  (ag (aG (i:=10) c8.nd rfl (lo rfl) (An (i:=2) N5 hr.m (by rfl) (af (aa (pv 2)) (af (aa (pv 9)) (af (aa (pv 7)) (af (ae (aM aQ (aa (pv 5)) (ae (bg (ai (az (pv 6)) aF))))) ay))))))
  (aA (cJ (aP kQ (aa (pv 10)) (ae eS) (aV _))
  (aA (iI (i:=2) (az (pv 10))))
  aX))))))))))
  (aA (iI (i:=2) eS)))))
abbrev vF:Stmt:=top 13
theorem lu:FnScope ["chart","net","got","looked_at","against"] ["chart","net"] (defScope vF):=fs
theorem AB(Df:Def K mg "held" vF)(JD:Ct P w K mg base "first_marking" 1 (spF K bX))(Lp:Ct P w K mg base "look_at" 3 (spJ 2 K (.d) dF))(Ks:Ct P w K mg base "states_of" 1 (spF K cF))(HK:mg "len" = none)(Iz:mg "list" = none)(Hy:mg "range" = none):Ct P w K mg base "held" 4 (spF K dX):=
 fe Df lu (fun _ _ _ _ _ _=>yK fun _ _=>rfl) fun f HG A outer s H E hr=>
  (ag (cJ (aP (mV hr.units) (ae (aW (aa (pv 0)) (ae ao))) (ae (aW (aa (pv 1)) (ae ao))) (aV _))
  (aA xv)
  aX)
  (ag (aG (i:=2) lu.nd rfl (lo rfl) (m9 ao (bg (ai (bq JD hr.m (by rfl) (af (aa (pv 1)) ay)) (ai (bg aF) aF)))))
  (ag (aG (i:=3) lu.nd rfl (lo rfl) ao)
  (ag (kq 100000 Tn (jT (l6 hr.units0) (aa (pv 3)) (ae (a9 dP (by rfl) HK bt_len (af (aa (pv 2)) ay))) (aV _))
  (ag (aG (i:=4) lu.nd rfl (lo rfl) (Ar (j0:=2) (i:=2) Lp hr.m (by rfl) (af (aa (pv 0)) (af (aa (pv 1)) (af (aa (pv 2)) (af (ae (aW (ae (bK (xG rfl) (by rfl) Iz mC (af (aa (pv 2)) ay))) (aa (pv 3)))) ay))))))
  (ag (cJ (aP kQ (aa (pv 4)) (ae eS) (aV _))
  (aA (ba (jF (pv 4))))
  aX)
  (aA (aG (i:=3) lu.nd rfl (lo rfl) (aM aQ (aa (pv 3)) (ae ao)))))))
  (aA (ba (bg (ai (d7 Fd (by decide)) (ai (bO [none,some 2] ["state","got"] rfl (bU (eB (by rfl) Hy (ae (bq Ks hr.m (by rfl) (af (aa (pv 0)) ay))))) (fun _ _ _ _ _=>(aJ (i:=0) (show List.Nodup (["state","got"]:List Str) from by decide +kernel) rfl (lo rfl))) (fun _ _ _ _ _=>cx) (fun _ _ _ _ _=>(aW (ae (ie (hu_of hr) (aa (pv 1)) (aa (pv 0)))) (ae ao)))) aF)))))))))
abbrev fA:Stmt:=top 15
theorem lx:FnScope ["_law_script","_law_k"] ["_law_script","_law_k"] (defScope fA):=fs
theorem ly(Df:Def K mg "_law_cell_at" fA)(HK:mg "len" = none):Ct P w K mg base "_law_cell_at" 1 (spF K aO):=
 fe Df lx (fun _ _ _ _ _ _=>yK fun _ _=>rfl) fun f HG A outer s H E hr=>
  (ag (cJ (jT (l6 hr.units0) (aa (pv 1)) (ae (a9 dP (by rfl) HK bt_len (af (aa (pv 0)) ay))) (aV _))
  (aA (ba (aW (aa (pv 0)) (aa (pv 1)))))
  aX)
  (aA (ba ao)))
abbrev gM:Stmt:=top 16
theorem fS:FnScope ["_law_cell","_law_k","_law_number"] ["_law_cell","_law_k"] (defScope gM):=fs
theorem nq(Df:Def K mg "_law_mixed" gM):Ct P w K mg base "_law_mixed" 1 (spF K aZ):=
 fe Df fS (fun _ _ _ _ _ _=>yK fun _ _=>rfl) fun f HG A outer s H E hr=>
  (ag (aG (i:=2) fS.nd rfl (lo rfl) (aM aQ (ae (aM bM (aa (pv 0)) (ae ao))) (ae (aM gx (ae ao) (ae (aM aQ (aa (pv 1)) (ae ao)))))))
  (ag (aG (i:=2) fS.nd rfl (lo rfl) (aM bM (ae (aM aQ (ae (aM gx (aa (pv 2)) (aa (pv 2)))) (ae (aM gx (ae ao) (aa (pv 1)))))) (ae ao)))
  (aA (ba (aM bM (ae (aM aQ (ae (aM aQ (ae (aM gx (aa (pv 2)) (aa (pv 2)))) (ae (aM gx (ae ao) (aa (pv 1)))))) (ae ao))) (ae ao))))))
abbrev gN:Stmt:=top 17
theorem br:FnScope ["_law_cell","_law_letters","_law_base","_law_width","_law_spot","_law_names_here","_law_k","_law_moved_on"] ["_law_cell"] (defScope gN):=fs
theorem nr(Df:Def K mg "_law_names" gN)(HF:Ct P w K mg base "_law_mixed" 1 (spF K aZ))(Hy:mg "range" = none)(HP:mg "sorted" = none):Ct P w K mg base "_law_names" 2 (spF K cZ):=
 fe Df br (fun _ _ _ _ _ _=>By fun _=>rfl) fun f HG A outer s H E hr=>
  (ag (aG (i:=1) br.nd rfl (lo rfl) (d7 GU (by decide)))
  (ag (m6 (i:=2) [none,some 0] ["_law_j","_law_cell"] br.nd rfl (lo rfl) rfl (bU (eB (by rfl) Hy (ae ao))) (fun _ _ _ _ _=>(aJ (i:=0) (show List.Nodup (["_law_j","_law_cell"]:List Str) from by decide +kernel) rfl (lo rfl))) (fun _ _ _ _ _=>cx) (fun _ _ _ _ _=>(aM bM (ae (bq HF hr.m (by rfl) (af (aa (pv 1)) (af (aa (pv 0)) ay)))) (ae ao))))
  (ag (aG (i:=3) br.nd rfl (lo rfl) (aM aQ (ae ao) (ae (aM bM (aa (pv 0)) (ae ao)))))
  (ag (aG (i:=4) br.nd rfl (lo rfl) (aM bM (ae (aM cB (aa (pv 0)) (ae ao))) (aa (pv 3))))
  (ag (aG (i:=5) br.nd rfl (lo rfl) (cP aF))
  (ag (eT Tn rfl (eB (by rfl) Hy (ae ao)) (aJ (i:=6) br.nd rfl (lo rfl))
  (ag (aG (i:=7) br.nd rfl (lo rfl) (oU (aa (pv 2)) mR (fL (az (pv 3)))))
  (ag (vf (pv 7) (az (pv 4)) (aM bM (ae (aM aQ (ae (aW (aa (pv 7)) (aa (pv 4)))) (aa (pv 6)))) (ae ao)))
  (ag (cJ (aP (fM hr.units) (ae (aM bM (ae (aM cB (aa (pv 0)) (ae ao))) (ae ao))) (ae ao) (aV _))
  (aA (aG (i:=7) br.nd rfl (lo rfl) (oU (aa (pv 2)) mR (fL (aM aQ (aa (pv 6)) (ae ao))))))
  aX)
  (aA (eh (cC (pv 5) (CN PySem.F.slot_str_join PySem.F.type_str_join Al (ae (d7 GS (by decide))) (af (ae (bO [none,some 1] ["_law_j","_law_letters"] rfl (dU (gw (pv 7)) (dU (bU (i4 (az (pv 7)))) (bU (i5 (az (pv 7)))))) (fun _ _ _ _ _=>(aJ (i:=0) (show List.Nodup (["_law_j","_law_letters"]:List Str) from by decide +kernel) rfl (lo rfl))) (fun _ _ _ _ _=>cx) (fun _ _ _ _ _=>(aW (aa (pv 1)) (aa (pv 0)))))) ay)))))))))
  (ag (cJ (aP (vg hr.u65) (ae (d7 GQ (by decide))) (aa (pv 5)) (by with_unfolding_all rfl))
  (aA (m6 (i:=5) [none] ["_law_name"] br.nd rfl (lo rfl) rfl (dU (gw (pv 5)) (dU (bU (i4 (az (pv 5)))) (bU (i5 (az (pv 5)))))) (fun _ _ _ _ _=>(aJ (i:=0) (show List.Nodup (["_law_name"]:List Str) from by decide +kernel) rfl (lo rfl))) (fun _ _ _ _ _=>cx) (fun _ _ _ _ _=>(aM aQ (ae (d7 GR (by decide))) (aa (pv 0))))))
  aX)
  (aA (ba (a9 (jb rfl) (by rfl) HP jd (af (aa (pv 5)) ay)))))))))))
abbrev iM:Stmt:=top 18
theorem dH:FnScope ["_law_net_here","_law_marking","_law_move","_law_k","_law_after","_law_beads","_law_place_here"] ["_law_net_here","_law_marking","_law_move"] (defScope iM):=fs
theorem pq(Df:Def K mg "_law_step" iM)(Hr:mg "tuple" = none)(Jo:mg "zip" = none):Ct P w K mg base "_law_step" 1 (spF K bQ):=
 fe Df dH (fun _ _ _ _ _ _=>Az fun _ _ _=>rfl) fun f HG A outer s H E hr=>
  (ag (aG (i:=3) dH.nd rfl (lo rfl) (u0 UM Vj iH (ae (aW (aa (pv 0)) (ae ao))) (af (aa (pv 2)) ay)))
  (ag (aG (i:=4) dH.nd rfl (lo rfl) (cP aF))
  (ag (eT Tn rfl (qe (by rfl) Jo (af (ae (az (pv 1))) (af (ae (aW (aa (pv 0)) (ae ao))) ay))) (f6 rfl (aS (aJ (i:=5) dH.nd rfl (lo rfl)) (aS (aJ (i:=6) dH.nd rfl (lo rfl)) dJ)))
  (ag (cJ (jT (l6 hr.units0) (aa (pv 5)) (ae (aW (ae (aW (aa (pv 6)) (ae ao))) (aa (pv 3)))) (aV _))
  (aA (ba eS))
  aX)
  (aA (eh (cC (pv 4) (aM aQ (ae (aM lY (aa (pv 5)) (ae (aW (ae (aW (aa (pv 6)) (ae ao))) (aa (pv 3)))))) (ae (aW (ae (aW (aa (pv 6)) (ae ao))) (aa (pv 3))))))))))
  (aA (ba (bK dB (by rfl) Hr df (af (aa (pv 4)) ay)))))))
abbrev jL:Stmt:=top 19
theorem cX:FnScope ["_law_net_here","_law_most","_law_markings","_law_arcs","_law_done","_law_move","_law_after"] ["_law_net_here","_law_most"] (defScope jL):=fs
theorem qj(Df:Def K mg "_law_run" jL)(IS:Ct P w K mg base "_law_step" 1 (spF K bQ))(HK:mg "len" = none)(HP:mg "sorted" = none)(Hr:mg "tuple" = none):Ct P w K mg base "_law_run" 2 (spF K bY):=
 fe Df cX (fun _ _ _ _ _ _=>yK fun _ _=>rfl) fun f HG A outer s H E hr=>
  (ag (aG (i:=2) cX.nd rfl (lo rfl) (cP (ai (bK dB (by rfl) Hr df (af (ae (bO [none,none,none] ["_law_beads","_law_takes","_law_gives"] rfl (bU (eJ (aW (aa (pv 0)) (ae ao)))) (fun _ _ _ _ _=>(have h:=(show List.Nodup (["_law_beads","_law_takes","_law_gives"]:List Str) from by decide +kernel);(f6 rfl (aS (aJ (i:=0) h rfl (lo rfl)) (aS (aJ (i:=1) h rfl (lo rfl)) (aS (aJ (i:=2) h rfl (lo rfl)) dJ)))))) (fun _ _ _ _ _=>cx) (fun _ _ _ _ _=>(az (pv 0))))) ay)) aF)))
  (ag (aG (i:=3) cX.nd rfl (lo rfl) (cP aF))
  (ag (aG (i:=4) cX.nd rfl (lo rfl) ao)
  (ag (kq 100000 Tn (jT (l6 hr.units0) (aa (pv 4)) (ae (a9 dP (by rfl) HK bt_len (af (aa (pv 2)) ay))) (aV _))
  (ag (eT Tn rfl (eJ (aW (aa (pv 0)) (ae ao))) (aJ (i:=5) cX.nd rfl (lo rfl))
  (ag (aG (i:=6) cX.nd rfl (lo rfl) (bq IS hr.m (by rfl) (af (aa (pv 0)) (af (ae (aW (aa (pv 2)) (aa (pv 4)))) (af (aa (pv 5)) ay)))))
  (aA (cJ (aP kQ (aa (pv 6)) (ae eS) (aV _))
  (ag (cJ (aP (k7 hr.u65) (aa (pv 6)) (aa (pv 2)) (by with_unfolding_all rfl))
  (ag (cJ (aP (fM hr.units) (ae (a9 dP (by rfl) HK bt_len (af (aa (pv 2)) ay))) (aa (pv 1)) (aV _))
  (aA (ba eS))
  aX)
  (aA (eh (cC (pv 2) (az (pv 6))))))
  aX)
  (aA (eh (cC (pv 3) (bg (ai (az (pv 4)) (ai (az (pv 5)) (ai (vp UT Vq (iJ hr.u65) (aa (pv 2)) (af (aa (pv 6)) ay)) aF))))))))
  aX))))
  (aA (aG (i:=4) cX.nd rfl (lo rfl) (aM aQ (aa (pv 4)) (ae ao))))))
  (aA (ba (bg (ai (a9 (jb rfl) (by rfl) HP jd (af (aa (pv 3)) ay)) (ai (az (pv 2)) aF)))))))))
abbrev iN:Stmt:=top 20
theorem eX:FnScope ["_law_script","_law_first_here","_law_k","_law_number","_law_cell"] ["_law_script","_law_first_here","_law_k"] (defScope iN):=fs
theorem px(Df:Def K mg "_law_fold" iN)(HF:Ct P w K mg base "_law_mixed" 1 (spF K aZ)):Ct P w K mg base "_law_fold" 2 (spF K dt):=
 fe Df eX (fun _ _ _ _ _ _=>Az fun _ _ _=>rfl) fun f HG A outer s H E hr=>
  (ag (aG (i:=3) eX.nd rfl (lo rfl) (aM aQ (ae ao) (aa (pv 2))))
  (ag (eT Tn rfl (eJ (C7 (aa (pv 0)) (fL (aM aQ (aa (pv 1)) (aa (pv 2)))) (fL (aM aQ (aa (pv 1)) (ae ao))) (fL ao))) (aJ (i:=4) eX.nd rfl (lo rfl))
  (aA (aG (i:=3) eX.nd rfl (lo rfl) (bq HF hr.m (by rfl) (af (ae (aM aQ (aa (pv 4)) (aa (pv 3)))) (af (aa (pv 2)) ay))))))
  (aA (ba (jF (pv 3))))))
abbrev gO:Stmt:=top 21
theorem cb:FnScope ["_law_number","_law_count","_law_takes","_law_gives","_law_j","_law_mixed_here","_law_step_here","_law_loop"] ["_law_number","_law_count"] (defScope gO):=fs
theorem nu(Df:Def K mg "_law_place" gO)(HF:Ct P w K mg base "_law_mixed" 1 (spF K aZ))(IH:mg "max" = none)(Hy:mg "range" = none):Ct P w K mg base "_law_place" 2 (spF K c5):=
 fe Df cb (fun _ _ _ _ _ _=>yK fun _ _=>rfl) fun f HG A outer s H E hr=>
  (ag (aG (i:=2) cb.nd rfl (lo rfl) (cP aF))
  (ag (aG (i:=3) cb.nd rfl (lo rfl) (cP aF))
  (ag (eT Tn rfl (eB (by rfl) Hy (aa (pv 1))) (aJ (i:=4) cb.nd rfl (lo rfl))
  (ag (aG (i:=5) cb.nd rfl (lo rfl) (bq HF hr.m (by rfl) (af (aa (pv 0)) (af (aa (pv 4)) ay))))
  (ag (aG (i:=6) cb.nd rfl (lo rfl) (aM lY (ae (aM bM (aa (pv 5)) (ae ao))) (ae ao)))
  (ag (aG (i:=7) cb.nd rfl (lo rfl) (aM cB (ae (aM bM (ae (aM cB (aa (pv 5)) (ae ao))) (ae ao))) (ae ao)))
  (ag (eh (cC (pv 2) (aM aQ (ae (a9 (oQ rfl) (by rfl) IH oS (af (ae ao) (af (ae (aM lY (ae ao) (aa (pv 6)))) ay)))) (aa (pv 7)))))
  (aA (eh (cC (pv 3) (aM aQ (ae (a9 (oQ rfl) (by rfl) IH oS (af (ae ao) (af (aa (pv 6)) ay)))) (aa (pv 7)))))))))))
  (aA (ba (Aq (aM bM (ae (aM cB (aa (pv 0)) (ae ao))) (ae ao)) (jF (pv 2)) (jF (pv 3))))))))
abbrev fT:Stmt:=top 22
theorem cu:FnScope ["_law_place_here","_law_cell","_law_factor","_law_beads","_law_takes","_law_gives"] ["_law_place_here","_law_cell"] (defScope fT):=fs
theorem lO(Df:Def K mg "_law_scaled" fT)(Hr:mg "tuple" = none):Ct P w K mg base "_law_scaled" 1 (spF K b6):=
 fe Df cu (fun _ _ _ _ _ _=>yK fun _ _=>rfl) fun f HG A outer s H E hr=>
  (ag (aG (i:=2) cu.nd rfl (lo rfl) (aM aQ (ae ao) (ae (aM bM (aa (pv 1)) (ae (aM Cy (ae ao) (ae ao)))))))
  (ag (CP (az (pv 0)) (f6 rfl (aS (aJ (i:=3) cu.nd rfl (lo rfl)) (aS (aJ (i:=4) cu.nd rfl (lo rfl)) (aS (aJ (i:=5) cu.nd rfl (lo rfl)) dJ)))))
  (ag (aG (i:=4) cu.nd rfl (lo rfl) (bK dB (by rfl) Hr df (af (ae (bO [none,some 2] ["_law_take","_law_factor"] rfl (dU (gw (pv 4)) (dU (bU (i4 (az (pv 4)))) (bU (i5 (az (pv 4)))))) (fun _ _ _ _ _=>(aJ (i:=0) (show List.Nodup (["_law_take","_law_factor"]:List Str) from by decide +kernel) rfl (lo rfl))) (fun _ _ _ _ _=>cx) (fun _ _ _ _ _=>(aM gx (aa (pv 1)) (aa (pv 0)))))) ay)))
  (aA (ba (bg (ai (aM aQ (ae (aM gx (aa (pv 2)) (aa (pv 3)))) (ae (aM bM (ae (aM cB (aa (pv 1)) (ae ao))) (aa (pv 2))))) (ai (az (pv 4)) (ai (bK dB (by rfl) Hr df (af (ae (bO [none,some 2] ["_law_give","_law_factor"] rfl (dU (gw (pv 5)) (dU (bU (i4 (az (pv 5)))) (bU (i5 (az (pv 5)))))) (fun _ _ _ _ _=>(aJ (i:=0) (show List.Nodup (["_law_give","_law_factor"]:List Str) from by decide +kernel) rfl (lo rfl))) (fun _ _ _ _ _=>cx) (fun _ _ _ _ _=>(aM gx (aa (pv 1)) (aa (pv 0)))))) ay)) aF)))))))))
abbrev fU:Stmt:=top 23
theorem cv:FnScope ["_law_script","_law_first_here","_law_count","_law_places_here","_law_k","_law_number","_law_place_here","_law_mate"] ["_law_script","_law_first_here","_law_count"] (defScope fU):=fs
theorem lP(Df:Def K mg "_law_places" fU)(Hu:Ct P w K mg base "_law_cell_at" 1 (spF K aO))(Kt:Ct P w K mg base "_law_fold" 2 (spF K dt))(Kb:Ct P w K mg base "_law_place" 2 (spF K c5))(Jf:Ct P w K mg base "_law_scaled" 1 (spF K b6))(Hy:mg "range" = none):Ct P w K mg base "_law_places" 3 (spF K cK):=
 fe Df cv (fun _ _ _ _ _ _=>Az fun _ _ _=>rfl) fun f HG A outer s H E hr=>
  (ag (aG (i:=3) cv.nd rfl (lo rfl) (cP aF))
  (ag (eT Tn rfl (eB (by rfl) Hy (ae (aM aQ (ae ao) (ae (aM bM (ae (aM cB (ae (bq Hu hr.m (by rfl) (af (aa (pv 0)) (af (ae ao) ay)))) (ae ao))) (ae ao)))))) (aJ (i:=4) cv.nd rfl (lo rfl))
  (ag (aG (i:=5) cv.nd rfl (lo rfl) (bq Kt hr.m (by rfl) (af (aa (pv 0)) (af (aa (pv 1)) (af (aa (pv 4)) ay)))))
  (ag (aG (i:=6) cv.nd rfl (lo rfl) (bq Kb hr.m (by rfl) (af (aa (pv 5)) (af (aa (pv 2)) ay))))
  (ag (eh (cC (pv 3) (bq Jf hr.m (by rfl) (af (aa (pv 6)) (af (ae (bq Hu hr.m (by rfl) (af (aa (pv 0)) (af (ae (aM aQ (aa (pv 1)) (aa (pv 4)))) ay)))) ay)))))
  (aA (cJ (jT Cz (ae (aM bM (ae (aM cB (aa (pv 5)) (ae ao))) (ae ao))) (ae ao) (aV _))
  (ag (aG (i:=7) cv.nd rfl (lo rfl) (bg (ai (aM bM (ae (aM cB (aa (pv 5)) (ae ao))) (ae ao)) (ai (aW (ae (az (pv 6))) (ae ao)) (ai (aW (ae (az (pv 6))) (ae ao)) aF)))))
  (aA (eh (cC (pv 3) (bq Jf hr.m (by rfl) (af (aa (pv 7)) (af (ae (bq Hu hr.m (by rfl) (af (aa (pv 0)) (af (ae (aM aQ (ae (aM aQ (aa (pv 1)) (ae ao))) (aa (pv 4)))) ay)))) ay)))))))
  aX))))))
  (aA (ba (jF (pv 3))))))
abbrev gP:Stmt:=top 24
theorem dk:FnScope ["_law_script","_law_names_here","_law_cell","_law_count","_law_start"] ["_law_script"] (defScope gP):=fs
theorem nv(Df:Def K mg "_law_moves" gP)(Hu:Ct P w K mg base "_law_cell_at" 1 (spF K aO))(Kc:Ct P w K mg base "_law_names" 2 (spF K cZ))(Hr:mg "tuple" = none):Ct P w K mg base "_law_moves" 3 (spF K c6):=
 fe Df dk (fun _ _ _ _ _ _=>By fun _=>rfl) fun f HG A outer s H E hr=>
  (ag (aG (i:=1) dk.nd rfl (lo rfl) (bq Kc hr.m (by rfl) (af (ae (bq Hu hr.m (by rfl) (af (aa (pv 0)) (af (ae ao) ay)))) ay)))
  (ag (aG (i:=2) dk.nd rfl (lo rfl) (bq Hu hr.m (by rfl) (af (aa (pv 0)) (af (ae ao) ay))))
  (ag (aG (i:=3) dk.nd rfl (lo rfl) (aM aQ (ae ao) (ae (aM bM (aa (pv 2)) (ae ao)))))
  (ag (aG (i:=4) dk.nd rfl (lo rfl) (aM bM (ae (aM cB (aa (pv 2)) (ae ao))) (ae (aM lY (ae ao) (aa (pv 3))))))
  (aA (ba (bK dB (by rfl) Hr df (af (ae (oU (aa (pv 1)) (fL (az (pv 4))) (fL (aM aQ (aa (pv 4)) (aa (pv 3)))))) ay))))))))
abbrev jM:Stmt:=top 25
theorem dw:FnScope ["_law_script","_law_first_here","_law_moves_here","_law_count","_law_places_here","_law_ones","_law_noughts"] ["_law_script","_law_first_here"] (defScope jM):=fs
theorem ql(Df:Def K mg "_law_net" jM)(Kd:Ct P w K mg base "_law_moves" 3 (spF K c6))(JV:Ct P w K mg base "_law_places" 3 (spF K cK))(IA:Ct P w K mg base "_law_run" 2 (spF K bY))(HK:mg "len" = none)(Hr:mg "tuple" = none):Ct P w K mg base "_law_net" 4 (spF K du):=
 fe Df dw (fun _ _ _ _ _ _=>yK fun _ _=>rfl) fun f HG A outer s H E hr=>
  (ag (aG (i:=2) dw.nd rfl (lo rfl) (bq Kd hr.m (by rfl) (af (aa (pv 0)) ay)))
  (ag (aG (i:=3) dw.nd rfl (lo rfl) (a9 dP (by rfl) HK bt_len (af (aa (pv 2)) ay)))
  (ag (aG (i:=4) dw.nd rfl (lo rfl) (bq JV hr.m (by rfl) (af (aa (pv 0)) (af (aa (pv 1)) (af (aa (pv 3)) ay)))))
  (ag (cJ (aP kQ (ae (bq IA hr.m (by rfl) (af (ae (bg (ai (az (pv 2)) (ai (az (pv 4)) aF)))) (af (ae ao) ay)))) (ae eS) (aV _))
  (aA (ba (bg (ai (az (pv 2)) (ai (az (pv 4)) aF)))))
  aX)
  (ag (aG (i:=5) dw.nd rfl (lo rfl) (bK dB (by rfl) Hr df (af (ae (bO [none] ["_law_move"] rfl (dU (gw (pv 2)) (dU (bU (i4 (az (pv 2)))) (bU (i5 (az (pv 2)))))) (fun _ _ _ _ _=>(aJ (i:=0) (show List.Nodup (["_law_move"]:List Str) from by decide +kernel) rfl (lo rfl))) (fun _ _ _ _ _=>cx) (fun _ _ _ _ _=>ao))) ay)))
  (ag (aG (i:=6) dw.nd rfl (lo rfl) (bK dB (by rfl) Hr df (af (ae (bO [none] ["_law_move"] rfl (dU (gw (pv 2)) (dU (bU (i4 (az (pv 2)))) (bU (i5 (az (pv 2)))))) (fun _ _ _ _ _=>(aJ (i:=0) (show List.Nodup (["_law_move"]:List Str) from by decide +kernel) rfl (lo rfl))) (fun _ _ _ _ _=>cx) (fun _ _ _ _ _=>ao))) ay)))
  (ag (cJ (aP kQ (ae (bq IA hr.m (by rfl) (af (ae (bg (ai (az (pv 2)) (ai (aM aQ (aa (pv 4)) (ae (cP (ai (bg (ai ao (ai (az (pv 5)) (ai (az (pv 6)) aF)))) aF)))) aF)))) (af (ae ao) ay)))) (ae eS) (aV _))
  (aA (ba (bg (ai (az (pv 2)) (ai (aM aQ (aa (pv 4)) (ae (cP (ai (bg (ai ao (ai (az (pv 5)) (ai (az (pv 6)) aF)))) aF)))) aF)))))
  aX)
  (aA (ba (bg (ai (az (pv 2)) (ai (aM aQ (aa (pv 4)) (ae (cP (ai (bg (ai ao (ai (az (pv 5)) (ai (az (pv 6)) aF)))) aF)))) aF))))))))))))
abbrev fV:Stmt:=top 26
theorem aU:FnScope ["_law_arcs","_law_order","_law_done","_law_one","_law_move","_law_other","_law_kept","_law_arc"] ["_law_arcs"] (defScope fV):=fs
theorem lQ(Df:Def K mg "_law_tidied" fV)(HK:mg "len" = none)(HP:mg "sorted" = none):Ct P w K mg base "_law_tidied" 1 (spF K b7):=
 fe Df aU (fun _ _ _ _ _ _=>By fun _=>rfl) fun f HG A outer s H E hr=>
  (ag (aG (i:=1) aU.nd rfl (lo rfl) (cP (ai ao aF)))
  (ag (aG (i:=2) aU.nd rfl (lo rfl) ao)
  (ag (kq 100000 Tn (jT (l6 hr.units0) (aa (pv 2)) (ae (a9 dP (by rfl) HK bt_len (af (aa (pv 1)) ay))) (aV _))
  (ag (eT Tn rfl (eJ (a9 (jb rfl) (by rfl) HP jd (af (aa (pv 0)) ay))) (f6 rfl (aS (aJ (i:=3) aU.nd rfl (lo rfl)) (aS (aJ (i:=4) aU.nd rfl (lo rfl)) (aS (aJ (i:=5) aU.nd rfl (lo rfl)) dJ))))
  (aA (cJ (QW.qt (ij (aP (fM hr.units) (aa (pv 3)) (ae (aW (aa (pv 1)) (aa (pv 2)))) (aV _)) (e9 (aP (k7 hr.u65) (aa (pv 5)) (aa (pv 1)) (by with_unfolding_all rfl)))))
  (aA (eh (cC (pv 1) (az (pv 5)))))
  aX)))
  (aA (aG (i:=2) aU.nd rfl (lo rfl) (aM aQ (aa (pv 2)) (ae ao))))))
  (ag (aG (i:=6) aU.nd rfl (lo rfl) (cP aF))
  (ag (eT Tn rfl (eJ (az (pv 0))) (f6 rfl (aS (aJ (i:=3) aU.nd rfl (lo rfl)) (aS (aJ (i:=4) aU.nd rfl (lo rfl)) (aS (aJ (i:=5) aU.nd rfl (lo rfl)) dJ))))
  (aA (cJ (aP (vg hr.u65) (aa (pv 3)) (aa (pv 1)) (by with_unfolding_all rfl))
  (ag (aG (i:=7) aU.nd rfl (lo rfl) (bg (ai (vp UT Vq (iJ hr.u65) (aa (pv 1)) (af (aa (pv 3)) ay)) (ai (az (pv 4)) (ai (vp UT Vq (iJ hr.u65) (aa (pv 1)) (af (aa (pv 5)) ay)) aF)))))
  (aA (cJ (aP (k7 hr.u65) (aa (pv 7)) (aa (pv 6)) (by with_unfolding_all rfl))
  (aA (eh (cC (pv 6) (az (pv 7)))))
  aX)))
  aX)))
  (aA (ba (a9 (jb rfl) (by rfl) HP jd (af (aa (pv 6)) ay)))))))))
abbrev iO:Stmt:=top 27
theorem bP:FnScope ["_law_moves_here","_law_arcs","_law_number","_law_count","_law_other","_law_move","_law_spot","_law_arc","_law_rest","_law_gone","_law_ends"] ["_law_moves_here","_law_arcs","_law_number"] (defScope iO):=fs
theorem pA(Df:Def K mg "_law_bent" iO)(HK:mg "len" = none)(IH:mg "max" = none)(Ku:mg "min" = none)(Hy:mg "range" = none):Ct P w K mg base "_law_bent" 1 (spF K dv):=
 fe Df bP (fun _ _ _ _ _ _=>Az fun _ _ _=>rfl) fun f HG A outer s H E hr=>
  (ag (aG (i:=3) bP.nd rfl (lo rfl) (aM aQ (ae ao) (ae (a9 (oQ rfl) (by rfl) IH oS (af (ae (aM aQ (ae (cP (ai ao aF))) (ae (bO [none] ["_law_arc"] rfl (dU (gw (pv 1)) (dU (bU (i4 (az (pv 1)))) (bU (i5 (az (pv 1)))))) (fun _ _ _ _ _=>(aJ (i:=0) (show List.Nodup (["_law_arc"]:List Str) from by decide +kernel) rfl (lo rfl))) (fun _ _ _ _ _=>cx) (fun _ _ _ _ _=>(a9 (oQ rfl) (by rfl) IH oS (af (ae (aW (aa (pv 0)) (ae ao))) (af (ae (aW (aa (pv 0)) (ae ao))) ay)))))))) ay)))))
  (ag (aG (i:=4) bP.nd rfl (lo rfl) (aM bM (ae (aM cB (aa (pv 2)) (ae ao))) (ae (a9 (CU rfl) (by rfl) Ku CQ (af (ae (aM aQ (aa (pv 3)) (ae ao))) (af (ae ao) ay))))))
  (ag (aG (i:=5) bP.nd rfl (lo rfl) (aW (aa (pv 0)) (ae (aM bM (ae (aM cB (aa (pv 2)) (ae ao))) (ae (a9 dP (by rfl) HK bt_len (af (aa (pv 0)) ay)))))))
  (ag (cJ (QW.qt (xu (aP (fM hr.units) (aa (pv 1)) (ae (cP aF)) (aV _)) (uJ (aP (fM hr.units) (ae (aM bM (aa (pv 2)) (ae ao))) (ae ao) (aV _)))))
  (aA (ba (aM aQ (aa (pv 1)) (ae (cP (ai (bg (ai (aM bM (ae (aM cB (aa (pv 2)) (ae ao))) (aa (pv 3))) (ai (az (pv 5)) (ai (az (pv 4)) aF)))) aF))))))
  aX)
  (ag (aG (i:=6) bP.nd rfl (lo rfl) (aM bM (ae (aM cB (aa (pv 2)) (ae ao))) (ae (a9 dP (by rfl) HK bt_len (af (aa (pv 1)) ay)))))
  (ag (aG (i:=7) bP.nd rfl (lo rfl) (aW (aa (pv 1)) (aa (pv 6))))
  (ag (aG (i:=8) bP.nd rfl (lo rfl) (aM aQ (ae (oU (aa (pv 1)) mR (fL (az (pv 6))))) (ae (oU (aa (pv 1)) (fL (aM aQ (aa (pv 6)) (ae ao))) mR))))
  (ag (cJ (aP (fM hr.units) (ae (aM bM (aa (pv 2)) (ae ao))) (ae ao) (aV _))
  (aA (ba (jF (pv 8))))
  aX)
  (ag (cJ (aP (fM hr.units) (ae (aM bM (aa (pv 2)) (ae ao))) (ae ao) (aV _))
  (aA (ba (aM aQ (aa (pv 8)) (ae (cP (ai (bg (ai (aW (aa (pv 7)) (ae ao)) (ai (aW (aa (pv 7)) (ae ao)) (ai (az (pv 4)) aF)))) aF))))))
  aX)
  (ag (cJ (QW.qt (xu (aP (fM hr.units) (ae (aM bM (aa (pv 2)) (ae ao))) (ae ao) (aV _)) (uJ (aP (fM hr.units) (aa (pv 3)) (ae ao) (aV _)))))
  (aA (ba (aM aQ (aa (pv 8)) (ae (cP (ai (bg (ai (aW (aa (pv 7)) (ae ao)) (ai (az (pv 5)) (ai (aW (aa (pv 7)) (ae ao)) aF)))) aF))))))
  aX)
  (ag (aG (i:=9) bP.nd rfl (lo rfl) (aM aQ (ae ao) (ae (aM bM (ae (aM cB (aa (pv 2)) (ae ao))) (ae (aM lY (aa (pv 3)) (ae ao)))))))
  (ag (aG (i:=10) bP.nd rfl (lo rfl) (bO [none] ["_law_k"] rfl (bU (eB (by rfl) Hy (aa (pv 3)))) (fun _ _ _ _ _=>(aJ (i:=0) (show List.Nodup (["_law_k"]:List Str) from by decide +kernel) rfl (lo rfl))) (fun _ _ _ _ _=>cx) (fun _ _ _ _ _=>(az (pv 0)))))
  (ag (vf (pv 10) (az (pv 9)) (aM bM (aa (pv 4)) (aa (pv 3))))
  (aA (ba (bO [none,none,none,some 10] ["_law_one","_law_name","_law_two","_law_ends"] rfl (dU (gw (pv 1)) (dU (bU (i4 (az (pv 1)))) (bU (i5 (az (pv 1)))))) (fun _ _ _ _ _=>(have h:=(show List.Nodup (["_law_one","_law_name","_law_two","_law_ends"]:List Str) from by decide +kernel);(f6 rfl (aS (aJ (i:=0) h rfl (lo rfl)) (aS (aJ (i:=1) h rfl (lo rfl)) (aS (aJ (i:=2) h rfl (lo rfl)) dJ)))))) (fun _ _ _ _ _=>cx) (fun _ _ _ _ _=>(bg (ai (aW (aa (pv 3)) (aa (pv 0))) (ai (az (pv 1)) (ai (aW (aa (pv 3)) (aa (pv 2))) aF)))))))))))))))))))))
abbrev gQ:Stmt:=top 28
theorem ny:FnScope ["_law_net_here"] ["_law_net_here"] (defScope gQ):=fs
theorem nE(Df:Def K mg "_law_first" gQ)(Hr:mg "tuple" = none):Ct P w K mg base "_law_first" 1 (spF K c7):=
 fe Df ny (fun _ _ _ _ _ _=>By fun _=>rfl) fun f HG A outer s H E hr=>
  (aA (ba (bK dB (by rfl) Hr df (af (ae (bO [none,none,none] ["_law_beads","_law_takes","_law_gives"] rfl (bU (eJ (aW (aa (pv 0)) (ae ao)))) (fun _ _ _ _ _=>(have h:=(show List.Nodup (["_law_beads","_law_takes","_law_gives"]:List Str) from by decide +kernel);(f6 rfl (aS (aJ (i:=0) h rfl (lo rfl)) (aS (aJ (i:=1) h rfl (lo rfl)) (aS (aJ (i:=2) h rfl (lo rfl)) dJ)))))) (fun _ _ _ _ _=>cx) (fun _ _ _ _ _=>(az (pv 0))))) ay))))
abbrev jN:Stmt:=top 29
theorem bp:FnScope ["_law_chart","_law_net_here","_law_markings","_law_ways","_law_order","_law_done","_law_state","_law_move","_law_after","_law_ends","_law_other","_law_way","_law_there"] ["_law_chart","_law_net_here"] (defScope jN):=fs
theorem qm(Df:Def K mg "_law_due" jN)(Ke:Ct P w K mg base "_law_first" 1 (spF K c7))(IS:Ct P w K mg base "_law_step" 1 (spF K bQ))(HK:mg "len" = none)(Hy:mg "range" = none):Ct P w K mg base "_law_due" 2 (spF K cN):=
 fe Df bp (fun _ _ _ _ _ _=>yK fun _ _=>rfl) fun f HG A outer s H E hr=>
  (ag (aG (i:=2) bp.nd rfl (lo rfl) (m9 ao (bq Ke hr.m (by rfl) (af (aa (pv 1)) ay))))
  (ag (aG (i:=3) bp.nd rfl (lo rfl) (m9 ao (bg aF)))
  (ag (aG (i:=4) bp.nd rfl (lo rfl) (cP (ai ao aF)))
  (ag (aG (i:=5) bp.nd rfl (lo rfl) ao)
  (ag (kq 100000 Tn (jT (l6 hr.units0) (aa (pv 5)) (ae (a9 dP (by rfl) HK bt_len (af (aa (pv 4)) ay))) (aV _))
  (ag (aG (i:=6) bp.nd rfl (lo rfl) (aW (aa (pv 4)) (aa (pv 5))))
  (ag (eT Tn rfl (eJ (aW (aa (pv 0)) (ae ao))) (aJ (i:=7) bp.nd rfl (lo rfl))
  (ag (aG (i:=8) bp.nd rfl (lo rfl) (bq IS hr.m (by rfl) (af (aa (pv 1)) (af (ae (ie (hu_of hr) (aa (pv 2)) (aa (pv 6)))) (af (aa (pv 7)) ay)))))
  (ag (m6 (i:=9) [none,none,none,some 6,some 7] ["_law_one","_law_name","_law_other","_law_state","_law_move"] bp.nd rfl (lo rfl) rfl (bU (eJ (aW (aa (pv 0)) (ae ao)))) (fun _ _ _ _ _=>(have h:=(show List.Nodup (["_law_one","_law_name","_law_other","_law_state","_law_move"]:List Str) from by decide +kernel);(f6 rfl (aS (aJ (i:=0) h rfl (lo rfl)) (aS (aJ (i:=1) h rfl (lo rfl)) (aS (aJ (i:=2) h rfl (lo rfl)) dJ)))))) (fun _ _ _ _ _=>(uO (QW.qt (ij (aP (fM hr.units) (aa (pv 0)) (aa (pv 3)) (aV _)) (e9 (aP (fM hr.units) (aa (pv 1)) (aa (pv 4)) (aV _))))))) (fun _ _ _ _ _=>(az (pv 2))))
  (ag (cJ (QW.qt (ij (aP (mV hr.units) (aa (pv 9)) (ae (cP aF)) (aV _)) (e9 (aP CI (aa (pv 8)) (ae eS) (aV _)))))
  (aA (ba (bg (ai (d7 F2 (by decide)) (ai (ie (hu_of hr) (aa (pv 3)) (aa (pv 6))) (ai (az (pv 7)) aF))))))
  aX)
  (ag (cJ (QW.qt (ij (aP (fM hr.units) (aa (pv 9)) (ae (cP aF)) (aV _)) (e9 (aP kQ (aa (pv 8)) (ae eS) (aV _)))))
  (aA (ba (bg (ai (d7 F1 (by decide)) (ai (ie (hu_of hr) (aa (pv 3)) (aa (pv 6))) (ai (az (pv 7)) aF))))))
  aX)
  (aA (eT Tn rfl (eJ (az (pv 9))) (aJ (i:=10) bp.nd rfl (lo rfl))
  (ag (aG (i:=11) bp.nd rfl (lo rfl) (aM aQ (ae (ie (hu_of hr) (aa (pv 3)) (aa (pv 6)))) (ae (bg (ai (az (pv 7)) aF)))))
  (ag (xJ (eT Tn rfl (eJ (az (pv 4))) (aJ (i:=12) bp.nd rfl (lo rfl))
  (aA (cJ (QW.qt (ij (aP (mV hr.units) (aa (pv 12)) (aa (pv 10)) (aV _)) (e9 (aP (fM hr.units) (ae (ie (hu_of hr) (aa (pv 2)) (aa (pv 12)))) (aa (pv 8)) (aV _)))))
  (aA (ba (bg (ai (d7 F0 (by decide)) (ai (ie (hu_of hr) (aa (pv 3)) (aa (pv 12))) (ai (az (pv 11)) aF))))))
  aX))))
  (ag (cJ (QW.qt (ij (aP (vg hr.u65) (aa (pv 10)) (aa (pv 2)) (by with_unfolding_all rfl)) (e9 (aP (mV hr.units) (ae (ie (hu_of hr) (aa (pv 2)) (aa (pv 10)))) (aa (pv 8)) (aV _)))))
  (aA (ba (bg (ai (d7 FZ (by decide)) (ai (ie (hu_of hr) (aa (pv 3)) (aa (pv 10))) (ai (az (pv 11)) aF))))))
  aX)
  (aA (cJ (aP (k7 hr.u65) (aa (pv 10)) (aa (pv 2)) (by with_unfolding_all rfl))
  (ag (yF (hu_of hr) (pv 2) (az (pv 10)) (az (pv 8)))
  (ag (yF (hu_of hr) (pv 3) (az (pv 10)) (az (pv 11)))
  (aA (eh (cC (pv 4) (az (pv 10)))))))
  aX))))))))))))
  (aA (aG (i:=5) bp.nd rfl (lo rfl) (aM aQ (aa (pv 5)) (ae ao)))))))
  (aA (ba (bg (ai (d7 Fd (by decide)) (ai (bO [none,some 2] ["_law_k","_law_markings"] rfl (bU (eB (by rfl) Hy (ae (a9 dP (by rfl) HK bt_len (af (aa (pv 4)) ay))))) (fun _ _ _ _ _=>(aJ (i:=0) (show List.Nodup (["_law_k","_law_markings"]:List Str) from by decide +kernel) rfl (lo rfl))) (fun _ _ _ _ _=>cx) (fun _ _ _ _ _=>(ie (hu_of hr) (aa (pv 1)) (aa (pv 0))))) aF))))))))))
abbrev nF:Stmt:=top 30
theorem gR:FnScope ["_law_script","_law_net_here","_law_run_here","_law_arcs","_law_k","_law_number","_law_chart","_law_due_here","_law_handed","_law_found"] ["_law_script"] (defScope nF):=fs
theorem Dc{f:Addr}{fd:FuncData}(F:Fun K "law" "law" nF f fd)(Kv:Ct P w K mg base "_law_bent" 1 (spF K dv))(Hu:Ct P w K mg base "_law_cell_at" 1 (spF K aO))(KR:Ct P w K mg base "_law_due" 2 (spF K cN))(HF:Ct P w K mg base "_law_mixed" 1 (spF K aZ))(KS:Ct P w K mg base "_law_net" 4 (spF K du))(IA:Ct P w K mg base "_law_run" 2 (spF K bY))(Jg:Ct P w K mg base "_law_tidied" 1 (spF K b7))(KU:Ct P w K mg base "held" 4 (spF K dX))(HR:mg "isinstance" = none)(Iz:mg "list" = none)(Hy:mg "range" = none)(Hr:mg "tuple" = none):FnOk P w K mg base Lh 5 f fd ["_law_script"] (spF K Ay):=
 fnok_of F gR fun HG A outer s H E hr=>
  (ag (aG (i:=1) gR.nd rfl (lo rfl) (bq KS hr.m (by rfl) (af (aa (pv 0)) (af (ae ao) ay))))
  (ag (aG (i:=2) gR.nd rfl (lo rfl) (aW (ae (bq IA hr.m (by rfl) (af (aa (pv 1)) (af (ae ao) ay)))) (ae ao)))
  (ag (aG (i:=3) gR.nd rfl (lo rfl) (bK mT (by rfl) Iz mC (af (aa (pv 2)) ay)))
  (ag (eT Tn rfl (uN (by rfl) Hy (af (ae ao) (af (ae ao) ay))) (aJ (i:=4) gR.nd rfl (lo rfl))
  (ag (aG (i:=5) gR.nd rfl (lo rfl) (bq HF hr.m (by rfl) (af (ae (bq Hu hr.m (by rfl) (af (aa (pv 0)) (af (aa (pv 4)) ay)))) (af (aa (pv 4)) ay))))
  (aA (cJ (aP (fM hr.units) (ae (aM bM (ae (aM cB (aa (pv 5)) (ae ao))) (ae ao))) (ae ao) (aV _))
  (aA (aG (i:=3) gR.nd rfl (lo rfl) (bq Jg hr.m (by rfl) (af (ae (bq Kv hr.m (by rfl) (af (ae (aW (aa (pv 1)) (ae ao))) (af (aa (pv 3)) (af (ae (aM cB (aa (pv 5)) (ae ao))) ay))))) ay))))
  aX))))
  (ag (aG (i:=6) gR.nd rfl (lo rfl) (bg (ai (aW (aa (pv 1)) (ae ao)) (ai (bq Jg hr.m (by rfl) (af (aa (pv 3)) ay)) aF))))
  (ag (aG (i:=7) gR.nd rfl (lo rfl) (bq KR hr.m (by rfl) (af (aa (pv 6)) (af (aa (pv 1)) ay))))
  (ag (aG (i:=8) gR.nd rfl (lo rfl) (cP (ai (bg (ai (aW (aa (pv 1)) (ae ao)) (ai (bK mT (by rfl) Iz mC (af (ae (aW (aa (pv 6)) (ae ao))) ay)) aF))) (ai (bg (ai (aW (aa (pv 1)) (ae ao)) (ai (bK mT (by rfl) Iz mC (af (ae (aW (aa (pv 1)) (ae ao))) ay)) aF))) aF))))
  (ag (aG (i:=9) gR.nd rfl (lo rfl) (bq KU hr.m (by rfl) (af (ae (aW (aa (pv 8)) (ae ao))) (af (ae (aW (aa (pv 8)) (ae ao))) ay))))
  (ag (cJ (QW.qt (xu (yA (yz (E5 (T:="tuple") (by decide) (aa (pv 9)) (by rfl) HR (by rfl) Hr df))) (xu (aP (mV hr.units) (aa (pv 9)) (aa (pv 7)) (aV _)) (uJ (aP (mV hr.units) (aa (pv 8)) (ae (cP (ai (az (pv 6)) (ai (az (pv 1)) aF)))) (aV _))))))
  (aA (ba Cq))
  aX)
  (ag (cJ (aP (mV hr.units) (ae (aW (ae (bq KU hr.m (by rfl) (af (ae (bg (ai (aW (aa (pv 1)) (ae ao)) (ai (az (pv 2)) aF)))) (af (aa (pv 1)) ay)))) (ae ao))) (ae (d7 Fd (by decide))) (aV _))
  (aA (ba Cq))
  aX)
  (aA (ba (zV (fM hr.units) (ae (bq KU hr.m (by rfl) (af (ae (aW (aa (pv 8)) (ae ao))) (af (ae (aW (aa (pv 8)) (ae ao))) ay)))) (aa (pv 7)) (aV _))))))))))))))
end
end LW
namespace PV
open PySem L2 NX
class Cont (α β:Type) where
 run:α->Res β
def Res.bnd{α β:Type}[f:Cont α β](x:Res α):Res β:=x.bind f.run
theorem Hx{α β:Type}(a:α)(f:α->Res β):Res.bnd (Res.ok a) (f:=⟨f⟩)=f a:=id rfl
section
variable(env:PV.Env)(i n:Nat)(d:D)(f g:FX)(c c':FT)(fo QC fo'':FO)(fs:FOs)(fd:FDs)(s t:FS)(op op':D->D->Res R)(F:List D->Res R)(a:FG)(as:Mx)(fi fj:FI)(fp Hk:FP)(T:String)
theorem N6:aK d env=.ok ((.f,d),env):=id rfl
theorem Lb:aI i env=match env[i]? with|some (some r)=>.ok ((.f,r.2),env.set i (some (fz r.1,r.2)))|_=>.bad:=id rfl
theorem PU:fz .f=.f:=id rfl
theorem PX(c:O):fz (.l c)=.f:=id rfl
theorem PY(cs:List O):fz (.t cs)=.f:=id rfl
theorem MB(p:Addr):tu (.pin p .f)=true:=id rfl
theorem LZ(p:Addr):tu (.pin p .d)=true:=id rfl
theorem MC:mN i env=match env[i]? with|some (some r)=>.ok (r,env.set i none)|_=>.bad:=id rfl
theorem N7:av f env=Res.bnd (f env) (f:=⟨fun p=>.ok (.val p.1.2,p.2)⟩):=id rfl
theorem N8:aq i env=match env[i]? with|some (some _)=>.ok (.var i,env)|_=>.bad:=id rfl
theorem MD:aH env=.ok ([],env):=id rfl
theorem L0:ah fo fs env=Res.bnd (fo env) (f:=⟨fun p=>Res.bnd (fs p.2) (f:=⟨fun q=>.ok (p.1::q.1,q.2)⟩)⟩):=id rfl
theorem ME:aT env=.ok ([],env):=id rfl
theorem L1:aw f fd env=Res.bnd (f env) (f:=⟨fun p=>Res.bnd (fd p.2) (f:=⟨fun q=>.ok (p.1.2::q.1,q.2)⟩)⟩):=id rfl
theorem N9:IK env (.val d)=.ok d:=id rfl
theorem Oa:IK env (.var i)=match env[i]? with|some (some r)=>if tu r.1 then .ok r.2 else .bad|_=>.bad:=id rfl
theorem MF:sO env (.val d)=.ok d:=id rfl
theorem MG:sO env (.var i)=match env[i]? with|some (some r)=>.ok r.2|_=>.bad:=id rfl
theorem MH:oI env []=.ok []:=id rfl
theorem MI(o:Opd)(os:List Opd):oI env (o::os)=Res.bnd (IK env o) (f:=⟨fun d=>Res.bnd (oI env os) (f:=⟨fun ds=>.ok (d::ds)⟩)⟩):=id rfl
theorem L3:iY env []=.ok []:=id rfl
theorem L4(o:Opd)(os:List Opd):iY env (o::os)=Res.bnd (sO env o) (f:=⟨fun d=>Res.bnd (iY env os) (f:=⟨fun ds=>.ok (d::ds)⟩)⟩):=id rfl
theorem MJ:tu .f=true:=id rfl
theorem MK:tu (.l .f)=true:=id rfl
theorem ML:tu .d=true:=id rfl
theorem Ob:aB op fo QC env=Res.bnd (fo env) (f:=⟨fun p=>Res.bnd (QC p.2) (f:=⟨fun q=>Res.bnd (IK q.2 p.1) (f:=⟨fun a=>Res.bnd (IK q.2 q.1) (f:=⟨fun b=>Res.bnd (op a b) (f:=⟨fun r=>.ok (r,q.2)⟩)⟩)⟩)⟩)⟩):=id rfl
theorem MM:bo op fo QC env=Res.bnd (fo env) (f:=⟨fun p=>Res.bnd (QC p.2) (f:=⟨fun q=>Res.bnd (sO q.2 p.1) (f:=⟨fun a=>Res.bnd (sO q.2 q.1) (f:=⟨fun b=>Res.bnd (op a b) (f:=⟨fun r=>.ok (r,q.2)⟩)⟩)⟩)⟩)⟩):=id rfl
theorem PZ:HI f env=Res.bnd (f env) (f:=⟨fun p=>match p.1.2 with | .bl k=>.ok (k,p.2)|_=>.bad⟩):=id rfl
theorem Oc:sP c c' env=Res.bnd (c env) (f:=⟨fun p=>if p.1 then c' p.2 else .ok (false,p.2)⟩):=id rfl
theorem P0:Nj c c' env=Res.bnd (c env) (f:=⟨fun p=>if p.1 then .ok (true,p.2) else c' p.2⟩):=id rfl
theorem Oe:Cs c env=Res.bnd (c env) (f:=⟨fun p=>.ok (!p.1,p.2)⟩):=id rfl
theorem MN:a8 F fs env=Res.bnd (fs env) (f:=⟨fun p=>Res.bnd (oI p.2 p.1) (f:=⟨fun ds=>Res.bnd (F ds) (f:=⟨fun r=>.ok (r,p.2)⟩)⟩)⟩):=id rfl
theorem Of:eL F fs env=Res.bnd (fs env) (f:=⟨fun p=>Res.bnd (iY p.2 p.1) (f:=⟨fun ds=>Res.bnd (F ds) (f:=⟨fun r=>.ok (r,if cleanR r.1 r.2 then p.2 else p.2.map frz)⟩)⟩)⟩):=id rfl
theorem Og:dZ fd env=Res.bnd (fd env) (f:=⟨fun p=>if p.1.length<=1000 then .ok ((.f,.tup p.1),p.2) else .bad⟩):=id rfl
theorem Oh:jV fd env=Res.bnd (fd env) (f:=⟨fun p=>if p.1.length<=1000 then .ok ((.l .f,.lst p.1),p.2) else .bad⟩):=id rfl
theorem MO:sR env=.ok (none,env):=id rfl
theorem MP:kJ f env=Res.bnd (f env) (f:=⟨fun p=>match p.1.2 with | .int i=>.ok (some i,p.2)|_=>.bad⟩):=id rfl
theorem Oi:qW i f env=if uP env i then(Res.bnd (f env) (f:=⟨fun(p:R×PV.Env)=>match p.2[i]? with
 |some (some (.l .f,.lst ds))=>if ds.length<sizeLine then .ok ((.f,.non),p.2.set i (some (.l .f,.lst (ds++[p.1.2])))) else .bad
 |_=>.bad⟩)) else .bad:=id rfl
theorem MQ:uP env i=match env[i]? with|some (some (_,.lst _))=>true|_=>false:=id rfl
theorem P1:Qv T fo env=Res.bnd (fo env) (f:=⟨fun p=>Res.bnd (sO p.2 p.1) (f:=⟨fun d=>.ok ((.f,.bl (wK T d)),p.2)⟩)⟩):=id rfl
theorem MR:z6 f g env=Res.bnd (f env) (f:=⟨fun p=>Res.bnd (g p.2) (f:=⟨fun q=>match(oN p.1.2).bind dS,q.1.2 with|some ns,.int d=>.ok ((.f,.int (NX.maxD ns d)),q.2)|_,_=>.bad⟩)⟩):=id rfl
theorem Oj(gg:List Nat->List D->Res R):E6 gg fo fs env=Res.bnd (fo env) (f:=⟨fun p=>match IK p.2 p.1 with
 | .ok (.str l)=>Res.bnd (fs p.2) (f:=⟨fun q=>Res.bnd (oI q.2 q.1) (f:=⟨fun ds=>Res.bnd (gg l ds) (f:=⟨fun r=>.ok (r,q.2)⟩)⟩)⟩)
 |_=>.bad⟩):=id rfl
theorem MS(ix:List (Option Nat)):dE fi ix a c f env=Res.bnd (fi env) (f:=⟨fun p=>Res.bnd (c9 a c f p.1 (eC ix p.2)) (f:=⟨fun ds=>if ds.length<=sizeLine then .ok ((.l .f,.lst ds),if flatDs ds then p.2 else p.2.map frz) else .bad⟩)⟩):=id rfl
theorem KW:eC [] env=[]:=id rfl
theorem KY(ix:List (Option Nat)):eC (none::ix) env=none::eC ix env:=id rfl
theorem KZ(ix:List (Option Nat)):eC (some i::ix) env=(match env[i]? with|some (some r)=>some (O.f,r.2)|_=>none)::eC ix env:=id rfl
theorem De:fI env=.ok (true,env):=id rfl
theorem rK(ds:List D):c9 a c f (d::ds) env=Res.bnd (a d env) (f:=⟨fun e=>Res.bnd (c e) (f:=⟨fun p=>if p.1 then(Res.bnd (f p.2) (f:=⟨fun q=>Res.bnd (c9 a c f ds q.2) (f:=⟨fun rs=>.ok (q.1.2::rs)⟩)⟩)) else c9 a c f ds p.2⟩)⟩):=id rfl
theorem Dg:Cu f env=Res.bnd (f env) (f:=⟨fun p=>match p.1.2 with | .lst ds=>.ok (ds,p.2)|_=>.bad⟩):=id rfl
theorem vH:ib f env=Res.bnd (f env) (f:=⟨fun p=>match p.1.2 with | .tup ds=>.ok (ds,p.2)|_=>.bad⟩):=id rfl
theorem vI:ic f env=Res.bnd (f env) (f:=⟨fun p=>match p.1.2 with | .str l=>.ok (l.map fun c=>.str [c],p.2)|_=>.bad⟩):=id rfl
theorem qo:II fi fj env=match fi env with | .ok a=>.ok a|_=>fj env:=by
 unfold II;cases fi env <;> rfl
theorem Ol:II (Cu f) (II (ib f) (ic f)) env=Res.bnd (f env) (f:=⟨fun p=>match p.1.2 with
 | .lst ds=>.ok (ds,p.2)
 | .tup ds=>.ok (ds,p.2)
 | .str l=>.ok (l.map fun c=>.str [c],p.2)
 |_=>.bad⟩):=by
 rw[qo,qo,Dg,vH,vI];cases f env with
 |ok p=>
  obtain⟨⟨o,d⟩,e⟩:=p;cases d <;> rfl
 |exc c=>rfl
 |bad=>rfl
theorem MT:II (je i) (II (ib (aI i)) (ic (aI i))) env=match env[i]? with
 |some (some (_,.lst ds))=>.ok (ds,env)
 |some (some (o,.tup ds))=>.ok (ds,env.set i (some (fz o,.tup ds)))
 |some (some (o,.str l))=>.ok (l.map fun c=>.str [c],env.set i (some (fz o,.str l)))
 |_=>.bad:=by
 rw[qo,qo,vH,vI,Lb];unfold je;cases env[i]? with
 |none=>rfl
 |some r=>
  cases r with
  |none=>rfl
  |some r=>
   obtain⟨o,d⟩:=r;cases d <;> rfl
theorem J4:dO fo env=Res.bnd (fo env) (f:=⟨fun p=>Res.bnd (IK p.2 p.1) (f:=⟨fun d=>match d with
 | .int j=>if -4611686018427387904<=j/\j<4611686018427387904 then .ok ((List.range j.toNat).map fun(k:Nat)=>D.int (k:Int),p.2) else .bad
 |_=>.bad⟩)⟩):=id rfl
theorem Lq:p5 fs env=Res.bnd (fs env) (f:=⟨fun p=>Res.bnd (oI p.2 p.1) (f:=⟨fun d=>match d with
 |[.int i,.int j]=>if(-4611686018427387904<=i/\i<4611686018427387904)/\-4611686018427387904<=j/\j<4611686018427387904 then .ok ((List.range (j-i).toNat).map fun(k:Nat)=>D.int (i+(k:Int)),p.2) else .bad
 |_=>.bad⟩)⟩):=id rfl
theorem nG(k1 k2:Bool):sQ k1 k2 fs env=Res.bnd (fs env) (f:=⟨fun p=>match p.1 with
 |[.val d1,.val d2]=>Res.bnd (jG k1 d1) (f:=⟨fun a=>Res.bnd (jG k2 d2) (f:=⟨fun b=>.ok ((a.zip b).map fun z=>D.tup [z.1,z.2],p.2)⟩)⟩)
 |_=>.bad⟩):=id rfl
theorem I0:aD i d env=if i<env.length then .ok (env.set i (some (.f,d))) else .bad:=id rfl
theorem MU:dr [] env=.ok env:=id rfl
theorem Ir(ds:List D):aN a as (d::ds) env=Res.bnd (a d env) (f:=⟨fun e=>as ds e⟩):=id rfl
theorem K0(ds:List D):jA n as (.tup ds) env=if ds.length=n then as ds env else .bad:=id rfl
theorem HL:sSeq s t env=Res.bnd (s env) (f:=⟨fun o=>match o with | .nx e=>t e|o=>.ok o⟩):=id rfl
theorem MV:cw env=.ok (.nx env):=id rfl
theorem L5:bL i f env=Res.bnd (f env) (f:=⟨fun p=>if i<p.2.length then .ok (.nx (p.2.set i (some p.1))) else .bad⟩):=id rfl
theorem MW:i0 f env=Res.bnd (f env) (f:=⟨fun p=>.ok (.nx p.2)⟩):=id rfl
theorem Om:d9 f env=Res.bnd (f env) (f:=⟨fun p=>.ok (.rt p.1)⟩):=id rfl
theorem Nn:Iu c s t env=Res.bnd (c env) (f:=⟨fun p=>if p.1 then s p.2 else t p.2⟩):=id rfl
theorem Oo:oJ fi a s env=Res.bnd (fi env) (f:=⟨fun p=>dN a s p.1 p.2⟩):=id rfl
theorem MX:dN a s [] env=.ok (.nx env):=id rfl
theorem bR(ds:List D):dN a s (d::ds) env=Res.bnd (a d env) (f:=⟨fun e=>Res.bnd (s e) (f:=⟨fun o=>match o with
 | .nx e=>dN a s ds e
 | .ct e=>dN a s ds e
 | .bk e=>.ok (.nx e)
 | .rt r=>.ok (.rt r)⟩)⟩):=id rfl
theorem cO:cq c s (n+1) env=Res.bnd (c env) (f:=⟨fun p=>if p.1 then(Res.bnd (s p.2) (f:=⟨fun o=>match o with
  | .nx e=>cq c s n e
  | .ct e=>cq c s n e
  | .bk e=>.ok (.nx e)
  | .rt r=>.ok (.rt r)⟩)) else .ok (.nx p.2)⟩):=id rfl
theorem Oq:z9 i f g env=Res.bnd (g env) (f:=⟨fun(p:R×PV.Env)=>Res.bnd (f p.2) (f:=⟨fun(q:R×PV.Env)=>match p.2[i]?,q.2[i]? with
 |some (some _),some (some (.d,.dct tk ks vs))=>if dg tk q.1.2&&decide (ks.length<sizeLine) then .ok (.nx (q.2.set i (some (.d,.dct tk (kY ks vs q.1.2 p.1.2).1 (kY ks vs q.1.2 p.1.2).2)))) else .bad
 |_,_=>.bad⟩)⟩):=id rfl
theorem Ot:Eh f a env=Res.bnd (f env) (f:=⟨fun p=>Res.bnd (a p.1.2 p.2) (f:=⟨fun e=>.ok (.nx e)⟩)⟩):=id rfl
theorem bJ(ds:List D)(nn:Nat)(h:ds.length=n):fBody n nn s ds=Res.bnd (s (ds.map (fun d=>some (O.f,d))++List.replicate nn none)) (f:=⟨fun o=>match o with
 | .rt r=>.ok r
 | .nx _=>.ok (.f,.non)
 |_=>.bad⟩):=by
 unfold fBody;rw[SU h];all_goals cases s (ds.map (fun d=>some (O.f,d))++List.replicate nn none) with
 |ok o=>cases o <;> rfl
 |exc c=>rfl
 |bad=>rfl
end
theorem line_le{n:Nat}(h:n<=16777216):n<=sizeLine:=by rw[line_eq];exact h
section
variable(a b:Int)(x y:List Nat)(p q:Bool)(ds es:List D)
theorem Fe:Ip (.int a) (.int b)=.ok (.f,.bl (a==b)):=by simp only[Ip,plainD,Hl,TL,Vm]
theorem Ff:Ip (.str x) (.str y)=.ok (.f,.bl (x==y)):=by simp only[Ip,plainD,Hl,TL,Vm]
theorem Fg:Je (.int a) (.int b)=.ok (.f,.bl (!(a==b))):=by simp only[Je,plainD,Hl,TL,Vm]
theorem Dh:wI (.int a) (.int b)=.ok (.f,.int (a-b)):=id rfl
theorem AD:eD (.int a) (.int b)=if 0<b/\b<1073741824 then .ok (.f,.int (a / b)) else .bad:=id rfl
theorem Di:gm (.int a) (.int b)=if 0<b then .ok (.f,.int (a%b)) else .bad:=id rfl
theorem Dj:Bx (.int a) (.int b)=if 0<=b/\b<=1000000/\a.natAbs<2 ^ 64 then .ok (.f,.int (a ^ b.toNat)) else .bad:=id rfl
theorem Fh:J3 (.int a) (.int b)=.ok (.f,.bl (decide (a<b))):=id rfl
theorem Fi:Ph (.int a) (.int b)=.ok (.f,.bl (decide (b<a))):=id rfl
theorem Fj:Po (.int a) (.int b)=.ok (.f,.bl (decide (b<=a))):=id rfl
theorem Dk:iR [.lst ds]=.ok (.f,.int ds.length):=id rfl
theorem Dl:iR [.tup ds]=.ok (.f,.int ds.length):=id rfl
theorem AE:mS [.lst ds]=.ok (.l .f,.lst ds):=id rfl
theorem xM:eE [.lst ds]=.ok (.f,.tup ds):=id rfl
theorem Fl:Ht (.lst ds) (.int a)=match Iy ds a with|some d=>.ok (.f,d)|none=>.bad:=id rfl
theorem Dm:Ht (.tup ds) (.int a)=match Iy ds a with|some d=>.ok (.f,d)|none=>.bad:=id rfl
theorem Fm:Ht (.str x) (.int a)=match Iy x a with|some c=>.ok (.f,.str [c])|none=>.bad:=id rfl
theorem Dn:maxD [.int a,.int b]=.ok (.f,.int (if a<b then b else a)):=id rfl
theorem yL(bs:List Bool):CC [.lst (bs.map D.bl)]=.ok (.f,.bl (bs.all id)):=by
 unfold CC;show(match oM (bs.map D.bl) with|some bs=>_|none=>_)=_;rw[uQ]
theorem QD{α:Type}(d:α)(l:List α):Iy (d::l) 0=some d:=by
 have:=eZ (xs:=d::l) (j:=0) (v:=d) rfl;simpa using this
theorem Ou{α:Type}(c d:α)(l:List α):Iy (c::d::l) 1=some d:=by
 have:=eZ (xs:=c::d::l) (j:=1) (v:=d) rfl;simpa using this
end
theorem Ho(l:List Int):flatDs (l.map D.int)=true:=by
 rw[cI,Uu,Tq];intro b _;rfl
theorem rL(l:List Bool):flatDs (l.map D.bl)=true:=by
 rw[cI,Uu,Tq];intro b _;rfl
theorem flat_strs(l:List (List Nat)):flatDs (l.map D.str)=true:=by
 rw[cI,Uu,Tq];intro b _;rfl
theorem qp(d:D):cleanR .f d=b5 d:=by rw[cleanR]
theorem xN(ds:List D):cleanR (.l .f) (.lst ds)=flatDs ds:=by rw[cleanR,mP]
theorem ku(i:Int):b5 (.int i)=true:=by rw[b5];all_goals simp
theorem vJ(i:Bool):b5 (.bl i)=true:=by rw[b5];all_goals simp
theorem cV(ds:List D):b5 (.tup ds)=flatDs ds:=by rw[b5]
theorem d5(n:Nat)(l:List Int):plainDs n (l.map D.int)=true:=by
 induction l with
 |nil=>rfl
 |cons a l ih=>rw[S5,plainDs,ih,plainD];all_goals simp
theorem hV(n:Nat)(l:List (List Nat)):plainDs n (l.map D.str)=true:=by
 induction l with
 |nil=>rfl
 |cons a l ih=>rw[S5,plainDs,ih,plainD];all_goals simp
theorem eqDs_ints:∀a b:List Int,jH (a.map D.int) (b.map D.int)=(a==b)
 |[],[]=>by simp[jH]
 |[],_::_=>by simp[jH]
 |_::_,[]=>by simp[jH]
 |a::r,b::t=>by
  rw[S5,S5,jH,Hl,eqDs_ints r t,Th];simp
theorem xO(a:Int)(l:List Int):tw (.int a) (l.map D.int)=decide (a∈l):=by
 unfold tw;rw[UQ,Th,Ua,S3];constructor
 ·rintro⟨x,hx,e⟩;have e:Hl (.int x) (.int a)=true:=e;rw[Hl,Tu]at e;rw[<-e];exact hx
 ·intro h;refine⟨a,h,?_⟩;show Hl (.int a) (.int a)=true;rw[Hl,Um]
theorem xP(a:List Nat)(l:List (List Nat)):tw (.str a) (l.map D.str)=decide (a∈l):=by
 unfold tw;rw[UQ,Th,Ua,S3];constructor
 ·rintro⟨x,hx,e⟩;have e:Hl (.str x) (.str a)=true:=e;rw[Hl,Tu]at e;rw[<-e];exact hx
 ·intro h;refine⟨a,h,?_⟩;show Hl (.str a) (.str a)=true;rw[Hl,Um]
theorem yM(a:Int)(l:List Int):Ly (.int a) (.lst (l.map D.int))=.ok (.f,.bl (decide (a∈l))):=by
 unfold Ly;dsimp only;rw[d5,xO,plainD];all_goals simp
theorem AF(a:Int)(l:List Int):wJ (.int a) (.lst (l.map D.int))=.ok (.f,.bl (!decide (a∈l))):=by
 unfold wJ;rw[yM];rfl
theorem rM{α:Type}{a:FG}{c:FT}{f:FX}{e:α->D}{p:α->Bool}{r:α->D}(I:PV.Env->Prop)(l:List α)
  (h:∀x∈l,∀env,I env->∃Hg,a (e x) env=.ok Hg/\∃Hm,c Hg=.ok (p x,Hm)/\if p x then ∃o HV,f Hm=.ok ((o,r x),HV)/\I HV else I Hm):∀env,I env->c9 a c f (l.map e) env=.ok ((l.filter p).map r):=by
 induction l with
 |nil=>intro env _;rfl
 |cons x l ih=>
  intro env hI;obtain⟨Hg,h1,Hm,h2,h3⟩:=h x SI env hI;have ih:=ih fun y hy=>h y (SM _ hy)
  rw[S5,rK,h1,Hx,h2,Hx];cases hp:p x with
  |true=>
   rw[hp]at h3;obtain⟨o,HV,h4,h5⟩:=h3;rw[SU rfl,h4,Hx,ih HV h5,Hx,List.filter_cons_of_pos hp];rfl
  |false=>
   rw[hp]at h3;rw[SX SN,ih Hm h3,List.filter_cons_of_neg (by rw[hp];exact SN)]
theorem bW{α:Type}{a:FG}{f:FX}{e:α->D}{r:α->D}(I:PV.Env->Prop)(l:List α)
  (h:∀x∈l,∀env,I env->∃Hg,a (e x) env=.ok Hg/\∃o HV,f Hg=.ok ((o,r x),HV)/\I HV):∀env,I env->c9 a fI f (l.map e) env=.ok (l.map r):=by
 induction l with
 |nil=>intro env _;rfl
 |cons x l ih=>
  intro env hI;obtain⟨Hg,h1,o,HV,h4,h5⟩:=h x SI env hI;have ih:=ih fun y hy=>h y (SM _ hy)
  rw[S5,rK,h1,Hx,De,Hx,SU rfl,h4,Hx,ih HV h5];rfl
theorem AG{a:FG}{g:FS}(P:Nat->PV.Env->Prop)(ds:List D)(h:∀i d env,ds[i]?=some d->P i env->∃Hg,a d env=.ok Hg/\∃Hm,(g Hg=.ok (.nx Hm)\/g Hg=.ok (.ct Hm))/\P (i+1) Hm):
  ∀env,P 0 env->∃env',dN a g ds env=.ok (.nx env')/\P ds.length env':=by
 have key:∀(l:List D) (k:Nat) (env:PV.Env),(∀i d,l[i]?=some d->ds[k+i]?=some d)->P k env->∃env',dN a g l env=.ok (.nx env')/\P (k+l.length) env':=by
  intro l;induction l with
  |nil=>exact fun k env _ hp=>⟨env,rfl,hp⟩
  |cons d l ih=>
   intro k env hd hp;obtain⟨Hg,h1,Hm,h2,h3⟩:=h k d env (hd 0 d rfl) hp;obtain⟨env',h4,h5⟩:=ih (k+1) Hm (fun i d e=>by have:=hd (i+1) d (by simpa using e);rw[show k+1+i=k+(i+1) by lia];exact this) h3;refine⟨env',?_,by rw[S4,show k+(l.length+1)=k+1+l.length by lia];exact h5⟩;rw[bR,h1,Hx];rcases h2 with h2|h2
   ·rw[h2,Hx];exact h4
   ·rw[h2,Hx];exact h4
 intro env hp;obtain⟨env',h1,h2⟩:=key ds 0 env (fun i d e=>by rw[V1];exact e) hp;exact⟨env',h1,by rw[V1]at h2;exact h2⟩
section
variable(env:PV.Env)(fo:FO)(fp Hk:FP)(a b:Int)(ds:List D)(x:List Nat)
theorem Ov:Ag fo fp Hk env=Res.bnd (fo env) (f:=⟨fun p=>Res.bnd (fp p.2) (f:=⟨fun q=>Res.bnd (Hk q.2) (f:=⟨fun t=>Res.bnd (IK t.2 p.1) (f:=⟨fun d=>Res.bnd (Px d q.1 t.1) (f:=⟨fun r=>.ok (r,t.2)⟩)⟩)⟩)⟩)⟩):=id rfl
theorem Dp(lo hi:Option Int):Px (.lst ds) lo hi=.ok (.l .f,.lst (i6 ds lo hi)):=id rfl
theorem Dq(lo hi:Option Int)(h:HT.sIx ds.length 0 lo=0/\HT.sIx ds.length ds.length hi=ds.length):i6 ds lo hi=ds:=by
 unfold i6;rw[h.1,h.2,WZ,Nat.sub_zero,UA (SS _)]
theorem vK:Ad (.int a) (.int b)=if dR a||dR b then .ok (.f,.int (a*b)) else if a.natAbs<2 ^ 1000/\b.natAbs<2 ^ 1000 then .ok (.f,.int (a*b)) else .bad:=id rfl
end
section
variable(env:PV.Env)(fo:FO)(fs:FOs)(f g:FX)(a b c:Int)(ds es:List D)(x y:List Nat)
theorem Ox(gg:List D->List D->Res R):CW gg fo fs env=Res.bnd (fo env) (f:=⟨fun p=>Res.bnd (IK p.2 p.1) (f:=⟨fun d=>match d with
 | .tup _=>Res.bnd (fs p.2) (f:=⟨fun q=>Res.bnd (IK q.2 p.1) (f:=⟨fun d2=>match d2 with
  | .tup l=>Res.bnd (oI q.2 q.1) (f:=⟨fun ds=>Res.bnd (gg l ds) (f:=⟨fun r=>.ok (r,q.2)⟩)⟩)
  |_=>.bad⟩)⟩)
 |_=>.bad⟩)⟩):=id rfl
theorem F3(d:D):(∃l,jG true d=.ok l/\jG false d=.bad/\oN d=some l)\/(∃l,jG true d=.bad/\jG false d=.ok l/\oN d=some l)\/(jG true d=.bad/\jG false d=.bad/\oN d=none):=by
 cases d with
 |lst l=>exact .inl ⟨l,rfl,rfl,rfl⟩
 |tup l=>exact .inr (.inl ⟨l,rfl,rfl,rfl⟩)
 |_=>exact .inr (.inr ⟨rfl,rfl,rfl⟩)
def xQ(k1 k2:Bool)(e:PV.Env)(d1 d2:D):Res (List D×PV.Env):=(jG k1 d1).bind fun a=>(jG k2 d2).bind fun b=>.ok ((a.zip b).map fun z=>D.tup [z.1,z.2],e)
def Fn(e:PV.Env)(d1 d2:D):Res (List D×PV.Env):=match oN d1,oN d2 with|some a,some b=>.ok ((a.zip b).map fun z=>D.tup [z.1,z.2],e)|_,_=>.bad
def Np(a b:Res (List D×PV.Env)):Res (List D×PV.Env):=match a with | .ok a=>.ok a|_=>b
def wL(g:D->D->Res (List D×PV.Env))(os:List Opd):Res (List D×PV.Env):=match os with|[.val d1,.val d2]=>g d1 d2|_=>.bad
theorem qq(g h:D->D->Res (List D×PV.Env))(os:List Opd):Np (wL g os) (wL h os)=wL (fun a b=>Np (g a b) (h a b)) os:=by
 unfold wL;split <;> rfl
theorem AH(e:PV.Env)(a b:D):Np (xQ true true e a b) (Np (xQ true false e a b) (Np (xQ false true e a b) (xQ false false e a b)))=Fn e a b:=by
 unfold xQ Fn;rcases F3 a with⟨l,h1,h2,h3⟩|⟨l,h1,h2,h3⟩|⟨h1,h2,h3⟩ <;> rcases F3 b with⟨m,i1,i2,i3⟩|⟨m,i1,i2,i3⟩|⟨i1,i2,i3⟩ <;> rw[h1,h2,h3,i1,i2,i3] <;> rfl
theorem MY:sU fs env=Res.bnd (fs env) (f:=⟨fun p=>match p.1 with
 |[.val d1,.val d2]=>(match oN d1,oN d2 with|some a,some b=>.ok ((a.zip b).map fun z=>D.tup [z.1,z.2],p.2)|_,_=>.bad)
 |_=>.bad⟩):=by
 unfold sU;rw[qo,qo,qo,nG,nG,nG,nG];cases fs env with
 |ok p=>
  show Np (wL (xQ true true p.2) p.1) (Np (wL (xQ true false p.2) p.1) (Np (wL (xQ false true p.2) p.1) (wL (xQ false false p.2) p.1)))=wL (Fn p.2) p.1;rw[qq,qq,qq];exact T3 (fun g=>wL g p.1) (funext fun a=>funext fun b=>AH p.2 a b)
 |_=>rfl
theorem MZ:oN (.lst ds)=some ds:=id rfl
theorem M0:oN (.tup ds)=some ds:=id rfl
theorem M1(i:Nat):ve i f g env=Res.bnd (g env) (f:=⟨fun(p:R×PV.Env)=>Res.bnd (f p.2) (f:=⟨fun(q:R×PV.Env)=>match p.2[i]?,q.2[i]? with
 |some (some _),some (some (.l .f,.lst ds))=>(match q.1.2 with
  | .int k=>(match ixN ds.length k with
   |some j=>.ok (.nx (q.2.set i (some (.l .f,.lst (ds.set j p.1.2)))))
   |none=>.bad)
  |_=>.bad)
 |_,_=>.bad⟩)⟩):=id rfl
theorem AI:m7 (.int a) (.int b)=Ad (.int a) (.int b):=id rfl
theorem L6:oY f g env=Res.bnd (f env) (f:=⟨fun p=>Res.bnd (g p.2) (f:=⟨fun q=>if dg false p.1.2 then .ok ((.d,.dct false [p.1.2] [q.1.2]),q.2) else .bad⟩)⟩):=id rfl
theorem Dr(d:D):Nm d (.lst ds)=Ly d (.lst ds):=id rfl
theorem AJ(d:D):tF d (.lst ds)=wJ d (.lst ds):=id rfl
theorem Ds:dg false (.int a)=true:=id rfl
theorem Dt:dg false (.str x)=true:=id rfl
theorem Du:Ei [.int a,.int b]=.ok (.f,.int (if b<a then b else a)):=id rfl
theorem AK:cY (.int a) (.int b)=.ok (.f,.int (a+b)):=id rfl
theorem AL:cY (.str x) (.str y)=if x.length+y.length<=sizeLine then .ok (.f,.str (x++y)) else .bad:=id rfl
theorem vL:cY (.lst ds) (.lst es)=if ds.length+es.length<=sizeLine then .ok (.l .f,.lst (ds++es)) else .bad:=id rfl
theorem AM:cY (.tup ds) (.tup es)=if ds.length+es.length<=sizeLine\/ds=[] then .ok (.f,.tup (ds++es)) else .bad:=by
 unfold cY;cases ds with
 |nil=>rw[SU (.inr rfl)];rfl
 |cons d ds=>
  dsimp only;unfold addD;dsimp only;by_cases h:(d::ds).length+es.length<=sizeLine
  ·rw[SU ⟨nofun,h⟩,SU (.inl h)]
  ·rw[SX (fun z=>h z.2),SX (fun z=>z.elim h nofun)]
end
section
variable(env:PV.Env)(f g:FX)(ds ks:List D)(i:Nat)
end
section
variable(env:PV.Env)(f:FX)(fs:FOs)(ds:List D)(i:Nat)
theorem F4:GN i env=match env[i]? with
 |some (some (ow,.lst ds))=>if isLf ow then(match ds.getLast? with
  |some d=>.ok ((.f,d),env.set i (some (ow,.lst ds.dropLast)))
  |none=>.bad) else .bad
 |_=>.bad:=id rfl
theorem gS:k8 i f env=Res.bnd (f env) (f:=⟨fun(p:R×PV.Env)=>match p.2[i]? with
 |some (some (.pin q c,d))=>.ok (.rt (.t [p.1.1,.pin q c],.tup [p.1.2,d]))
 |_=>.bad⟩):=by
 first
  |exact id rfl
  |(unfold k8;rfl)
theorem xR(np nn:Nat)(c:O)(g:FS)(p:Addr)(d0:D)(h:ds.length+1=np):l7 np nn c g p (d0::ds)=Res.bnd (g (some (.pin p c,d0)::(ds.map (fun d=>some (O.f,d))++List.replicate nn none))) (f:=⟨fun o=>match o with
  | .rt r=>.ok r
  |_=>.bad⟩):=by
 unfold l7;dsimp only;rw[SU h];rfl
end
noncomputable def pv:=(Zz @Hx (Zz @N6 (Zz @Lb (Zz @MC (Zz @N7 (Zz @N8 (Zz @MD (Zz @L0 (Zz @ME (Zz @L1 (Zz @N9 (Zz @Oa (Zz @MF (Zz @MG (Zz @MH (Zz @MI (Zz @L3 (Zz @L4 (Zz @MJ (Zz @MK (Zz @ML (Zz @Ob (Zz @MM (Zz @PZ (Zz @Oc (Zz @P0 (Zz @Oe (Zz @MN (Zz @Of (Zz @Og (Zz @Oh (Zz @Ov (Zz @MO (Zz @MP (Zz @Oi (Zz @MQ (Zz @P1 (Zz @MR (Zz @Oj (Zz @MS (Zz @KW (Zz @KY (Zz @KZ (Zz @Ol (Zz @MT (Zz @J4 (Zz @Lq (Zz @I0 (Zz @MU (Zz @Ir (Zz @K0 (Zz @HL (Zz @MV (Zz @L5 (Zz @MW (Zz @Om (Zz @Nn (Zz @Oo (Zz @MX (Zz @Oq (Zz @Ot (Zz @List.getElem?_cons_zero.{0} (Zz @List.getElem?_cons_succ.{0} (Zz @List.set_cons_zero.{0} (Zz @List.set_cons_succ.{0} (Zz @List.length_cons.{0} (Zz @List.length_nil.{0} (Zz @List.map_cons.{0,0} (Zz @List.map_nil.{0,0} (Zz @List.replicate_succ.{0} (Zz @List.replicate_zero.{0} (Zz @List.cons_append.{0} (Zz @List.nil_append.{0} (Zz @Nat.zero_add (Zz @Ox (Zz @MY (Zz @MZ (Zz @M0 (Zz @M1 (Zz @L6 (Zz @PU (Zz @PX (Zz @PY (Zz @MB @LZ))))))))))))))))))))))))))))))))))))))))))))))))))))))))))))))))))))))))))))))))))))
noncomputable def op:=(Zz @Fe (Zz @Ff (Zz @Fg (Zz @Dh (Zz @Fh (Zz @Fi (Zz @Fj (Zz @Dk (Zz @Dl (Zz @AE (Zz @xM (Zz @Fl (Zz @Dm (Zz @Fm (Zz @Dp (Zz @Dn (Zz @QD (Zz @Ou (Zz @AF (Zz @yL (Zz @qp (Zz @xN (Zz @ku (Zz @Ho (Zz @rL (Zz @PV.flat_strs (Zz @cV (Zz @Du (Zz @AK (Zz @AI (Zz @Dr (Zz @AJ (Zz @Ds @Dt)))))))))))))))))))))))))))))))))
theorem dV(n:Nat)(w:PV.Env):(∃d,IK w (.var n)=.ok d)\/IK w (.var n)=.bad:=by
 unfold IK;dsimp only;split
 ·split
  ·exact .inl ⟨_,rfl⟩
  ·exact .inr rfl
 ·exact .inr rfl
section
variable(w:PV.Env)(op:D->D->Res R)(F:List D->Res R)(f g h:FX)(n n' n'':Nat)(x y:D)
end
section
variable(a b c d e g h i j k l m s t v u:Option R)(z:PV.Env)(r:R)(o:O)(x:D){ρ:Type}
end
end PV
namespace LW
open PySem L2 NX PV
theorem for_list{α:Type}{a:FG}{g:FS}{e:α->D}(l:List α)(P:Nat->PV.Env->Prop)
  (h:∀k x env,l[k]?=some x->P k env->∃Hg,a (e x) env=.ok Hg/\∃Hm,g Hg=.ok (.nx Hm)/\P (k+1) Hm):∀env,P 0 env->∃env',dN a g (l.map e) env=.ok (.nx env')/\P l.length env':=by
 intro env h0;have:=AG (a:=a) (g:=g) P (l.map e) (fun i d env hi hp=>by
  rw[List.getElem?_map,Ts]at hi;obtain⟨x,hx,rfl⟩:=hi;obtain⟨Hg,h1,Hm,h2,h3⟩:=h i x env hx hp;exact⟨Hg,h1,Hm,.inl h2,h3⟩) env h0
 rwa [SJ]at this
theorem nH{a:FG}{g:FS}{e:Nat->D}(n:Nat)(P:Nat->PV.Env->Prop)
  (h:∀k env,k<n->P k env->∃Hg,a (e k) env=.ok Hg/\∃Hm,g Hg=.ok (.nx Hm)/\P (k+1) Hm):∀env,P 0 env->∃env',dN a g ((List.range n).map e) env=.ok (.nx env')/\P n env':=by
 intro env h0;have:=for_list (a:=a) (g:=g) (e:=e) (List.range n) P (fun k x env hk hp=>by
  obtain⟨h1,h2⟩:=List.getElem?_eq_some_iff.mp hk;rw[Tp]at h1;rw[Xh]at h2;subst h2;exact h k env h1 hp) env h0
 rwa [Tp]at this
abbrev LNN:=List (List Nat)
theorem bD{α β:Type}{l:List α}(f:α->β):(l.map f).length=l.length:=SJ f
theorem dy:(false=true)=False:=Ul
theorem ki{α:Type}{l:List α}{i:Nat}{a:α}(h:l[i]?=some a):∃h:i<l.length,l[i]=a:=List.getElem?_eq_some_iff.mp h
theorem nI{α:Type}{l:List α}{i:Nat}(h:i<l.length):l[i]?=some l[i]:=List.getElem?_eq_getElem h
theorem eQ{α β:Type}{f:α->β}{a:α}{l:List α}:(a::l).map f=f a::l.map f:=S5
theorem lI{α:Type}{a b:α}(h:a∈[b]):a=b:=S7.mp h
theorem pB{α β:Type}{f:α->β}{l:List α}{b:β}(h:b∈l.map f):∃a,a∈l/\f a=b:=TX.mp h
theorem ml{α:Type}{a:α}{s t:List α}(h:a∈s++t):a∈s\/a∈t:=Tj.mp h
theorem jB{α:Type}{s t:List α}:(s++t).length=s.length+t.length:=To
theorem ax{s t:FS}{env env':PV.Env}(h:s env=.ok (.nx env')):sSeq s t env=t env':=by rw[HL,h,Hx]
theorem bF{ds:List D}(h:ds.length<=16777216):ds.length<=sizeLine:=line_le h
theorem lz{l:List Int}{k:Nat}(h:k<l.length):Iy (l.map D.int) (k:Int)=some (.int (l.getD k 0)):=eZ (by rw[List.getElem?_map,List.getD_eq_getElem?_getD,nI h];rfl)
theorem Dv{l:LNN}{k:Nat}(h:k<l.length):Iy (l.map D.str) (k:Int)=some (.str l[k]):=eZ (by rw[List.getElem?_map,nI h];rfl)
theorem at2{α:Type}(a b c:α):Iy [a,b,c] (2:Int)=some c:=rfl
theorem fH:∀l:LNN,f7 (l.map D.str)=some l
 |[]=>rfl
 |a::l=>by
  rw[eQ,f7,fH l];rfl
theorem lA(x y:D)(t1 t2:Option R)(dA:PV.Env):jA 2 (aN (aD 0) (aN (aD 1) dr)) (.tup [x,y]) (t1::t2::dA)=.ok (some (.f,x)::some (.f,y)::dA):=by
 rw[K0,SU (by simp),Ir,I0,SU (by simp),Hx,Ir,I0,SU (by simp),Hx];rfl
theorem gT{α:Type}(lt:α->α->Bool)(l:List α):(bu lt l).length=l.length:=(d4 lt l).length_eq
theorem vM(l:LNN)(h:l.length<64):fg [.lst (l.map D.str)]=.ok (.l .f,.lst ((bu La l).map D.str)):=by
 unfold fg;dsimp only;rw[SU (by rw[bD];exact h)];unfold kU;cases l with
 |nil=>rfl
 |cons a l=>
  have e:dS ((a::l).map D.str)=none:=rfl;rw[e,fH]
def JW:List Nat:=[97,98,99,100,101,102,103,104,105,106,107,108,109,110,111,112,113,114,115,116,117,118,119,120,121,122]
theorem Dw(j:Nat)(h:j<26):JW[j]?=some (97+j):=by
 have:∀j:_root_.Fin 26,JW[j.1]?=some (97+j.1):=by decide
 exact this ⟨j,h⟩
theorem Dx(j:Int)(h0:0<=j)(h:j<26):Iy JW j=some (97+j.toNat):=by
 obtain⟨n,rfl⟩:=Tv h0;exact eZ (Dw n (by lia))
theorem eR(x b:Int)(h:0<b):0<=x%b/\x%b<b:=⟨Int.emod_nonneg _ (by lia),Int.emod_lt_of_pos _ h⟩
theorem GV(n:Nat)(h:n<=200):Bx (.int 10) (.int (n:Int))=.ok (.f,.int (10 ^ n)):=by
 rw[Dj,SU (by lia),TR]
theorem ju(x b:Int)(h:0<b):gm (.int x) (.int b)=.ok (.f,.int (x%b)):=by rw[Di,SU h]
theorem fW(x b:Int)(h:0<b)(h2:b<1073741824):eD (.int x) (.int b)=.ok (.f,.int (x / b)):=by rw[AD,SU ⟨h,h2⟩]
theorem GX(x y:List Nat)(h:x.length+y.length<=1000):cY (.str x) (.str y)=.ok (.f,.str (x++y)):=by rw[AL,SU (line_le (by lia))]
theorem nJ{α:Type}(l:List α)(k:Nat):i6 l none (some (k:Int))=l.take k:=by
 unfold i6;rw[HT.qD,HT.mx,WZ,Nat.sub_zero];by_cases h:k<=l.length
 ·rw[VW h]
 ·rw[Nat.min_eq_right (by lia),UA (SS _),UA (by lia)]
theorem xS{α:Type}(l:List α)(k:Nat):i6 l (some (k:Int)) none=l.drop k:=by
 unfold i6;rw[HT.qD,HT.mx];by_cases h:k<=l.length
 ·rw[VW h,UA (by rw[UU];exact SS _)]
 ·rw[Nat.min_eq_right (by lia),Wy (SS _),Wy (by lia),List.take_nil]
theorem gU{α:Type}(f:Nat->α)(n:Nat)(h:∀i j,i<n->j<n->f i=f j->i=j):((List.range n).map f).Nodup:=by
 rw[U9,Vu];refine List.pairwise_lt_range.imp_of_mem fun{a b} ha hb hl e=>?_
 have:=h a b (TB.mp ha) (TB.mp hb) e;lia
theorem F5(j:Int)(h0:0<=j)(h:j<=1000)(fo:FO)(env env':PV.Env)(o:Opd)(e1:fo env=.ok (o,env'))(e2:IK env' o=.ok (.int j)):dO fo env=.ok ((List.range j.toNat).map fun(k:Nat)=>D.int (k:Int),env'):=by
 rw[J4,e1,Hx];dsimp only;rw[e2,Hx];dsimp only;rw[SU (by lia)]
theorem AN{α:Type}(l:List α)(a b:Nat)(h:a<=b)(hb:b<=l.length):i6 l (some (a:Int)) (some (b:Int))=(l.drop a).take (b-a):=by
 unfold i6;rw[HT.mx,HT.mx,VW hb,VW (Td h hb)]
theorem pC(x:Int)(h:-1000000<=x)(h2:x<=1000000):dR x=true:=by
 unfold dR;rw[S3];lia
theorem vN(d:D)(h:plainD 40 d=true):Ip d d=.ok (.f,.bl true):=by
 unfold Ip;rw[h,i8 d 40 h];rfl
theorem lB(d:D)(h:plainD 40 d=true):Je d d=.ok (.f,.bl false):=by
 unfold Je;rw[h,i8 d 40 h];rfl
theorem xT(l:List Int):plainD 40 (.tup (l.map D.int))=true:=by
 rw[plainD,d5]
theorem GY{c:FT}{s t:FS}{env env':PV.Env}(h:c env=.ok (true,env')):Iu c s t env=s env':=by rw[Nn,h,Hx];rfl
theorem vO(n k:Nat)(h:k<n):ixN n (k:Int)=some k:=by
 unfold ixN;rw[SU (by lia),SU (by lia)];rfl
theorem isT(ds:List D):wK "tuple" (.tup ds)=true:=rfl
theorem pD{c:FT}{g:FS}(P:Nat->PV.Env->Prop)(fin:PV.Env->Prop)(h:∀k env,P k env->(∃Hg,c env=.ok (false,Hg)/\fin Hg)\/(∃Hg,c env=.ok (true,Hg)/\∃Hm k',g Hg=.ok (.nx Hm)/\k'<k/\P k' Hm)):
  ∀n k env,k<n->P k env->∃env',cq c g n env=.ok (.nx env')/\fin env'
 | 0,k,env,hk,_=>absurd hk (WN _)
 |n+1,k,env,hk,hp=>by
  rcases h k env hp with⟨Hg,h1,h2⟩|⟨Hg,h1,Hm,k',h2,h3,h4⟩
  ·exact⟨Hg,by rw[cO,h1,Hx];rfl,h2⟩
  ·obtain⟨env',e,hf⟩:=pD P fin h n k' Hm (by lia) h4;refine⟨env',?_,hf⟩;rw[cO,h1,Hx];dsimp only;rw[SU rfl,h2,Hx];exact e
theorem AO{α β:Type}(f:α->β)(l:List α)(lo hi:Option Int):i6 (l.map f) lo hi=(i6 l lo hi).map f:=by
 unfold i6;rw[bD,<-List.map_drop,<-Wl]
theorem jv{α:Type}{l:List α}(h:l.length<=100000):l.length<sizeLine:=S1 (UX _) (line_le (by lia))
section
variable(env:PV.Env)(f:FX)(fs:FOs)(fo:FO)
theorem AQ(i:Nat)(c:O)(F:Addr->List D->Res R):eFunW c F i fs env=Res.bnd (fs env) (f:=⟨fun p=>match p.1 with
 | .var j::os=>if j=i then(match p.2[i]? with
  |some (some (ow,d0))=>if oZ c ow then Res.bnd (iY (p.2.set i none) os) (f:=⟨fun ds=>Res.bnd (jJ F c d0 ds) (f:=⟨fun x=>if cleanR x.1.1 x.1.2&&cleanR c x.2 then .ok (x.1,(p.2.set i none).set i (some (ow,x.2))) else .ok (x.1,((p.2.set i none).map frz).set i (some (ow,x.2)))⟩)⟩) else .bad
  |_=>.bad) else .bad
 |_=>.bad⟩):=id rfl
theorem yN(r:R):frz (some r)=some (.f,r.2):=id rfl
theorem Bz:frz none=none:=id rfl
theorem rN(gg:List D->List D->Res R):C4 gg fo fs env=Res.bnd (fo env) (f:=⟨fun p=>Res.bnd (IK p.2 p.1) (f:=⟨fun d=>match d with
 | .lst _=>Res.bnd (fs p.2) (f:=⟨fun q=>Res.bnd (IK q.2 p.1) (f:=⟨fun d2=>match d2 with
  | .lst l=>Res.bnd (oI q.2 q.1) (f:=⟨fun ds=>Res.bnd (gg l ds) (f:=⟨fun r=>.ok (r,q.2)⟩)⟩)
  |_=>.bad⟩)⟩)
 |_=>.bad⟩)⟩):=id rfl
end
theorem o_isnT(ds:List D):isnO (.tup ds) .non=.ok (.f,.bl true):=id rfl
theorem lC:isnO .non .non=.ok (.f,.bl false):=id rfl
abbrev Hq:=Int×List Nat×Int
def eA(a:Hq):D:=.tup [.int a.1,.str a.2.1,.int a.2.2]
theorem kx:∀(n:Nat) {l:List Int},l.Nodup->(∀x∈l,0<=x/\x<(n:Int))->l.length<=n
 | 0,l,_,hb=>by
  cases l with
  |nil=>exact SS _
  |cons a l=>have:=hb a SI;lia
 |n+1,l,nd,hb=>by
  have h1:=kx n (l:=l.erase (n:Int)) (nd.erase _) fun x hx=>by
   have h2:=(nd.mem_erase_iff.mp hx)
   have h3:=hb x h2.2;have h4:=h2.1;lia
  have:=List.length_erase_le (a:=(n:Int)) (l:=l);have h5:l.length<=(l.erase (n:Int)).length+1:=by
   by_cases hm:(n:Int)∈l
   ·rw[We hm];have:=Wz hm;lia
   ·rw[List.erase_of_not_mem hm];lia
  lia
def Hw(names:LNN)(ap:List Hq):D:=.tup [.tup (names.map D.str),.lst (ap.map eA)]
theorem iP(a:Hq)(t1 t2 t3:Option R)(dA:PV.Env):jA 3 (aN (aD 0) (aN (aD 1) (aN (aD 2) dr))) (eA a) (t1::t2::t3::dA)=.ok (some (.f,.int a.1)::some (.f,.str a.2.1)::some (.f,.int a.2.2)::dA):=by
 unfold eA;rw[K0,SU (by simp),Ir,I0,SU (by simp),Hx,Ir,I0,SU (by simp),Hx,Ir,I0,SU (by simp),Hx];rfl
theorem xU{α:Type}{f:α->D}{p:α->Bool}{l:List α}(h:l.length<=16777216):((l.filter p).map f).length<=sizeLine:=by
 rw[bD];exact line_le (Td (WO _ _) h)
theorem yO(l:List Int):(oN (.lst (l.map D.int))).bind dS=some l:=sS l
def lD(a:Hq):Int:=if a.1<a.2.2 then a.2.2 else a.1
def a7(ap:List Hq):Int:=1+NX.maxD (ap.map lD) 0
theorem ky{α:Type}{f:α->D}{l:List α}(h:∀a,b5 (f a)=true):flatDs (l.map f)=true:=by
 rw[cI,Uu,Tq];intro a _;exact h a
theorem qr(names:LNN)(ap:List Hq)(hl:ap.length<=16777216):cF [Hw names ap]=.ok (.f,.int (a7 ap)):=by
 unfold cF lb;rw[bJ (h:=by rfl)];simp only[pv,seval,op,Hw];rw[bW (r:=fun a:Hq=>D.int (lD a)) (fun env=>∃t1 t2 t3,env=[t1,t2,t3]) ap ?_ _ ⟨_,_,_,rfl⟩]
 ·rw[Hx,SU (bF (by rw[bD];exact hl)),Hx,ky fun a=>ku _];simp only[pv,seval,op];have e:(some (ap.map fun a=>D.int (lD a))).bind dS=some (ap.map lD):=by
   have:=yO (ap.map lD);rw[S9]at this;exact this
  rw[e];rfl
 ·rintro a _ env ⟨t1,t2,t3,rfl⟩;refine⟨_,iP a t1 t2 t3 _,?_⟩;simp only[pv,seval,op];exact⟨_,_,rfl,_,_,_,rfl⟩
theorem AR(a:Hq):b5 (eA a)=true:=rfl
theorem nK(as:List Hq):flatDs (as.map eA)=true:=by
 rw[cI,Uu,Tq];exact fun p _=>AR p
theorem F6(w:LNN)(m:List Nat)(h:w.length<=1000):cY (.tup (w.map D.str)) (.tup [.str m])=.ok (.f,.tup ((w++[m]).map D.str)):=by
 rw[AM,SU (.inl (line_le (by rw[bD,S4,T7];lia))),S6];rfl
def ak(a:Hq):List Key:=[.inl a.1,.inr (S a.2.1),.inl a.2.2]
def cy(a b:Hq):Bool:=dI (ak a) (ak b)
theorem S_inj{a b:List Nat}(h:S a=S b):a=b:=by
 have:=T3 (fun s:Str=>s.cps.toList) h;simpa only[dC] using this
theorem Fo(a:Hq):kT (ak a)=eA a:=by
 unfold kT ak eA;simp only[eQ,Tz,kD,dC]
theorem vP{α β:Type}(f:α->β)(lt:β->β->Bool)(x:α):∀l:List α,ins lt (f x) (l.map f)=(ins (fun a b=>lt (f a) (f b)) x l).map f
 |[]=>rfl
 |y::ys=>by
  rw[eQ,ins,ins];cases lt (f y) (f x) with
  |true=>rw[SU rfl,SU rfl,vP f lt x ys,eQ]
  |false=>rw[SX SN,SX SN,eQ,eQ]
theorem pE{α β:Type}(f:α->β)(lt:β->β->Bool):∀l:List α,bu lt (l.map f)=(bu (fun a b=>lt (f a) (f b)) l).map f
 |[]=>rfl
 |x::l=>by
  show ins lt (f x) (bu lt (l.map f))=_;rw[pE f lt l,vP];rfl
theorem vQ(as:List Hq):as.map eA=(as.map ak).map kT:=by
 rw[S9];exact Ue fun a _=>(Fo a).symm
theorem Dy(a b:Hq):Hl (eA a) (eA b)=decide (a=b):=by
 obtain⟨x,y,z⟩:=a;obtain⟨x',y',z'⟩:=b;unfold eA;simp only[Hl,jH];rw[Th];simp
theorem gW:∀(l:List Int) (b:Int),b<=l.foldl max b/\(∀x∈l,x<=l.foldl max b)/\(l.foldl max b=b\/l.foldl max b∈l)
 |[],b=>⟨X2 _,fun _ h=>(nomatch h),.inl rfl⟩
 |a::l,b=>by
  obtain⟨h1,h2,h3⟩:=gW l (max b a);rw[U2];refine⟨by lia,fun x hx=>?_,?_⟩
  ·rcases SV.mp hx with rfl|hx
   ·lia
   ·exact h2 x hx
  ·rcases h3 with h3|h3
   ·rw[h3];by_cases h:b<=a
    ·exact .inr (by rw[Int.max_eq_right h];exact SI)
    ·exact .inl (Int.max_eq_left (by lia))
   ·exact .inr (SM _ h3)
theorem nL{ns:List Int}{x:Int}(h:x∈ns):x<=fJ ns:=(gW ns _).2.1 x h
theorem rO{ns:List Int}(h:ns≠[]):fJ ns∈ns:=by
 cases ns with
 |nil=>exact absurd rfl h
 |cons a l=>
  rcases(gW (a::l) a).2.2 with e|e
  ·show List.foldl max a (a::l)∈a::l;rw[e];exact SI
  ·exact e
theorem AS{ns:List Int}{d x:Int}(h:x∈ns):x<=NX.maxD ns d:=by
 unfold NX.maxD;rw[SX (List.ne_nil_of_mem h)];exact nL h
theorem vR(ns:List Int)(d:Int):(ns=[]/\NX.maxD ns d=d)\/NX.maxD ns d∈ns:=by
 unfold NX.maxD;by_cases h:ns=[]
 ·exact .inl ⟨h,SU h⟩
 ·rw[SX h];exact .inr (rO h)
theorem lE(a:Hq):a.1<=lD a/\a.2.2<=lD a/\(lD a=a.1\/lD a=a.2.2):=by
 unfold lD;split
 ·exact⟨by lia,by lia,.inr rfl⟩
 ·exact⟨by lia,by lia,.inl rfl⟩
theorem vS{ap:List Hq}{a:Hq}(h:a∈ap):a.1<a7 ap/\a.2.2<a7 ap:=by
 have h1:=AS (d:=0) (TX.mpr ⟨a,h,rfl⟩:lD a∈ap.map lD);obtain⟨h2,h3,_⟩:=lE a;unfold a7;lia
theorem sZ{ap:List Hq}(h:∀a∈ap,0<=a.1/\0<=a.2.2):1<=a7 ap:=by
 unfold a7;rcases vR (ap.map lD) 0 with⟨_,e⟩|e
 ·lia
 ·obtain⟨a,ha,e2⟩:=pB e;have:=h a ha;obtain⟨h1,h2,_⟩:=lE a;lia
theorem jw{α:Type}(lt:α->α->Bool){l:List α}{a:α}:a∈bu lt l<->a∈l:=(d4 lt l).mem_iff
structure Ra(names:LNN)(as:List Hq)(mZ:Nat):Prop where
 mm:1<=mZ/\mZ<=12
 len:as.length<=60
 bd:∀a∈as,(0<=a.1/\a.1<(mZ:Int))/\0<=a.2.2/\a.2.2<(mZ:Int)
 nm:∀a∈as,a.2.1∈names
 rc:∀j:Nat,1<=j->j<mZ->∃a∈as,a.2.2=(j:Int)/\∃b:Nat,b<j/\a.1=(b:Int)
theorem pF{ap:List Hq}{mZ:Nat}(hm:1<=mZ)(h:∀a∈ap,(0<=a.1/\a.1<(mZ:Int))/\0<=a.2.2/\a.2.2<(mZ:Int)):1<=a7 ap/\a7 ap<=(mZ:Int):=by
 refine⟨sZ fun a ha=>?_,?_⟩
 ·have:=h a ha;lia
 ·unfold a7;rcases vR (ap.map lD) 0 with⟨_,e⟩|e
  ·lia
  ·obtain⟨a,ha,e2⟩:=pB e;have:=h a ha;obtain⟨h1,h2,h3⟩:=lE a;lia
theorem Ra.sort{names:LNN}{as:List Hq}{mZ:Nat}(r:Ra names as mZ):Ra names (bu cy as) mZ:=by
 have mem:∀{a:Hq},a∈bu cy as<->a∈as:=jw cy;refine⟨r.mm,by rw[gT];exact r.len,fun a ha=>r.bd a (mem.mp ha),fun a ha=>r.nm a (mem.mp ha),fun j h1 h2=>?_⟩;obtain⟨a,ha,q⟩:=r.rc j h1 h2;exact⟨a,mem.mpr ha,q⟩
theorem qu(as:List Hq)(h:as.length<64):fg [.lst (as.map eA)]=.ok (.l .f,.lst ((bu cy as).map eA)):=by
 have key:kU (as.map eA)=some ((bu cy as).map eA):=by
  cases as with
  |nil=>rfl
  |cons a as=>
   have e1:jW ((a::as).map eA)=some ((a::as).map ak):=by rw[vQ,jI]
   have e2:sameKinds (ak a) (as.map ak)=true:=by
    unfold sameKinds;rw[Uu,SY,Tq];exact⟨rfl,fun b _=>rfl⟩
   unfold kU;rw[e1,eQ,eQ];dsimp only[eA,dS,f7];rw[SU e2,<-eQ,pE ak dI,vQ];rfl
 unfold fg;dsimp only;rw[SU (by rw[bD];exact h),key]
theorem vT{α:Type}{l:List α}{x:α}{j:Nat}{y:α}(h:l[j]?=some y):(l++[x])[j]?=some y:=by
 rw[List.getElem?_append_left (ki h).1];exact h
theorem mn{α:Type}{l:List α}{x:α}{j:Nat}{y:α}(h:(l++[x])[j]?=some y):l[j]?=some y\/(j=l.length/\y=x):=by
 by_cases hj:j<l.length
 ·rw[List.getElem?_append_left hj]at h;exact .inl h
 ·rw[List.getElem?_append_right (by lia)]at h;by_cases e:j-l.length=0
  ·rw[e]at h;exact .inr ⟨by lia,by simpa using h.symm⟩
  ·rw[List.getElem?_eq_none (by simp;lia)]at h;cases h
theorem jO(n:Nat)(ap:List Hq):plainDs (n+3) (ap.map eA)=true:=by
 induction ap with
 |nil=>rfl
 |cons a l ih=>
  rw[eQ,plainDs,ih];rfl
theorem xV(T:List Hq)(a:Hq):wJ (eA a) (.lst (T.map eA))=.ok (.f,.bl (!decide (a∈T))):=by
 have e:tw (eA a) (T.map eA)=decide (a∈T):=by
  unfold tw;rw[UQ,Th,Ua,S3];constructor
  ·rintro⟨x,hx,e⟩;have e:Hl (eA x) (eA a)=true:=e;rw[Dy,S3]at e;rw[<-e];exact hx
  ·intro h;refine⟨a,h,?_⟩;show Hl (eA a) (eA a)=true;rw[Dy,S3]
 unfold wJ Ly;dsimp only;rw[show plainD 40 (eA a)=true from rfl,jO 37 T,TL,SU rfl,e];rfl
def cell(ns:List Int)(k:Nat):Int:=ns.getD k 0
theorem mq(ns:List Int)(k:Nat):aO [.lst (ns.map D.int),.int (k:Int)]=.ok (.f,.int (cell ns k)):=by
 unfold aO il cell;rw[bJ (h:=by rfl)];simp only[pv,seval,op,bD];by_cases h:k<ns.length
 ·have h1:(k:Int)<(ns.length:Int):=by lia
  simp only[h1,Ur,pv,seval,lz h]
 ·have h1:¬ (k:Int)<(ns.length:Int):=by lia
  simp only[h1,Uk,pv,seval,dy,List.getD_eq_getElem?_getD,List.getElem?_eq_none (Nat.le_of_not_lt h),UW]
theorem Dz(x y:Int)(h:dR x=true):Ad (.int x) (.int y)=.ok (.f,.int (x*y)):=by rw[vK,h,Bool.true_or,SU rfl]
theorem F7(x y:Int)(h:dR y=true):Ad (.int x) (.int y)=.ok (.f,.int (x*y)):=by rw[vK,h,Bool.or_true,SU rfl]
theorem rP(x:Int)(h:0<=x)(h2:x<=4294967296):dR x=true:=by
 unfold dR;rw[S3];lia
def wM(c k:Int):Int:=((((c%2147483647+48271*(k+1))*(c%2147483647+48271*(k+1))+69621*k)%2147483647)*(((c%2147483647+48271*(k+1))*(c%2147483647+48271*(k+1))+69621*k)%2147483647)+16807*k+1)%2147483647
theorem nM(c k:Int)(hk:0<=k)(Qs:k<=1000):aZ [.int c,.int k]=.ok (.f,.int (wM c k)):=by
 have b1:=eR c 2147483647 (by decide);have b2:=eR ((c%2147483647+48271*(k+1))*(c%2147483647+48271*(k+1))+69621*k) 2147483647 (by decide);unfold aZ j3 wM;rw[bJ (h:=by rfl)];rw[ax (env':=[some (.f,.int c),some (.f,.int k),some (.f,.int (c%2147483647+48271*(k+1)))]) (by simp only[pv,↓reduceIte,Nat.reduceAdd,Nat.reduceLT,Nat.reduceLeDiff,Nat.reduceEqDiff,op,ju _ 2147483647 (by decide),Dz 48271 (k+1) (by decide)])];have hs:dR (c%2147483647+48271*(k+1))=true:=rP _ (by lia) (by lia);generalize c%2147483647+48271*(k+1)=x at *;rw[ax (env':=[some (.f,.int c),some (.f,.int k),some (.f,.int ((x*x+69621*k)%2147483647))]) (by simp only[pv,↓reduceIte,Nat.reduceAdd,Nat.reduceLT,Nat.reduceLeDiff,Nat.reduceEqDiff,op,ju _ 2147483647 (by decide),Dz x x hs,Dz 69621 k (by decide)])];generalize (x*x+69621*k)%2147483647=y at *;have hs:dR y=true:=rP _ (by lia) (by lia);simp only[pv,↓reduceIte,Nat.reduceAdd,Nat.reduceLT,Nat.reduceLeDiff,Nat.reduceEqDiff,op,ju _ 2147483647 (by decide),Dz y y hs,Dz 16807 k (by decide)]
theorem rQ:∀l:List Nat,joinL [] (l.map fun c=>[c])=l
 |[]=>rfl
 |[c]=>rfl
 |c::d::l=>by
  have ih:=rQ (d::l);show[c]++[]++joinL [] ((d::l).map fun c=>[c])=_;rw[ih];rfl
theorem vU:∀l:List Nat,((l.map fun c=>[c]).map List.length).sum=l.length
 |[]=>rfl
 |c::l=>by
  rw[eQ,eQ,Xi,vU l];show 1+l.length=l.length+1;lia
theorem AU(l:List Nat)(h:l.length<=1000):vn [] [.lst ((l.map fun c=>[c]).map D.str)]=.ok (.f,.str l):=by
 unfold vn;dsimp only;rw[fH];dsimp only;rw[SU (by rw[vU,T7,Nat.mul_zero];lia),rQ]
theorem yP(a:List Nat)(l:LNN):Ly (.str a) (.lst (l.map D.str))=.ok (.f,.bl (decide (a∈l))):=by
 unfold Ly;dsimp only;rw[hV,xP,plainD];all_goals simp
def Lz(base:List Int)(wd sp:Nat)(tk:Bool)(k:Nat):List Int:=if tk then base.take (k+1) else(base.take wd).set sp ((base.getD sp 0+(k:Int))%26)
def JX(base:List Int)(wd sp:Nat)(tk:Bool)(k:Nat):List Nat:=(Lz base wd sp tk k).map fun j=>97+j.toNat
theorem AV(l:List Int)(hb:∀j∈l,0<=j/\j<26):c9 (aD 0) fI (aB Ht (aq 1) (aq 0)) (l.map D.int) [none,some (.f,.str JW)]=.ok (((l.map fun j=>97+j.toNat).map fun c=>[c]).map D.str):=by
 rw[bW (r:=fun j:Int=>D.str [97+j.toNat]) (fun env=>∃t,env=[t,some (.f,.str JW)]) l ?_ _ ⟨none,rfl⟩]
 ·rw[S9,S9];rfl
 ·rintro j hj env ⟨t,rfl⟩;obtain⟨h0,h1⟩:=hb j hj;refine⟨[some (.f,.int j),some (.f,.str JW)],rfl,.f,[some (.f,.int j),some (.f,.str JW)],?_,_,rfl⟩;simp only[pv,seval,op,Dx j h0 h1]
theorem Fp(base:List Int)(hb:∀j∈base,0<=j/\j<26)(wd sp:Nat)(tk:Bool)(k:Nat):∀j∈Lz base wd sp tk k,0<=j/\j<26:=by
 intro j hj;unfold Lz at hj;split at hj
 ·exact hb j (VG hj)
 ·rcases V6 hj with h|h
  ·exact hb j (VG h)
  ·rw[h];exact eR _ _ (by decide)
theorem vV(base:List Int)(hl:base.length=8)(wd sp:Nat)(tk:Bool)(k:Nat):(Lz base wd sp tk k).length<=8:=by
 unfold Lz;split
 ·rw[TC];lia
 ·rw[Tt,TC];lia
theorem DA(Ij:Int)(base:List Int)(hl:base.length=8)(hb:∀j∈base,0<=j/\j<26)(wd sp:Nat)(hw:wd<=8)(hs:sp<wd)(tk:Bool)(QF:(Ij / 64%4==1)=tk)(l:LNN)(hll:l.length<=10)(k:Nat)(t7:Option R):
  ∃u7,dh [some (.f,.int Ij),some (.f,.str JW),some (.l .f,.lst (base.map D.int)),some (.f,.int (wd:Int)),some (.f,.int (sp:Int)),some (.l .f,.lst (l.map D.str)),some (.f,.int (k:Int)),t7]=.ok (.nx [some (.f,.int Ij),some (.f,.str JW),some (.l .f,.lst (base.map D.int)),some (.f,.int (wd:Int)),some (.f,.int (sp:Int)),some (.l .f,.lst ((l++[JX base wd sp tk k]).map D.str)),some (.f,.int (k:Int)),u7]):=by
 have Oy:i6 (base.map D.int) none (some (wd:Int))=(base.take wd).map D.int:=by rw[nJ,Wl]
 have Ka:Iy ((base.take wd).map D.int) (sp:Int)=some (.int (base.getD sp 0)):=by
  rw[lz (by rw[TC];lia)];congr 2
  rw[List.getD_eq_getElem?_getD,List.getD_eq_getElem?_getD,List.getElem?_take_of_lt hs]
 have Ja:ixN (base.take wd).length (sp:Int)=some sp:=vO _ _ (by rw[TC];lia);have hnl:=vV base hl wd sp tk k;have M3:=AV (Lz base wd sp tk k) (Fp base hb wd sp tk k);have hj:=AU (JX base wd sp tk k) (by unfold JX;rw[bD];lia);have hz:(l.map D.str).length<sizeLine:=jv (by rw[bD];lia);have hzl:(((JX base wd sp tk k).map fun c=>[c]).map D.str).length<=sizeLine:=bF (by unfold JX;rw[bD,bD,bD];lia);have P2:=PV.flat_strs ((JX base wd sp tk k).map fun c=>[c]);have M3:c9 (aD 0) fI (aB Ht (aq 1) (aq 0)) ((Lz base wd sp tk k).map D.int) [none,some (.f,.str JW)]=.ok (((JX base wd sp tk k).map fun c=>[c]).map D.str):=M3;unfold dh;rw[ax (env':=[some (.f,.int Ij),some (.f,.str JW),some (.l .f,.lst (base.map D.int)),some (.f,.int (wd:Int)),some (.f,.int (sp:Int)),some (.l .f,.lst (l.map D.str)),some (.f,.int (k:Int)),some (.l .f,.lst ((base.take wd).map D.int))]) (by simp only[pv,seval,op,Oy])];rw[ax (env':=[some (.f,.int Ij),some (.f,.str JW),some (.l .f,.lst (base.map D.int)),some (.f,.int (wd:Int)),some (.f,.int (sp:Int)),some (.l .f,.lst (l.map D.str)),some (.f,.int (k:Int)),some (.l .f,.lst (((base.take wd).set sp ((base.getD sp 0+(k:Int))%26)).map D.int))]) (by
  rw[List.map_set];simp only[pv,seval,op,Ka,ju _ 26 (by decide),bD,Ja])]
 rw[ax (env':=[some (.f,.int Ij),some (.f,.str JW),some (.l .f,.lst (base.map D.int)),some (.f,.int (wd:Int)),some (.f,.int (sp:Int)),some (.l .f,.lst (l.map D.str)),some (.f,.int (k:Int)),some (.l .f,.lst ((Lz base wd sp tk k).map D.int))]) (by
  unfold Lz;cases tk with
  |true=>
   have L7:i6 (base.map D.int) none (some ((k:Int)+1))=(base.take (k+1)).map D.int:=by rw[show(k:Int)+1=((k+1:Nat):Int) by lia,nJ,Wl]
   simp only[pv,seval,op,fW _ 64 (by decide) (by decide),ju _ 4 (by decide),QF,L7]
  |false=>simp only[pv,seval,op,fW _ 64 (by decide) (by decide),ju _ 4 (by decide),QF,dy])]
 refine⟨some (.l .f,.lst ((Lz base wd sp tk k).map D.int)),?_⟩;generalize Lz base wd sp tk k=W at *;generalize JX base wd sp tk k=V at *;rw[S6,eQ,Tz];generalize (aB Ht (aq 1) (aq 0))=GG at M3 ⊢;simp only[pv,seval,op,M3,hzl,P2,hj,hz]
theorem AW(base:List Int)(hl:base.length=8)(hb:∀j∈base,0<=j/\j<26)(wd sp:Nat)(hw:wd<=8)(hs:sp<wd)(tk:Bool)(k k':Nat)(hk:k<=5)(hk':k'<=5)(e:JX base wd sp tk k=JX base wd sp tk k'):k=k':=by
 unfold JX Lz at e;cases tk with
 |true=>
  have:=T3 List.length e;simp only[Vm,bD,TC]at this;lia
 |false=>
  have e2:=T3 (fun l=>l[sp]?) e;have HW:sp<(base.take wd).length:=by rw[TC];lia
  simp only[dy,Vl,List.getElem?_map,List.getElem?_set_self HW,VU,UN]at e2;have b1:=eR (base.getD sp 0+(k:Int)) 26 (by decide);have b2:=eR (base.getD sp 0+(k':Int)) 26 (by decide);generalize base.getD sp 0=z at *;lia
theorem AX(Ij:Int):∃l:LNN,l.length=5/\l.Nodup/\l.Pairwise (fun a b=>La b a=false)/\cZ [.int Ij]=.ok (.l .f,.lst (l.map D.str)):=by
 unfold cZ j4;rw[bJ (h:=by rfl)];rw[ax (env':=[some (.f,.int Ij),some (.f,.str JW),none,none,none,none,none,none]) (by simp only[pv,seval,op];rfl)];have hc:c9 (aD 0) fI (aB gm (av (eL aZ (ah (aq 1) (ah (aq 0) aH)))) (av (aK (.int 26)))) ((List.range 8).map fun(k:Nat)=>D.int (k:Int)) [none,some (.f,.int Ij)]=.ok (((List.range 8).map fun(k:Nat)=>wM Ij (k:Int)%26).map D.int):=by
  rw[bW (r:=fun k:Nat=>D.int (wM Ij (k:Int)%26)) (fun env=>∃t,env=[t,some (.f,.int Ij)]) (List.range 8) ?_ _ ⟨none,rfl⟩]
  ·rw[S9];rfl
  ·rintro k hk env ⟨t,rfl⟩;have hk:=TB.mp hk;refine⟨[some (.f,.int (k:Int)),some (.f,.int Ij)],rfl,.f,[some (.f,.int (k:Int)),some (.f,.int Ij)],?_,_,rfl⟩;simp only[pv,seval,op,nM Ij (k:Int) (by lia) (by lia),ju _ 26 (by decide)]
 have QH:((List.range 8).map fun(k:Nat)=>wM Ij (k:Int)%26).length=8:=rfl;have LI:∀j∈((List.range 8).map fun(k:Nat)=>wM Ij (k:Int)%26),0<=j/\j<26:=by
  intro j hj;obtain⟨k,_,rfl⟩:=pB hj;exact eR _ _ (by decide)
 generalize ((List.range 8).map fun(k:Nat)=>wM Ij (k:Int)%26)=base at hc QH LI;have hlen:(base.map D.int).length<=sizeLine:=bF (by rw[bD];lia);have hff:=Ho base;rw[ax (env':=[some (.f,.int Ij),some (.f,.str JW),some (.l .f,.lst (base.map D.int)),none,none,none,none,none]) (by
  generalize (aB gm (av (eL aZ (ah (aq 1) (ah (aq 0) aH)))) (av (aK (.int 26))))=GG at hc ⊢;simp only[pv,seval,op];rw[SU (by decide)];simp only[pv,seval,op,show(8:Int).toNat=8 from rfl,hc,hlen,hff])]
 have m8:=eR Ij 8 (by decide);obtain⟨wd,ew⟩:=Tv (show 0<=1+Ij%8 by lia);have msp:=eR (Ij / 8) (wd:Int) (by lia);obtain⟨sp,es⟩:=Tv msp.1;rw[ax (env':=[some (.f,.int Ij),some (.f,.str JW),some (.l .f,.lst (base.map D.int)),some (.f,.int (wd:Int)),none,none,none,none]) (by simp only[pv,seval,op,ju _ 8 (by decide),ew])];rw[ax (env':=[some (.f,.int Ij),some (.f,.str JW),some (.l .f,.lst (base.map D.int)),some (.f,.int (wd:Int)),some (.f,.int (sp:Int)),none,none,none]) (by simp only[pv,seval,op,fW _ 8 (by decide) (by decide),ju _ (wd:Int) (by lia),es])];rw[ax (env':=[some (.f,.int Ij),some (.f,.str JW),some (.l .f,.lst (base.map D.int)),some (.f,.int (wd:Int)),some (.f,.int (sp:Int)),some (.l .f,.lst []),none,none]) (by simp only[pv,seval,op])];obtain⟨tk,QF⟩:∃tk,(Ij / 64%4==1)=tk:=⟨_,rfl⟩
 obtain⟨env',ef,t6,t7,rfl⟩:=nH (a:=aD 6) (g:=dh) (e:=fun k=>D.int (k:Int)) 5 (fun i env=>∃(t6 t7:Option R),env=[some (.f,.int Ij),some (.f,.str JW),some (.l .f,.lst (base.map D.int)),some (.f,.int (wd:Int)),some (.f,.int (sp:Int)),some (.l .f,.lst (((List.range i).map (JX base wd sp tk)).map D.str)),t6,t7]) (by
  rintro k env hk ⟨t6,t7,rfl⟩;obtain⟨u7,e⟩:=DA Ij base QH LI wd sp (by lia) (by lia) tk QF ((List.range k).map (JX base wd sp tk)) (by rw[bD,Tp];lia) k t7;rw[show((List.range k).map (JX base wd sp tk))++[JX base wd sp tk k]=(List.range (k+1)).map (JX base wd sp tk) by rw[List.range_succ,S6];rfl]at e;exact⟨_,rfl,_,e,_,_,rfl⟩) _ ⟨none,none,rfl⟩
 rw[List.range_zero,Tz,Tz]at ef;rw[ax (env':=_) (by
  unfold iq;simp only[pv,seval,op];rw[SU (by decide)];simp only[pv,seval,op,show(5:Int).toNat=5 from rfl];exact ef)]
 unfold gB;have L8:((List.range 5).map (JX base wd sp tk)).length=5:=by rw[bD,Tp]
 have NO:((List.range 5).map (JX base wd sp tk)).Nodup:=gU _ 5 fun i j hi hj e=>AW base QH LI wd sp (by lia) (by lia) tk i j (by lia) (by lia) e
 have Sr:∀n∈((List.range 5).map (JX base wd sp tk)),n.length<=8:=by
  intro n hn;obtain⟨k,_,rfl⟩:=pB hn;unfold JX;rw[bD];exact vV base QH wd sp tk k
 generalize ((List.range 5).map (JX base wd sp tk))=l at L8 NO Sr;by_cases hm:[109,111,118,101,115]∈l
 ·have Ko:c9 (aD 0) fI (aB cY (av (aK (.str [115]))) (aq 0)) (l.map D.str) [none]=.ok ((l.map fun n=>115::n).map D.str):=by
   rw[bW (r:=fun n:List Nat=>D.str (115::n)) (fun env=>∃t,env=[t]) l ?_ _ ⟨none,rfl⟩]
   ·rw[S9];rfl
   ·rintro n hn env ⟨t,rfl⟩;have:=Sr n hn;refine⟨[some (.f,.str n)],rfl,.f,[some (.f,.str n)],?_,_,rfl⟩;simp only[pv,seval,op,GX [115] n (by rw[Tg];lia)]
  have RC:((l.map fun n=>115::n).map D.str).length<=sizeLine:=bF (by rw[bD,bD];lia);have hnd2:(l.map fun n=>115::n).Nodup:=by
   rw[U9,Vu];exact(U9.mp NO).imp fun{a b} h e=>h (US e).2
  have P2:=PV.flat_strs (l.map fun n=>115::n);rw[ax (env':=[some (.f,.int Ij),some (.f,.str JW),some (.l .f,.lst (base.map D.int)),some (.f,.int (wd:Int)),some (.f,.int (sp:Int)),some (.l .f,.lst ((l.map fun n=>115::n).map D.str)),t6,t7]) (by
   generalize (aB cY (av (aK (.str [115]))) (aq 0))=GG at Ko ⊢;simp only[pv,seval,op,yP,hm,Ur,Ko,RC,P2])]
  refine⟨bu La (l.map fun n=>115::n),by rw[gT,bD];exact L8,(d4 La _).nodup_iff.mpr hnd2,eU p7 _,?_⟩;simp only[pv,seval,op,vM (l.map fun n=>115::n) (by rw[bD];lia)]
 ·rw[ax (env':=[some (.f,.int Ij),some (.f,.str JW),some (.l .f,.lst (base.map D.int)),some (.f,.int (wd:Int)),some (.f,.int (sp:Int)),some (.l .f,.lst (l.map D.str)),t6,t7]) (by simp only[pv,seval,op,yP,hm,Uk,dy])];refine⟨bu La l,by rw[gT];exact L8,(d4 La _).nodup_iff.mpr NO,eU p7 _,?_⟩;simp only[pv,seval,op,vM l (by lia)]
theorem DB(env:PV.Env)(fo:FO)(fp Hk fq:FP):Fb fo fp Hk fq env=Res.bnd (fo env) (f:=⟨fun p=>Res.bnd (fp p.2) (f:=⟨fun q=>Res.bnd (Hk q.2) (f:=⟨fun t=>Res.bnd (fq t.2) (f:=⟨fun u=>Res.bnd (IK u.2 p.1) (f:=⟨fun d=>Res.bnd (C5 d q.1 t.1 u.1) (f:=⟨fun r=>.ok (r,u.2)⟩)⟩)⟩)⟩)⟩)⟩):=id rfl
theorem AY(env:PV.Env)(fa fb fc:FX):Ap fa fb fc env=Res.bnd (fa env) (f:=⟨fun p=>Res.bnd (fb p.2) (f:=⟨fun q=>Res.bnd (fc q.2) (f:=⟨fun t=>.ok ((.t [.f,q.1.1,t.1.1],.tup [p.1.2,q.1.2,t.1.2]),t.2)⟩)⟩)⟩):=id rfl
theorem xW{α β:Type}(f:α->β)(l:List α)(lo hi:Option Int)(c:Int):gy (l.map f) lo hi c=(gy l lo hi c).map f:=by
 unfold gy;rw[bD,List.map_filterMap];congr 1
 funext i
 rw[List.getElem?_map]
theorem Fq(ds:List D)(lo hi:Option Int):C5 (.lst ds) lo hi (some 6)=.ok (.l .f,.lst (gy ds lo hi 6)):=id rfl
theorem DD(ns:List Int)(first k:Int)(hk:0<=k/\k<=1000):∃v:Int,dt [.lst (ns.map D.int),.int first,.int k]=.ok (.f,.int v):=by
 unfold dt lj;rw[bJ (h:=by rfl)];rw[ax (env':=[some (.f,.lst (ns.map D.int)),some (.f,.int first),some (.f,.int k),some (.f,.int (7+k)),none]) (by simp only[pv,↓reduceIte,Nat.reduceAdd,Nat.reduceLT,Nat.reduceLeDiff,Nat.reduceEqDiff,op])];obtain⟨env',ef,v,t4,rfl⟩:=for_list (a:=aD 4) (g:=ft) (e:=D.int) (gy ns (some (first+k)) (some (first+84)) 6) (fun j env=>∃(v:Int) (t4:Option R),env=[some (.f,.lst (ns.map D.int)),some (.f,.int first),some (.f,.int k),some (.f,.int v),t4]) (by
  rintro j c env hj ⟨v,t4,rfl⟩;refine⟨_,rfl,_,?_,wM (c+v) k,some (.f,.int c),rfl⟩;unfold ft;simp only[pv,↓reduceIte,Nat.reduceAdd,Nat.reduceLT,Nat.reduceLeDiff,Nat.reduceEqDiff,op,nM (c+v) k hk.1 hk.2]) _ ⟨7+k,none,rfl⟩
 rw[ax (env':=_) (by
  unfold jk;simp only[pv,↓reduceIte,Nat.reduceAdd,Nat.reduceLT,Nat.reduceLeDiff,Nat.reduceEqDiff,op,DB,Fq,xW];exact ef)]
 unfold iu;exact⟨v,by simp only[pv,↓reduceIte,Nat.reduceAdd,Nat.reduceLT,Nat.reduceLeDiff,Nat.reduceEqDiff,op]⟩
def Tk(l:List Int)(cnt:Nat):Prop:=l.length=cnt/\∀x∈l,0<=x/\x<=10
theorem Tk.app{l:List Int}{cnt:Nat}(h:Tk l cnt){x:Int}(hx:0<=x/\x<=10):Tk (l++[x]) (cnt+1):=by
 refine⟨by rw[jB,h.1];rfl,fun y hy=>?_⟩;rcases ml hy with hy|hy
 ·exact h.2 y hy
 ·rw[lI hy];exact hx
theorem AZ(number:Int)(cnt:Nat)(hc:cnt<=10):∃(b:Int) (ts gs:List Int),(0<=b/\b<=10)/\Tk ts cnt/\Tk gs cnt/\c5 [.int number,.int (cnt:Int)]=.ok (.t [.f,.l .f,.l .f],.tup [.int b,.lst (ts.map D.int),.lst (gs.map D.int)]):=by
 unfold c5 j5;rw[bJ (h:=by rfl)];rw[ax (env':=[some (.f,.int number),some (.f,.int (cnt:Int)),some (.l .f,.lst []),none,none,none,none,none]) (by simp only[pv,seval,op])];rw[ax (env':=[some (.f,.int number),some (.f,.int (cnt:Int)),some (.l .f,.lst []),some (.l .f,.lst []),none,none,none,none]) (by simp only[pv,seval,op])];obtain⟨env',ef,ts,gs,t4,t5,t6,t7,h1,h2,rfl⟩:=nH (a:=aD 4) (g:=eG) (e:=fun k=>D.int (k:Int)) cnt (fun i env=>∃(ts gs:List Int) (t4 t5 t6 t7:Option R),Tk ts i/\Tk gs i/\env=[some (.f,.int number),some (.f,.int (cnt:Int)),some (.l .f,.lst (ts.map D.int)),some (.l .f,.lst (gs.map D.int)),t4,t5,t6,t7]) (by
  rintro j env hj ⟨ts,gs,t4,t5,t6,t7,h1,h2,rfl⟩;have z1:(ts.map D.int).length<sizeLine:=jv (by rw[bD,h1.1];lia);have z2:(gs.map D.int).length<sizeLine:=jv (by rw[bD,h2.1];lia);have Mj:=nM number (j:Int) (by lia) (by lia);generalize wM number (j:Int)=x at Mj;have b1:=eR x 5 (by decide);have b2:=eR (x / 8) 4 (by decide);refine⟨[some (.f,.int number),some (.f,.int (cnt:Int)),some (.l .f,.lst (ts.map D.int)),some (.l .f,.lst (gs.map D.int)),some (.f,.int (j:Int)),t5,t6,t7],rfl,_,?_,ts++[(if 0<0-(x%5-2) then 0-(x%5-2) else 0)+x / 8%4 / 3],gs++[(if 0<x%5-2 then x%5-2 else 0)+x / 8%4 / 3],some (.f,.int (j:Int)),some (.f,.int x),some (.f,.int (x%5-2)),some (.f,.int (x / 8%4 / 3)),h1.app ?_,h2.app ?_,rfl⟩
  ·unfold eG;rw[ax (env':=[some (.f,.int number),some (.f,.int (cnt:Int)),some (.l .f,.lst (ts.map D.int)),some (.l .f,.lst (gs.map D.int)),some (.f,.int (j:Int)),some (.f,.int x),t6,t7]) (by simp only[pv,seval,op,Mj])];rw[ax (env':=[some (.f,.int number),some (.f,.int (cnt:Int)),some (.l .f,.lst (ts.map D.int)),some (.l .f,.lst (gs.map D.int)),some (.f,.int (j:Int)),some (.f,.int x),some (.f,.int (x%5-2)),t7]) (by simp only[pv,seval,op,ju _ 5 (by decide)])];generalize x%5-2=y;rw[ax (env':=[some (.f,.int number),some (.f,.int (cnt:Int)),some (.l .f,.lst (ts.map D.int)),some (.l .f,.lst (gs.map D.int)),some (.f,.int (j:Int)),some (.f,.int x),some (.f,.int y),some (.f,.int (x / 8%4 / 3))]) (by simp only[pv,seval,op,ju _ 4 (by decide),fW _ 8 (by decide) (by decide),fW _ 3 (by decide) (by decide)])];generalize x / 8%4 / 3=z;rw[S6,S6,eQ,eQ,Tz];rw[ax (env':=[some (.f,.int number),some (.f,.int (cnt:Int)),some (.l .f,.lst (ts.map D.int++[.int ((if 0<0-y then 0-y else 0)+z)])),some (.l .f,.lst (gs.map D.int)),some (.f,.int (j:Int)),some (.f,.int x),some (.f,.int y),some (.f,.int z)]) (by simp only[pv,seval,op,z1])];simp only[pv,seval,op,z2]
  ·split <;> lia
  ·split <;> lia) _ ⟨[],[],none,none,none,none,⟨rfl,(fun _ h=>nomatch h)⟩,⟨rfl,(fun _ h=>nomatch h)⟩,rfl⟩
 rw[Tz]at ef;rw[ax (env':=_) (by
  unfold iw;simp only[pv,seval,op];rw[SU (by lia)];simp only[pv,seval,op,TR];exact ef)]
 unfold gE;have b:=eR (number / 16) 4 (by decide);exact⟨number / 16%4,ts,gs,by lia,h1,h2,by simp only[pv,seval,op,AY,fW _ 16 (by decide) (by decide),ju _ 4 (by decide)]⟩
abbrev Pl:=Int×List Int×List Int
def eP(p:Pl):D:=.tup [.int p.1,.tup (p.2.1.map D.int),.tup (p.2.2.map D.int)]
def JY(p:Pl)(cnt:Nat):Prop:=p.2.1.length=cnt/\p.2.2.length=cnt
theorem DE(f:Int)(l:List Int)(h:∀x∈l,0<=x/\x<=10):c9 (aD 0) fI (aB m7 (aq 1) (aq 0)) (l.map D.int) [none,some (.f,.int f)]=.ok ((l.map fun x=>f*x).map D.int):=by
 rw[bW (r:=fun x:Int=>D.int (f*x)) (fun env=>∃t,env=[t,some (.f,.int f)]) l ?_ _ ⟨none,rfl⟩]
 ·rw[S9];rfl
 ·rintro x hx env ⟨t,rfl⟩;have:=h x hx;refine⟨[some (.f,.int x),some (.f,.int f)],rfl,.f,[some (.f,.int x),some (.f,.int f)],?_,_,rfl⟩;simp only[pv,seval,op,F7 f x (pC x (by lia) (by lia))]
theorem rR(b:Int)(hb:0<=b/\b<=10)(ts gs:List Int)(cnt:Nat)(hc:cnt<=10)(h1:Tk ts cnt)(h2:Tk gs cnt)(Ij:Int):∃p:Pl,JY p cnt/\b6 [.tup [.int b,.lst (ts.map D.int),.lst (gs.map D.int)],.int Ij]=.ok (.f,eP p):=by
 have p50:Bx (.int 10) (.int 50)=.ok (.f,.int (10 ^ 50)):=GV 50 (by decide);have m50:=eR Ij (10 ^ 50) (by decide);unfold b6 jl;rw[bJ (h:=by rfl)];rw[ax (env':=[some (.f,.tup [.int b,.lst (ts.map D.int),.lst (gs.map D.int)]),some (.f,.int Ij),some (.f,.int (1+Ij%10 ^ 50)),none,none,none]) (by simp only[pv,↓reduceIte,Nat.reduceAdd,Nat.reduceLT,Nat.reduceLeDiff,Nat.reduceEqDiff,op,p50,ju _ (10 ^ 50) (by decide)])];have hf:0<1+Ij%10 ^ 50:=by
  generalize Ij%10 ^ 50=q at m50;lia
 generalize 1+Ij%10 ^ 50=f at hf;rw[ax (env':=[some (.f,.tup [.int b,.lst (ts.map D.int),.lst (gs.map D.int)]),some (.f,.int Ij),some (.f,.int f),some (.f,.int b),some (.f,.lst (ts.map D.int)),some (.f,.lst (gs.map D.int))]) (by simp only[pv,↓reduceIte,Nat.reduceAdd,Nat.reduceLT,Nat.reduceLeDiff,Nat.reduceEqDiff,op])];have c1:=DE f ts h1.2;have c2:=DE f gs h2.2;have l1:((ts.map fun x=>f*x).map D.int).length<=sizeLine:=bF (by rw[bD,bD,h1.1];lia);have l2:((gs.map fun x=>f*x).map D.int).length<=sizeLine:=bF (by rw[bD,bD,h2.1];lia);have f1:=Ho (ts.map fun x=>f*x);have f2:=Ho (gs.map fun x=>f*x);refine⟨(f*b+Ij / 7%f,ts.map fun x=>f*x,gs.map fun x=>f*x),⟨by rw[bD];exact h1.1,by rw[bD];exact h2.1⟩,?_⟩;unfold eP;dsimp only;generalize (ts.map fun x=>f*x).map D.int=T1 at *;generalize (gs.map fun x=>f*x).map D.int=T2 at *;have Ss:=F7 f b (pC b (by lia) (by lia));have P4:=ju (Ij / 7) f hf;have hdiv:=fW Ij 7 (by decide) (by decide);generalize f*b=fb at Ss ⊢;generalize (Ij / 7)%f=cf at P4 ⊢;rw[ax (env':=[some (.f,.tup [.int b,.lst (ts.map D.int),.lst (gs.map D.int)]),some (.f,.int Ij),some (.f,.int f),some (.f,.int b),some (.f,.tup T1),some (.f,.lst (gs.map D.int))]) (by
  generalize (aB m7 (aq 1) (aq 0))=GG at c1 ⊢;simp only[pv,↓reduceIte,Nat.reduceAdd,Nat.reduceLT,Nat.reduceLeDiff,Nat.reduceEqDiff,op,c1,l1,f1])]
 have Su:∀GG,GG=(aB m7 (aq 1) (aq 0))->c9 (aD 0) fI GG (gs.map D.int) [none,some (.f,.int f)]=.ok T2:=fun GG h=>by rw[h];exact c2
 rw[show(d9 (dZ (aw (aB cY (av (aB m7 (aq 2) (aq 3))) (av (aB gm (av (aB eD (aq 1) (av (aK (.int 7))))) (aq 2)))) (aw (aI 4) (aw (a8 eE (ah (av (dE (II (je 5) (II (ib (aI 5)) (ic (aI 5)))) [none,some 2] (aD 0) fI (aB m7 (aq 1) (aq 0)))) aH)) aT)))))=(fun GG=>d9 (dZ (aw (aB cY (av (aB m7 (aq 2) (aq 3))) (av (aB gm (av (aB eD (aq 1) (av (aK (.int 7))))) (aq 2)))) (aw (aI 4) (aw (a8 eE (ah (av (dE (II (je 5) (II (ib (aI 5)) (ic (aI 5)))) [none,some 2] (aD 0) fI GG)) aH)) aT))))) (aB m7 (aq 1) (aq 0)) from rfl];generalize eGG:(aB m7 (aq 1) (aq 0))=GG;have c2:=Su GG eGG.symm;clear eGG Su;simp only[pv,↓reduceIte,Nat.reduceAdd,Nat.reduceLT,Nat.reduceLeDiff,Nat.reduceEqDiff,op,Ss,P4,hdiv,c2,l2,f2]
theorem xX(ns:List Int)(first:Nat)(cnt:Nat)(hc:cnt<=10)(ps:List Pl)(Sv:∀p∈ps,JY p cnt)(hl:ps.length<=100)(k:Nat)(hk:k<=100)(t5 t6 t7:Option R):
  ∃(OR:List Pl) (u5 u6 u7:Option R),(∀p∈OR,JY p cnt)/\ps.length+1<=OR.length/\OR.length<=ps.length+2/\cS [some (.f,.lst (ns.map D.int)),some (.f,.int (first:Int)),some (.f,.int (cnt:Int)),some (.l .f,.lst (ps.map eP)),some (.f,.int (k:Int)),t5,t6,t7]=.ok (.nx [some (.f,.lst (ns.map D.int)),some (.f,.int (first:Int)),some (.f,.int (cnt:Int)),some (.l .f,.lst (OR.map eP)),some (.f,.int (k:Int)),u5,u6,u7]):=by
 obtain⟨v,ev⟩:=DD ns (first:Int) (k:Int) (by lia);obtain⟨b,ts,gs,hb,h1,h2,ep⟩:=AZ v cnt hc;have c1:=mq ns (first+k);rw[show((first+k:Nat):Int)=(first:Int)+(k:Int) by lia]at c1;have c2:=mq ns (first+6+k);rw[show((first+6+k:Nat):Int)=(first:Int)+6+(k:Int) by lia]at c2;obtain⟨p1,Sw,e1⟩:=rR b hb ts gs cnt hc h1 h2 (cell ns (first+k));have m4:=eR (v / 256) 4 (by decide);obtain⟨p2,Pe,e2⟩:=rR (v / 256%4) (by lia) gs ts cnt hc h2 h1 (cell ns (first+6+k));have JT:cleanR (.t [.f,.l .f,.l .f]) (.tup [.int b,.lst (ts.map D.int),.lst (gs.map D.int)])=true:=by
  have f1:=Ho ts;have f2:=Ho gs;simp only[cleanR,oH,b5];rw[<-cI,<-cI,f1,f2];rfl
 have QJ:∀p:Pl,b5 (eP p)=true:=fun p=>by
  unfold eP;rw[cV];simp only[flatDs,cV,Ho,ku];rfl
 have hz1:(ps.map eP).length<sizeLine:=jv (by rw[bD];lia);have Mg:(ps.map eP++[eP p1]).length<sizeLine:=jv (by rw[jB,bD,Tg];lia);unfold cS;rw[ax (env':=[some (.f,.lst (ns.map D.int)),some (.f,.int (first:Int)),some (.f,.int (cnt:Int)),some (.l .f,.lst (ps.map eP)),some (.f,.int (k:Int)),some (.f,.int v),t6,t7]) (by simp only[pv,↓reduceIte,Nat.reduceAdd,Nat.reduceLT,Nat.reduceLeDiff,Nat.reduceEqDiff,op,ev])];rw[ax (env':=[some (.f,.lst (ns.map D.int)),some (.f,.int (first:Int)),some (.f,.int (cnt:Int)),some (.l .f,.lst (ps.map eP)),some (.f,.int (k:Int)),some (.f,.int v),some (.t [.f,.l .f,.l .f],.tup [.int b,.lst (ts.map D.int),.lst (gs.map D.int)]),t7]) (by simp only[pv,↓reduceIte,Nat.reduceAdd,Nat.reduceLT,Nat.reduceLeDiff,Nat.reduceEqDiff,op,ep,JT])];rw[ax (env':=[some (.f,.lst (ns.map D.int)),some (.f,.int (first:Int)),some (.f,.int (cnt:Int)),some (.l .f,.lst (ps.map eP++[eP p1])),some (.f,.int (k:Int)),some (.f,.int v),some (.t [.f,.l .f,.l .f],.tup [.int b,.lst (ts.map D.int),.lst (gs.map D.int)]),t7]) (by simp only[pv,↓reduceIte,Nat.reduceAdd,Nat.reduceLT,Nat.reduceLeDiff,Nat.reduceEqDiff,op,c1,e1,QJ,hz1])];by_cases h3:0<v / 64%3
 ·refine⟨ps++[p1,p2],some (.f,.int v),some (.f,.tup [.int b,.lst (ts.map D.int),.lst (gs.map D.int)]),some (.f,.tup [.int (v / 256%4),.lst (gs.map D.int),.lst (ts.map D.int)]),fun p hp=>?_,by rw[jB];simp,by rw[jB];simp,?_⟩
  ·rcases ml hp with hp|hp
   ·exact Sv p hp
   ·rcases SV.mp hp with rfl|hp
    ·exact Sw
    ·rw[lI hp];exact Pe
  ·rw[S6,eQ,eQ,Tz,show ps.map eP++[eP p1,eP p2]=(ps.map eP++[eP p1])++[eP p2] by rw[Tx];rfl];simp only[pv,↓reduceIte,Nat.reduceAdd,Nat.reduceLT,Nat.reduceLeDiff,Nat.reduceEqDiff,op,fW _ 64 (by decide) (by decide),fW _ 256 (by decide) (by decide),ju _ 3 (by decide),ju _ 4 (by decide),gt_iff_lt,h3,Ur,at2,c2,e2,QJ,Mg]
 ·refine⟨ps++[p1],some (.f,.int v),some (.t [.f,.l .f,.l .f],.tup [.int b,.lst (ts.map D.int),.lst (gs.map D.int)]),t7,fun p hp=>?_,by rw[jB];simp,by rw[jB];simp,?_⟩
  ·rcases ml hp with hp|hp
   ·exact Sv p hp
   ·rw[lI hp];exact Sw
  ·rw[S6,eQ,Tz];simp only[pv,↓reduceIte,Nat.reduceAdd,Nat.reduceLT,Nat.reduceLeDiff,Nat.reduceEqDiff,op,fW _ 64 (by decide) (by decide),ju _ 3 (by decide),gt_iff_lt,h3,Uk,dy]
theorem xY(ns:List Int)(first:Nat)(cnt:Nat)(hc:cnt<=10):∃ps:List Pl,(∀p∈ps,JY p cnt)/\ps≠[]/\ps.length<=8/\cK [.lst (ns.map D.int),.int (first:Int),.int (cnt:Int)]=.ok (.l .f,.lst (ps.map eP)):=by
 have c1:aO [.lst (ns.map D.int),.int 1]=.ok (.f,.int (cell ns 1)):=mq ns 1;have m4:=eR (cell ns 1 / 4) 4 (by decide);unfold cK jm;rw[bJ (h:=by rfl)];rw[ax (env':=[some (.f,.lst (ns.map D.int)),some (.f,.int (first:Int)),some (.f,.int (cnt:Int)),some (.l .f,.lst []),none,none,none,none]) (by simp only[pv,seval,op])];obtain⟨env',ef,ps,t4,t5,t6,t7,h1,h2,h3,rfl⟩:=nH (a:=aD 4) (g:=cS) (e:=fun k=>D.int (k:Int)) (1+cell ns 1 / 4%4).toNat (fun i env=>∃(ps:List Pl) (t4 t5 t6 t7:Option R),(∀p∈ps,JY p cnt)/\i<=ps.length/\ps.length<=2*i/\env=[some (.f,.lst (ns.map D.int)),some (.f,.int (first:Int)),some (.f,.int (cnt:Int)),some (.l .f,.lst (ps.map eP)),t4,t5,t6,t7]) (by
  rintro k env hk ⟨ps,t4,t5,t6,t7,h1,h2,h3,rfl⟩;obtain⟨OR,u5,u6,u7,h1',Rc,h3',e⟩:=xX ns first cnt hc ps h1 (by lia) k (by lia) t5 t6 t7
  exact⟨_,rfl,_,e,OR,_,_,_,_,h1',by lia,by lia,rfl⟩) _ ⟨[],none,none,none,none,(fun _ h=>nomatch h),SS _,SS _,rfl⟩
 rw[Tz]at ef;rw[ax (env':=_) (by
  unfold gF;simp only[pv,seval,op,c1,fW _ 4 (by decide) (by decide),ju _ 4 (by decide)];rw[SU (by lia)];simp only[pv,seval,op];exact ef)]
 unfold f9;refine⟨ps,h1,?_,by lia,by simp only[pv,seval,op]⟩;intro h;rw[h,T7]at h2;lia
theorem DF{α:Type}{l:List α}(h:l.Nodup)(lo hi:Option Int):(i6 l lo hi).Nodup:=by
 unfold i6;exact(h.sublist (List.drop_sublist _ _)).sublist (V7 _ _)
theorem DG{α:Type}{l:List α}{r:α->α->Prop}(h:l.Pairwise r)(lo hi:Option Int):(i6 l lo hi).Pairwise r:=by
 unfold i6;exact(h.sublist (List.drop_sublist _ _)).sublist (V7 _ _)
theorem A8(ns:List Int):∃names:LNN,names≠[]/\names.length<=3/\names.Nodup/\names.Pairwise (fun a b=>La b a=false)/\c6 [.lst (ns.map D.int)]=.ok (.f,.tup (names.map D.str)):=by
 have c0:aO [.lst (ns.map D.int),.int 0]=.ok (.f,.int (cell ns 0)):=mq ns 0;have c1:aO [.lst (ns.map D.int),.int 1]=.ok (.f,.int (cell ns 1)):=mq ns 1;obtain⟨l,hl,NO,hpw,en⟩:=AX (cell ns 0);have m3:=eR (cell ns 1) 3 (by decide);unfold c6 j6;rw[bJ (h:=by rfl)];rw[ax (env':=[some (.f,.lst (ns.map D.int)),some (.l .f,.lst (l.map D.str)),none,none,none]) (by simp only[pv,seval,op,c0,en])];rw[ax (env':=[some (.f,.lst (ns.map D.int)),some (.l .f,.lst (l.map D.str)),some (.f,.int (cell ns 1)),none,none]) (by simp only[pv,seval,op,c1])];rw[ax (env':=[some (.f,.lst (ns.map D.int)),some (.l .f,.lst (l.map D.str)),some (.f,.int (cell ns 1)),some (.f,.int (1+cell ns 1%3)),none]) (by simp only[pv,seval,op,ju _ 3 (by decide)])];obtain⟨cnt,ec⟩:=Tv (show 0<=1+cell ns 1%3 by lia);rw[ec];have ms:=eR (cell ns 1 / 32) (6-(cnt:Int)) (by lia);obtain⟨st,es⟩:=Tv ms.1;rw[ax (env':=[some (.f,.lst (ns.map D.int)),some (.l .f,.lst (l.map D.str)),some (.f,.int (cell ns 1)),some (.f,.int (cnt:Int)),some (.f,.int (st:Int))]) (by simp only[pv,seval,op,fW _ 32 (by decide) (by decide),ju _ (6-(cnt:Int)) (by lia),es])];have Oy:=AN l st (st+cnt) (by lia) (by lia);have hlen:(i6 l (some (st:Int)) (some ((st+cnt:Nat):Int))).length=cnt:=by
  rw[Oy,TC,UU];lia
 rw[show((st+cnt:Nat):Int)=(st:Int)+(cnt:Int) by lia]at hlen;refine⟨i6 l (some (st:Int)) (some ((st:Int)+(cnt:Int))),?_,by lia,DF NO _ _,DG hpw _ _,?_⟩
 ·intro h;rw[h,T7]at hlen;lia
 ·simp only[pv,seval,op,AO]
theorem DH{α:Type}{a:FG}{g:FS}{e:α->D}{r:R}{Z:Prop}(l:List α)(P:Nat->PV.Env->Prop)(h:∀k x env,l[k]?=some x->P k env->∃Hg,a (e x) env=.ok Hg/\((∃Hm,g Hg=.ok (.nx Hm)/\P (k+1) Hm)\/(g Hg=.ok (.rt r)/\Z))):
  ∀env,P 0 env->(∃env',dN a g (l.map e) env=.ok (.nx env')/\P l.length env')\/(dN a g (l.map e) env=.ok (.rt r)/\Z):=by
 have key:∀(l':List α) (k:Nat) (env:PV.Env),(∀i x,l'[i]?=some x->l[k+i]?=some x)->P k env->(∃env',dN a g (l'.map e) env=.ok (.nx env')/\P (k+l'.length) env')\/(dN a g (l'.map e) env=.ok (.rt r)/\Z):=by
  intro l';induction l' with
  |nil=>exact fun k env _ hp=>.inl ⟨env,rfl,hp⟩
  |cons d l' ih=>
   intro k env hd hp;obtain⟨Hg,h1,⟨Hm,h2,h3⟩|⟨h2,hz⟩⟩:=h k d env (hd 0 d rfl) hp
   ·rw[eQ,bR,h1,Hx,h2,Hx];rcases ih (k+1) Hm (fun i x e=>by have:=hd (i+1) x (by simpa using e);rw[show k+1+i=k+(i+1) by lia];exact this) h3 with⟨env',h4,h5⟩|h4
    ·exact .inl ⟨env',h4,by rw[S4,show k+(l'.length+1)=k+1+l'.length by lia];exact h5⟩
    ·exact .inr h4
   ·right;rw[eQ,bR,h1,Hx,h2,Hx];exact⟨rfl,hz⟩
 intro env hp;have:=key l 0 env (fun i x e=>by rw[V1];exact e) hp
 rwa [V1]at this
theorem rS{c:FT}{g:FS}{r:R}{Z:Prop}(P:Nat->PV.Env->Prop)(fin:PV.Env->Prop)(h:∀k env,P k env->(∃Hg,c env=.ok (false,Hg)/\fin Hg)\/(∃Hg,c env=.ok (true,Hg)/\((∃Hm k',g Hg=.ok (.nx Hm)/\k'<k/\P k' Hm)\/(g Hg=.ok (.rt r)/\Z)))):
  ∀n k env,k<n->P k env->(∃env',cq c g n env=.ok (.nx env')/\fin env')\/(cq c g n env=.ok (.rt r)/\Z)
 | 0,k,env,hk,_=>absurd hk (WN _)
 |n+1,k,env,hk,hp=>by
  rcases h k env hp with⟨Hg,h1,h2⟩|⟨Hg,h1,⟨Hm,k',h2,h3,h4⟩|⟨h2,hz⟩⟩
  ·exact .inl ⟨Hg,by rw[cO,h1,Hx];rfl,h2⟩
  ·have e:cq c g (n+1) env=cq c g n Hm:=by
    rw[cO,h1,Hx];dsimp only;rw[SU rfl,h2,Hx]
   rw[e];exact rS P fin h n k' Hm (by lia) h4
  ·right;refine⟨?_,hz⟩;rw[cO,h1,Hx];dsimp only;rw[SU rfl,h2,Hx]
def cz(k:Nat):List (Int×Pl)->Option (List Int)
 |[]=>some []
 |z::zs=>if z.1<z.2.2.1.getD k 0 then none else(cz k zs).map fun r=>(z.1-z.2.2.1.getD k 0+z.2.2.2.getD k 0)::r
theorem pG(k:Nat):∀{zs:List (Int×Pl)}{r:List Int},cz k zs=some r->r.length=zs.length
 |[],r,h=>by cases h;rfl
 |z::zs,r,h=>by
  rw[cz]at h;split at h
  ·cases h
  ·rw[Ts]at h;obtain⟨r',h1,rfl⟩:=h;rw[S4,S4,pG k h1]
theorem rT(k:Nat):∀{zs:List (Int×Pl)}{r:List Int}{j:Nat}{z:Int×Pl},cz k zs=some r->zs[j]?=some z->¬ z.1<z.2.2.1.getD k 0/\r[j]?=some (z.1-z.2.2.1.getD k 0+z.2.2.2.getD k 0)
 |[],r,j,z,h,e=>by cases e
 |y::zs,r,j,z,h,e=>by
  rw[cz]at h;split at h
  ·cases h
  ·rename_i hn;rw[Ts]at h;obtain⟨r',h1,rfl⟩:=h;cases j with
   |zero=>
    rw[List.getElem?_cons_zero]at e;cases e;exact⟨hn,rfl⟩
   |succ j=>
    rw[List.getElem?_cons_succ]at e ⊢;exact rT k h1 e
theorem DI(A0 A1 A2:Option R)(k cnt:Nat)(hk:k<cnt)(acc:List Int)(hl:acc.length<=1000)(z:Int×Pl)(hz:JY z.2 cnt):cR [A0,A1,A2,some (.f,.int (k:Int)),some (.l .f,.lst (acc.map D.int)),some (.f,.int z.1),some (.f,eP z.2)]=if z.1<z.2.2.1.getD k 0 then .ok (.rt (.f,.non)) else .ok (.nx [A0,A1,A2,some (.f,.int (k:Int)),some (.l .f,.lst ((acc++[z.1-z.2.2.1.getD k 0+z.2.2.2.getD k 0]).map D.int)),some (.f,.int z.1),some (.f,eP z.2)]):=by
 have h1:Iy (z.2.2.1.map D.int) (k:Int)=some (.int (z.2.2.1.getD k 0)):=lz (by rw[hz.1];exact hk);have h2:Iy (z.2.2.2.map D.int) (k:Int)=some (.int (z.2.2.2.getD k 0)):=lz (by rw[hz.2];exact hk);have RC:(acc.map D.int).length<sizeLine:=jv (by rw[bD];lia);unfold cR eP;by_cases h:z.1<z.2.2.1.getD k 0
 ·rw[SU h];simp only[pv,↓reduceIte,Nat.reduceAdd,Nat.reduceLT,Nat.reduceLeDiff,Nat.reduceEqDiff,op,h1,h,Ur]
 ·rw[SX h,S6,eQ,Tz];simp only[pv,↓reduceIte,Nat.reduceAdd,Nat.reduceLT,Nat.reduceLeDiff,Nat.reduceEqDiff,op,h1,h2,at2,h,Uk,dy,RC]
theorem pH(A0 A1 A2:Option R)(k cnt:Nat)(hk:k<cnt):∀(zs:List (Int×Pl)) (acc:List Int) (t5 t6:Option R),acc.length+zs.length<=1000->(∀z∈zs,JY z.2 cnt)->
  (cz k zs=none/\dN (jA 2 (aN (aD 5) (aN (aD 6) dr))) cR (zs.map fun z:Int×Pl=>D.tup [D.int z.1,eP z.2]) [A0,A1,A2,some (.f,.int (k:Int)),some (.l .f,.lst (acc.map D.int)),t5,t6]=.ok (.rt (.f,.non)))\/
  ∃r u5 u6,cz k zs=some r/\dN (jA 2 (aN (aD 5) (aN (aD 6) dr))) cR (zs.map fun z:Int×Pl=>D.tup [D.int z.1,eP z.2]) [A0,A1,A2,some (.f,.int (k:Int)),some (.l .f,.lst (acc.map D.int)),t5,t6]=.ok (.nx [A0,A1,A2,some (.f,.int (k:Int)),some (.l .f,.lst ((acc++r).map D.int)),u5,u6])
 |[],acc,t5,t6,_,_=>.inr ⟨[],t5,t6,rfl,by rw[Te];rfl⟩
 |z::zs,acc,t5,t6,hl,hp=>by
  have h1:=DI A0 A1 A2 k cnt hk acc (by rw[S4]at hl;lia) z (hp z SI);have ha:jA 2 (aN (aD 5) (aN (aD 6) dr)) (D.tup [D.int z.1,eP z.2]) [A0,A1,A2,some (.f,.int (k:Int)),some (.l .f,.lst (acc.map D.int)),t5,t6]=.ok [A0,A1,A2,some (.f,.int (k:Int)),some (.l .f,.lst (acc.map D.int)),some (.f,.int z.1),some (.f,eP z.2)]:=by simp only[pv,↓reduceIte,Nat.reduceAdd,Nat.reduceLT,Nat.reduceLeDiff,Nat.reduceEqDiff]
  rw[eQ,bR,ha,Hx,h1,cz];by_cases h:z.1<z.2.2.1.getD k 0
  ·left;rw[SU h,SU h];exact⟨rfl,by rw[Hx]⟩
  ·rw[SX h,SX h,Hx];rcases pH A0 A1 A2 k cnt hk zs (acc++[z.1-z.2.2.1.getD k 0+z.2.2.2.getD k 0]) (some (.f,.int z.1)) (some (.f,eP z.2)) (by rw[S4]at hl;rw[jB,Tg];lia) (fun y hy=>hp y (SM _ hy)) with⟨e1,e2⟩|⟨r,u5,u6,e1,e2⟩
   ·left;exact⟨by rw[e1];rfl,e2⟩
   ·right;refine⟨_,u5,u6,by rw[e1];rfl,?_⟩;rw[Tx]at e2;exact e2
def eN(names:LNN)(ps:List Pl):D:=.tup [.tup (names.map D.str),.lst (ps.map eP)]
def eM(m:List Int):D:=.tup (m.map D.int)
theorem qw {names : LNN} {m : List Nat} (h : m ∈ names) : oV (names.map D.str) [.str m] = .ok (.f, .int ((names.idxOf m : Nat) : Int)) := by
  first
    | (unfold oV
       dsimp only
       rw [fH]
       dsimp only
       rw [SU h])
    | (unfold oV
       simp only [fH, h, Vm])
theorem kz{α β:Type}(f:α->D)(g:β->D)(xs:List α)(ys:List β):((xs.map f).zip (ys.map g)).map (fun z=>D.tup [z.1,z.2])=(xs.zip ys).map fun z=>D.tup [f z.1,g z.2]:=by
 rw[List.zip_map,S9];rfl
theorem yQ(names:LNN)(ps:List Pl)(hl:ps.length<=100)(hp:∀p∈ps,JY p names.length)(m:List Int)(mv:List Nat)(hm:mv∈names):
  (cz (names.idxOf mv) (m.zip ps)=none/\bQ [eN names ps,eM m,.str mv]=.ok (.f,.non))\/∃r,cz (names.idxOf mv) (m.zip ps)=some r/\bQ [eN names ps,eM m,.str mv]=.ok (.f,eM r):=by
 have Ja:=qw hm;have hk:=T9 hm;generalize names.idxOf mv=k at Ja hk;unfold bQ lh eN eM;rw[bJ (h:=by rfl)];rw[ax (env':=[some (.f,.tup [.tup (names.map D.str),.lst (ps.map eP)]),some (.f,.tup (m.map D.int)),some (.f,.str mv),some (.f,.int (k:Int)),none,none,none]) (by simp only[pv,seval,op,Ja])];rw[ax (env':=[some (.f,.tup [.tup (names.map D.str),.lst (ps.map eP)]),some (.f,.tup (m.map D.int)),some (.f,.str mv),some (.f,.int (k:Int)),some (.l .f,.lst []),none,none]) (by simp only[pv,seval,op])];rcases pH (some (.f,.tup [.tup (names.map D.str),.lst (ps.map eP)])) (some (.f,.tup (m.map D.int))) (some (.f,.str mv)) k names.length hk (m.zip ps) [] none none (by rw[T7,Vp];lia) (fun z hz=>hp _ (UL (show(z.1,z.2)∈m.zip ps from hz)).2) with⟨e1,e2⟩|⟨r,u5,u6,e1,e2⟩
 ·left;refine⟨e1,?_⟩;rw[Tz]at e2;unfold fR;simp only[pv,seval,op,kz,e2]
 ·right;refine⟨r,e1,?_⟩;rw[Tz,Uj]at e2;unfold fR ir;simp only[pv,seval,op,kz,e2]
theorem eqDs_ints:∀a b:List Int,jH (a.map D.int) (b.map D.int)=decide (a=b)
 |[],[]=>rfl
 |[],_::_=>rfl
 |_::_,[]=>rfl
 |x::a,y::b=>by
  rw[eQ,eQ,jH,eqDs_ints a b,Hl,Th];simp
theorem vW(a b:List Int):Hl (eM a) (eM b)=decide (a=b):=by
 unfold eM;rw[Hl,eqDs_ints]
theorem gX(a:List Int):plainD 40 (eM a)=true:=xT a
theorem nN(l:List (List Int)):plainDs 40 (l.map eM)=true:=by
 induction l with
 |nil=>rfl
 |cons a l ih=>
  rw[eQ,plainDs,ih,VJ];exact gX a
theorem RD{α:Type}[DecidableEq α]{e:α->D}(he:∀a b,Hl (e a) (e b)=decide (a=b))(hp:∀l:List α,plainDs 40 (l.map e)=true)(hq:∀a,plainD 40 (e a)=true)(l:List α)(a:α)(h:a∈l):∃i:Nat,l[i]?=some a/\ng (l.map e) [e a]=.ok (.f,.int (i:Int)):=by
 have e1:(l.map e).any (fun d=>Hl d (e a))=true:=by
  rw[UQ,Ua];exact⟨a,h,by show Hl (e a) (e a)=true;rw[he,Tr rfl]⟩
 have e2:(l.map e).findIdx (fun d=>Hl d (e a))=l.findIdx fun x=>decide (x=a):=by
  rw[List.findIdx_map];congr 1
  funext x
  exact he x a
 have h3:(l.findIdx fun x=>decide (x=a))<l.length:=List.findIdx_lt_length_of_exists ⟨a,h,Tr rfl⟩;have h4:=WY (p:=fun x=>decide (x=a)) (xs:=l) (w:=h3);refine⟨l.findIdx fun x=>decide (x=a),by rw[nI h3];congr 1;simpa using h4,?_⟩;unfold ng;dsimp only;rw[hq,hp,e1,e2];rfl
theorem lF{α:Type}[DecidableEq α](a:α):∀l:List α,a∉l->((l++[a]).findIdx fun x=>decide (x=a))=l.length
 |[],_=>by simp
 |x::l,h=>by
  rw[SV,not_or]at h;rw[Uq,List.findIdx_cons,lF a l h.2,Tb (fun e=>h.1 e.symm)];rfl
theorem Fs{α:Type}[DecidableEq α]{e:α->D}(he:∀a b,Hl (e a) (e b)=decide (a=b))(hp:∀l:List α,plainDs 40 (l.map e)=true)(hq:∀a,plainD 40 (e a)=true)(l:List α)(a:α)(h:a∉l):ng (l.map e++[e a]) [e a]=.ok (.f,.int (l.length:Int)):=by
 have e0:l.map e++[e a]=(l++[a]).map e:=by rw[S6];rfl
 have e1:((l++[a]).map e).any (fun d=>Hl d (e a))=true:=by
  rw[UQ,Ua];exact⟨a,SK _ (S7.mpr rfl),by show Hl (e a) (e a)=true;rw[he,Tr rfl]⟩
 have e2:((l++[a]).map e).findIdx (fun d=>Hl d (e a))=l.length:=by
  rw[List.findIdx_map];rw[<-lF a l h];congr 1
  funext x
  exact he x a
 unfold ng;dsimp only;rw[e0,hq,hp,e1,e2];rfl
theorem GZ{α:Type}[DecidableEq α]{e:α->D}(he:∀a b,Hl (e a) (e b)=decide (a=b))(hp:∀l:List α,plainDs 40 (l.map e)=true)(hq:∀a,plainD 40 (e a)=true)(l:List α)(a:α):wJ (e a) (.lst (l.map e))=.ok (.f,.bl (!decide (a∈l))):=by
 have e1:tw (e a) (l.map e)=decide (a∈l):=by
  unfold tw;rw[UQ,Th,Ua,S3];constructor
  ·rintro⟨x,hx,e1⟩;have e1:Hl (e x) (e a)=true:=e1;rw[he,S3]at e1;rw[<-e1];exact hx
  ·intro h;refine⟨a,h,?_⟩;show Hl (e a) (e a)=true;rw[he,S3]
 unfold wJ Ly;dsimp only;rw[hq,hp,TL,SU rfl,e1];rfl
structure Rm(names:LNN)(ps:List Pl)(S:List (List Int))(A:List Hq)(m:Nat):Prop where
 nd:S.Nodup
 z:S[0]?=some (ps.map (·.1))
 ln:∀s∈S,s.length=ps.length
 le:S.length<=8
 ab:∀a∈A,a.2.1∈names/\∃i j:Nat,i<m/\a.1=(i:Int)/\a.2.2=(j:Int)/\∃s t,S[i]?=some s/\S[j]?=some t/\cz (names.idxOf a.2.1) (s.zip ps)=some t
 rc:∀j:Nat,1<=j->j<S.length->∃a∈A,a.2.2=(j:Int)/\∃b:Nat,b<j/\a.1=(b:Int)
theorem Rm.more{names:LNN}{ps:List Pl}{S:List (List Int)}{A:List Hq}{m m':Nat}(r:Rm names ps S A m)(h:m<=m'):Rm names ps S A m':=⟨r.nd,r.z,r.ln,r.le,fun a ha=>by
 obtain⟨h1,i,j,h2,h3⟩:=r.ab a ha;exact⟨h1,i,j,by lia,h3⟩,r.rc⟩
theorem Rm.old{names:LNN}{ps:List Pl}{S:List (List Int)}{A:List Hq}{d:Nat}(r:Rm names ps S A (d+1)){mv:List Nat}(hn:mv∈names){s t:List Int}(hs:S[d]?=some s){i:Nat}(ht:S[i]?=some t)(hf:cz (names.idxOf mv) (s.zip ps)=some t):Rm names ps S (A++[((d:Int),mv,(i:Int))]) (d+1):=by
 refine⟨r.nd,r.z,r.ln,r.le,fun a ha=>?_,fun j j1 j2=>?_⟩
 ·rcases ml ha with ha|ha
  ·exact r.ab a ha
  ·rw[lI ha];exact⟨hn,d,i,by lia,rfl,rfl,s,t,hs,ht,hf⟩
 ·obtain⟨a,ha,q⟩:=r.rc j j1 j2;exact⟨a,SR _ ha,q⟩
theorem Rm.new{names:LNN}{ps:List Pl}{S:List (List Int)}{A:List Hq}{d:Nat}(r:Rm names ps S A (d+1)){mv:List Nat}(hn:mv∈names){s t:List Int}(hs:S[d]?=some s)(ht:t∉S)(hf:cz (names.idxOf mv) (s.zip ps)=some t)(h8:S.length<8):Rm names ps (S++[t]) (A++[((d:Int),mv,(S.length:Int))]) (d+1):=by
 have hd:=(ki hs).1;have hl:(S++[t]).length=S.length+1:=by rw[jB];rfl
 have up:∀{i:Nat}{x:List Int},S[i]?=some x->(S++[t])[i]?=some x:=fun{i x} h=>by
  rw[List.getElem?_append_left (ki h).1];exact h
 refine⟨Ti.mpr ⟨r.nd,Tf.mpr ⟨TJ,Ug⟩,fun x hx y hy=>?_⟩,up r.z,fun x hx=>?_,by lia,fun a ha=>?_,fun j j1 j2=>?_⟩
 ·rw[lI hy];rintro rfl;exact ht hx
 ·rcases ml hx with hx|hx
  ·exact r.ln x hx
  ·rw[lI hx,pG _ hf,Vp,r.ln s (Ta hs),Nat.min_self]
 ·rcases ml ha with ha|ha
  ·obtain⟨h1,i,j,h2,h3,h4,x,y,h5,h6,h7⟩:=r.ab a ha;exact⟨h1,i,j,h2,h3,h4,x,y,up h5,up h6,h7⟩
  ·rw[lI ha];exact⟨hn,d,S.length,by lia,rfl,rfl,s,t,up hs,by rw[List.getElem?_append_right (SS _),WQ];rfl,hf⟩
 ·by_cases e:j=S.length
  ·subst e;exact⟨_,SK _ (S7.mpr rfl),rfl,d,hd,rfl⟩
  ·obtain⟨a,ha,q⟩:=r.rc j j1 (by lia);exact⟨a,SR _ ha,q⟩
theorem jx(t:List Int):b5 (eM t)=true:=by
 unfold eM;rw[cV,Ho]
def Fu(names:LNN)(ps:List Pl)(S:List (List Int))(A:List Hq)(d j:Nat):Prop:=∀i k:Nat,(i<d\/(i=d/\k<j))->∀mv,names[k]?=some mv->∀s t,S[i]?=some s->cz (names.idxOf mv) (s.zip ps)=some t->∃m:Nat,S[m]?=some t/\((i:Int),mv,(m:Int))∈A
theorem Fu.next{names:LNN}{ps:List Pl}{S S':List (List Int)}{A A':List Hq}{d j:Nat}(fu:Fu names ps S A d j){s0:List Int}(hd:S[d]?=some s0)(up:∀(i:Nat) (x:List Int),S[i]?=some x->S'[i]?=some x)(ua:∀a∈A,a∈A'){mv:List Nat}(hj:names[j]?=some mv)(new:∀t,cz (names.idxOf mv) (s0.zip ps)=some t->∃m:Nat,S'[m]?=some t/\((d:Int),mv,(m:Int))∈A'):Fu names ps S' A' d (j+1):=by
 intro i k h mv' hk s t hs hf;have hdl:=(ki hd).1;have Nk:i<S.length:=by lia
 have RE:S[i]?=some s:=by
  have:=up i _ (nI Nk);rw[hs]at this;rw[nI Nk,this]
 by_cases h2:i<d\/(i=d/\k<j)
 ·obtain⟨m,h3,h4⟩:=fu i k h2 mv' hk s t RE hf;exact⟨m,up _ _ h3,ua _ h4⟩
 ·have e1:i=d:=by lia
  have e2:k=j:=by lia
  subst e1 e2;rw[hj]at hk;cases hk;rw[hd]at RE;cases RE;exact new t hf
theorem Fu.row{names:LNN}{ps:List Pl}{S:List (List Int)}{A:List Hq}{d:Nat}(fu:Fu names ps S A d names.length):Fu names ps S A (d+1) 0:=fun i k h mv hk s t hs hf=>fu i k (by
 have:=(ki hk).1;lia) mv hk s t hs hf
theorem DJ(names:LNN)(ps:List Pl)(hl:ps.length<=100)(hp:∀p∈ps,JY p names.length)(S:List (List Int))(A:List Hq)(hA:A.length<=1000)(d:Nat)(r:Rm names ps S A (d+1))(hd:d<S.length)(mv:List Nat)(hn:mv∈names)(t6:Option R):
  (∃(S':List (List Int)) (A':List Hq) (u6:Option R),Rm names ps S' A' (d+1)/\S.length<=S'.length/\A'.length<=A.length+1/\(∀j,names[j]?=some mv->Fu names ps S A d j->Fu names ps S' A' d (j+1))/\di [some (.f,eN names ps),some (.f,.int 8),some (.l .f,.lst (S.map eM)),some (.l .f,.lst (A.map eA)),some (.f,.int ((d:Nat):Int)),some (.f,.str mv),t6]=.ok (.nx [some (.f,eN names ps),some (.f,.int 8),some (.l .f,.lst (S'.map eM)),some (.l .f,.lst (A'.map eA)),some (.f,.int ((d:Nat):Int)),some (.f,.str mv),u6]))\/
  (di [some (.f,eN names ps),some (.f,.int 8),some (.l .f,.lst (S.map eM)),some (.l .f,.lst (A.map eA)),some (.f,.int ((d:Nat):Int)),some (.f,.str mv),t6]=.ok (.rt (.f,.non))/\∃S A m,Rm names ps S A m/\S.length=8):=by
 have OS:S[d]?=some S[d]:=nI hd;have Ka:Iy (S.map eM) (d:Int)=some (eM S[d]):=eZ (by rw[List.getElem?_map,OS];rfl);have h8:=r.le;have hzA:(A.map eA).length<sizeLine:=jv (by rw[bD];lia);have hzS:(S.map eM).length<sizeLine:=jv (by rw[bD];lia);have QK:b5 .non=true:=rfl;unfold di;rcases yQ names ps hl hp S[d] mv hn with⟨hf,e⟩|⟨t,hf,e⟩
 ·refine .inl ⟨S,A,some (.f,.non),r,SS _,by lia,(fun j hj fu=>fu.next OS (fun _ _ h=>h) (fun _ h=>h) hj fun t h=>by rw[hf]at h;cases h),?_⟩;rw[ax (env':=[some (.f,eN names ps),some (.f,.int 8),some (.l .f,.lst (S.map eM)),some (.l .f,.lst (A.map eA)),some (.f,.int ((d:Nat):Int)),some (.f,.str mv),some (.f,.non)]) (by simp only[pv,↓reduceIte,Nat.reduceAdd,Nat.reduceLT,Nat.reduceLeDiff,Nat.reduceEqDiff,op,Ka,e,QK])];simp only[pv,↓reduceIte,Nat.reduceAdd,Nat.reduceLT,Nat.reduceLeDiff,Nat.reduceEqDiff,op,lC,dy]
 ·have hft:=jx t;have Oz:=GZ vW nN gX S t;have Mk:isnO (eM t) .non=.ok (.f,.bl true):=id rfl;rw[ax (env':=[some (.f,eN names ps),some (.f,.int 8),some (.l .f,.lst (S.map eM)),some (.l .f,.lst (A.map eA)),some (.f,.int ((d:Nat):Int)),some (.f,.str mv),some (.f,eM t)]) (by simp only[pv,↓reduceIte,Nat.reduceAdd,Nat.reduceLT,Nat.reduceLeDiff,Nat.reduceEqDiff,op,Ka,e,hft])];by_cases hm:t∈S
  ·obtain⟨i,hi,Ja⟩:=RD vW nN gX S t hm;refine .inl ⟨S,A++[((d:Int),mv,(i:Int))],some (.f,eM t),r.old hn OS hi hf,SS _,by rw[jB];exact SS _,(fun j hj fu=>fu.next OS (fun _ _ h=>h) (fun _ h=>SR _ h) hj fun t' h=>by rw[hf]at h;cases h;exact⟨i,hi,SK _ (S7.mpr rfl)⟩),?_⟩;rw[S6];simp only[pv,↓reduceIte,Nat.reduceAdd,Nat.reduceLT,Nat.reduceLeDiff,Nat.reduceEqDiff,op,Mk,Oz,hm,Ur,UH,dy,rN,Ja,hzA];rfl
  ·by_cases h9:S.length=8
   ·right;refine⟨?_,S,A,d+1,r,h9⟩;have he:((S.length:Int)==8)=true:=by rw[h9];rfl
    simp only[pv,↓reduceIte,Nat.reduceAdd,Nat.reduceLT,Nat.reduceLeDiff,Nat.reduceEqDiff,op,Mk,Oz,hm,Uk,T5,bD,he]
   ·have he:((S.length:Int)==8)=false:=by
     rw[TN];lia
    have Ja:=Fs vW nN gX S t hm;refine .inl ⟨S++[t],A++[((d:Int),mv,(S.length:Int))],some (.f,eM t),r.new hn OS hm hf (by lia),by rw[jB];lia,by rw[jB];exact SS _,(fun j hj fu=>fu.next OS (fun i x h=>by rw[List.getElem?_append_left (ki h).1];exact h) (fun _ h=>SR _ h) hj fun t' h=>by rw[hf]at h;cases h;exact⟨S.length,by rw[List.getElem?_append_right (SS _),WQ];rfl,SK _ (S7.mpr rfl)⟩),?_⟩;rw[S6,S6,eQ,Tz];have hzS':S.length<sizeLine:=jv (by lia);have hzA':A.length<sizeLine:=jv (by lia);simp only[pv,↓reduceIte,Nat.reduceAdd,Nat.reduceLT,Nat.reduceLeDiff,Nat.reduceEqDiff,op,Mk,Oz,hm,Uk,T5,dy,bD,he,rN,Ja,hzA',hzS'];rfl
theorem Ba(names:LNN)(hn:names.length<=3)(ps:List Pl)(hl:ps.length<=100)(hp:∀p∈ps,JY p names.length):
  (∃S A m,Rm names ps S A m/\A.length<=24/\Fu names ps S A S.length 0/\bY [eN names ps,.int 8]=.ok (.f,.tup [.lst ((bu cy A).map eA),.lst (S.map eM)]))\/(bY [eN names ps,.int 8]=.ok (.f,.non)/\∃S A m,Rm names ps S A m/\S.length=8):=by
 unfold bY ma;rw[bJ (h:=by rfl)];have hc:c9 (jA 3 (aN (aD 0) (aN (aD 1) (aN (aD 2) dr)))) fI (aI 0) (ps.map eP) [none,none,none]=.ok ((ps.map (·.1)).map D.int):=by
  rw[bW (r:=fun p:Pl=>D.int p.1) (fun env=>∃t u w,env=[t,u,w]) ps ?_ _ ⟨none,none,none,rfl⟩]
  ·rw[S9];rfl
  ·rintro p _ env ⟨t,u,w,rfl⟩;exact⟨[some (.f,.int p.1),some (.f,.tup (p.2.1.map D.int)),some (.f,.tup (p.2.2.map D.int))],by unfold eP;simp only[pv,↓reduceIte,Nat.reduceAdd,Nat.reduceLT,Nat.reduceLeDiff,Nat.reduceEqDiff],.f,_,rfl,_,_,_,rfl⟩
 have hlen:((ps.map (·.1)).map D.int).length<=sizeLine:=bF (by rw[bD,bD];lia);have P2:=Ho (ps.map (·.1));rw[ax (env':=[some (.f,eN names ps),some (.f,.int 8),some (.l .f,.lst [eM (ps.map (·.1))]),none,none,none,none]) (by
  unfold eN eM;simp only[pv,↓reduceIte,Nat.reduceAdd,Nat.reduceLT,Nat.reduceLeDiff,Nat.reduceEqDiff,op,hc,hlen,P2])]
 rw[ax (env':=[some (.f,eN names ps),some (.f,.int 8),some (.l .f,.lst [eM (ps.map (·.1))]),some (.l .f,.lst []),none,none,none]) (by simp only[pv,↓reduceIte,Nat.reduceAdd,Nat.reduceLT,Nat.reduceLeDiff,Nat.reduceEqDiff,op])];rw[ax (env':=[some (.f,eN names ps),some (.f,.int 8),some (.l .f,.lst [eM (ps.map (·.1))]),some (.l .f,.lst []),some (.f,.int 0),none,none]) (by simp only[pv,↓reduceIte,Nat.reduceAdd,Nat.reduceLT,Nat.reduceLeDiff,Nat.reduceEqDiff,op])];rcases rS (c:=(HI (aB J3 (aq 4) (av (a8 iR (ah (aq 2) aH)))))) (g:=dj) (r:=(.f,.non)) (Z:=∃S A m,Rm names ps S A m/\S.length=8)
  (fun k env=>∃S A d t5 t6,Rm names ps S A d/\d<=S.length/\A.length<=3*d/\Fu names ps S A d 0/\k=9-d/\env=[some (.f,eN names ps),some (.f,.int 8),some (.l .f,.lst (S.map eM)),some (.l .f,.lst (A.map eA)),some (.f,.int ((d:Nat):Int)),t5,t6]) (fun env=>∃S A d t5 t6,Rm names ps S A d/\d=S.length/\A.length<=3*d/\Fu names ps S A d 0/\env=[some (.f,eN names ps),some (.f,.int 8),some (.l .f,.lst (S.map eM)),some (.l .f,.lst (A.map eA)),some (.f,.int ((d:Nat):Int)),t5,t6]) (by
  rintro k env ⟨S,A,d,t5,t6,r,hd,hA,fu,rfl,rfl⟩;have h8:=r.le;by_cases HW:d<S.length
  ·refine .inr ⟨[some (.f,eN names ps),some (.f,.int 8),some (.l .f,.lst (S.map eM)),some (.l .f,.lst (A.map eA)),some (.f,.int ((d:Nat):Int)),t5,t6],?_,?_⟩
   ·have:(d:Int)<(S.length:Int):=by lia
    simp only[pv,↓reduceIte,Nat.reduceAdd,Nat.reduceLT,Nat.reduceLeDiff,Nat.reduceEqDiff,op,bD,this,Ur]
   ·rcases DH (a:=aD 5) (g:=di) (e:=D.str) (r:=(.f,.non)) (Z:=∃S A m,Rm names ps S A m/\S.length=8) names (fun j env=>∃S' A' t5 t6,Rm names ps S' A' (d+1)/\S.length<=S'.length/\A'.length<=3*d+j/\Fu names ps S' A' d j/\env=[some (.f,eN names ps),some (.f,.int 8),some (.l .f,.lst (S'.map eM)),some (.l .f,.lst (A'.map eA)),some (.f,.int ((d:Nat):Int)),t5,t6]) (by
     rintro j mv env hj ⟨S',A',t5,t6,r',Nu,hA',RF,rfl⟩;have R7:=(ki hj).1;have h8:=r'.le;refine⟨[some (.f,eN names ps),some (.f,.int 8),some (.l .f,.lst (S'.map eM)),some (.l .f,.lst (A'.map eA)),some (.f,.int ((d:Nat):Int)),some (.f,.str mv),t6],rfl,?_⟩;rcases DJ names ps hl hp S' A' (by lia) d r' (by lia) mv (Ta hj) t6 with⟨S2,A2,u6,r2,hd2,hA2,nf,e⟩|e
     ·exact .inl ⟨_,e,S2,A2,_,_,r2,by lia,by lia,nf j hj RF,rfl⟩
     ·exact .inr e) _ ⟨S,A,t5,t6,r.more (by lia),SS _,by lia,fu,rfl⟩ with⟨env',ef,S',A',RG,t6',r',Nu,hA',RF,rfl⟩|⟨ef,hz⟩
    ·have h8':=r'.le;refine .inl ⟨_,9-(d+1),?_,by lia,S',A',d+1,RG,t6',r',by lia,by lia,RF.row,rfl,rfl⟩;unfold dj;rw[ax (env':=_) (by
      unfold gC;unfold eN at ef ⊢;simp only[pv,↓reduceIte,Nat.reduceAdd,Nat.reduceLT,Nat.reduceLeDiff,Nat.reduceEqDiff,op];exact ef)]
     unfold ji;simp only[pv,↓reduceIte,Nat.reduceAdd,Nat.reduceLT,Nat.reduceLeDiff,Nat.reduceEqDiff,op,VX,U1];rfl
    ·refine .inr ⟨?_,hz⟩;unfold dj;rw[HL];unfold gC;unfold eN at ef ⊢;simp only[pv,↓reduceIte,Nat.reduceAdd,Nat.reduceLT,Nat.reduceLeDiff,Nat.reduceEqDiff,op,ef]
  ·refine .inl ⟨_,?_,S,A,d,t5,t6,r,by lia,hA,fu,rfl⟩;have:¬ (d:Int)<(S.length:Int):=by lia
   simp only[pv,↓reduceIte,Nat.reduceAdd,Nat.reduceLT,Nat.reduceLeDiff,Nat.reduceEqDiff,op,bD,this,Uk]) 100000 9 _ (by decide) ⟨[ps.map (·.1)],[],0,none,none,⟨Tf.mpr ⟨TJ,Ug⟩,rfl,fun x hx=>by rw[lI hx,bD],by simp,(fun _ h=>nomatch h),fun j j1 j2=>by rw[Tg]at j2;lia⟩,Tw _,SS _,(fun i k h=>by lia),rfl,rfl⟩ with⟨env',ew,S,A,d,t5,t6,r,hd,hA,fu,rfl⟩|⟨ew,hz⟩
 ·have h8:=r.le;left;refine⟨S,A,d,r,by lia,hd▸fu,?_⟩;rw[ax (env':=_) (by
   unfold gD;exact ew)]
  unfold jj;simp only[pv,↓reduceIte,Nat.reduceAdd,Nat.reduceLT,Nat.reduceLeDiff,Nat.reduceEqDiff,op,qu A (by lia)]
 ·right;refine⟨?_,hz⟩;rw[HL];unfold gD;have ew2:(cq (HI (aB J3 (aq 4) (av (a8 iR (ah (aq 2) aH))))) dj 100000) [some (.f,eN names ps),some (.f,.int 8),some (.l .f,.lst [eM (ps.map (·.1))]),some (.l .f,.lst []),some (.f,.int 0),none,none]=.ok (.rt (.f,.non)):=ew;rw[ew2];simp only[pv,↓reduceIte,Nat.reduceAdd,Nat.reduceLT,Nat.reduceLeDiff,Nat.reduceEqDiff]
theorem DK(p:Pl):b5 (eP p)=true:=by
 unfold eP;rw[cV];simp only[flatDs,cV,Ho,ku];rfl
theorem Bb(ps:List Pl):flatDs (ps.map eP)=true:=by
 rw[cI,Uu,Tq];exact fun p _=>DK p
theorem qx{α:Type}[DecidableEq α]:∀(l m:List α),l.Nodup->(∀x∈l,x∈m)->l.length<=m.length
 |[],m,_,_=>Tw _
 |a::l,m,nd,h=>by
  rw[Tf]at nd;have ha:=h a SI;have:=qx l (m.erase a) nd.2 fun x hx=>(List.mem_erase_of_ne (fun e=>nd.1 (by rw[<-e];exact hx))).mpr (h x (SM _ hx))
  rw[We ha]at this;have:=Wz ha;rw[S4];lia
def nS(names:LNN)(b:Int):Pl:=(b,names.map fun _=>1,names.map fun _=>0)
theorem rU(names:LNN)(c:Int){k:Nat}(h:k<names.length):(names.map fun _=>c).getD k 0=c:=by
 rw[List.getD_eq_getElem?_getD,List.getElem?_map,nI h];rfl
theorem vX{names:LNN}{ps:List Pl}{b:Int}{k:Nat}(hk:k<names.length){s t:List Int}(hs:s.length=(ps++[nS names b]).length)(hf:cz k (s.zip (ps++[nS names b]))=some t):1<=s.getD ps.length 0/\t.getD ps.length 0=s.getD ps.length 0-1:=by
 rw[jB,Tg]at hs;have HW:ps.length<s.length:=by lia
 have e:(s.zip (ps++[nS names b]))[ps.length]?=some (s[ps.length],nS names b):=by
  rw[List.getElem?_zip_eq_some];exact⟨nI HW,by rw[List.getElem?_append_right (SS _),WQ];rfl⟩
 obtain⟨h1,h2⟩:=rT k hf e;have e1:(nS names b).2.1.getD k 0=1:=rU names 1 hk;have e2:(nS names b).2.2.getD k 0=0:=rU names 0 hk;dsimp only at h1 h2;rw[e1]at h1;rw[e1,e2]at h2;have e3:s.getD ps.length 0=s[ps.length]:=by rw[List.getD_eq_getElem?_getD,nI HW];rfl
 rw[e3,List.getD_eq_getElem?_getD,h2];exact⟨by lia,by show _=_;simp⟩
theorem xZ{names:LNN}{ps:List Pl}{S:List (List Int)}{A:List Hq}{m:Nat}(r:Rm names (ps++[nS names 1]) S A m):S.length<=1+names.length:=by
 have hz:=r.z;cases hS:S with
 |nil=>exact Tw _
 |cons s0 tl=>
  rw[hS,List.getElem?_cons_zero,UN]at hz;have h0:s0.getD ps.length 0=1:=by
   rw[hz,List.getD_eq_getElem?_getD,List.getElem?_map,List.getElem?_append_right (SS _),WQ];rfl
  have key:∀j:Nat,1<=j->∀s,S[j]?=some s->s.getD ps.length 0=0/\∃mv∈names,cz (names.idxOf mv) (s0.zip (ps++[nS names 1]))=some s:=by
   intro j;induction j using Nat.strongRecOn with
   |_ j ih=>
    intro hj s hs;obtain⟨a,ha,e1,b,hb,e2⟩:=r.rc j hj (ki hs).1;obtain⟨hn,i',j',_,e3,e4,x,y,hx,hy,hf⟩:=r.ab a ha;have:i'=b:=by lia
    subst this;have:j'=j:=by lia
    subst this;rw[hs]at hy;cases hy;have hd:=vX (T9 hn) (r.ln x (Ta hx)) hf;cases i' with
    |zero=>
     rw[hS,List.getElem?_cons_zero,UN]at hx;subst hx;exact⟨by lia,_,hn,hf⟩
    |succ i'=>
     have:=(ih (i'+1) hb (by lia) x hx).1;lia
  have nd:=r.nd;rw[hS]at nd;have:=qx tl (names.filterMap fun mv=>cz (names.idxOf mv) (s0.zip (ps++[nS names 1]))) (Tf.mp nd).2 fun s hs=>by
   obtain⟨i,hi⟩:=Uh.mp hs;obtain⟨_,mv,LA,hf⟩:=key (i+1) (by lia) s (by rw[hS,List.getElem?_cons_succ];exact hi);exact VZ.mpr ⟨mv,LA,hf⟩
  have h2:=List.length_filterMap_le (fun mv=>cz (names.idxOf mv) (s0.zip (ps++[nS names 1]))) names;rw[S4];lia
theorem pI(names:LNN)(c:Int):c9 (aD 0) fI (aK (.int c)) (names.map D.str) [none]=.ok ((names.map fun _=>c).map D.int):=by
 rw[bW (r:=fun _:List Nat=>D.int c) (fun env=>∃t,env=[t]) names ?_ _ ⟨none,rfl⟩]
 ·rw[S9];rfl
 ·rintro n _ env ⟨t,rfl⟩;exact⟨[some (.f,.str n)],rfl,.f,_,rfl,_,rfl⟩
theorem G9(ps:List Pl)(hl:ps.length<=100)(d:D):cY (.lst (ps.map eP)) (.lst [d])=.ok (.l .f,.lst (ps.map eP++[d])):=by
 rw[vL,SU (line_le (by rw[bD,Tg];lia))]
structure Nt(names:LNN)(ps:List Pl)(S:List (List Int))(A:List Hq):Prop where
 n0:names≠[]
 n3:names.length<=3
 nn:names.Nodup
 nw:names.Pairwise (fun a b=>La b a=false)
 p0:ps≠[]
 p9:ps.length<=9
 po:∀p∈ps,JY p names.length
 al:A.length<=24
 rm:∃m,Rm names ps S A m
 fu:Fu names ps S A S.length 0
theorem Ft(ns:List Int)(first:Nat):∃names ps S A,Nt names ps S A/\du [.lst (ns.map D.int),.int (first:Int)]=.ok (.f,eN names ps)/\bY [eN names ps,.int 8]=.ok (.f,.tup [.lst ((bu cy A).map eA),.lst (S.map eM)]):=by
 obtain⟨names,n0,n3,nn,nw,en⟩:=A8 ns;obtain⟨ps,RH,hp0,hp8,ep⟩:=xY ns first names.length (by lia)
 have QJ:=Bb ps;have Le:b5 (.tup (names.map D.str))=true:=by rw[cV,PV.flat_strs]
 have QK:b5 .non=true:=rfl;have OT:∀(x y:List D),flatDs [.lst x,.lst y]=false:=fun _ _=>rfl
 unfold du me;rw[bJ (h:=by rfl)];rw[ax (env':=[some (.f,.lst (ns.map D.int)),some (.f,.int (first:Int)),some (.f,.tup (names.map D.str)),none,none,none,none]) (by simp only[pv,seval,op,en,Le])];rw[ax (env':=[some (.f,.lst (ns.map D.int)),some (.f,.int (first:Int)),some (.f,.tup (names.map D.str)),some (.f,.int (names.length:Int)),none,none,none]) (by simp only[pv,seval,op,bD])];rw[ax (env':=[some (.f,.lst (ns.map D.int)),some (.f,.int (first:Int)),some (.f,.tup (names.map D.str)),some (.f,.int (names.length:Int)),some (.l .f,.lst (ps.map eP)),none,none]) (by simp only[pv,seval,op,ep,QJ])];rcases Ba names n3 ps (by lia) RH with⟨S,A,m,r,hA,fu,er⟩|⟨er,_⟩
 ·refine⟨names,ps,S,A,⟨n0,n3,nn,nw,hp0,by lia,RH,hA,⟨m,r⟩,fu⟩,?_,er⟩;unfold eN at er ⊢;simp only[pv,seval,op,er,OT,dy,o_isnT,yN,Bz]
 ·unfold eN at er;rw[ax (env':=[some (.f,.lst (ns.map D.int)),some (.f,.int (first:Int)),some (.f,.tup (names.map D.str)),some (.f,.int (names.length:Int)),some (.f,.lst (ps.map eP)),none,none]) (by simp only[pv,seval,op,er,QK,lC,dy])];have c1:=pI names 1;have c0:=pI names 0;have l1:((names.map fun _=>(1:Int)).map D.int).length<=sizeLine:=bF (by rw[bD,bD];lia);have l0:((names.map fun _=>(0:Int)).map D.int).length<=sizeLine:=bF (by rw[bD,bD];lia);have f1:=Ho (names.map fun _=>(1:Int));have f0:=Ho (names.map fun _=>(0:Int));rw[ax (env':=[some (.f,.lst (ns.map D.int)),some (.f,.int (first:Int)),some (.f,.tup (names.map D.str)),some (.f,.int (names.length:Int)),some (.f,.lst (ps.map eP)),some (.f,.tup ((names.map fun _=>(1:Int)).map D.int)),none]) (by simp only[pv,seval,op,c1,l1,f1])];rw[ax (env':=[some (.f,.lst (ns.map D.int)),some (.f,.int (first:Int)),some (.f,.tup (names.map D.str)),some (.f,.int (names.length:Int)),some (.f,.lst (ps.map eP)),some (.f,.tup ((names.map fun _=>(1:Int)).map D.int)),some (.f,.tup ((names.map fun _=>(0:Int)).map D.int))]) (by simp only[pv,seval,op,c0,l0,f0])];have Nq:∀b:Int,(ps++[nS names b]).map eP=ps.map eP++[.tup [.int b,.tup ((names.map fun _=>(1:Int)).map D.int),.tup ((names.map fun _=>(0:Int)).map D.int)]]:=fun b=>by
   rw[S6];rfl
  have M4:∀b:Int,∀p∈ps++[nS names b],JY p names.length:=fun b p hp=>by
   rcases ml hp with hp|hp
   ·exact RH p hp
   ·rw[lI hp];exact⟨bD _,bD _⟩
  have Lc:∀b:Int,(ps++[nS names b]).length<=9:=fun b=>by
   rw[jB,Tg];lia
  have P5:∀b:Int,ps++[nS names b]≠[]:=fun b h=>by simp at h
  have RI:=fun d=>G9 ps (by lia) d
  have lo:((ps.map eP).length)<=100:=by rw[bD];lia
  rcases Ba names n3 (ps++[nS names 2]) (by have:=Lc 2;lia) (M4 2) with⟨S,A,m,r,hA,fu,er2⟩|⟨er2,_⟩
  ·refine⟨names,ps++[nS names 2],S,A,⟨n0,n3,nn,nw,P5 2,Lc 2,M4 2,hA,⟨m,r⟩,fu⟩,?_,er2⟩;unfold eN at er2 ⊢;rw[Nq]at er2 ⊢;simp only[pv,seval,op,RI,er2,OT,dy,o_isnT,yN,Bz]
  ·rcases Ba names n3 (ps++[nS names 1]) (by have:=Lc 1;lia) (M4 1) with⟨S,A,m,r,hA,fu,er3⟩|⟨_,S,A,m,r,h8⟩
   ·refine⟨names,ps++[nS names 1],S,A,⟨n0,n3,nn,nw,P5 1,Lc 1,M4 1,hA,⟨m,r⟩,fu⟩,?_,er3⟩;unfold eN at er2 ⊢;rw[Nq]at er2 ⊢;rw[ax (env':=[some (.f,.lst (ns.map D.int)),some (.f,.int (first:Int)),some (.f,.tup (names.map D.str)),some (.f,.int (names.length:Int)),some (.f,.lst (ps.map eP)),some (.f,.tup ((names.map fun _=>(1:Int)).map D.int)),some (.f,.tup ((names.map fun _=>(0:Int)).map D.int))]) (by simp only[pv,seval,op,RI,er2,QK,lC,dy])];simp only[pv,seval,op,RI]
   ·have:=xZ r;lia
theorem Nt.ra{names:LNN}{ps:List Pl}{S:List (List Int)}{A:List Hq}(n:Nt names ps S A):Ra names A S.length:=by
 obtain⟨m,r⟩:=n.rm;have h8:=r.le;have J9:=n.al;have h0:=(ki r.z).1;refine⟨by lia,by lia,fun a ha=>?_,fun a ha=>(r.ab a ha).1,r.rc⟩;obtain⟨_,i,j,_,e1,e2,s,t,hs,ht,_⟩:=r.ab a ha;have h1:=(ki hs).1;have h2:=(ki ht).1;lia
theorem DL(a b:Int):Hl (.int a) (.int b)=decide (a=b):=by
 rw[Hl,Th];simp
theorem vY(a:Int):plainD 40 (.int a)=true:=rfl
theorem rV(l:List Int):plainDs 40 (l.map D.int)=true:=d5 _ _
structure Bd(names:LNN)(ap:List Hq):Prop where
 b:∀a∈ap,(0<=a.1/\a.1<12)/\0<=a.2.2/\a.2.2<12
 n:∀a∈ap,a.2.1∈names
structure Od(ap:List Hq)(O1:List Int)(d:Nat)(pre:List Hq):Prop where
 nd:O1.Nodup
 z:O1[0]?=some 0
 bd:∀x∈O1,0<=x/\x<12
 rc:∀j:Nat,1<=j->∀x,O1[j]?=some x->∃a∈ap,a.2.2=x/\∃b:Nat,b<j/\O1[b]?=some a.1
 clo:∀i:Nat,i<d->∀x,O1[i]?=some x->∀a∈ap,a.1=x->a.2.2∈O1
 cur:∀x,O1[d]?=some x->∀a∈pre,a.1=x->a.2.2∈O1
theorem Od.le{ap:List Hq}{O1:List Int}{d:Nat}{pre:List Hq}(o:Od ap O1 d pre):O1.length<=12:=kx 12 o.nd o.bd
theorem Od.skip{ap:List Hq}{O1:List Int}{d:Nat}{pre:List Hq}(o:Od ap O1 d pre){a:Hq}{c:Int}(hc:O1[d]?=some c)(h:a.1≠c\/a.2.2∈O1):Od ap O1 d (pre++[a]):=by
 refine⟨o.nd,o.z,o.bd,o.rc,o.clo,fun x hx b hb e=>?_⟩;rw[hc,UN]at hx;subst hx;rcases ml hb with hb|hb
 ·exact o.cur c hc b hb e
 ·rw[S7]at hb;subst hb;exact h.resolve_left fun n=>n e
theorem Od.take{ap:List Hq}{O1:List Int}{d:Nat}{pre:List Hq}(o:Od ap O1 d pre){a:Hq}{c:Int}(hc:O1[d]?=some c)(ha:a∈ap)(hb:0<=a.2.2/\a.2.2<12)(h1:a.1=c)(h2:a.2.2∉O1):Od ap (O1++[a.2.2]) d (pre++[a]):=by
 have up:∀{i:Nat}{x:Int},O1[i]?=some x->(O1++[a.2.2])[i]?=some x:=fun h=>vT h
 have hd:=(ki hc).1;refine⟨Ti.mpr ⟨o.nd,Tf.mpr ⟨TJ,Ug⟩,fun x hx y hy=>?_⟩,up o.z,fun x hx=>?_,fun j j1 x hx=>?_,fun i hi x hx b hb e=>?_,fun x hx b hb e=>?_⟩
 ·rw[lI hy];rintro rfl;exact h2 hx
 ·rcases ml hx with hx|hx
  ·exact o.bd x hx
  ·rw[lI hx];exact hb
 ·rcases mn hx with hx|⟨rfl,rfl⟩
  ·obtain⟨b,hb,e1,k,hk,e2⟩:=o.rc j j1 x hx;exact⟨b,hb,e1,k,hk,up e2⟩
  ·exact⟨a,ha,rfl,d,hd,by rw[h1];exact up hc⟩
 ·rw[List.getElem?_append_left (by lia)]at hx;exact SR _ (o.clo i hi x hx b hb e)
 ·rw[List.getElem?_append_left hd]at hx;rcases ml hb with hb|hb
  ·exact SR _ (o.cur x hx b hb e)
  ·rw[S7]at hb;subst hb;exact SK _ (S7.mpr rfl)
theorem Od.next{ap:List Hq}{O1:List Int}{d:Nat}{L:List Hq}(o:Od ap O1 d L)(hL:∀a∈ap,a∈L):Od ap O1 (d+1) []:=by
 refine⟨o.nd,o.z,o.bd,o.rc,fun i hi x hx b hb e=>?_,fun x _ b hb=>nomatch hb⟩;by_cases h:i=d
 ·subst h;exact o.cur x hx b (hL b hb) e
 ·exact o.clo i (by lia) x hx b hb e
theorem DM(ap:List Hq)(O1:List Int)(hO:O1.length<=12)(d:Nat)(c:Int)(hc:O1[d]?=some c)(a:Hq):cU [some (.f,.lst (ap.map eA)),some (.l .f,.lst (O1.map D.int)),some (.f,.int (d:Int)),some (.f,.int a.1),some (.f,.str a.2.1),some (.f,.int a.2.2),none,none]=.ok (.nx [some (.f,.lst (ap.map eA)),some (.l .f,.lst ((if a.1=c/\a.2.2∉O1 then O1++[a.2.2] else O1).map D.int)),some (.f,.int (d:Int)),some (.f,.int a.1),some (.f,.str a.2.1),some (.f,.int a.2.2),none,none]):=by
 have Ka:Iy (O1.map D.int) (d:Int)=some (.int c):=eZ (by rw[List.getElem?_map,hc];rfl);have hz:(O1.map D.int).length<sizeLine:=jv (by rw[bD];lia);unfold cU;by_cases h1:a.1=c
 ·have e1:(a.1==c)=true:=Tu.mpr h1;by_cases h2:a.2.2∈O1
  ·rw[SX (fun z=>z.2 h2)];simp only[pv,seval,op,Ka,e1,h2,Ur,UH,dy]
  ·rw[SU ⟨h1,h2⟩,S6];simp only[pv,seval,op,Ka,e1,h2,Uk,T5,hz]
 ·rw[SX (fun z=>h1 z.1)];have e1:(a.1==c)=false:=TN.mpr h1;simp only[pv,seval,op,Ka,e1,dy]
theorem Bc(ap:List Hq)(hl:ap.length<64)(hb:∀a∈ap,0<=a.2.2/\a.2.2<12):∃O1 t3 t4 t5,Od ap O1 O1.length []/\eI [some (.f,.lst (ap.map eA)),some (.l .f,.lst [.int 0]),some (.f,.int 0),none,none,none,none,none]=.ok (.nx [some (.f,.lst (ap.map eA)),some (.l .f,.lst (O1.map D.int)),some (.f,.int (O1.length:Int)),t3,t4,t5,none,none]):=by
 have mem:∀{a:Hq},a∈bu cy ap<->a∈ap:=jw cy;have P6:=qu ap hl;generalize bu cy ap=L at mem P6;obtain⟨env',ew,O1,d,t3,t4,t5,o,hd,rfl⟩:=pD (c:=(HI (aB J3 (aq 2) (av (a8 iR (ah (aq 1) aH)))))) (g:=dQ)
  (fun k env=>∃O1 d t3 t4 t5,Od ap O1 d []/\d<=O1.length/\k=13-d/\env=[some (.f,.lst (ap.map eA)),some (.l .f,.lst (O1.map D.int)),some (.f,.int ((d:Nat):Int)),t3,t4,t5,none,none]) (fun env=>∃O1 d t3 t4 t5,Od ap O1 d []/\d=O1.length/\env=[some (.f,.lst (ap.map eA)),some (.l .f,.lst (O1.map D.int)),some (.f,.int ((d:Nat):Int)),t3,t4,t5,none,none]) (by
  rintro k env ⟨O1,d,t3,t4,t5,o,hd,rfl,rfl⟩;have JE:=o.le;by_cases HW:d<O1.length
  ·refine .inr ⟨[some (.f,.lst (ap.map eA)),some (.l .f,.lst (O1.map D.int)),some (.f,.int ((d:Nat):Int)),t3,t4,t5,none,none],?_,?_⟩
   ·have:(d:Int)<(O1.length:Int):=by lia
    simp only[pv,↓reduceIte,Nat.reduceAdd,Nat.reduceLT,Nat.reduceLeDiff,Nat.reduceEqDiff,op,bD,this,Ur]
   ·obtain⟨c,hc⟩:∃c,O1[d]?=some c:=⟨O1[d],nI HW⟩
    obtain⟨env',ef,O2,t3',t4',RG,o',OH,rfl⟩:=for_list (a:=jA 3 (aN (aD 3) (aN (aD 4) (aN (aD 5) dr)))) (g:=cU) (e:=eA) L (fun j env=>∃O1 t3 t4 t5,Od ap O1 d (L.take j)/\O1[d]?=some c/\env=[some (.f,.lst (ap.map eA)),some (.l .f,.lst (O1.map D.int)),some (.f,.int ((d:Nat):Int)),t3,t4,t5,none,none]) (by
     rintro j a env hj ⟨O1,t3,t4,t5,o,hc,rfl⟩;have P7:=mem.mp (Ta hj);have ht:L.take (j+1)=L.take j++[a]:=by rw[U5,hj];rfl
     refine⟨[some (.f,.lst (ap.map eA)),some (.l .f,.lst (O1.map D.int)),some (.f,.int ((d:Nat):Int)),some (.f,.int a.1),some (.f,.str a.2.1),some (.f,.int a.2.2),none,none],by unfold eA;simp only[pv,↓reduceIte,Nat.reduceAdd,Nat.reduceLT,Nat.reduceLeDiff,Nat.reduceEqDiff],_,DM ap O1 o.le d c hc a,_,_,_,_,?_,?_,rfl⟩
     ·rw[ht];split
      ·rename_i h;exact o.take hc P7 (hb a P7) h.1 h.2
      ·rename_i h;exact o.skip hc (by
        by_cases h1:a.1=c
        ·exact .inr (Decidable.not_not.mp fun h2=>h ⟨h1,h2⟩)
        ·exact .inl h1)
     ·split
      ·exact vT hc
      ·exact hc) _ ⟨O1,t3,t4,t5,by rw[Vz];exact o,hc,rfl⟩
    rw[Vc]at o';have hlt':=(ki OH).1;refine⟨_,13-(d+1),?_,by lia,O2,d+1,t3',t4',RG,o'.next fun a ha=>mem.mpr ha,by lia,rfl,rfl⟩;unfold dQ;rw[ax (env':=_) (by
     unfold gI;simp only[pv,↓reduceIte,Nat.reduceAdd,Nat.reduceLT,Nat.reduceLeDiff,Nat.reduceEqDiff,op,P6];exact ef)]
    unfold gf;simp only[pv,↓reduceIte,Nat.reduceAdd,Nat.reduceLT,Nat.reduceLeDiff,Nat.reduceEqDiff,op,VX,U1]
  ·refine .inl ⟨_,?_,O1,d,t3,t4,t5,o,by lia,rfl⟩;have:¬ (d:Int)<(O1.length:Int):=by lia
   simp only[pv,↓reduceIte,Nat.reduceAdd,Nat.reduceLT,Nat.reduceLeDiff,Nat.reduceEqDiff,op,bD,this,Uk]) 100000 13 _ (by decide) ⟨[0],0,none,none,none,⟨Tf.mpr ⟨TJ,Ug⟩,rfl,fun x hx=>by rw[lI hx];lia,fun j j1 x hx=>by
    have:=(ki hx).1;rw[Tg]at this;lia,fun i hi=>absurd hi (WN _),fun x _ b hb=>nomatch hb⟩,Tw _,rfl,rfl⟩
 subst hd;refine⟨O1,t3,t4,t5,o,?_⟩;unfold eI;exact ew
structure Kp(names:LNN)(ap:List Hq)(O1:List Int)(pre:List Hq)(K:List Hq):Prop where
 b:∀a∈K,a.2.1∈names/\(0<=a.1/\a.1<(O1.length:Int))/\0<=a.2.2/\a.2.2<(O1.length:Int)
 h:∀a∈pre,∀i k:Nat,O1[i]?=some a.1->O1[k]?=some a.2.2->((i:Int),a.2.1,(k:Int))∈K
 l:K.length<=pre.length
theorem x3{l:List Int}(nd:l.Nodup){i j:Nat}{x:Int}(h1:l[i]?=some x)(h2:l[j]?=some x):i=j:=by
 obtain⟨a1,e1⟩:=ki h1;obtain⟨a2,e2⟩:=ki h2;have h3:=nd.idxOf_getElem i a1;have h4:=nd.idxOf_getElem j a2;rw[e1]at h3;rw[e2]at h4;exact h3.symm.trans h4
theorem DN(names:LNN)(ap:List Hq)(O1:List Int)(o:Od ap O1 O1.length [])(pre K:List Hq)(kp:Kp names ap O1 pre K)(IZ:pre.length<=100)(a:Hq)(ha:a∈ap)(hn:a.2.1∈names)(D2 t7:Option R):∃K' u7,Kp names ap O1 (pre++[a]) K'/\cT [some (.f,.lst (ap.map eA)),some (.l .f,.lst (O1.map D.int)),D2,some (.f,.int a.1),some (.f,.str a.2.1),some (.f,.int a.2.2),some (.l .f,.lst (K.map eA)),t7]=.ok (.nx [some (.f,.lst (ap.map eA)),some (.l .f,.lst (O1.map D.int)),D2,some (.f,.int a.1),some (.f,.str a.2.1),some (.f,.int a.2.2),some (.l .f,.lst (K'.map eA)),u7]):=by
 have Km:=yM a.1 O1;have Ml:=kp.l;unfold cT;by_cases h1:a.1∈O1
 ·rw[Tr h1]at Km;obtain⟨i,hi,ei⟩:=RD DL rV vY O1 a.1 h1;have h2:=o.clo i (ki hi).1 _ hi a ha rfl;obtain⟨k,hk,ek⟩:=RD DL rV vY O1 a.2.2 h2;have li:=(ki hi).1;have lk:=(ki hk).1;have Lr:=xV K ((i:Int),a.2.1,(k:Int));have hz:(K.map eA).length<sizeLine:=jv (by rw[bD];lia);have ee:eA ((i:Int),a.2.1,(k:Int))=.tup [.int (i:Int),.str a.2.1,.int (k:Int)]:=rfl;rw[ee]at Lr;by_cases hm:((i:Int),a.2.1,(k:Int))∈K
  ·rw[Tr hm]at Lr;refine⟨K,some (.f,.tup [.int (i:Int),.str a.2.1,.int (k:Int)]),⟨kp.b,fun b hb i' k' e1 e2=>?_,by rw[jB];lia⟩,?_⟩
   ·rcases ml hb with hb|hb
    ·exact kp.h b hb i' k' e1 e2
    ·rw[S7]at hb;subst hb;rw[x3 o.nd e1 hi,x3 o.nd e2 hk];exact hm
   ·simp only[pv,seval,op,Km,rN,ei,ek,Lr,UH,dy]
  ·rw[Tb hm]at Lr;refine⟨K++[((i:Int),a.2.1,(k:Int))],some (.f,.tup [.int (i:Int),.str a.2.1,.int (k:Int)]),⟨fun b hb=>?_,fun b hb i' k' e1 e2=>?_,by rw[jB,jB];simp only[Tg];lia⟩,?_⟩
   ·rcases ml hb with hb|hb
    ·exact kp.b b hb
    ·rw[lI hb];exact⟨hn,by dsimp only;lia,by dsimp only;lia,by dsimp only;lia⟩
   ·rcases ml hb with hb|hb
    ·exact SR _ (kp.h b hb i' k' e1 e2)
    ·rw[S7]at hb;subst hb;rw[x3 o.nd e1 hi,x3 o.nd e2 hk];exact SK _ (S7.mpr rfl)
   ·rw[S6,eQ,Tz,ee];simp only[pv,seval,op,Km,rN,ei,ek,Lr,T5,hz]
 ·rw[Tb h1]at Km;refine⟨K,t7,⟨kp.b,fun b hb i' k' e1 e2=>?_,by rw[jB];lia⟩,?_⟩
  ·rcases ml hb with hb|hb
   ·exact kp.h b hb i' k' e1 e2
   ·rw[S7]at hb;subst hb;exact absurd (Ta e1) h1
  ·simp only[pv,seval,op,Km,dy]
theorem rW(names:LNN)(ap:List Hq)(hl:ap.length<=60)(bd:Bd names ap):∃K mZ,Ra names K mZ/\K.length<=ap.length/\b7 [.lst (ap.map eA)]=.ok (.l .f,.lst ((bu cy K).map eA)):=by
 obtain⟨O1,t3,t4,t5,o,ew⟩:=Bc ap (by lia) fun a ha=>(bd.b a ha).2
 have JE:=o.le;have hz0:=(ki o.z).1;unfold b7 jo;rw[bJ (h:=by rfl)];rw[ax (env':=[some (.f,.lst (ap.map eA)),some (.l .f,.lst [.int 0]),none,none,none,none,none,none]) (by simp only[pv,seval,op])];rw[ax (env':=[some (.f,.lst (ap.map eA)),some (.l .f,.lst [.int 0]),some (.f,.int 0),none,none,none,none,none]) (by simp only[pv,seval,op])];rw[ax ew];unfold gj;rw[ax (env':=[some (.f,.lst (ap.map eA)),some (.l .f,.lst (O1.map D.int)),some (.f,.int (O1.length:Int)),t3,t4,t5,some (.l .f,.lst []),none]) (by simp only[pv,seval,op])];obtain⟨env',ef,K,u3,u4,u5,u7,kp,rfl⟩:=for_list (a:=jA 3 (aN (aD 3) (aN (aD 4) (aN (aD 5) dr)))) (g:=cT) (e:=eA) ap (fun j env=>∃K t3 t4 t5 t7,Kp names ap O1 (ap.take j) K/\env=[some (.f,.lst (ap.map eA)),some (.l .f,.lst (O1.map D.int)),some (.f,.int (O1.length:Int)),t3,t4,t5,some (.l .f,.lst (K.map eA)),t7]) (by
  rintro j a env hj ⟨K,t3,t4,t5,t7,kp,rfl⟩;have P7:=Ta hj;have ht:ap.take (j+1)=ap.take j++[a]:=by rw[U5,hj];rfl
  obtain⟨K',u7,kp',e⟩:=DN names ap O1 o (ap.take j) K kp (by rw[TC];lia) a P7 (bd.n a P7) (some (.f,.int (O1.length:Int))) t7;exact⟨_,by unfold eA;simp only[pv,seval],_,e,K',_,_,_,u7,by rw[ht];exact kp',rfl⟩) _ ⟨[],t3,t4,t5,none,⟨(fun _ h=>nomatch h),(fun _ h=>by rw[Vz]at h;exact nomatch h),Tw _⟩,rfl⟩
 rw[Vc]at kp;have Ml:=kp.l;rw[Tz]at ef;rw[ax (env':=_) (by
  unfold gH;simp only[pv,seval,op];exact ef)]
 unfold gc;refine⟨K,O1.length,⟨by lia,by lia,fun a ha=>(kp.b a ha).2,fun a ha=>(kp.b a ha).1,fun j j1 j2=>?_⟩,Ml,by simp only[pv,seval,op,qu K (by lia)]⟩;obtain⟨a,ha,e1,b,RJ,e2⟩:=o.rc j j1 _ (nI j2);exact⟨_,kp.h a ha b j e2 (by rw[e1];exact nI j2),rfl,b,RJ,rfl⟩
theorem DO(ap:List Hq):Ip (.lst (ap.map eA)) (.lst [])=.ok (.f,.bl ap.isEmpty):=by
 unfold Ip;rw[plainD,jO 36 ap];cases ap <;> rfl
theorem x4(names:LNN)(h0:names≠[])(x:Int):∃m∈names,Ht (.tup (names.map D.str)) (.int (x%(names.length:Int)))=.ok (.f,.str m):=by
 have hp:=VQ.mpr h0;have hb:=eR x (names.length:Int) (by lia);obtain⟨k,ek⟩:=Tv hb.1;have hk:k<names.length:=by lia
 refine⟨names[k],Uo hk,?_⟩;rw[ek,Dm,Dv hk]
theorem Be(x y:List D)(h:x.length+y.length<=1000):cY (.lst x) (.lst y)=.ok (.l .f,.lst (x++y)):=by
 rw[vL,SU (line_le (by lia))]
theorem DP{l:List Int}(h:l≠[]):PV.maxD [.lst (l.map D.int)]=.ok (.f,.int (fJ l)):=by
 unfold PV.maxD;dsimp only;rw[yO];cases l with
 |nil=>exact absurd rfl h
 |cons a l=>rfl
def lJ(ap:List Hq):List Int:=0::ap.map lD
theorem DQ(names:LNN)(h0:names≠[])(hn:names.length<=3)(ap:List Hq)(hl:ap.length<=55)(bd:Bd names ap)(nb:Int):∃J5,Bd names J5/\J5.length<=ap.length+1/\dv [.tup (names.map D.str),.lst (ap.map eA),.int nb]=.ok (.l .f,.lst (J5.map eA)):=by
 have hc:c9 (aD 0) fI (a8 PV.maxD (ah (av (aB Ht (aq 0) (av (aK (.int 0))))) (ah (av (aB Ht (aq 0) (av (aK (.int 2))))) aH))) (ap.map eA) [none]=.ok ((ap.map lD).map D.int):=by
  rw[bW (r:=fun a:Hq=>D.int (lD a)) (fun env=>∃t,env=[t]) ap ?_ _ ⟨none,rfl⟩]
  ·rw[S9];rfl
  ·rintro a _ env ⟨t,rfl⟩;refine⟨[some (.f,eA a)],rfl,.f,[some (.f,eA a)],?_,_,rfl⟩;unfold eA;simp only[pv,seval,op,at2];rfl
 have JT:((ap.map lD).map D.int).length<=sizeLine:=bF (by rw[bD,bD];lia);have OT:=Ho (ap.map lD);have RK:=Be [.int 0] ((ap.map lD).map D.int) (by rw[bD,bD,Tg];lia);have Mj:PV.maxD [.lst ([.int 0]++(ap.map lD).map D.int)]=.ok (.f,.int (fJ (lJ ap))):=DP (l:=lJ ap) (by unfold lJ;simp);have hM0:0<=fJ (lJ ap):=nL (ns:=lJ ap) (x:=0) (by unfold lJ;exact SI);have hM12:fJ (lJ ap)<12:=by
  have:=rO (ns:=lJ ap) (by unfold lJ;simp);unfold lJ at this;rcases SV.mp this with e|e
  ·unfold lJ;lia
  ·obtain⟨a,ha,e2⟩:=pB e;have hb:=bd.b a ha;have h3:=(lE a).2.2;unfold lJ;lia
 have Sy:∀a∈ap,a.1<=fJ (lJ ap)/\a.2.2<=fJ (lJ ap):=fun a ha=>by
  have h1:lD a<=fJ (lJ ap):=nL (by unfold lJ;exact SM _ (TX.mpr ⟨a,ha,rfl⟩));have h2:=lE a;lia
 unfold dv ll;rw[bJ (h:=by rfl)];rw[ax (env':=[some (.f,.tup (names.map D.str)),some (.f,.lst (ap.map eA)),some (.f,.int nb),some (.f,.int (1+fJ (lJ ap))),none,none,none,none,none,none,none]) (by
  generalize (a8 PV.maxD (ah (av (aB Ht (aq 0) (av (aK (.int 0))))) (ah (av (aB Ht (aq 0) (av (aK (.int 2))))) aH)))=GG at hc ⊢;generalize (ap.map lD).map D.int=TT at *;simp only[pv,seval,op,hc,JT,OT];simp only[Uq,Uj]at RK Mj;simp only[pv,seval,op,RK,Mj])]
 have hcb:1<=1+fJ (lJ ap)/\1+fJ (lJ ap)<=12:=by lia
 have RL:∀a∈ap,a.1<1+fJ (lJ ap)/\a.2.2<1+fJ (lJ ap):=fun a ha=>by
  have:=Sy a ha;lia
 generalize 1+fJ (lJ ap)=c at hcb RL;clear hM0 hM12 Sy Mj RK hc JT OT;have OA:0<(if 12<c+1 then 12 else c+1)/\(if 12<c+1 then 12 else c+1)<=12:=by split <;> lia
 have NR:=eR (nb / 128) (if 12<c+1 then 12 else c+1) OA.1;have Sz:=ju (nb / 128) (if 12<c+1 then 12 else c+1) OA.1;rw[ax (env':=[some (.f,.tup (names.map D.str)),some (.f,.lst (ap.map eA)),some (.f,.int nb),some (.f,.int c),some (.f,.int (nb / 128%(if 12<c+1 then 12 else c+1))),none,none,none,none,none,none]) (by simp only[pv,seval,op,fW _ 128 (by decide) (by decide),Sz])];have hot:0<=nb / 128%(if 12<c+1 then 12 else c+1)/\nb / 128%(if 12<c+1 then 12 else c+1)<12:=by lia
 generalize nb / 128%(if 12<c+1 then 12 else c+1)=ot at hot;clear NR Sz OA;obtain⟨mv,LA,emv⟩:=x4 names h0 (nb / 2048);have hp:=VQ.mpr h0;rw[ax (env':=[some (.f,.tup (names.map D.str)),some (.f,.lst (ap.map eA)),some (.f,.int nb),some (.f,.int c),some (.f,.int ot),some (.f,.str mv),none,none,none,none,none]) (by simp only[pv,seval,op,fW _ 2048 (by decide) (by decide),bD,ju _ (names.length:Int) (by lia),emv])];have J6:=DO ap;have m5:=ju nb 5 (by decide);have mc:=eR (nb / 8) c (by lia);have m8:=ju (nb / 8) c (by lia);have d8:=fW nb 8 (by decide) (by decide);have app:∀(l:List Hq) (a:Hq),l.length<=60->cY (.lst (l.map eA)) (.lst [eA a])=.ok (.l .f,.lst ((l++[a]).map eA)):=fun l a h=>by
  rw[Be _ _ (by rw[bD,Tg];lia),S6];rfl
 have OB:∀(l:List Hq) (a:Hq),(∀x∈l,x∈ap)->((0<=a.1/\a.1<12)/\0<=a.2.2/\a.2.2<12)->a.2.1∈names->Bd names (l++[a]):=fun l a JK hb hnm=>by
  refine⟨fun x hx=>?_,fun x hx=>?_⟩
  ·rcases ml hx with hx|hx
   ·exact bd.b x (JK x hx)
   ·rw[lI hx];exact hb
  ·rcases ml hx with hx|hx
   ·exact bd.n x (JK x hx)
   ·rw[lI hx];exact hnm
 by_cases h3:ap.isEmpty=true\/(nb%5==3)=true
 ·have ha:=app ap (nb / 8%c,mv,ot) (by lia);refine⟨ap++[(nb / 8%c,mv,ot)],OB ap _ (fun x hx=>hx) (by dsimp only;lia) LA,by rw[jB];exact SS _,?_⟩;rw[show eA (nb / 8%c,mv,ot)=.tup [.int (nb / 8%c),.str mv,.int ot] from rfl]at ha;cases hE:ap.isEmpty with
  |true=>
   rw[hE]at J6;simp only[pv,seval,op,J6,m8,d8,ha]
  |false=>
   rw[hE]at J6 h3;have h3:=h3.resolve_left SN;simp only[pv,seval,op,J6,m5,h3,m8,d8,ha,dy]
 ·have hE:ap.isEmpty=false:=Vv.mpr fun h=>h3 (.inl h)
  have e3:(nb%5==3)=false:=Vv.mpr fun h=>h3 (.inr h)
  rw[hE]at J6;have hpos:0<ap.length:=by
   cases ap with
   |nil=>cases hE
   |cons _ _=>exact Nat.succ_pos _
  rw[ax (env':=[some (.f,.tup (names.map D.str)),some (.f,.lst (ap.map eA)),some (.f,.int nb),some (.f,.int c),some (.f,.int ot),some (.f,.str mv),none,none,none,none,none]) (by simp only[pv,seval,op,J6,m5,e3,dy])];have ms:=eR (nb / 16384) (ap.length:Int) (by lia);obtain⟨sp,es⟩:=Tv ms.1;have LF:sp<ap.length:=by lia
  rw[ax (env':=[some (.f,.tup (names.map D.str)),some (.f,.lst (ap.map eA)),some (.f,.int nb),some (.f,.int c),some (.f,.int ot),some (.f,.str mv),some (.f,.int (sp:Int)),none,none,none,none]) (by simp only[pv,seval,op,fW _ 16384 (by decide) (by decide),bD,ju _ (ap.length:Int) (by lia),es])];have Ka:Iy (ap.map eA) (sp:Int)=some (eA ap[sp]):=eZ (by rw[List.getElem?_map,nI LF];rfl);have NG:=Uo LF;generalize ap[sp]=a at Ka NG;rw[ax (env':=[some (.f,.tup (names.map D.str)),some (.f,.lst (ap.map eA)),some (.f,.int nb),some (.f,.int c),some (.f,.int ot),some (.f,.str mv),some (.f,.int (sp:Int)),some (.f,eA a),none,none,none]) (by simp only[pv,seval,op,Ka])];have P8:i6 (ap.map eA) none (some (sp:Int))=(ap.take sp).map eA:=by rw[nJ,Wl]
  have L7:i6 (ap.map eA) (some ((sp:Int)+1)) none=(ap.drop (sp+1)).map eA:=by rw[show(sp:Int)+1=((sp+1:Nat):Int) by lia,xS,List.map_drop]
  have JK:∀x∈ap.take sp++ap.drop (sp+1),x∈ap:=fun x hx=>by
   rcases ml hx with h|h
   ·exact VG h
   ·exact List.mem_of_mem_drop h
  have hrl:(ap.take sp++ap.drop (sp+1)).length<=ap.length:=by
   rw[jB,TC,UU];lia
  have P9:=Be ((ap.take sp).map eA) ((ap.drop (sp+1)).map eA) (by rw[bD,bD];rw[jB]at hrl;lia);rw[<-S6]at P9;generalize ap.take sp++ap.drop (sp+1)=dA at *;rw[ax (env':=[some (.f,.tup (names.map D.str)),some (.f,.lst (ap.map eA)),some (.f,.int nb),some (.f,.int c),some (.f,.int ot),some (.f,.str mv),some (.f,.int (sp:Int)),some (.f,eA a),some (.l .f,.lst (dA.map eA)),none,none]) (by simp only[pv,seval,op,P8,L7,P9])];cases e0:(nb%5==0) with
  |true=>
   refine⟨dA,⟨fun x hx=>bd.b x (JK x hx),fun x hx=>bd.n x (JK x hx)⟩,by lia,?_⟩;simp only[pv,seval,op,m5,e0]
  |false=>
   rw[ax (env':=[some (.f,.tup (names.map D.str)),some (.f,.lst (ap.map eA)),some (.f,.int nb),some (.f,.int c),some (.f,.int ot),some (.f,.str mv),some (.f,.int (sp:Int)),some (.f,eA a),some (.l .f,.lst (dA.map eA)),none,none]) (by simp only[pv,seval,op,m5,e0,dy])];have hba:=bd.b a NG;have hna:=bd.n a NG;cases e1:(nb%5==1) with
   |true=>
    have ha:=app dA (a.1,a.2.1,ot) (by lia);refine⟨dA++[(a.1,a.2.1,ot)],OB dA _ JK (by dsimp only;lia) hna,by rw[jB,Tg];lia,?_⟩;rw[show eA (a.1,a.2.1,ot)=.tup [.int a.1,.str a.2.1,.int ot] from rfl]at ha;rw[show eA a=.tup [.int a.1,.str a.2.1,.int a.2.2] from rfl];simp only[pv,seval,op,m5,e1,ha]
   |false=>
    rw[ax (env':=[some (.f,.tup (names.map D.str)),some (.f,.lst (ap.map eA)),some (.f,.int nb),some (.f,.int c),some (.f,.int ot),some (.f,.str mv),some (.f,.int (sp:Int)),some (.f,eA a),some (.l .f,.lst (dA.map eA)),none,none]) (by simp only[pv,seval,op,m5,e1,dy])];by_cases h2:(nb%5==2)=true\/(c==1)=true
    ·have ha:=app dA (a.1,mv,a.2.2) (by lia);refine⟨dA++[(a.1,mv,a.2.2)],OB dA _ JK (by dsimp only;lia) LA,by rw[jB,Tg];lia,?_⟩;rw[show eA (a.1,mv,a.2.2)=.tup [.int a.1,.str mv,.int a.2.2] from rfl]at ha;rw[show eA a=.tup [.int a.1,.str a.2.1,.int a.2.2] from rfl];cases e2:(nb%5==2) with
     |true=>simp only[pv,seval,op,m5,e2,at2,ha]
     |false=>
      rw[e2]at h2;have h2:=h2.resolve_left SN;simp only[pv,seval,op,m5,e2,h2,at2,ha,dy]
    ·have e2:(nb%5==2)=false:=Vv.mpr fun h=>h2 (.inl h)
     have ec:(c==1)=false:=Vv.mpr fun h=>h2 (.inr h)
     have hc1:c≠1:=TN.mp ec;rw[ax (env':=[some (.f,.tup (names.map D.str)),some (.f,.lst (ap.map eA)),some (.f,.int nb),some (.f,.int c),some (.f,.int ot),some (.f,.str mv),some (.f,.int (sp:Int)),some (.f,eA a),some (.l .f,.lst (dA.map eA)),none,none]) (by simp only[pv,seval,op,m5,e2,ec,dy])];have mg:=eR (nb / 8) (c-1) (by lia);obtain⟨gn,eg⟩:=Tv (show 0<=1+nb / 8%(c-1) by lia);rw[ax (env':=[some (.f,.tup (names.map D.str)),some (.f,.lst (ap.map eA)),some (.f,.int nb),some (.f,.int c),some (.f,.int ot),some (.f,.str mv),some (.f,.int (sp:Int)),some (.f,eA a),some (.l .f,.lst (dA.map eA)),some (.f,.int (gn:Int)),none]) (by simp only[pv,seval,op,d8,ju _ (c-1) (by lia),eg])];obtain⟨cn,rfl⟩:=Tv (show 0<=c by lia);have hce:c9 (aD 0) fI (aI 0) ((List.range cn).map fun(k:Nat)=>D.int (k:Int)) [none]=.ok (((List.range cn).map fun(k:Nat)=>(k:Int)).map D.int):=by
      rw[bW (r:=fun k:Nat=>D.int (k:Int)) (fun env=>∃t,env=[t]) (List.range cn) ?_ _ ⟨none,rfl⟩]
      ·rw[S9];rfl
      ·rintro k _ env ⟨t,rfl⟩;exact⟨[some (.f,.int (k:Int))],rfl,.f,_,rfl,_,rfl⟩
     have hle:(((List.range cn).map fun(k:Nat)=>(k:Int)).map D.int).length<=sizeLine:=bF (by rw[bD,bD,Tp];lia);have hfe:=Ho ((List.range cn).map fun(k:Nat)=>(k:Int));have PD:((List.range cn).map fun(k:Nat)=>(k:Int)).length=cn:=by rw[bD,Tp]
     have hev:∀x∈((List.range cn).map fun(k:Nat)=>(k:Int)),0<=x/\x<(cn:Int):=fun x hx=>by
      obtain⟨k,hk,rfl⟩:=pB hx;have:=TB.mp hk;lia
     generalize ((List.range cn).map fun(k:Nat)=>(k:Int))=en at *;rw[ax (env':=[some (.f,.tup (names.map D.str)),some (.f,.lst (ap.map eA)),some (.f,.int nb),some (.f,.int (cn:Int)),some (.f,.int ot),some (.f,.str mv),some (.f,.int (sp:Int)),some (.f,eA a),some (.l .f,.lst (dA.map eA)),some (.f,.int (gn:Int)),some (.l .f,.lst (en.map D.int))]) (by
      simp only[pv,seval,op];rw[SU (by lia)];simp only[pv,seval,op,TR,hce,hle,hfe])]
     have Ja:ixN en.length (gn:Int)=some gn:=vO _ _ (by lia);have mo:=eR ot (cn:Int) (by lia);rw[ax (env':=[some (.f,.tup (names.map D.str)),some (.f,.lst (ap.map eA)),some (.f,.int nb),some (.f,.int (cn:Int)),some (.f,.int ot),some (.f,.str mv),some (.f,.int (sp:Int)),some (.f,eA a),some (.l .f,.lst (dA.map eA)),some (.f,.int (gn:Int)),some (.l .f,.lst ((en.set gn (ot%(cn:Int))).map D.int))]) (by
      rw[List.map_set];simp only[pv,seval,op,ju ot (cn:Int) (by lia),bD,Ja])]
     have hsl:(en.set gn (ot%(cn:Int))).length=cn:=by rw[Tt];exact PD
     have SA:∀x∈en.set gn (ot%(cn:Int)),0<=x/\x<(cn:Int):=fun x hx=>by
      rcases V6 hx with h|h
      ·exact hev x h
      ·rw[h];exact mo
     generalize en.set gn (ot%(cn:Int))=Kf at hsl SA;have M5:∀s:Int,0<=s->s<(cn:Int)->Iy (Kf.map D.int) s=some (.int (Kf.getD s.toNat 0))/\0<=Kf.getD s.toNat 0/\Kf.getD s.toNat 0<(cn:Int):=fun s hs0 hs1=>by
      obtain⟨k,rfl⟩:=Tv hs0;have hk:k<Kf.length:=by lia
      rw[TR];refine⟨lz hk,?_⟩;rw[List.getD_eq_getElem?_getD,nI hk];exact SA _ (Uo hk)
     have OY:c9 (jA 3 (aN (aD 0) (aN (aD 1) (aN (aD 2) dr)))) fI (dZ (aw (aB Ht (aq 3) (aq 0)) (aw (aI 1) (aw (aB Ht (aq 3) (aq 2)) aT)))) (ap.map eA) [none,none,none,some (.f,.lst (Kf.map D.int))]=.ok ((ap.map fun a=>((Kf.getD a.1.toNat 0,a.2.1,Kf.getD a.2.2.toNat 0):Hq)).map eA):=by
      rw[bW (r:=fun a:Hq=>eA (Kf.getD a.1.toNat 0,a.2.1,Kf.getD a.2.2.toNat 0)) (fun env=>∃t u v,env=[t,u,v,some (.f,.lst (Kf.map D.int))]) ap ?_ _ ⟨none,none,none,rfl⟩]
      ·rw[S9];rfl
      ·rintro b hb env ⟨t,u,v,rfl⟩;have LI:=bd.b b hb;have Mh:=RL b hb;have i1:=(M5 b.1 LI.1.1 Mh.1).1;have i2:=(M5 b.2.2 LI.2.1 Mh.2).1;refine⟨[some (.f,.int b.1),some (.f,.str b.2.1),some (.f,.int b.2.2),some (.f,.lst (Kf.map D.int))],by unfold eA;simp only[pv,seval],.f,[some (.f,.int b.1),some (.f,.str b.2.1),some (.f,.int b.2.2),some (.f,.lst (Kf.map D.int))],?_,_,_,_,rfl⟩;unfold eA;simp only[pv,seval,op,i1,i2]
     refine⟨ap.map fun a=>((Kf.getD a.1.toNat 0,a.2.1,Kf.getD a.2.2.toNat 0):Hq),⟨fun x hx=>?_,fun x hx=>?_⟩,by rw[bD];lia,?_⟩
     ·obtain⟨b,hb,rfl⟩:=pB hx;have LI:=bd.b b hb;have Mh:=RL b hb;have i1:=(M5 b.1 LI.1.1 Mh.1).2;have i2:=(M5 b.2.2 LI.2.1 Mh.2).2;dsimp only;lia
     ·obtain⟨b,hb,rfl⟩:=pB hx;exact bd.n b hb
     ·have hlc:((ap.map fun a=>((Kf.getD a.1.toNat 0,a.2.1,Kf.getD a.2.2.toNat 0):Hq)).map eA).length<=sizeLine:=bF (by rw[bD,bD];lia);have hfc:=nK (ap.map fun a=>((Kf.getD a.1.toNat 0,a.2.1,Kf.getD a.2.2.toNat 0):Hq));generalize (dZ (aw (aB Ht (aq 3) (aq 0)) (aw (aI 1) (aw (aB Ht (aq 3) (aq 2)) aT))))=GG at OY ⊢;simp only[pv,seval,op,OY,hlc,hfc]
theorem Ra.bd'{names:LNN}{as:List Hq}{mZ:Nat}(r:Ra names as mZ):Bd names as:=⟨fun a ha=>by
 have:=r.bd a ha;have:=r.mm;lia,r.nm⟩
def LB(k:Nat)(p:Pl):Int:=p.2.1.getD k 0
def QL(k:Nat)(p:Pl):Int:=p.2.2.getD k 0
def DR(k:Nat)(zs:List (Int×Pl)):Bool:=zs.all fun z=>decide (LB k z.2<=z.1)
theorem rX(k:Nat):∀zs:List (Int×Pl),cz k zs=if DR k zs then some (zs.map fun z=>z.1-LB k z.2+QL k z.2) else none
 |[]=>rfl
 |z::zs=>by
  rw[cz,rX k zs];unfold DR;rw[U8];by_cases h:z.1<z.2.2.1.getD k 0
  ·have h2:decide (LB k z.2<=z.1)=false:=Tb (by unfold LB;lia);rw[SU h,h2,Vx,SX SN]
  ·have h2:decide (LB k z.2<=z.1)=true:=Tr (by unfold LB;lia);rw[SX h,h2,VL];cases(zs.all fun z=>decide (LB k z.2<=z.1)) with
   |true=>rw[SU rfl,SU rfl];rfl
   |false=>rw[SX SN,SX SN];rfl
theorem Bf(names:LNN)(ps:List Pl)(hl:ps.length<=100):bX [eN names ps]=.ok (.f,eM (ps.map (·.1))):=by
 have hc:c9 (aD 0) fI (aB Ht (aq 0) (av (aK (.int 0)))) (ps.map eP) [none]=.ok ((ps.map (·.1)).map D.int):=by
  rw[S9];refine bW (fun env=>∃t,env=[t]) _ ?_ _ ⟨_,rfl⟩;rintro p _ env ⟨t,rfl⟩;refine⟨[some (.f,eP p)],by simp only[pv,seval],?_⟩;unfold eP;simp only[pv,seval,op,QD];exact⟨_,_,rfl,_,rfl⟩
 have OC:((ps.map (·.1)).map D.int).length<=sizeLine:=line_le (by rw[bD,bD];lia);unfold bX gA eN;rw[bJ (h:=by rfl)];simp only[pv,seval,op,Ou,hc,OC,Ho];rfl
theorem DS{p:Pl}{k cnt:Nat}(h:JY p cnt)(hk:k<cnt):Iy (p.2.1.map D.int) (k:Int)=some (.int (LB k p)):=lz (by rw[h.1];exact hk)
theorem Fv{p:Pl}{k cnt:Nat}(h:JY p cnt)(hk:k<cnt):Iy (p.2.2.map D.int) (k:Int)=some (.int (QL k p)):=lz (by rw[h.2];exact hk)
theorem x5(names:LNN)(ps:List Pl)(hl:ps.length<=100)(hp:∀p∈ps,JY p names.length)(m:List Int)(mv:List Nat)(hm:mv∈names):hU [eN names ps,eM m,.str mv]=.ok (.f,.bl (DR (names.idxOf mv) (m.zip ps))):=by
 have Ja:=qw hm;have hk:=T9 hm;generalize names.idxOf mv=k at Ja hk;have hc:c9 (jA 2 (aN (aD 0) (aN (aD 1) dr))) fI (aB Po (aq 0) (av (aB Ht (av (aB Ht (aq 1) (av (aK (.int 1))))) (aq 2)))) ((m.zip ps).map fun z=>D.tup [.int z.1,eP z.2]) [none,none,some (.f,.int (k:Int))]=.ok (((m.zip ps).map fun z=>decide (LB k z.2<=z.1)).map D.bl):=by
  rw[S9];refine bW (fun env=>∃t u,env=[t,u,some (.f,.int (k:Int))]) _ ?_ _ ⟨_,_,rfl⟩;rintro⟨x,p⟩ hz env ⟨t,u,rfl⟩;have e1:=DS (hp p (UL hz).2) hk;refine⟨_,lA _ _ _ _ _,?_⟩;unfold eP;simp only[pv,seval,op,Ou,e1];exact⟨_,_,rfl,_,_,rfl⟩
 have OC:(((m.zip ps).map fun z=>decide (LB k z.2<=z.1)).map D.bl).length<=sizeLine:=line_le (by rw[bD,bD,Vp];lia);unfold hU rF eN eM;rw[bJ (h:=by rfl)];rw[ax (env':=[some (.f,.tup [.tup (names.map D.str),.lst (ps.map eP)]),some (.f,.tup (m.map D.int)),some (.f,.str mv),some (.f,.int (k:Int))]) (by simp only[pv,seval,op,QD,Ja])];simp only[pv,seval,op,Ou,kz,hc,OC,rL,yL];unfold DR;rw[Uu];rfl
def eO:Option (List Int)->D
 |none=>.non
 |some r=>eM r
theorem vZ(o:Option (List Int)):b5 (eO o)=true:=by
 cases o with
 |none=>rfl
 |some r=>exact jx r
theorem Bg(names:LNN)(ps:List Pl)(hl:ps.length<=100)(hp:∀p∈ps,JY p names.length)(m:List Int)(mv:List Nat)(hm:mv∈names):jK [eN names ps,eM m,.str mv]=.ok (.f,eO (cz (names.idxOf mv) (m.zip ps))):=by
 have hg:=x5 names ps hl hp m mv hm;have Ja:=qw hm;have hk:=T9 hm;rw[rX];generalize names.idxOf mv=k at Ja hk hg;have hc:c9 (jA 2 (aN (aD 0) (aN (aD 1) dr))) fI (aB cY (av (aB wI (aq 0) (av (aB Ht (av (aB Ht (aq 1) (av (aK (.int 1))))) (aq 2))))) (av (aB Ht (av (aB Ht (aq 1) (av (aK (.int 2))))) (aq 2)))) ((m.zip ps).map fun z=>D.tup [.int z.1,eP z.2]) [none,none,some (.f,.int (k:Int))]=.ok (((m.zip ps).map fun z=>z.1-LB k z.2+QL k z.2).map D.int):=by
  rw[S9];refine bW (fun env=>∃t u,env=[t,u,some (.f,.int (k:Int))]) _ ?_ _ ⟨_,_,rfl⟩;rintro⟨x,p⟩ hz env ⟨t,u,rfl⟩;have e1:=DS (hp p (UL hz).2) hk;have e2:=Fv (hp p (UL hz).2) hk;refine⟨_,lA _ _ _ _ _,?_⟩;unfold eP;simp only[pv,seval,op,Ou,at2,e1,e2];exact⟨_,_,rfl,_,_,rfl⟩
 have OC:(((m.zip ps).map fun z=>z.1-LB k z.2+QL k z.2).map D.int).length<=sizeLine:=line_le (by rw[bD,bD,Vp];lia);unfold jK vB;rw[bJ (h:=by rfl)];cases hz:DR k (m.zip ps) with
 |false=>
  rw[hz]at hg;simp only[pv,seval,hg,qp,vJ,T5,dy];rfl
 |true=>
  rw[hz]at hg;unfold eN eM at hg ⊢;rw[ax (env':=[some (.f,.tup [.tup (names.map D.str),.lst (ps.map eP)]),some (.f,.tup (m.map D.int)),some (.f,.str mv),none]) (by simp only[pv,seval,hg,qp,vJ,UH,dy])];rw[ax (env':=[some (.f,.tup [.tup (names.map D.str),.lst (ps.map eP)]),some (.f,.tup (m.map D.int)),some (.f,.str mv),some (.f,.int (k:Int))]) (by simp only[pv,seval,op,QD,Ja])];simp only[pv,seval,op,Ou,kz,hc,OC,Ho];rfl
theorem Bh(names:LNN)(ps:List Pl)(hl:ps.length<=100)(hp:∀p∈ps,JY p names.length)(m:List Int)(mv:List Nat)(hm:mv∈names):bQ [eN names ps,eM m,.str mv]=.ok (.f,eO (cz (names.idxOf mv) (m.zip ps))):=by
 rcases yQ names ps hl hp m mv hm with⟨e1,e2⟩|⟨r,e1,e2⟩
 ·rw[e1,e2];rfl
 ·rw[e1,e2];rfl
abbrev Gt:=Int×List Int×LNN
def wD(w:LNN):D:=.tup (w.map D.str)
def vG(n:Gt):D:=.tup [eM n.2.1,wD n.2.2]
def dG(N:List Gt):D:=.dct false (N.map fun n=>D.int n.1) (N.map vG)
theorem Bi:∀(N:List Gt) (s:Int),getD (N.map fun n=>D.int n.1) (N.map vG) (.int s)=(N.find? fun n=>n.1==s).map vG
 |[],s=>rfl
 |z::L,s=>by
  have ih:=Bi L s;unfold getD at ih ⊢;rw[eQ,eQ,T8];by_cases e:z.1=s
  ·rw[List.find?_cons_of_pos (by show Hl (.int s) (.int z.1)=true;rw[Hl,Tu];exact e.symm),List.find?_cons_of_pos (by simpa using e)];rfl
  ·rw[List.find?_cons_of_neg (by show ¬ Hl (.int s) (.int z.1)=true;rw[Hl,Tu];exact fun q=>e q.symm),List.find?_cons_of_neg (by simpa using e)];exact ih
theorem mr:∀{N:List Gt},(N.map (·.1)).Nodup->∀{n:Gt},n∈N->(N.find? fun z=>z.1==n.1)=some n
 |z::N,nd,n,h=>by
  rw[eQ,Tf]at nd;rcases SV.mp h with e|h
  ·subst e;rw[List.find?_cons_of_pos (by simp)]
  ·rw[List.find?_cons_of_neg (by
    simp only[Tu];intro e;exact nd.1 (e▸TX.mpr ⟨n,h,rfl⟩))]
   exact mr nd.2 h
theorem Ej{N:List Gt}{s:Int}{n:Gt}(h:(N.find? fun z=>z.1==s)=some n):Jq (dG N) (.int s)=.ok (.f,vG n):=by
 unfold Jq dG;dsimp only;rw[SU (show dg false (.int s)=true from rfl),Bi,h];rfl
theorem Fw(N:List Gt)(s:Int):tF (.int s) (dG N)=.ok (.f,.bl (N.find? fun z=>z.1==s).isNone):=by
 unfold tF dG;dsimp only;rw[SU (show dg false (.int s)=true from rfl),Bi];cases(N.find? fun z=>z.1==s) <;> rfl
theorem Fx{N:List Gt}{s:Int}(h:(N.find? fun z=>z.1==s)=none)(m:List Int)(w:LNN):kY (N.map fun n=>D.int n.1) (N.map vG) (.int s) (.tup [eM m,wD w])=((N++[(s,m,w)]).map (fun n=>D.int n.1),(N++[(s,m,w)]).map vG):=by
 rw[List.find?_eq_none]at h;have e:(N.map fun n=>D.int n.1).any (Hl (.int s))=false:=by
  rw[UQ,List.any_eq_false];intro x hx;show ¬ Hl (.int s) (.int x.1)=true;rw[Hl,Tu];intro q;exact h x hx (by simp[q])
 unfold kY;rw[e,SX SN,S6,S6];rfl
theorem eY(w:LNN):b5 (wD w)=true:=by
 unfold wD;rw[cV,PV.flat_strs]
theorem Bj(n:Gt):b5 (vG n)=true:=by
 unfold vG;rw[cV];simp only[flatDs,jx,eY,TL]
theorem x6(N:List Gt):flatDs (N.map vG)=true:=ky fun n=>Bj n
theorem Bk(i:Nat)(f g:FX)(env:PV.Env):sPutP i f g env=Res.bnd (g env) (f:=⟨fun(p:R×PV.Env)=>Res.bnd (f p.2) (f:=⟨fun(q:R×PV.Env)=>match p.2[i]?,q.2[i]? with
 |some (some _),some (some (.pin pp .d,.dct tk ks vs))=>if dg tk q.1.2&&decide (ks.length<sizeLine) then .ok (.nx (q.2.set i (some (.pin pp .d,.dct tk (kY ks vs q.1.2 p.1.2).1 (kY ks vs q.1.2 p.1.2).2)))) else .bad
 |_,_=>.bad⟩)⟩):=id rfl
def tG(w w':LNN):D:=.tup [.str [111,110,101],wD w,wD w']
def F8(w w':LNN):D:=.tup [.str [116,119,111],wD w,wD w']
def nO(s:Int)(m:List Int)(n:Gt):Bool:=!(n.1==s)&&decide (n.2.1=m)
noncomputable def jP(N:List Gt)(s:Int)(m:List Int)(w:LNN):D ⊕ List Gt:=match N.find? (nO s m) with
 |some n=>.inl (tG n.2.2 w)
 |none=>match N.find? (fun n=>n.1==s) with
  |none=>.inr (N++[(s,m,w)])
  |some n=>if n.2.1=m then .inr N else .inl (F8 n.2.2 w)
theorem DT(a b:List Int):Ip (eM a) (eM b)=.ok (.f,.bl (decide (a=b))):=by
 unfold Ip;rw[gX,gX,vW];rfl
theorem DU(a b:List Int):Je (eM a) (eM b)=.ok (.f,.bl (!decide (a=b))):=by
 unfold Je;rw[gX,gX,vW];rfl
theorem OU(a b:D):Ht (.tup [a,b]) (.int 0)=.ok (.f,a):=rfl
theorem RM(a b:D):Ht (.tup [a,b]) (.int 1)=.ok (.f,b):=rfl
theorem Bl(N:List Gt)(nd:(N.map (·.1)).Nodup)(s:Int)(m:List Int)(w:LNN)(p:Addr)(n:Gt)(hn:n∈N):
  eF [some (.pin p .f,dG N),some (.f,.int s),some (.f,eM m),some (.f,wD w),some (.f,.int n.1)]=if nO s m n then .ok (.rt (.t [.f,.pin p .f],.tup [tG n.2.2 w,dG N])) else .ok (.nx [some (.pin p .f,dG N),some (.f,.int s),some (.f,eM m),some (.f,wD w),some (.f,.int n.1)]):=by
 have hd:=Ej (mr nd hn);have he:=DT n.2.1 m;have f1:=eY n.2.2;unfold vG at hd;unfold eF nO;generalize hG:dG N=GG at hd ⊢;cases h1:(n.1==s) with
 |true=>simp only[pv,seval,op,h1,UH,Vx,dy]
 |false=>
  cases h2:decide (n.2.1=m) with
  |false=>simp only[pv,seval,op,h1,h2,hd,OU,he,T5,VL,dy]
  |true=>
   simp only[pv,seval,op,gS,h1,h2,hd,OU,RM,he,T5,VL];rfl
theorem pJ(N:List Gt)(nd:(N.map (·.1)).Nodup)(s:Int)(m:List Int)(w:LNN)(p:Addr):∀(L:List Gt),(∀n∈L,n∈N)->∀t4:Option R,
  match L.find? (nO s m) with
  |some n=>dN (aD 4) eF (L.map fun n=>D.int n.1) [some (.pin p .f,dG N),some (.f,.int s),some (.f,eM m),some (.f,wD w),t4]=.ok (.rt (.t [.f,.pin p .f],.tup [tG n.2.2 w,dG N]))
  |none=>∃t,(t=t4\/∃k:Int,t=some (.f,.int k))/\dN (aD 4) eF (L.map fun n=>D.int n.1) [some (.pin p .f,dG N),some (.f,.int s),some (.f,eM m),some (.f,wD w),t4]=.ok (.nx [some (.pin p .f,dG N),some (.f,.int s),some (.f,eM m),some (.f,wD w),t])
 |[],_,t4=>⟨t4,.inl rfl,rfl⟩
 |n::L,h,t4=>by
  have hi:=Bl N nd s m w p n (h n SI);have ha:aD 4 (.int n.1) [some (.pin p .f,dG N),some (.f,.int s),some (.f,eM m),some (.f,wD w),t4]=.ok [some (.pin p .f,dG N),some (.f,.int s),some (.f,eM m),some (.f,wD w),some (.f,.int n.1)]:=rfl;cases hc:nO s m n with
  |true=>
   rw[List.find?_cons_of_pos hc];rw[hc,SU rfl]at hi;show dN _ _ (D.int n.1::L.map _) _=_;rw[bR,ha,Hx,hi,Hx]
  |false=>
   rw[List.find?_cons_of_neg (by rw[hc];exact SN)];rw[hc,SX SN]at hi;have ih:=pJ N nd s m w p L (fun n hn=>h n (SM _ hn)) (some (.f,.int n.1));cases hf:L.find? (nO s m) with
   |some n'=>
    rw[hf]at ih;dsimp only at ih ⊢;show dN _ _ (D.int n.1::L.map _) _=_;rw[bR,ha,Hx,hi,Hx];exact ih
   |none=>
    rw[hf]at ih;dsimp only at ih ⊢;obtain⟨t,ht,e⟩:=ih;refine⟨t,.inr (ht.elim (fun z=>⟨n.1,z⟩) id),?_⟩;show dN _ _ (D.int n.1::L.map _) _=_;rw[bR,ha,Hx,hi,Hx];exact e
def Bm(N:List Gt):D ⊕ List Gt->D×D
 | .inl d=>(d,dG N)
 | .inr N'=>(.non,dG N')
theorem DV(N:List Gt)(nd:(N.map (·.1)).Nodup)(hN:N.length<=100)(s:Int)(m:List Int)(w:LNN)(p:Addr):lg p [dG N,.int s,eM m,wD w]=.ok (.t [.f,.pin p .d],.tup [(Bm N (jP N s m w)).1,(Bm N (jP N s m w)).2]):=by
 have fm:=jx m;have fw:=eY w;have Nr:=pJ N nd s m w p N (fun _ h=>h) none;unfold lg yI;rw[xR (h:=by rfl)];have e0:(dG N)=.dct false (N.map fun n=>D.int n.1) (N.map vG):=rfl;unfold jP;cases hf:N.find? (nO s m) with
 |some n=>
  rw[hf]at Nr;dsimp only at Nr ⊢;have e:jh [some (.pin p .d,dG N),some (.f,.int s),some (.f,eM m),some (.f,wD w),none]=.ok (.rt (.t [.f,.pin p .d],.tup [tG n.2.2 w,dG N])):=by
   unfold jh;show(dN (aD 4) eF (N.map fun n=>D.int n.1) [some (.pin p .f,dG N),some (.f,.int s),some (.f,eM m),some (.f,wD w),none]).bind (sV 0 p (dG N))=_;rw[Nr];show(if decide (p=p)&&cleanR .f (tG n.2.2 w) then Res.ok (Out.rt (.t [.f,.pin p .d],.tup [tG n.2.2 w,dG N])) else .bad)=_;have fr:cleanR .f (tG n.2.2 w)=true:=by
    unfold tG;rw[cleanR,cV];simp only[flatDs,eY,b5,TL]
   rw[fr,Tr rfl];rfl
  simp only[List.map,List.replicate,Uq,Uj];rw[HL,e,Hx];rfl
 |none=>
  rw[hf]at Nr;dsimp only at Nr ⊢;obtain⟨t,ht,Nr⟩:=Nr;have e:jh [some (.pin p .d,dG N),some (.f,.int s),some (.f,eM m),some (.f,wD w),none]=.ok (.nx [some (.pin p .d,dG N),some (.f,.int s),some (.f,eM m),some (.f,wD w),t]):=by
   unfold jh;show(dN (aD 4) eF (N.map fun n=>D.int n.1) [some (.pin p .f,dG N),some (.f,.int s),some (.f,eM m),some (.f,wD w),none]).bind (sV 0 p (dG N))=_;rw[Nr];show(if xH 0 p [some (.pin p .f,dG N),some (.f,.int s),some (.f,eM m),some (.f,wD w),t]&&cleanE 0 [some (.pin p .f,dG N),some (.f,.int s),some (.f,eM m),some (.f,wD w),t] then Res.ok (Out.nx [some (.pin p .d,dG N),some (.f,.int s),some (.f,eM m),some (.f,wD w),t]) else .bad)=_;have f1:xH 0 p [some (.pin p .f,dG N),some (.f,.int s),some (.f,eM m),some (.f,wD w),t]=true:=by
    show decide (p=p)=true;exact Tr rfl
   have f2:cleanE 0 [some (.pin p .f,dG N),some (.f,.int s),some (.f,eM m),some (.f,wD w),t]=true:=by
    rcases ht with e|⟨k,e⟩ <;> subst e <;> simp only[cleanE,List.set_cons_zero,U8,List.all_nil,cleanR,fm,fw,b5,TL]
   rw[f1,f2];rfl
  simp only[List.map,List.replicate,Uq,Uj];rw[ax e];have hn:=Fw N s;unfold pd;cases hs:N.find? fun n=>n.1==s with
  |none=>
   rw[hs]at hn;have hp:=Fx hs m w;have hz:(N.map fun n=>D.int n.1).length<sizeLine:=jv (by rw[bD];lia);have e2:sPutP 0 (aI 1) (dZ (aw (aI 2) (aw (aI 3) aT))) [some (.pin p .d,dG N),some (.f,.int s),some (.f,eM m),some (.f,wD w),t]=.ok (.nx [some (.pin p .d,dG (N++[(s,m,w)])),some (.f,.int s),some (.f,eM m),some (.f,wD w),t]):=by
    rw[Bk];unfold dG;simp only[pv,seval,op,hp,hz,Ur];rfl
   rw[ax (env':=[some (.pin p .d,dG (N++[(s,m,w)])),some (.f,.int s),some (.f,eM m),some (.f,wD w),t]) (by
    generalize dG (N++[(s,m,w)])=G2 at e2 ⊢;generalize dG N=G1 at e2 hn ⊢;generalize (sPutP 0 (aI 1) (dZ (aw (aI 2) (aw (aI 3) aT))))=TT at e2 ⊢;simp only[pv,seval,op,hn,Xj,e2])]
   show _=Res.ok (O.t [.f,.pin p .d],D.tup [.non,dG (N++[(s,m,w)])]);generalize dG (N++[(s,m,w)])=G2;simp only[pv,seval,op,gS]
  |some n=>
   rw[hs]at hn;have hd:=Ej hs;unfold vG at hd;have Kz:=DU n.2.1 m;by_cases hm:n.2.1=m
   ·rw[Tr hm]at Kz;dsimp only;rw[SU hm];show _=Res.ok (O.t [.f,.pin p .d],D.tup [.non,dG N]);generalize dG N=G1 at hd hn ⊢;rw[ax (env':=[some (.pin p .d,G1),some (.f,.int s),some (.f,eM m),some (.f,wD w),t]) (by simp only[pv,seval,op,hn,V2,hd,OU,Kz,UH,dy])];simp only[pv,seval,op,gS]
   ·rw[Tb hm]at Kz;dsimp only;rw[SX hm];show _=Res.ok (O.t [.f,.pin p .d],D.tup [F8 n.2.2 w,dG N]);generalize dG N=G1 at hd hn ⊢;rw[HL];simp only[pv,seval,op,gS,hn,V2,hd,OU,RM,Kz,T5,dy];rfl
def fX(ap:List Hq)(s:Int)(m:List Nat):List Int:=(ap.filter fun a=>a.1==s&&a.2.1==m).map fun a=>a.2.2
theorem v5(names:LNN)(ap:List Hq)(s:Int)(m:List Nat)(hl:ap.length<=16777216):fF [Hw names ap,.int s,.str m]=.ok (.l .f,.lst ((fX ap s m).map D.int)):=by
 unfold fF pb;rw[bJ (h:=by rfl)];simp only[pv,seval,op,Hw];rw[rM (p:=fun a:Hq=>a.1==s&&a.2.1==m) (r:=fun a:Hq=>D.int a.2.2) (fun env=>∃t1 t2 t3,env=[t1,t2,t3,some (.f,.int s),some (.f,.str m)]) ap ?_ _ ⟨_,_,_,rfl⟩]
 ·rw[Hx,SU (xU hl),Hx];unfold fX;rw[S9];rfl
 ·rintro a _ env ⟨t1,t2,t3,rfl⟩;refine⟨_,iP a t1 t2 t3 _,?_⟩;simp only[pv,seval,op];cases h1:a.1==s with
  |true=>
   cases h2:a.2.1==m with
   |true=>exact⟨_,rfl,_,_,rfl,_,_,_,rfl⟩
   |false=>exact⟨_,rfl,_,_,_,rfl⟩
  |false=>exact⟨_,rfl,_,_,_,rfl⟩
def DW(w:LNN)(mv:List Nat):D:=.tup [.str [115,116,117,99,107],wD w,.str mv]
def DX(w:LNN)(mv:List Nat):D:=.tup [.str [102,114,101,101],wD w,.str mv]
abbrev So:=Option D×List Gt
def cj(N:List Gt)(s:Int)(m:List Int)(w:LNN):So:=match jP N s m w with
 | .inl d=>(some d,N)
 | .inr N'=>(none,N')
def bh(m:List Int)(w:LNN):List Int->List Gt->So
 |[],N=>(none,N)
 |s::ss,N=>match cj N s m w with
  |(some d,N')=>(some d,N')
  |(none,N')=>bh m w ss N'
noncomputable def de(names:LNN)(ps:List Pl)(ap:List Hq)(n:Gt)(mv:List Nat)(N:List Gt):So:=match cz (names.idxOf mv) (n.2.1.zip ps),fX ap n.1 mv with
 |none,[]=>(none,N)
 |none,_::_=>(some (DW n.2.2 mv),N)
 |some _,[]=>(some (DX n.2.2 mv),N)
 |some t,s::ss=>bh t (n.2.2++[mv]) (s::ss) N
def aR(names:LNN)(ps:List Pl)(ap:List Hq)(n:Gt):LNN->List Gt->So
 |[],N=>(none,N)
 |mv::r,N=>match de names ps ap n mv N with
  |(some d,N')=>(some d,N')
  |(none,N')=>aR names ps ap n r N'
structure Iv(N:List Gt):Prop where
 nd:(N.map (·.1)).Nodup
 bd:∀n∈N,0<=n.1/\n.1<12
 wl:∀(k:Nat) (n:Gt),N[k]?=some n->n.2.2.length<=k
theorem Iv.le{N:List Gt}(i:Iv N):N.length<=12:=by
 have:=kx 12 i.nd (fun x hx=>by
  obtain⟨n,hn,e⟩:=pB hx;rw[<-e];exact i.bd n hn)
 rwa [bD]at this
structure Gr(N N':List Gt)(o:Option D):Prop where
 iv:Iv N'
 ex:∃more,N'=N++more
 fl:b5 (o.getD .non)=true
theorem Gr.refl{N:List Gt}(i:Iv N):Gr N N none:=⟨i,⟨[],(Te N).symm⟩,rfl⟩
theorem Gr.trans{N N' N2:List Gt}{o o':Option D}(a:Gr N N' o)(b:Gr N' N2 o'):Gr N N2 o':=by
 obtain⟨m1,e1⟩:=a.ex;obtain⟨m2,e2⟩:=b.ex;exact⟨b.iv,⟨m1++m2,by rw[e2,e1,Tx]⟩,b.fl⟩
theorem Gr.le{N N':List Gt}{o:Option D}(a:Gr N N' o):N.length<=N'.length:=by
 obtain⟨m,e⟩:=a.ex;rw[e,jB];lia
theorem x9(l:List Nat)(a b:D)(ha:b5 a=true)(hb:b5 b=true):b5 (.tup [.str l,a,b])=true:=by
 rw[cV];simp only[flatDs,ha,hb,b5,TL]
theorem lG{N:List Gt}(i:Iv N){s:Int}(hs:0<=s/\s<12)(m:List Int){w:LNN}(hw:w.length<=N.length):Gr N (cj N s m w).2 (cj N s m w).1:=by
 unfold cj jP;split
 ·rename_i d hd;refine⟨i,⟨[],(Te N).symm⟩,?_⟩;split at hd
  ·cases hd;exact x9 _ _ _ (eY _) (eY _)
  ·split at hd
   ·cases hd
   ·split at hd
    ·cases hd
    ·cases hd;exact x9 _ _ _ (eY _) (eY _)
 ·rename_i N' hd;split at hd
  ·cases hd
  ·split at hd
   ·rename_i hf;cases hd;rw[List.find?_eq_none]at hf;refine⟨⟨?_,fun n hn=>?_,fun k n hk=>?_⟩,⟨_,rfl⟩,rfl⟩
    ·rw[S6];refine Ti.mpr ⟨i.nd,Tf.mpr ⟨TJ,Ug⟩,fun x hx y hy e=>?_⟩;obtain⟨n,hn,en⟩:=pB hx;have hy:y=s:=lI hy;exact hf n hn (by rw[Tu,en,e,hy])
    ·rcases ml hn with hn|hn
     ·exact i.bd n hn
     ·rw[lI hn];exact hs
    ·rcases mn hk with h|⟨e1,e2⟩
     ·exact i.wl k n h
     ·rw[e2,e1];exact hw
   ·split at hd
    ·cases hd;exact Gr.refl i
    ·cases hd
theorem nP(m:List Int)(w:LNN):∀(ss:List Int) {N:List Gt},Iv N->(∀s∈ss,0<=s/\s<12)->w.length<=N.length->Gr N (bh m w ss N).2 (bh m w ss N).1
 |[],N,i,_,_=>Gr.refl i
 |s::ss,N,i,hs,hw=>by
  have g:=lG i (hs s SI) m hw;unfold bh;split
  ·rename_i d N' e;rw[e]at g;exact g
  ·rename_i N' e;rw[e]at g;exact g.trans (nP m w ss g.iv (fun x hx=>hs x (SM _ hx)) (Td hw g.le))
theorem nQ{names:LNN}{ps:List Pl}{ap:List Hq}(hb:∀a∈ap,0<=a.2.2/\a.2.2<12){n:Gt}(mv:List Nat){N:List Gt}(i:Iv N)(hw:n.2.2.length+1<=N.length):Gr N (de names ps ap n mv N).2 (de names ps ap n mv N).1:=by
 unfold de;have hg:∀s∈fX ap n.1 mv,0<=s/\s<12:=fun s hs=>by
  unfold fX at hs;obtain⟨a,ha,e⟩:=pB hs;rw[<-e];exact hb a (UI.mp ha).1
 split
 ·exact Gr.refl i
 ·exact⟨i,⟨[],(Te N).symm⟩,x9 _ _ _ (eY _) rfl⟩
 ·exact⟨i,⟨[],(Te N).symm⟩,x9 _ _ _ (eY _) rfl⟩
 ·rename_i t s ss _ e;rw[e]at hg;exact nP t _ (s::ss) i hg (by rw[jB];exact hw)
theorem hW{names:LNN}{ps:List Pl}{ap:List Hq}(hb:∀a∈ap,0<=a.2.2/\a.2.2<12){n:Gt}:∀(l:LNN) {N:List Gt},Iv N->n.2.2.length+1<=N.length->Gr N (aR names ps ap n l N).2 (aR names ps ap n l N).1
 |[],N,i,_=>Gr.refl i
 |mv::l,N,i,hw=>by
  have g:=nQ (names:=names) (ps:=ps) hb mv i hw;unfold aR;split
  ·rename_i d N' e;rw[e]at g;exact g
  ·rename_i N' e;rw[e]at g;exact g.trans (hW hb l g.iv (Td hw g.le))
theorem Bn(N:List Gt)(s:Int)(m:List Int)(w:LNN):Bm N (jP N s m w)=((cj N s m w).1.getD .non,dG (cj N s m w).2):=by
 unfold cj;cases jP N s m w <;> rfl
theorem wa(N:List Gt)(i:Iv N)(s:Int)(m:List Int)(w:LNN):jJ lg .d (dG N) [.int s,eM m,wD w]=.ok ((.f,(cj N s m w).1.getD .non),dG (cj N s m w).2):=rh (r:=(.f,(cj N s m w).1.getD .non)) fun p=>by
 have:=i.le;have h:=DV N i.nd (by lia) s m w p;rw[Bn]at h;exact h
theorem rY(N:List Gt):cleanR .d (dG N)=true:=by
 unfold dG;rw[cleanR];exact x6 N
theorem yR(ds:List D):isnO (.tup ds) (.non)=.ok (.f,.bl true):=id rfl
theorem mw(N:List Gt)(s:Int)(m:List Int)(w:LNN):(cj N s m w).1=none\/∃ds,(cj N s m w).1=some (.tup ds):=by
 unfold cj jP;split
 ·rename_i d hd;right;split at hd
  ·cases hd;exact⟨_,rfl⟩
  ·split at hd
   ·cases hd
   ·split at hd
    ·cases hd
    ·cases hd;exact⟨_,rfl⟩
 ·exact .inl rfl
theorem DY(CH NE:D)(p:Addr)(N:List Gt)(i:Iv N)(st:Int)(m0:List Int)(w:LNN)(hw:w.length+1<=N.length)(mv:List Nat)(t:List Int)(s:Int)(hs:0<=s/\s<12)(t8 Hz:Option R):
  match(cj N s t (w++[mv])).1 with
  |some d=>cG [some (.f,CH),some (.f,NE),some (.pin p .d,dG N),some (.f,.int st),some (.f,eM m0),some (.f,wD w),some (.f,.str mv),some (.f,eM t),t8,some (.f,.int s),Hz]=.ok (.rt (.t [.f,.pin p .d],.tup [d,dG (cj N s t (w++[mv])).2]))
  |none=>cG [some (.f,CH),some (.f,NE),some (.pin p .d,dG N),some (.f,.int st),some (.f,eM m0),some (.f,wD w),some (.f,.str mv),some (.f,eM t),t8,some (.f,.int s),Hz]=.ok (.nx [some (.f,CH),some (.f,NE),some (.pin p .d,dG (cj N s t (w++[mv])).2),some (.f,.int st),some (.f,eM m0),some (.f,wD w),some (.f,.str mv),some (.f,eM t),t8,some (.f,.int s),some (.f,.non)]):=by
 have hle:=i.le;have ha:=F6 w mv (by lia);have hc:=wa N i s t (w++[mv]);have gr:=lG i hs t (w:=w++[mv]) (by rw[jB];exact hw);have cl:=rY (cj N s t (w++[mv])).2;have fl:=gr.fl;have sh:=mw N s t (w++[mv]);revert hc cl fl sh;generalize (cj N s t (w++[mv])).1=o;generalize dG (cj N s t (w++[mv])).2=G2;generalize dG N=G1;intro hc cl fl sh;unfold wD at hc ⊢;have cf:cleanR .f (o.getD .non)=true:=by rw[cleanR];exact fl
 unfold cG;rw[ax (env':=[some (.f,CH),some (.f,NE),some (.pin p .d,G2),some (.f,.int st),some (.f,eM m0),some (.f,.tup (w.map D.str)),some (.f,.str mv),some (.f,eM t),t8,some (.f,.int s),some (.f,o.getD .non)]) (by
  simp only[pv,seval,op,AQ,ha,hc,cl,cf,TL];rfl)]
 rcases sh with e|⟨ds,e⟩
 ·subst e;simp only[pv,seval,op,lC,UW,dy]
 ·subst e;simp only[pv,seval,op,gS,yR,VB]
theorem wb(CH NE:D)(p:Addr)(st:Int)(m0:List Int)(w:LNN)(mv:List Nat)(t:List Int)(t8:Option R):∀(ss:List Int) (N:List Gt),Iv N->w.length+1<=N.length->(∀s∈ss,0<=s/\s<12)->∀t9 Hz:Option R,
  match(bh t (w++[mv]) ss N).1 with
  |some d=>dN (aD 9) cG (ss.map D.int) [some (.f,CH),some (.f,NE),some (.pin p .d,dG N),some (.f,.int st),some (.f,eM m0),some (.f,wD w),some (.f,.str mv),some (.f,eM t),t8,t9,Hz]=.ok (.rt (.t [.f,.pin p .d],.tup [d,dG (bh t (w++[mv]) ss N).2]))
  |none=>∃u9 IU,dN (aD 9) cG (ss.map D.int) [some (.f,CH),some (.f,NE),some (.pin p .d,dG N),some (.f,.int st),some (.f,eM m0),some (.f,wD w),some (.f,.str mv),some (.f,eM t),t8,t9,Hz]=.ok (.nx [some (.f,CH),some (.f,NE),some (.pin p .d,dG (bh t (w++[mv]) ss N).2),some (.f,.int st),some (.f,eM m0),some (.f,wD w),some (.f,.str mv),some (.f,eM t),t8,u9,IU])
 |[],N,_,_,_,t9,Hz=>⟨t9,Hz,rfl⟩
 |s::ss,N,i,hw,hs,t9,Hz=>by
  have h1:=DY CH NE p N i st m0 w hw mv t s (hs s SI) t8 Hz;have gr:=lG i (hs s SI) t (w:=w++[mv]) (by rw[jB];exact hw);have ha:aD 9 (.int s) [some (.f,CH),some (.f,NE),some (.pin p .d,dG N),some (.f,.int st),some (.f,eM m0),some (.f,wD w),some (.f,.str mv),some (.f,eM t),t8,t9,Hz]=.ok [some (.f,CH),some (.f,NE),some (.pin p .d,dG N),some (.f,.int st),some (.f,eM m0),some (.f,wD w),some (.f,.str mv),some (.f,eM t),t8,some (.f,.int s),Hz]:=rfl;unfold bh;cases hg:cj N s t (w++[mv]) with
  |mk o N'=>
   rw[hg]at h1 gr;cases o with
   |some d=>
    dsimp only at h1 ⊢;rw[eQ,bR,ha,Hx,h1,Hx]
   |none=>
    dsimp only at h1 ⊢;have ih:=wb CH NE p st m0 w mv t t8 ss N' gr.iv (Td hw gr.le) (fun x hx=>hs x (SM _ hx)) (some (.f,.int s)) (some (.f,.non));cases hgs:(bh t (w++[mv]) ss N').1 with
    |some d=>
     rw[hgs]at ih;dsimp only at ih ⊢;rw[eQ,bR,ha,Hx,h1,Hx];exact ih
    |none=>
     rw[hgs]at ih;dsimp only at ih ⊢;obtain⟨u9,IU,ih⟩:=ih;refine⟨u9,IU,?_⟩;rw[eQ,bR,ha,Hx,h1,Hx];exact ih
theorem Bo(t:List Int):Nl (eM t) .non=.ok (.f,.bl false):=id rfl
theorem wc(t:List Int):isnO (eM t) .non=.ok (.f,.bl true):=id rfl
theorem we:Nl .non .non=.ok (.f,.bl true):=id rfl
theorem DZ(names:LNN)(ps:List Pl)(hl:ps.length<=100)(hp:∀q∈ps,JY q names.length)(ap:List Hq)(J9:ap.length<=60)(hb:∀a∈ap,0<=a.2.2/\a.2.2<12)(p:Addr)(N:List Gt)(i:Iv N)(n:Gt)(hw:n.2.2.length+1<=N.length)(mv:List Nat)(hm:mv∈names)(t7 t8 t9 Hz:Option R):
  match(de names ps ap n mv N).1 with
  |some d=>cH [some (.f,Hw names ap),some (.f,eN names ps),some (.pin p .d,dG N),some (.f,.int n.1),some (.f,eM n.2.1),some (.f,wD n.2.2),some (.f,.str mv),t7,t8,t9,Hz]=.ok (.rt (.t [.f,.pin p .d],.tup [d,dG (de names ps ap n mv N).2]))
  |none=>∃u7 u8 u9 IU,cH [some (.f,Hw names ap),some (.f,eN names ps),some (.pin p .d,dG N),some (.f,.int n.1),some (.f,eM n.2.1),some (.f,wD n.2.2),some (.f,.str mv),t7,t8,t9,Hz]=.ok (.nx [some (.f,Hw names ap),some (.f,eN names ps),some (.pin p .d,dG (de names ps ap n mv N).2),some (.f,.int n.1),some (.f,eM n.2.1),some (.f,wD n.2.2),some (.f,.str mv),u7,u8,u9,IU]):=by
 have LA:=Bg names ps hl hp n.2.1 mv hm;have JH:=v5 names ap n.1 mv (by lia);have Qa:=vZ (cz (names.idxOf mv) (n.2.1.zip ps));have RN:=Ho (fX ap n.1 mv);have hg:∀s∈fX ap n.1 mv,0<=s/\s<12:=fun s hs=>by
  unfold fX at hs;obtain⟨a,ha,e⟩:=pB hs;rw[<-e];exact hb a (UI.mp ha).1
 unfold de;unfold cH;rw[ax (env':=[some (.f,Hw names ap),some (.f,eN names ps),some (.pin p .d,dG N),some (.f,.int n.1),some (.f,eM n.2.1),some (.f,wD n.2.2),some (.f,.str mv),some (.f,eO (cz (names.idxOf mv) (n.2.1.zip ps))),t8,t9,Hz]) (by
  generalize eN names ps=NE at LA ⊢;generalize Hw names ap=CE at JH ⊢;simp only[pv,seval,op,LA,Qa])]
 rw[ax (env':=[some (.f,Hw names ap),some (.f,eN names ps),some (.pin p .d,dG N),some (.f,.int n.1),some (.f,eM n.2.1),some (.f,wD n.2.2),some (.f,.str mv),some (.f,eO (cz (names.idxOf mv) (n.2.1.zip ps))),some (.l .f,.lst ((fX ap n.1 mv).map D.int)),t9,Hz]) (by
  generalize eN names ps=NE at LA ⊢;generalize Hw names ap=CE at JH ⊢;simp only[pv,seval,op,JH,RN])]
 clear LA JH Qa;have lp:=fun t=>wb (Hw names ap) (eN names ps) p n.1 n.2.1 n.2.2 mv t (some (.f,.lst ((fX ap n.1 mv).map D.int))) (fX ap n.1 mv) N i hw hg t9 Hz
 generalize eN names ps=NE at lp ⊢;generalize Hw names ap=CE at lp ⊢;cases cz (names.idxOf mv) (n.2.1.zip ps) with
 |none=>
  cases hgs:fX ap n.1 mv with
  |nil=>
   dsimp only;refine⟨some (.f,.non),some (.f,.lst []),t9,Hz,?_⟩;have c0:((0:Int)<((0:Nat):Int))=False:=by simp
   unfold eO;generalize dG N=G1;rw[ax (env':=[some (.f,CE),some (.f,NE),some (.pin p .d,G1),some (.f,.int n.1),some (.f,eM n.2.1),some (.f,wD n.2.2),some (.f,.str mv),some (.f,.non),some (.l .f,.lst []),t9,Hz]) (by simp only[pv,seval,op,we,Tz,T7,U1,Uk,dy])];rw[ax (env':=[some (.f,CE),some (.f,NE),some (.pin p .d,G1),some (.f,.int n.1),some (.f,eM n.2.1),some (.f,wD n.2.2),some (.f,.str mv),some (.f,.non),some (.l .f,.lst []),t9,Hz]) (by simp only[pv,seval,op,lC,Tz,dy])];unfold fQ;simp only[pv,seval,op]
  |cons s ss=>
   dsimp only;unfold eO;generalize dG N=G1;have c0:decide ((0:Int)<((ss.length+1:Nat):Int))=true:=Tr (by lia);rw[HL];simp only[pv,seval,op,we,gS,bD,c0];rfl
 |some t=>
  have KA:=lp t;clear lp;cases hgs:fX ap n.1 mv with
  |nil=>
   dsimp only;show _=Res.ok (Out.rt (O.t [.f,.pin p .d],D.tup [DX n.2.2 mv,dG N]));show(sSeq _ _) [some (.f,CE),some (.f,NE),some (.pin p .d,dG N),some (.f,.int n.1),some (.f,eM n.2.1),some (.f,wD n.2.2),some (.f,.str mv),some (.f,eM t),some (.l .f,.lst []),t9,Hz]=_;generalize dG N=G1;rw[ax (env':=[some (.f,CE),some (.f,NE),some (.pin p .d,G1),some (.f,.int n.1),some (.f,eM n.2.1),some (.f,wD n.2.2),some (.f,.str mv),some (.f,eM t),some (.l .f,.lst []),t9,Hz]) (by simp only[pv,seval,op,Bo,dy])];rw[HL];simp only[pv,seval,op,wc,gS,T7];rfl
  |cons s ss=>
   rw[hgs]at KA;dsimp only;show match(bh t (n.2.2++[mv]) (s::ss) N).1 with
    |some d=>(sSeq _ _) [some (.f,CE),some (.f,NE),some (.pin p .d,dG N),some (.f,.int n.1),some (.f,eM n.2.1),some (.f,wD n.2.2),some (.f,.str mv),some (.f,eM t),some (.l .f,.lst ((s::ss).map D.int)),t9,Hz]=.ok (.rt (.t [.f,.pin p .d],.tup [d,dG (bh t (n.2.2++[mv]) (s::ss) N).2]))
    |none=>∃u7 u8 u9 IU,(sSeq _ _) [some (.f,CE),some (.f,NE),some (.pin p .d,dG N),some (.f,.int n.1),some (.f,eM n.2.1),some (.f,wD n.2.2),some (.f,.str mv),some (.f,eM t),some (.l .f,.lst ((s::ss).map D.int)),t9,Hz]=.ok (.nx [some (.f,CE),some (.f,NE),some (.pin p .d,dG (bh t (n.2.2++[mv]) (s::ss) N).2),some (.f,.int n.1),some (.f,eM n.2.1),some (.f,wD n.2.2),some (.f,.str mv),u7,u8,u9,IU])
   have c0:(((ss.length+1:Nat):Int)==0)=false:=by
    rw[TN];lia
   rw[ax (env':=[some (.f,CE),some (.f,NE),some (.pin p .d,dG N),some (.f,.int n.1),some (.f,eM n.2.1),some (.f,wD n.2.2),some (.f,.str mv),some (.f,eM t),some (.l .f,.lst ((s::ss).map D.int)),t9,Hz]) (by
    generalize dG N=G1;simp only[pv,seval,op,Bo,dy])]
   rw[ax (env':=[some (.f,CE),some (.f,NE),some (.pin p .d,dG N),some (.f,.int n.1),some (.f,eM n.2.1),some (.f,wD n.2.2),some (.f,.str mv),some (.f,eM t),some (.l .f,.lst ((s::ss).map D.int)),t9,Hz]) (by
    generalize dG N=G1;simp only[pv,seval,op,wc,bD,c0,dy])]
   have go:∀env':Res Out,dN (aD 9) cG ((s::ss).map D.int) [some (.f,CE),some (.f,NE),some (.pin p .d,dG N),some (.f,.int n.1),some (.f,eM n.2.1),some (.f,wD n.2.2),some (.f,.str mv),some (.f,eM t),some (.f,.lst ((s::ss).map D.int)),t9,Hz]=env'->fQ [some (.f,CE),some (.f,NE),some (.pin p .d,dG N),some (.f,.int n.1),some (.f,eM n.2.1),some (.f,wD n.2.2),some (.f,.str mv),some (.f,eM t),some (.l .f,.lst ((s::ss).map D.int)),t9,Hz]=env':=fun env' h=>by
    unfold fQ;generalize dG N=G1 at h ⊢;generalize ((s::ss).map D.int)=LL at h ⊢;simp only[pv,seval,op];exact h
   cases JH:(bh t (n.2.2++[mv]) (s::ss) N).1 with
   |some d=>
    rw[JH]at KA;exact go _ KA
   |none=>
    rw[JH]at KA;obtain⟨u9,IU,KA⟩:=KA;exact⟨_,_,u9,IU,go _ KA⟩
structure Nc(names:LNN)(ps:List Pl)(ap:List Hq):Prop where
 pl:ps.length<=100
 po:∀q∈ps,JY q names.length
 al:ap.length<=60
 ab:∀a∈ap,0<=a.2.2/\a.2.2<12
theorem wg{names:LNN}{ps:List Pl}{ap:List Hq}(c:Nc names ps ap)(p:Addr)(n:Gt):∀(l:LNN),(∀mv∈l,mv∈names)->∀(N:List Gt),Iv N->n.2.2.length+1<=N.length->∀t6 t7 t8 t9 Hz:Option R,
  match(aR names ps ap n l N).1 with
  |some d=>dN (aD 6) cH (l.map D.str) [some (.f,Hw names ap),some (.f,eN names ps),some (.pin p .d,dG N),some (.f,.int n.1),some (.f,eM n.2.1),some (.f,wD n.2.2),t6,t7,t8,t9,Hz]=.ok (.rt (.t [.f,.pin p .d],.tup [d,dG (aR names ps ap n l N).2]))
  |none=>∃u6 u7 u8 u9 IU,dN (aD 6) cH (l.map D.str) [some (.f,Hw names ap),some (.f,eN names ps),some (.pin p .d,dG N),some (.f,.int n.1),some (.f,eM n.2.1),some (.f,wD n.2.2),t6,t7,t8,t9,Hz]=.ok (.nx [some (.f,Hw names ap),some (.f,eN names ps),some (.pin p .d,dG (aR names ps ap n l N).2),some (.f,.int n.1),some (.f,eM n.2.1),some (.f,wD n.2.2),u6,u7,u8,u9,IU])
 |[],_,N,_,_,t6,t7,t8,t9,Hz=>⟨t6,t7,t8,t9,Hz,rfl⟩
 |mv::l,hm,N,i,hw,t6,t7,t8,t9,Hz=>by
  have h1:=DZ names ps c.pl c.po ap c.al c.ab p N i n hw mv (hm mv SI) t7 t8 t9 Hz;have gr:=nQ (names:=names) (ps:=ps) c.ab mv i hw;have ha:aD 6 (.str mv) [some (.f,Hw names ap),some (.f,eN names ps),some (.pin p .d,dG N),some (.f,.int n.1),some (.f,eM n.2.1),some (.f,wD n.2.2),t6,t7,t8,t9,Hz]=.ok [some (.f,Hw names ap),some (.f,eN names ps),some (.pin p .d,dG N),some (.f,.int n.1),some (.f,eM n.2.1),some (.f,wD n.2.2),some (.f,.str mv),t7,t8,t9,Hz]:=rfl;unfold aR;cases hg:de names ps ap n mv N with
  |mk o N'=>
   rw[hg]at h1 gr;cases o with
   |some d=>
    dsimp only at h1 ⊢;rw[eQ,bR,ha,Hx,h1,Hx]
   |none=>
    dsimp only at h1 ⊢;obtain⟨u7,u8,u9,IU,h1⟩:=h1;have ih:=wg c p n l (fun x hx=>hm x (SM _ hx)) N' gr.iv (Td hw gr.le) (some (.f,.str mv)) u7 u8 u9 IU;cases hgs:(aR names ps ap n l N').1 with
    |some d=>
     rw[hgs]at ih;dsimp only at ih ⊢;rw[eQ,bR,ha,Hx,h1,Hx];exact ih
    |none=>
     rw[hgs]at ih;dsimp only at ih ⊢;obtain⟨v6,v7,v8,v9,v10,ih⟩:=ih;refine⟨v6,v7,v8,v9,v10,?_⟩;rw[eQ,bR,ha,Hx,h1,Hx];exact ih
theorem tf(nn:Nat)(c:O)(g:FS)(p:Addr)(d0 d1 d2 d3:D):fBodyJ 2 4 nn c g p [d0,d1,d2,d3]=Res.bnd (g ([some (.f,d1),some (.f,d2),some (.pin p c,d0),some (.f,d3)]++List.replicate nn none)) (f:=⟨fun o=>match o with | .rt r=>.ok r|_=>.bad⟩):=by
 unfold fBodyJ;dsimp only;rw[SU ⟨rfl,(by decide:2<=3)⟩];rfl
theorem wj{names:LNN}{ps:List Pl}{ap:List Hq}(c:Nc names ps ap)(p:Addr)(N:List Gt)(i:Iv N)(n:Gt)(hn:n∈N)(hw:n.2.2.length+1<=N.length):
  dF p [dG N,Hw names ap,eN names ps,.int n.1]=.ok (.t [.f,.pin p .d],.tup [(aR names ps ap n names N).1.getD .non,dG (aR names ps ap n names N).2]):=by
 have hd:=Ej (mr i.nd hn);unfold vG at hd;have fm:=jx n.2.1;have fw:=eY n.2.2;have lp:=wg c p n names (fun _ h=>h) N i hw none none none none none;unfold dF pe;rw[tf];simp only[List.replicate,Uq,Uj];rw[ax (env':=[some (.f,Hw names ap),some (.f,eN names ps),some (.pin p .d,dG N),some (.f,.int n.1),some (.f,eM n.2.1),none,none,none,none,none,none]) (by
  generalize dG N=G1 at hd ⊢;simp only[pv,seval,op,hd,OU,fm])]
 rw[ax (env':=[some (.f,Hw names ap),some (.f,eN names ps),some (.pin p .d,dG N),some (.f,.int n.1),some (.f,eM n.2.1),some (.f,wD n.2.2),none,none,none,none,none]) (by
  generalize dG N=G1 at hd ⊢;simp only[pv,seval,op,hd,RM,fw])]
 have go:∀r:Res Out,dN (aD 6) cH (names.map D.str) [some (.f,Hw names ap),some (.f,eN names ps),some (.pin p .d,dG N),some (.f,.int n.1),some (.f,eM n.2.1),some (.f,wD n.2.2),none,none,none,none,none]=r->iK [some (.f,Hw names ap),some (.f,eN names ps),some (.pin p .d,dG N),some (.f,.int n.1),some (.f,eM n.2.1),some (.f,wD n.2.2),none,none,none,none,none]=r:=fun r h=>by
  unfold iK;generalize dG N=G1 at h ⊢;unfold Hw at h ⊢;generalize eN names ps=NE at h ⊢;simp only[pv,seval,op];exact h
 cases JH:(aR names ps ap n names N).1 with
 |some d=>
  rw[JH]at lp;rw[HL,go _ lp,Hx];rfl
 |none=>
  rw[JH]at lp;obtain⟨u6,u7,u8,u9,IU,lp⟩:=lp;rw[ax (go _ lp)];unfold jZ;generalize dG (aR names ps ap n names N).2=G2;generalize eN names ps=NE;generalize Hw names ap=CE;simp only[pv,seval,op,gS,UW]
theorem D1{names:LNN}{ps:List Pl}{ap:List Hq}(c:Nc names ps ap)(N:List Gt)(i:Iv N)(n:Gt)(hn:n∈N)(hw:n.2.2.length+1<=N.length):jJ dF .d (dG N) [Hw names ap,eN names ps,.int n.1]=.ok ((.f,(aR names ps ap n names N).1.getD .non),dG (aR names ps ap n names N).2):=
 rh (r:=(.f,(aR names ps ap n names N).1.getD .non)) fun p=>wj c p N i n hn hw
noncomputable def bG(names:LNN)(ps:List Pl)(ap:List Hq):Nat->Nat->List Gt->So
 | 0,_,N=>(none,N)
 |f+1,k,N=>match N[k]? with
  |none=>(none,N)
  |some n=>match aR names ps ap n names N with
   |(some d,N')=>(some d,N')
   |(none,N')=>bG names ps ap f (k+1) N'
theorem D3{c:O}{F:Addr->List D->Res R}{i:Nat}{fs:FOs}{env e:PV.Env}{o0 o1 o2:Opd}{ow:O}{d0:D}{ds:List D}{x:R×D}(h:fs env=.ok ([o0,o1,.var i,o2],e))(hi:e[i]?=some (some (ow,d0)))(ho:oZ c ow=true)(hd:iY (e.set i none) [o0,o1,o2]=.ok ds)(hc:jJ F c d0 ds=.ok x)(JT:(cleanR x.1.1 x.1.2&&cleanR c x.2)=true):
  vy 2 c F i fs env=.ok (x.1,(e.set i none).set i (some (ow,x.2))):=by
 unfold vy;rw[h];show(match([o0,o1,Opd.var i,o2]:List Opd)[2]? with
  |some (.var j')=>if j'=i then(match e[i]? with
   |some (some (ow,d0))=>if oZ c ow then(iY (e.set i none) (([o0,o1,Opd.var i,o2]:List Opd).eraseIdx 2)).bind fun ds=>(jJ F c d0 ds).bind fun x=>if cleanR x.1.1 x.1.2&&cleanR c x.2 then .ok (x.1,(e.set i none).set i (some (ow,x.2))) else .ok (x.1,((e.set i none).map frz).set i (some (ow,x.2))) else .bad
   |_=>.bad) else .bad
  |_=>.bad)=_
 show(if i=i then(match e[i]? with
   |some (some (ow,d0))=>if oZ c ow then(iY (e.set i none) [o0,o1,o2]).bind fun ds=>(jJ F c d0 ds).bind fun x=>if cleanR x.1.1 x.1.2&&cleanR c x.2 then .ok (x.1,(e.set i none).set i (some (ow,x.2))) else .ok (x.1,((e.set i none).map frz).set i (some (ow,x.2))) else .bad
   |_=>.bad) else .bad)=_
 rw[SU rfl,hi];dsimp only;rw[SU ho,hd];show((jJ F c d0 ds).bind fun x=>if cleanR x.1.1 x.1.2&&cleanR c x.2 then .ok (x.1,(e.set i none).set i (some (ow,x.2))) else .ok (x.1,((e.set i none).map frz).set i (some (ow,x.2))))=_;rw[hc];show(if cleanR x.1.1 x.1.2&&cleanR c x.2 then Res.ok (x.1,(e.set i none).set i (some (ow,x.2))) else .ok (x.1,((e.set i none).map frz).set i (some (ow,x.2))))=_;rw[SU JT]
theorem tj(names:LNN)(ps:List Pl)(ap:List Hq)(n:Gt)(mv:List Nat)(N:List Gt):∀d,(de names ps ap n mv N).1=some d->∃ds,d=.tup ds:=by
 have gs:∀(m:List Int) (w:LNN) (ss:List Int) (N:List Gt) d,(bh m w ss N).1=some d->∃ds,d=.tup ds:=by
  intro m w ss;induction ss with
  |nil=>intro N d h;cases h
  |cons s ss ih=>
   intro N d h;unfold bh at h;rcases mw N s m w with e|⟨ds,e⟩
   ·split at h
    ·rename_i d' N' e';rw[e']at e;cases e
    ·exact ih _ d h
   ·split at h
    ·rename_i d' N' e';rw[e']at e;cases e;cases h;exact⟨ds,rfl⟩
    ·rename_i N' e';rw[e']at e;cases e
 intro d h;unfold de at h;split at h
 ·cases h
 ·cases h;exact⟨_,rfl⟩
 ·cases h;exact⟨_,rfl⟩
 ·exact gs _ _ _ _ d h
theorem lH(names:LNN)(ps:List Pl)(ap:List Hq)(n:Gt):∀(l:LNN) (N:List Gt) d,(aR names ps ap n l N).1=some d->∃ds,d=.tup ds
 |[],N,d,h=>by cases h
 |mv::l,N,d,h=>by
  unfold aR at h;split at h
  ·rename_i d' N' e;cases h;exact tj names ps ap n mv N d (by rw[e])
  ·exact lH names ps ap n l _ d h
theorem Bp(N:List Gt):vk [dG N]=.ok (.l .f,.lst (N.map fun n=>D.int n.1)):=rfl
theorem D4{names:LNN}{ps:List Pl}{ap:List Hq}(c:Nc names ps ap)(N:List Gt)(i:Iv N)(k:Nat)(n:Gt)(hk:N[k]?=some n)(t4:Option R):
  match(aR names ps ap n names N).1 with
  |some d=>fG [some (.f,Hw names ap),some (.f,eN names ps),some (.d,dG N),some (.f,.int (k:Int)),t4]=.ok (.rt (.f,d))
  |none=>fG [some (.f,Hw names ap),some (.f,eN names ps),some (.d,dG N),some (.f,.int (k:Int)),t4]=.ok (.nx [some (.f,Hw names ap),some (.f,eN names ps),some (.d,dG (aR names ps ap n names N).2),some (.f,.int ((k+1:Nat):Int)),some (.f,.non)]):=by
 have hn:n∈N:=Ta hk;have Ml:=(ki hk).1;have Nf:=i.wl k n hk;have hw:n.2.2.length+1<=N.length:=by lia
 have gr:=hW (names:=names) (ps:=ps) c.ab names i hw (n:=n);have hc:=D1 c N i n hn hw;have cl:=rY (aR names ps ap n names N).2;have sh:=lH names ps ap n names N;have cf:cleanR .f ((aR names ps ap n names N).1.getD .non)=true:=by rw[cleanR];exact gr.fl
 have Ka:Iy (N.map fun n=>D.int n.1) (k:Int)=some (.int n.1):=eZ (by rw[List.getElem?_map,hk];rfl);have SD:=Bp N;revert hc cl sh cf;generalize (aR names ps ap n names N).1=o;generalize dG (aR names ps ap n names N).2=G2;intro hc cl sh cf;unfold fG;have e1:vy 2 (.d) dF 2 (ah (aq 0) (ah (aq 1) (ah (aq 2) (ah (av (aB Ht (av (a8 vk (ah (aq 2) aH))) (aq 3))) aH)))) [some (.f,Hw names ap),some (.f,eN names ps),some (.d,dG N),some (.f,.int (k:Int)),t4]=.ok ((.f,o.getD .non),[some (.f,Hw names ap),some (.f,eN names ps),some (.d,G2),some (.f,.int (k:Int)),t4]):=by
  generalize dG N=G1 at SD hc ⊢;generalize eN names ps=NE at hc ⊢;generalize Hw names ap=CE at hc ⊢;rw[D3 (o0:=.var 0) (o1:=.var 1) (o2:=.val (.int n.1)) (e:=[some (.f,CE),some (.f,NE),some (.d,G1),some (.f,.int (k:Int)),t4]) (ow:=.d) (d0:=G1) (ds:=[CE,NE,.int n.1]) (by simp only[pv,seval,op,SD,Ka]) rfl rfl rfl hc (by
   show(cleanR .f (o.getD .non)&&cleanR .d G2)=true;rw[cf,cl];rfl)]
  rfl
 rw[ax (env':=[some (.f,Hw names ap),some (.f,eN names ps),some (.d,G2),some (.f,.int (k:Int)),some (.f,o.getD .non)]) (by
  generalize dG N=G1 at e1 ⊢;generalize eN names ps=NE at e1 ⊢;generalize Hw names ap=CE at e1 ⊢;rw[L5,e1,Hx];rfl)]
 generalize eN names ps=NE;generalize Hw names ap=CE;cases o with
 |some d=>
  obtain⟨ds,rfl⟩:=sh d rfl;dsimp only;rw[HL];simp only[pv,seval,op,yR,VB]
 |none=>
  dsimp only;rw[ax (env':=[some (.f,CE),some (.f,NE),some (.d,G2),some (.f,.int (k:Int)),some (.f,.non)]) (by simp only[pv,seval,op,lC,UW,dy])];simp only[pv,seval,op,VX,U1]
def kN(N:List Gt):List D:=N.map fun n=>D.int n.1
def dM(N:List Gt):D:=.dct false (kN N) (N.map fun n=>eM n.2.1)
def dW(N:List Gt):D:=.dct false (kN N) (N.map fun n=>wD n.2.2)
theorem ya(f:Gt->D):∀(N:List Gt) (s:Int),getD (N.map fun n=>D.int n.1) (N.map f) (.int s)=(N.find? fun n=>n.1==s).map f
 |[],s=>rfl
 |z::L,s=>by
  have ih:=ya f L s;unfold getD at ih ⊢;rw[eQ,eQ,T8];by_cases e:z.1=s
  ·rw[List.find?_cons_of_pos (by show Hl (.int s) (.int z.1)=true;rw[Hl,Tu];exact e.symm),List.find?_cons_of_pos (by simpa using e)];rfl
  ·rw[List.find?_cons_of_neg (by show ¬ Hl (.int s) (.int z.1)=true;rw[Hl,Tu];exact fun q=>e q.symm),List.find?_cons_of_neg (by simpa using e)];exact ih
theorem F9(f:Gt->D){N:List Gt}{s:Int}{n:Gt}(h:(N.find? fun z=>z.1==s)=some n):Jq (.dct false (kN N) (N.map f)) (.int s)=.ok (.f,f n):=by
 unfold Jq kN;dsimp only;rw[SU (show dg false (.int s)=true from rfl),ya,h];rfl
theorem Ek{N:List Gt}{s:Int}{n:Gt}(h:(N.find? fun z=>z.1==s)=some n):Jq (dM N) (.int s)=.ok (.f,eM n.2.1):=F9 _ h
theorem El{N:List Gt}{s:Int}{n:Gt}(h:(N.find? fun z=>z.1==s)=some n):Jq (dW N) (.int s)=.ok (.f,wD n.2.2):=F9 _ h
theorem Fy(N:List Gt)(s:Int):tF (.int s) (dM N)=.ok (.f,.bl (N.find? fun z=>z.1==s).isNone):=by
 unfold tF dM kN;dsimp only;rw[SU (show dg false (.int s)=true from rfl),ya];cases(N.find? fun z=>z.1==s) <;> rfl
theorem Ha(N:List Gt)(s:Int):Nm (.int s) (dM N)=.ok (.f,.bl (N.find? fun z=>z.1==s).isSome):=by
 unfold Nm dM kN;dsimp only;rw[SU (show dg false (.int s)=true from rfl),ya];cases(N.find? fun z=>z.1==s) <;> rfl
theorem D5(f:Gt->D){N:List Gt}{n:Gt}(h:(N.find? fun z=>z.1==n.1)=none):kY (kN N) (N.map f) (.int n.1) (f n)=(kN (N++[n]),(N++[n]).map f):=by
 rw[List.find?_eq_none]at h;have e:(kN N).any (Hl (.int n.1))=false:=by
  unfold kN;rw[UQ,List.any_eq_false];intro x hx;show ¬ Hl (.int n.1) (.int x.1)=true;rw[Hl,Tu];intro q;exact h x hx (by simp[q])
 unfold kY;rw[e,SX SN,S6];unfold kN;rw[S6];rfl
theorem Bq(N:List Gt):cleanR .d (dM N)=true:=by
 unfold dM;rw[cleanR];exact ky fun n=>jx n.2.1
theorem Br(N:List Gt):cleanR .d (dW N)=true:=by
 unfold dW;rw[cleanR];exact ky fun n=>eY n.2.2
def tm:List Gt->Option R->Option R
 |[],t=>t
 |n::L,_=>tm L (some (.f,.int n.1))
theorem iQ:∀(L:List Gt) (t:Option R),(∀r,t=some r->cleanR r.1 r.2=true)->∀r,tm L t=some r->cleanR r.1 r.2=true
 |[],t,h=>h
 |n::L,t,h=>iQ L _ fun r e=>by cases e;rfl
theorem D6(N:List Gt)(nd:(N.map (·.1)).Nodup)(A0 A1 A4 A5 A6 A7 A9:Option R)(s:Int)(t:List Int)(w:LNN)(n:Gt)(hn:n∈N):
  dY [A0,A1,some (.d,dM N),some (.d,dW N),A4,A5,A6,A7,some (.f,eM t),A9,some (.f,.int s),some (.f,wD w),some (.f,.int n.1)]=if nO s t n then .ok (.rt (.f,tG n.2.2 w)) else .ok (.nx [A0,A1,some (.d,dM N),some (.d,dW N),A4,A5,A6,A7,some (.f,eM t),A9,some (.f,.int s),some (.f,wD w),some (.f,.int n.1)]):=by
 have hd:=Ek (mr nd hn);have hw:=El (mr nd hn);have he:=DT n.2.1 t;unfold dY nO;generalize dM N=GM at hd ⊢;generalize dW N=GW at hw ⊢;cases h1:(n.1==s) with
 |true=>simp only[pv,seval,op,h1,UH,Vx,dy]
 |false=>
  cases h2:decide (n.2.1=t) with
  |false=>simp only[pv,seval,op,h1,h2,hd,he,T5,VL,dy]
  |true=>
   simp only[pv,seval,op,h1,h2,hd,hw,he,T5,VL];rfl
theorem yS(N:List Gt)(nd:(N.map (·.1)).Nodup)(A0 A1 A4 A5 A6 A7 A9:Option R)(s:Int)(t:List Int)(w:LNN):∀(L:List Gt),(∀n∈L,n∈N)->∀HC:Option R,
  dN (aD 12) dY (kN L) [A0,A1,some (.d,dM N),some (.d,dW N),A4,A5,A6,A7,some (.f,eM t),A9,some (.f,.int s),some (.f,wD w),HC]=match L.find? (nO s t) with
  |some n=>.ok (.rt (.f,tG n.2.2 w))
  |none=>.ok (.nx [A0,A1,some (.d,dM N),some (.d,dW N),A4,A5,A6,A7,some (.f,eM t),A9,some (.f,.int s),some (.f,wD w),tm L HC])
 |[],_,HC=>rfl
 |n::L,h,HC=>by
  have hi:=D6 N nd A0 A1 A4 A5 A6 A7 A9 s t w n (h n SI);have ha:aD 12 (.int n.1) [A0,A1,some (.d,dM N),some (.d,dW N),A4,A5,A6,A7,some (.f,eM t),A9,some (.f,.int s),some (.f,wD w),HC]=.ok [A0,A1,some (.d,dM N),some (.d,dW N),A4,A5,A6,A7,some (.f,eM t),A9,some (.f,.int s),some (.f,wD w),some (.f,.int n.1)]:=rfl;have ih:=yS N nd A0 A1 A4 A5 A6 A7 A9 s t w L (fun n hn=>h n (SM _ hn)) (some (.f,.int n.1));show dN _ _ (D.int n.1::kN L) _=_;cases hc:nO s t n with
  |true=>
   rw[List.find?_cons_of_pos hc];rw[hc,SU rfl]at hi;rw[bR,ha,Hx,hi,Hx]
  |false=>
   rw[List.find?_cons_of_neg (by rw[hc];exact SN)];rw[hc,SX SN]at hi;rw[bR,ha,Hx,hi,Hx];exact ih
theorem Fz(CH NE:D)(hC:xE CH=true)(hN:xE NE=true)(N:List Gt)(nd:(N.map (·.1)).Nodup)(dn st:Int)(mv:List Nat)(t:List Int)(EE:List D)(s:Int)(w:LNN)(HC:Option R)(JE:∀r,HC=some r->cleanR r.1 r.2=true):
  gJ [some (.f,CH),some (.f,NE),some (.d,dM N),some (.d,dW N),some (.l .f,.lst (kN N)),some (.f,.int dn),some (.f,.int st),some (.f,.str mv),some (.f,eM t),some (.f,.lst EE),some (.f,.int s),some (.f,wD w),HC]=match N.find? (nO s t) with
  |some n=>.ok (.rt (.f,tG n.2.2 w))
  |none=>.ok (.nx [some (.f,CH),some (.f,NE),some (.d,dM N),some (.d,dW N),some (.l .f,.lst (kN N)),some (.f,.int dn),some (.f,.int st),some (.f,.str mv),some (.f,eM t),some (.f,.lst EE),some (.f,.int s),some (.f,wD w),tm N HC]):=by
 have go:∀(A0 A1 A9:Option R) (o:O) (ho:fz o=o\/o=.l .f),iy [A0,A1,some (.d,dM N),some (.d,dW N),some (o,.lst (kN N)),some (.f,.int dn),some (.f,.int st),some (.f,.str mv),some (.f,eM t),A9,some (.f,.int s),some (.f,wD w),HC]=match N.find? (nO s t) with
  |some n=>.ok (.rt (.f,tG n.2.2 w))
  |none=>.ok (.nx [A0,A1,some (.d,dM N),some (.d,dW N),some (fz o,.lst (kN N)),some (.f,.int dn),some (.f,.int st),some (.f,.str mv),some (.f,eM t),A9,some (.f,.int s),some (.f,wD w),tm N HC]):=fun A0 A1 A9 o ho=>by
  rw[<-yS N nd A0 A1 (some (fz o,.lst (kN N))) (some (.f,.int dn)) (some (.f,.int st)) (some (.f,.str mv)) A9 s t w N (fun _ h=>h) HC];rfl
 unfold gJ lendR;have g1:=go (some (.f,CH)) (some (.f,NE)) (some (.f,.lst EE)) (.l .f) (.inr rfl);cases hf:N.find? (nO s t) with
 |some n=>
  rw[hf]at g1;dsimp only at g1 ⊢;rw[g1]
 |none=>
  rw[hf]at g1;dsimp only at g1 ⊢;rw[g1];dsimp only;refine Aj ⟨⟨_,rfl,rfl⟩,fun j hj=>?_,fun k r hk=>?_,fun ps=>?_⟩
  ·simp only[SV,TJ,Xc]at hj;rcases hj with rfl|rfl|rfl
   ·exact⟨by decide,.f,_,hC,.inl rfl,rfl,rfl⟩
   ·exact⟨by decide,.f,_,hN,.inl rfl,rfl,rfl⟩
   ·exact⟨by decide,.f,_,rfl,.inl rfl,rfl,rfl⟩
  ·match k,hk with
   | 0,hk=>exact .inr (.inl (by simp))
   | 1,hk=>exact .inr (.inl (by simp))
   | 2,hk=>cases hk;exact .inr (.inr (Bq N))
   | 3,hk=>cases hk;exact .inr (.inr (Br N))
   | 4,hk=>exact .inl rfl
   | 5,hk=>cases hk;exact .inr (.inr rfl)
   | 6,hk=>cases hk;exact .inr (.inr rfl)
   | 7,hk=>cases hk;exact .inr (.inr rfl)
   | 8,hk=>cases hk;exact .inr (.inr (by rw[cleanR];exact jx t))
   | 9,hk=>exact .inr (.inl (by simp))
   | 10,hk=>cases hk;exact .inr (.inr rfl)
   | 11,hk=>cases hk;exact .inr (.inr (by rw[cleanR];exact eY w))
   | 12,hk=>exact .inr (.inr (iQ N HC JE r (by simpa using hk)))
   |k+13,hk=>simp at hk
  ·have g2:=go (some (.pin (ps 0) .f,CH)) (some (.pin (ps 1) .f,NE)) (some (.pin (ps 9) .f,.lst EE)) (.pin (ps 4) .f) (.inl rfl);rw[hf]at g2;exact g2
theorem pK{N more:List Gt}{s:Int}{n:Gt}(h:(N.find? fun z=>z.1==s)=some n):((N++more).find? fun z=>z.1==s)=some n:=by
 rw[List.find?_append,h];rfl
theorem yb(CH NE:D)(hC:xE CH=true)(hN:xE NE=true)(N:List Gt)(i:Iv N)(dn:Int)(n:Gt)(hn:(N.find? fun z=>z.1==n.1)=some n)(hw:n.2.2.length+1<=N.length)(mv:List Nat)(t:List Int)(EE:List D)(s:Int)(HS HC:Option R)(JE:∀r,HC=some r->cleanR r.1 r.2=true):
  match(cj N s t (n.2.2++[mv])).1 with
  |some d=>b8 [some (.f,CH),some (.f,NE),some (.d,dM N),some (.d,dW N),some (.l .f,.lst (kN N)),some (.f,.int dn),some (.f,.int n.1),some (.f,.str mv),some (.f,eM t),some (.f,.lst EE),some (.f,.int s),HS,HC]=.ok (.rt (.f,d))
  |none=>∃Iw,(∀r,Iw=some r->cleanR r.1 r.2=true)/\b8 [some (.f,CH),some (.f,NE),some (.d,dM N),some (.d,dW N),some (.l .f,.lst (kN N)),some (.f,.int dn),some (.f,.int n.1),some (.f,.str mv),some (.f,eM t),some (.f,.lst EE),some (.f,.int s),HS,HC]=.ok (.nx [some (.f,CH),some (.f,NE),some (.d,dM (cj N s t (n.2.2++[mv])).2),some (.d,dW (cj N s t (n.2.2++[mv])).2),some (.l .f,.lst (kN (cj N s t (n.2.2++[mv])).2)),some (.f,.int dn),some (.f,.int n.1),some (.f,.str mv),some (.f,eM t),some (.f,.lst EE),some (.f,.int s),some (.f,wD (n.2.2++[mv])),Iw]):=by
 have hle:=i.le;have ha:cY (wD n.2.2) (.tup [.str mv])=.ok (.f,wD (n.2.2++[mv])):=F6 n.2.2 mv (by lia);have OD:=El hn;have fw:=eY (n.2.2++[mv]);have d1:=Fz CH NE hC hN N i.nd dn n.1 mv t EE s (n.2.2++[mv]) HC JE;have Km:=Ha N s;have Lr:=Fy N s;have hle2:=i.le;unfold b8;rw[ax (env':=[some (.f,CH),some (.f,NE),some (.d,dM N),some (.d,dW N),some (.l .f,.lst (kN N)),some (.f,.int dn),some (.f,.int n.1),some (.f,.str mv),some (.f,eM t),some (.f,.lst EE),some (.f,.int s),some (.f,wD (n.2.2++[mv])),HC]) (by
  generalize dM N=GM;generalize dW N=GW at OD ⊢;simp only[pv,↓reduceIte,Nat.reduceAdd,Nat.reduceLT,Nat.reduceLeDiff,Nat.reduceEqDiff,op,OD,ha,fw])]
 unfold cj jP;cases hf:N.find? (nO s t) with
 |some c=>
  rw[hf]at d1;dsimp only at d1 ⊢;rw[HL,d1,Hx]
 |none=>
  rw[hf]at d1;dsimp only at d1 ⊢;rw[ax d1];unfold jq;have hL:=iQ N HC JE;generalize tm N HC=Iw at hL;cases hs:N.find? fun z=>z.1==s with
  |none=>
   rw[hs]at Km Lr;dsimp only;refine⟨Iw,hL,?_⟩;have p1:=D5 (fun n=>eM n.2.1) (N:=N) (n:=(s,t,n.2.2++[mv])) hs;have p2:=D5 (fun n=>wD n.2.2) (N:=N) (n:=(s,t,n.2.2++[mv])) hs;have hz:(kN N).length<sizeLine:=jv (by unfold kN;rw[bD];lia);have e1:z9 2 (aI 10) (aI 8) [some (.f,CH),some (.f,NE),some (.d,dM N),some (.d,dW N),some (.l .f,.lst (kN N)),some (.f,.int dn),some (.f,.int n.1),some (.f,.str mv),some (.f,eM t),some (.f,.lst EE),some (.f,.int s),some (.f,wD (n.2.2++[mv])),Iw]=.ok (.nx [some (.f,CH),some (.f,NE),some (.d,dM (N++[(s,t,n.2.2++[mv])])),some (.d,dW N),some (.l .f,.lst (kN N)),some (.f,.int dn),some (.f,.int n.1),some (.f,.str mv),some (.f,eM t),some (.f,.lst EE),some (.f,.int s),some (.f,wD (n.2.2++[mv])),Iw]):=by
    generalize dW N=GW;unfold dM;dsimp only at p1;simp only[pv,↓reduceIte,Nat.reduceAdd,Nat.reduceLT,Nat.reduceLeDiff,Nat.reduceEqDiff,op,p1,hz,Ur];rfl
   have e2:z9 3 (aI 10) (aI 11) [some (.f,CH),some (.f,NE),some (.d,dM (N++[(s,t,n.2.2++[mv])])),some (.d,dW N),some (.l .f,.lst (kN N)),some (.f,.int dn),some (.f,.int n.1),some (.f,.str mv),some (.f,eM t),some (.f,.lst EE),some (.f,.int s),some (.f,wD (n.2.2++[mv])),Iw]=.ok (.nx [some (.f,CH),some (.f,NE),some (.d,dM (N++[(s,t,n.2.2++[mv])])),some (.d,dW (N++[(s,t,n.2.2++[mv])])),some (.l .f,.lst (kN N)),some (.f,.int dn),some (.f,.int n.1),some (.f,.str mv),some (.f,eM t),some (.f,.lst EE),some (.f,.int s),some (.f,wD (n.2.2++[mv])),Iw]):=by
    generalize dM (N++[(s,t,n.2.2++[mv])])=GM;unfold dW;dsimp only at p2;simp only[pv,↓reduceIte,Nat.reduceAdd,Nat.reduceLT,Nat.reduceLeDiff,Nat.reduceEqDiff,op,p2,hz,Ur];rfl
   have e3:kN (N++[(s,t,n.2.2++[mv])])=kN N++[.int s]:=by
    unfold kN;rw[S6];rfl
   rw[ax (env':=[some (.f,CH),some (.f,NE),some (.d,dM N),some (.d,dW N),some (.l .f,.lst (kN N)),some (.f,.int dn),some (.f,.int n.1),some (.f,.str mv),some (.f,eM t),some (.f,.lst EE),some (.f,.int s),some (.f,wD (n.2.2++[mv])),Iw]) (by
    generalize dM N=GM at Km ⊢;generalize dW N=GW;simp only[pv,↓reduceIte,Nat.reduceAdd,Nat.reduceLT,Nat.reduceLeDiff,Nat.reduceEqDiff,op,Km,Option.isSome_none,dy])]
   rw[e3];generalize dM (N++[(s,t,n.2.2++[mv])])=GM' at e1 e2 ⊢;generalize dW (N++[(s,t,n.2.2++[mv])])=GW' at e1 e2 ⊢;generalize dM N=GM at Lr e1 e2 ⊢;generalize dW N=GW at e1 e2 ⊢;rw[GY (env':=[some (.f,CH),some (.f,NE),some (.d,GM),some (.d,GW),some (.l .f,.lst (kN N)),some (.f,.int dn),some (.f,.int n.1),some (.f,.str mv),some (.f,eM t),some (.f,.lst EE),some (.f,.int s),some (.f,wD (n.2.2++[mv])),Iw]) (by simp only[pv,↓reduceIte,Nat.reduceAdd,Nat.reduceLT,Nat.reduceLeDiff,Nat.reduceEqDiff,op,Lr,Xj])];rw[ax e1,ax e2];simp only[pv,↓reduceIte,Nat.reduceAdd,Nat.reduceLT,Nat.reduceLeDiff,Nat.reduceEqDiff,op,hz]
  |some c=>
   rw[hs]at Km Lr;have hd:=Ek hs;have OE:=El hs;have Kz:=DU c.2.1 t;dsimp only;by_cases hm:c.2.1=t
   ·rw[Tr hm]at Kz;rw[SU hm];dsimp only;refine⟨Iw,hL,?_⟩;generalize dM N=GM at Km Lr hd ⊢;generalize dW N=GW at OE ⊢;rw[ax (env':=[some (.f,CH),some (.f,NE),some (.d,GM),some (.d,GW),some (.l .f,.lst (kN N)),some (.f,.int dn),some (.f,.int n.1),some (.f,.str mv),some (.f,eM t),some (.f,.lst EE),some (.f,.int s),some (.f,wD (n.2.2++[mv])),Iw]) (by simp only[pv,↓reduceIte,Nat.reduceAdd,Nat.reduceLT,Nat.reduceLeDiff,Nat.reduceEqDiff,op,Km,hd,Kz,V0,UH,dy])];simp only[pv,↓reduceIte,Nat.reduceAdd,Nat.reduceLT,Nat.reduceLeDiff,Nat.reduceEqDiff,op,Lr,V2,dy]
   ·rw[Tb hm]at Kz;rw[SX hm];dsimp only;generalize dM N=GM at Km Lr hd ⊢;generalize dW N=GW at OE ⊢;rw[HL];simp only[pv,↓reduceIte,Nat.reduceAdd,Nat.reduceLT,Nat.reduceLeDiff,Nat.reduceEqDiff,op,Km,hd,OE,Kz,V0,T5];rfl
theorem yT(CH NE:D)(hC:xE CH=true)(hN:xE NE=true)(dn:Int)(n:Gt)(mv:List Nat)(t:List Int)(EE:List D):∀(ss:List Int) (N:List Gt),Iv N->(N.find? fun z=>z.1==n.1)=some n->n.2.2.length+1<=N.length->(∀s∈ss,0<=s/\s<12)->∀(Hz HS HC:Option R),(∀r,HC=some r->cleanR r.1 r.2=true)->
  match(bh t (n.2.2++[mv]) ss N).1 with
  |some d=>dN (aD 10) b8 (ss.map D.int) [some (.f,CH),some (.f,NE),some (.d,dM N),some (.d,dW N),some (.l .f,.lst (kN N)),some (.f,.int dn),some (.f,.int n.1),some (.f,.str mv),some (.f,eM t),some (.f,.lst EE),Hz,HS,HC]=.ok (.rt (.f,d))
  |none=>∃IU J7 Iw,(∀r,Iw=some r->cleanR r.1 r.2=true)/\dN (aD 10) b8 (ss.map D.int) [some (.f,CH),some (.f,NE),some (.d,dM N),some (.d,dW N),some (.l .f,.lst (kN N)),some (.f,.int dn),some (.f,.int n.1),some (.f,.str mv),some (.f,eM t),some (.f,.lst EE),Hz,HS,HC]=.ok (.nx [some (.f,CH),some (.f,NE),some (.d,dM (bh t (n.2.2++[mv]) ss N).2),some (.d,dW (bh t (n.2.2++[mv]) ss N).2),some (.l .f,.lst (kN (bh t (n.2.2++[mv]) ss N).2)),some (.f,.int dn),some (.f,.int n.1),some (.f,.str mv),some (.f,eM t),some (.f,.lst EE),IU,J7,Iw])
 |[],N,_,_,_,_,Hz,HS,HC,JE=>⟨Hz,HS,HC,JE,rfl⟩
 |s::ss,N,i,hn,hw,hs,Hz,HS,HC,JE=>by
  have h1:=yb CH NE hC hN N i dn n hn hw mv t EE s HS HC JE;have gr:=lG i (hs s SI) t (w:=n.2.2++[mv]) (by rw[jB];exact hw);have ha:aD 10 (.int s) [some (.f,CH),some (.f,NE),some (.d,dM N),some (.d,dW N),some (.l .f,.lst (kN N)),some (.f,.int dn),some (.f,.int n.1),some (.f,.str mv),some (.f,eM t),some (.f,.lst EE),Hz,HS,HC]=.ok [some (.f,CH),some (.f,NE),some (.d,dM N),some (.d,dW N),some (.l .f,.lst (kN N)),some (.f,.int dn),some (.f,.int n.1),some (.f,.str mv),some (.f,eM t),some (.f,.lst EE),some (.f,.int s),HS,HC]:=rfl;unfold bh;cases hg:cj N s t (n.2.2++[mv]) with
  |mk o N'=>
   rw[hg]at h1 gr;cases o with
   |some d=>
    dsimp only at h1 ⊢;rw[eQ,bR,ha,Hx,h1,Hx]
   |none=>
    dsimp only at h1 gr ⊢;obtain⟨Iw,hu,h1⟩:=h1;obtain⟨more,em⟩:=gr.ex;have ih:=yT CH NE hC hN dn n mv t EE ss N' gr.iv (by rw[em];exact pK hn) (Td hw gr.le) (fun x hx=>hs x (SM _ hx)) (some (.f,.int s)) (some (.f,wD (n.2.2++[mv]))) Iw hu;cases hgs:(bh t (n.2.2++[mv]) ss N').1 with
    |some d=>
     rw[hgs]at ih;dsimp only at ih ⊢;rw[eQ,bR,ha,Hx,h1,Hx];exact ih
    |none=>
     rw[hgs]at ih;dsimp only at ih ⊢;obtain⟨v10,v11,Qb,hv,ih⟩:=ih;refine⟨v10,v11,Qb,hv,?_⟩;rw[eQ,bR,ha,Hx,h1,Hx];exact ih
theorem wm(ap:List Hq)(s:Int)(m:List Nat):c9 (jA 3 (aN (aD 0) (aN (aD 1) (aN (aD 2) dr)))) (sP (HI (bo Ip (aq 0) (aq 3))) (HI (bo Ip (aq 1) (aq 4)))) (aI 2) (ap.map eA) [none,none,none,some (.f,.int s),some (.f,.str m)]=.ok ((fX ap s m).map D.int):=by
 rw[rM (p:=fun a:Hq=>a.1==s&&a.2.1==m) (r:=fun a:Hq=>D.int a.2.2) (fun env=>∃t1 t2 t3,env=[t1,t2,t3,some (.f,.int s),some (.f,.str m)]) ap ?_ _ ⟨_,_,_,rfl⟩]
 ·unfold fX;rw[S9];rfl
 ·rintro a _ env ⟨t1,t2,t3,rfl⟩;refine⟨_,iP a t1 t2 t3 _,?_⟩;simp only[pv,seval,op];cases h1:a.1==s with
  |true=>
   cases h2:a.2.1==m with
   |true=>exact⟨_,rfl,_,_,rfl,_,_,_,rfl⟩
   |false=>exact⟨_,rfl,_,_,_,rfl⟩
  |false=>exact⟨_,rfl,_,_,_,rfl⟩
theorem rZ(l:List Int):plainD 40 (.lst (l.map D.int))=true:=by
 rw[plainD];exact d5 _ _
theorem Bs(l:List Int):Ip (.lst (l.map D.int)) (.lst [])=.ok (.f,.bl l.isEmpty):=by
 unfold Ip;rw[rZ];cases l <;> rfl
theorem Bt(l:List Int):Je (.lst (l.map D.int)) (.lst [])=.ok (.f,.bl (!l.isEmpty)):=by
 unfold Je;rw[rZ];cases l <;> rfl
theorem FA{names:LNN}{ps:List Pl}{ap:List Hq}(c:Nc names ps ap)(N:List Gt)(i:Iv N)(dn:Int)(n:Gt)(hn:(N.find? fun z=>z.1==n.1)=some n)(hw:n.2.2.length+1<=N.length)(mv:List Nat)(hm:mv∈names)(t8 t9 Hz HS HC:Option R)(JE:∀r,HC=some r->cleanR r.1 r.2=true):
  match(de names ps ap n mv N).1 with
  |some d=>b9 [some (.f,Hw names ap),some (.f,eN names ps),some (.d,dM N),some (.d,dW N),some (.l .f,.lst (kN N)),some (.f,.int dn),some (.f,.int n.1),some (.f,.str mv),t8,t9,Hz,HS,HC]=.ok (.rt (.f,d))
  |none=>∃u8 u9 IU J7 Iw,(∀r,Iw=some r->cleanR r.1 r.2=true)/\b9 [some (.f,Hw names ap),some (.f,eN names ps),some (.d,dM N),some (.d,dW N),some (.l .f,.lst (kN N)),some (.f,.int dn),some (.f,.int n.1),some (.f,.str mv),t8,t9,Hz,HS,HC]=.ok (.nx [some (.f,Hw names ap),some (.f,eN names ps),some (.d,dM (de names ps ap n mv N).2),some (.d,dW (de names ps ap n mv N).2),some (.l .f,.lst (kN (de names ps ap n mv N).2)),some (.f,.int dn),some (.f,.int n.1),some (.f,.str mv),u8,u9,IU,J7,Iw]):=by
 have KC:=Bh names ps c.pl c.po n.2.1 mv hm;have SE:=wm ap n.1 mv;have RO:=Ek hn;have OD:=El hn;have J9:=c.al;have Qa:=vZ (cz (names.idxOf mv) (n.2.1.zip ps));have RN:=Ho (fX ap n.1 mv);have hgl:((fX ap n.1 mv).map D.int).length<=sizeLine:=bF (by
  unfold fX;rw[bD,bD];exact Td (WO _ _) (by lia))
 have hg:∀s∈fX ap n.1 mv,0<=s/\s<12:=fun s hs=>by
  unfold fX at hs;obtain⟨a,ha,e⟩:=pB hs;rw[<-e];exact c.ab a (UI.mp ha).1
 have J6:=Bs (fX ap n.1 mv);have Kn:=Bt (fX ap n.1 mv);have lp:=fun t=>yT (Hw names ap) (eN names ps) rfl rfl dn n mv t ((fX ap n.1 mv).map D.int) (fX ap n.1 mv) N i hn hw hg Hz HS HC JE
 unfold de;unfold b9;rw[ax (env':=[some (.f,Hw names ap),some (.f,eN names ps),some (.d,dM N),some (.d,dW N),some (.l .f,.lst (kN N)),some (.f,.int dn),some (.f,.int n.1),some (.f,.str mv),some (.f,eO (cz (names.idxOf mv) (n.2.1.zip ps))),t9,Hz,HS,HC]) (by
  generalize eN names ps=NE at KC ⊢;generalize dM N=GM at RO ⊢;generalize dW N=GW;simp only[pv,seval,op,RO,KC,Qa])]
 rw[ax (env':=[some (.f,Hw names ap),some (.f,eN names ps),some (.d,dM N),some (.d,dW N),some (.l .f,.lst (kN N)),some (.f,.int dn),some (.f,.int n.1),some (.f,.str mv),some (.f,eO (cz (names.idxOf mv) (n.2.1.zip ps))),some (.l .f,.lst ((fX ap n.1 mv).map D.int)),Hz,HS,HC]) (by
  generalize eN names ps=NE;generalize dM N=GM;generalize dW N=GW;unfold Hw;simp only[pv,seval,op,SE,hgl,RN])]
 clear KC SE Qa RO;generalize eN names ps=NE at lp ⊢;generalize Hw names ap=CE at lp ⊢;cases cz (names.idxOf mv) (n.2.1.zip ps) with
 |none=>
  cases hgs:fX ap n.1 mv with
  |nil=>
   dsimp only;refine⟨some (.f,.non),some (.f,.lst []),Hz,HS,HC,JE,?_⟩;rw[hgs]at J6 Kn;have J6:Ip (.lst []) (.lst [])=.ok (.f,.bl true):=J6;have Kn:Je (.lst []) (.lst [])=.ok (.f,.bl false):=Kn;show(sSeq _ _) [some (.f,CE),some (.f,NE),some (.d,dM N),some (.d,dW N),some (.l .f,.lst (kN N)),some (.f,.int dn),some (.f,.int n.1),some (.f,.str mv),some (.f,.non),some (.l .f,.lst []),Hz,HS,HC]=_;generalize dM N=GM;generalize dW N=GW;rw[ax (env':=[some (.f,CE),some (.f,NE),some (.d,GM),some (.d,GW),some (.l .f,.lst (kN N)),some (.f,.int dn),some (.f,.int n.1),some (.f,.str mv),some (.f,.non),some (.l .f,.lst []),Hz,HS,HC]) (by simp only[pv,seval,op,Kn,dy])];rw[ax (env':=[some (.f,CE),some (.f,NE),some (.d,GM),some (.d,GW),some (.l .f,.lst (kN N)),some (.f,.int dn),some (.f,.int n.1),some (.f,.str mv),some (.f,.non),some (.l .f,.lst []),Hz,HS,HC]) (by simp only[pv,seval,op,J6,lC,dy])];unfold eW;simp only[pv,seval,op]
  |cons s ss=>
   dsimp only;rw[hgs]at Kn;have Kn:Je (.lst ((s::ss).map D.int)) (.lst [])=.ok (.f,.bl true):=Kn;show(sSeq _ _) [some (.f,CE),some (.f,NE),some (.d,dM N),some (.d,dW N),some (.l .f,.lst (kN N)),some (.f,.int dn),some (.f,.int n.1),some (.f,.str mv),some (.f,.non),some (.l .f,.lst ((s::ss).map D.int)),Hz,HS,HC]=_;generalize ((s::ss).map D.int)=LL at Kn ⊢;generalize dM N=GM;generalize dW N=GW at OD ⊢;rw[HL];simp only[pv,seval,op,Kn,we,OD];rfl
 |some t=>
  have KA:=lp t;clear lp;cases hgs:fX ap n.1 mv with
  |nil=>
   dsimp only;rw[hgs]at J6 Kn;have J6:Ip (.lst []) (.lst [])=.ok (.f,.bl true):=J6;have Kn:Je (.lst []) (.lst [])=.ok (.f,.bl false):=Kn;show(sSeq _ _) [some (.f,CE),some (.f,NE),some (.d,dM N),some (.d,dW N),some (.l .f,.lst (kN N)),some (.f,.int dn),some (.f,.int n.1),some (.f,.str mv),some (.f,eM t),some (.l .f,.lst []),Hz,HS,HC]=_;generalize dM N=GM;generalize dW N=GW at OD ⊢;rw[ax (env':=[some (.f,CE),some (.f,NE),some (.d,GM),some (.d,GW),some (.l .f,.lst (kN N)),some (.f,.int dn),some (.f,.int n.1),some (.f,.str mv),some (.f,eM t),some (.l .f,.lst []),Hz,HS,HC]) (by simp only[pv,seval,op,Kn,dy])];rw[HL];simp only[pv,seval,op,J6,wc,OD];rfl
  |cons s ss=>
   rw[hgs]at KA J6 Kn;have J6:Ip (.lst ((s::ss).map D.int)) (.lst [])=.ok (.f,.bl false):=J6;have Kn:Je (.lst ((s::ss).map D.int)) (.lst [])=.ok (.f,.bl true):=Kn;dsimp only;show match(bh t (n.2.2++[mv]) (s::ss) N).1 with
    |some d=>(sSeq _ _) [some (.f,CE),some (.f,NE),some (.d,dM N),some (.d,dW N),some (.l .f,.lst (kN N)),some (.f,.int dn),some (.f,.int n.1),some (.f,.str mv),some (.f,eM t),some (.l .f,.lst ((s::ss).map D.int)),Hz,HS,HC]=.ok (.rt (.f,d))
    |none=>∃u8 u9 IU J7 Iw,(∀r,Iw=some r->cleanR r.1 r.2=true)/\(sSeq _ _) [some (.f,CE),some (.f,NE),some (.d,dM N),some (.d,dW N),some (.l .f,.lst (kN N)),some (.f,.int dn),some (.f,.int n.1),some (.f,.str mv),some (.f,eM t),some (.l .f,.lst ((s::ss).map D.int)),Hz,HS,HC]=.ok (.nx [some (.f,CE),some (.f,NE),some (.d,dM (bh t (n.2.2++[mv]) (s::ss) N).2),some (.d,dW (bh t (n.2.2++[mv]) (s::ss) N).2),some (.l .f,.lst (kN (bh t (n.2.2++[mv]) (s::ss) N).2)),some (.f,.int dn),some (.f,.int n.1),some (.f,.str mv),u8,u9,IU,J7,Iw])
   generalize ((s::ss).map D.int)=LL at J6 Kn KA ⊢;rw[ax (env':=[some (.f,CE),some (.f,NE),some (.d,dM N),some (.d,dW N),some (.l .f,.lst (kN N)),some (.f,.int dn),some (.f,.int n.1),some (.f,.str mv),some (.f,eM t),some (.l .f,.lst LL),Hz,HS,HC]) (by
    generalize dM N=GM;generalize dW N=GW;simp only[pv,seval,op,Kn,Bo,dy])]
   rw[ax (env':=[some (.f,CE),some (.f,NE),some (.d,dM N),some (.d,dW N),some (.l .f,.lst (kN N)),some (.f,.int dn),some (.f,.int n.1),some (.f,.str mv),some (.f,eM t),some (.l .f,.lst LL),Hz,HS,HC]) (by
    generalize dM N=GM;generalize dW N=GW;simp only[pv,seval,op,J6,dy])]
   have go:∀r:Res Out,dN (aD 10) b8 LL [some (.f,CE),some (.f,NE),some (.d,dM N),some (.d,dW N),some (.l .f,.lst (kN N)),some (.f,.int dn),some (.f,.int n.1),some (.f,.str mv),some (.f,eM t),some (.f,.lst LL),Hz,HS,HC]=r->eW [some (.f,CE),some (.f,NE),some (.d,dM N),some (.d,dW N),some (.l .f,.lst (kN N)),some (.f,.int dn),some (.f,.int n.1),some (.f,.str mv),some (.f,eM t),some (.l .f,.lst LL),Hz,HS,HC]=r:=fun r h=>by
    unfold eW;generalize dM N=GM at h ⊢;generalize dW N=GW at h ⊢;simp only[pv,seval,op];exact h
   cases JH:(bh t (n.2.2++[mv]) (s::ss) N).1 with
   |some d=>
    rw[JH]at KA;exact go _ KA
   |none=>
    rw[JH]at KA;obtain⟨IU,J7,Iw,hu,KA⟩:=KA;exact⟨_,_,IU,J7,Iw,hu,go _ KA⟩
theorem yU{names:LNN}{ps:List Pl}{ap:List Hq}(c:Nc names ps ap)(dn:Int)(n:Gt):∀(l:LNN),(∀mv∈l,mv∈names)->∀(N:List Gt),Iv N->(N.find? fun z=>z.1==n.1)=some n->n.2.2.length+1<=N.length->∀t7 t8 t9 Hz HS HC:Option R,(∀r,HC=some r->cleanR r.1 r.2=true)->
  match(aR names ps ap n l N).1 with
  |some d=>dN (aD 7) b9 (l.map D.str) [some (.f,Hw names ap),some (.f,eN names ps),some (.d,dM N),some (.d,dW N),some (.l .f,.lst (kN N)),some (.f,.int dn),some (.f,.int n.1),t7,t8,t9,Hz,HS,HC]=.ok (.rt (.f,d))
  |none=>∃u7 u8 u9 IU J7 Iw,(∀r,Iw=some r->cleanR r.1 r.2=true)/\dN (aD 7) b9 (l.map D.str) [some (.f,Hw names ap),some (.f,eN names ps),some (.d,dM N),some (.d,dW N),some (.l .f,.lst (kN N)),some (.f,.int dn),some (.f,.int n.1),t7,t8,t9,Hz,HS,HC]=.ok (.nx [some (.f,Hw names ap),some (.f,eN names ps),some (.d,dM (aR names ps ap n l N).2),some (.d,dW (aR names ps ap n l N).2),some (.l .f,.lst (kN (aR names ps ap n l N).2)),some (.f,.int dn),some (.f,.int n.1),u7,u8,u9,IU,J7,Iw])
 |[],_,N,_,_,_,t7,t8,t9,Hz,HS,HC,JE=>⟨t7,t8,t9,Hz,HS,HC,JE,rfl⟩
 |mv::l,hm,N,i,hn,hw,t7,t8,t9,Hz,HS,HC,JE=>by
  have h1:=FA c N i dn n hn hw mv (hm mv SI) t8 t9 Hz HS HC JE;have gr:=nQ (names:=names) (ps:=ps) c.ab mv i hw;have ha:aD 7 (.str mv) [some (.f,Hw names ap),some (.f,eN names ps),some (.d,dM N),some (.d,dW N),some (.l .f,.lst (kN N)),some (.f,.int dn),some (.f,.int n.1),t7,t8,t9,Hz,HS,HC]=.ok [some (.f,Hw names ap),some (.f,eN names ps),some (.d,dM N),some (.d,dW N),some (.l .f,.lst (kN N)),some (.f,.int dn),some (.f,.int n.1),some (.f,.str mv),t8,t9,Hz,HS,HC]:=rfl;unfold aR;cases hg:de names ps ap n mv N with
  |mk o N'=>
   rw[hg]at h1 gr;cases o with
   |some d=>
    dsimp only at h1 ⊢;rw[eQ,bR,ha,Hx,h1,Hx]
   |none=>
    dsimp only at h1 gr ⊢;obtain⟨u8,u9,IU,J7,Iw,hu,h1⟩:=h1;obtain⟨more,em⟩:=gr.ex;have ih:=yU c dn n l (fun x hx=>hm x (SM _ hx)) N' gr.iv (by rw[em];exact pK hn) (Td hw gr.le) (some (.f,.str mv)) u8 u9 IU J7 Iw hu;cases hgs:(aR names ps ap n l N').1 with
    |some d=>
     rw[hgs]at ih;dsimp only at ih ⊢;rw[eQ,bR,ha,Hx,h1,Hx];exact ih
    |none=>
     rw[hgs]at ih;dsimp only at ih ⊢;obtain⟨v7,v8,v9,v10,v11,Qb,hv,ih⟩:=ih;refine⟨v7,v8,v9,v10,v11,Qb,hv,?_⟩;rw[eQ,bR,ha,Hx,h1,Hx];exact ih
theorem wo(N:List Gt):(kN N).length=N.length:=bD _
theorem D7(N:List Gt):iR [dG N]=.ok (.f,.int (N.length:Int)):=by
 show Res.ok (O.f,D.int (((N.map fun n=>D.int n.1).length:Nat):Int))=_;rw[bD]
theorem FC{names:LNN}{ps:List Pl}{ap:List Hq}(c:Nc names ps ap)(N:List Gt)(i:Iv N)(k:Nat)(n:Gt)(hk:N[k]?=some n)(t6 t7 t8 t9 Hz HS HC:Option R)(JE:∀r,HC=some r->cleanR r.1 r.2=true):
  match(aR names ps ap n names N).1 with
  |some d=>cM [some (.f,Hw names ap),some (.f,eN names ps),some (.d,dM N),some (.d,dW N),some (.l .f,.lst (kN N)),some (.f,.int (k:Int)),t6,t7,t8,t9,Hz,HS,HC]=.ok (.rt (.f,d))
  |none=>∃u6 u7 u8 u9 IU J7 Iw,(∀r,Iw=some r->cleanR r.1 r.2=true)/\cM [some (.f,Hw names ap),some (.f,eN names ps),some (.d,dM N),some (.d,dW N),some (.l .f,.lst (kN N)),some (.f,.int (k:Int)),t6,t7,t8,t9,Hz,HS,HC]=.ok (.nx [some (.f,Hw names ap),some (.f,eN names ps),some (.d,dM (aR names ps ap n names N).2),some (.d,dW (aR names ps ap n names N).2),some (.l .f,.lst (kN (aR names ps ap n names N).2)),some (.f,.int ((k+1:Nat):Int)),u6,u7,u8,u9,IU,J7,Iw]):=by
 have hn:n∈N:=Ta hk;have Ml:=(ki hk).1;have Nf:=i.wl k n hk;have hw:n.2.2.length+1<=N.length:=by lia
 have Ka:Iy (kN N) (k:Int)=some (.int n.1):=eZ (by unfold kN;rw[List.getElem?_map,hk];rfl);have lp:=yU c (k:Int) n names (fun _ h=>h) N i (mr i.nd hn) hw t7 t8 t9 Hz HS HC JE;unfold cM;rw[ax (env':=[some (.f,Hw names ap),some (.f,eN names ps),some (.d,dM N),some (.d,dW N),some (.l .f,.lst (kN N)),some (.f,.int (k:Int)),some (.f,.int n.1),t7,t8,t9,Hz,HS,HC]) (by
  generalize dM N=GM;generalize dW N=GW;simp only[pv,seval,op,Ka])]
 have go:∀r:Res Out,dN (aD 7) b9 (names.map D.str) [some (.f,Hw names ap),some (.f,eN names ps),some (.d,dM N),some (.d,dW N),some (.l .f,.lst (kN N)),some (.f,.int (k:Int)),some (.f,.int n.1),t7,t8,t9,Hz,HS,HC]=r->gK [some (.f,Hw names ap),some (.f,eN names ps),some (.d,dM N),some (.d,dW N),some (.l .f,.lst (kN N)),some (.f,.int (k:Int)),some (.f,.int n.1),t7,t8,t9,Hz,HS,HC]=r:=fun r h=>by
  unfold gK;generalize dM N=GM at h ⊢;generalize dW N=GW at h ⊢;generalize eN names ps=NE at h ⊢;unfold Hw at h ⊢;simp only[pv,seval,op];exact h
 cases JH:(aR names ps ap n names N).1 with
 |some d=>
  rw[JH]at lp;dsimp only at lp ⊢;rw[HL,go _ lp,Hx]
 |none=>
  rw[JH]at lp;dsimp only at lp ⊢;obtain⟨u7,u8,u9,IU,J7,Iw,hu,lp⟩:=lp;refine⟨some (.f,.int n.1),u7,u8,u9,IU,J7,Iw,hu,?_⟩;rw[ax (go _ lp)];unfold jr;generalize dM (aR names ps ap n names N).2=GM;generalize dW (aR names ps ap n names N).2=GW;generalize eN names ps=NE;generalize Hw names ap=CE;simp only[pv,seval,op,VX,U1]
section
variable{names:LNN}{ps:List Pl}{ap:List Hq}{f k:Nat}{N N':List Gt}{n:Gt}{d:D}
theorem hX(h:N[k]?=none):bG names ps ap (f+1) k N=(none,N):=by rw[bG,h]
theorem jy(h:N[k]?=some n)(hm:aR names ps ap n names N=(some d,N')):bG names ps ap (f+1) k N=(some d,N'):=by
 rw[bG,h];dsimp only;rw[hm]
theorem jQ(h:N[k]?=some n)(hm:aR names ps ap n names N=(none,N')):bG names ps ap (f+1) k N=bG names ps ap f (k+1) N':=by
 rw[bG,h];dsimp only;rw[hm]
end
theorem due_w{names:LNN}{ps:List Pl}{ap:List Hq}(c:Nc names ps ap):∀(f F k:Nat) (N:List Gt),Iv N->k<=N.length->13<=f+k->f<=F->∀t6 t7 t8 t9 Hz HS HC:Option R,(∀r,HC=some r->cleanR r.1 r.2=true)->
  match(bG names ps ap f k N).1 with
  |some d=>cq (HI (aB J3 (aq 5) (av (a8 iR (ah (aq 4) aH))))) cM F [some (.f,Hw names ap),some (.f,eN names ps),some (.d,dM N),some (.d,dW N),some (.l .f,.lst (kN N)),some (.f,.int (k:Int)),t6,t7,t8,t9,Hz,HS,HC]=.ok (.rt (.f,d))
  |none=>∃u6 u7 u8 u9 IU J7 Iw,cq (HI (aB J3 (aq 5) (av (a8 iR (ah (aq 4) aH))))) cM F [some (.f,Hw names ap),some (.f,eN names ps),some (.d,dM N),some (.d,dW N),some (.l .f,.lst (kN N)),some (.f,.int (k:Int)),t6,t7,t8,t9,Hz,HS,HC]=.ok (.nx [some (.f,Hw names ap),some (.f,eN names ps),some (.d,dM (bG names ps ap f k N).2),some (.d,dW (bG names ps ap f k N).2),some (.l .f,.lst (kN (bG names ps ap f k N).2)),some (.f,.int ((bG names ps ap f k N).2.length:Int)),u6,u7,u8,u9,IU,J7,Iw])
 | 0,F,k,N,i,hk,hf,_,t6,t7,t8,t9,Hz,HS,HC,JE=>by
  have:=i.le;lia
 |f+1,0,k,N,i,hk,hf,hF,t6,t7,t8,t9,Hz,HS,HC,JE=>by lia
 |f+1,F+1,k,N,i,hk,hf,hF,t6,t7,t8,t9,Hz,HS,HC,JE=>by
  by_cases HW:k<N.length
  ·have J8:N[k]?=some N[k]:=nI HW;have h1:=FC c N i k N[k] J8 t6 t7 t8 t9 Hz HS HC JE;have Nf:=i.wl k _ J8;have gr:=hW (names:=names) (ps:=ps) c.ab names i (n:=N[k]) (by lia);have hc:(HI (aB J3 (aq 5) (av (a8 iR (ah (aq 4) aH))))) [some (.f,Hw names ap),some (.f,eN names ps),some (.d,dM N),some (.d,dW N),some (.l .f,.lst (kN N)),some (.f,.int (k:Int)),t6,t7,t8,t9,Hz,HS,HC]=.ok (true,[some (.f,Hw names ap),some (.f,eN names ps),some (.d,dM N),some (.d,dW N),some (.l .f,.lst (kN N)),some (.f,.int (k:Int)),t6,t7,t8,t9,Hz,HS,HC]):=by
    have:(k:Int)<(N.length:Int):=by lia
    generalize dM N=GM;generalize dW N=GW;generalize eN names ps=NE;generalize Hw names ap=CE;simp only[pv,seval,op,wo,this,Ur]
   cases hg:aR names ps ap N[k] names N with
   |mk o N'=>
    rw[hg]at h1 gr;cases o with
    |some d=>
     rw[jy J8 hg];dsimp only at h1 ⊢;rw[cO,hc,Hx];dsimp only;rw[SU rfl,h1,Hx]
    |none=>
     rw[jQ J8 hg];dsimp only at h1 gr ⊢;obtain⟨v6,v7,v8,v9,v10,v11,Qb,hv,h1⟩:=h1;have hl:=gr.le;have ih:=due_w c f F (k+1) N' gr.iv (by lia) (by lia) (by lia) v6 v7 v8 v9 v10 v11 Qb hv;cases hgs:(bG names ps ap f (k+1) N').1 with
     |some d=>
      rw[hgs]at ih;dsimp only at ih ⊢;rw[cO,hc,Hx];dsimp only;rw[SU rfl,h1,Hx];exact ih
     |none=>
      rw[hgs]at ih;dsimp only at ih ⊢;obtain⟨w6,w7,w8,w9,w10,w11,w12,ih⟩:=ih;refine⟨w6,w7,w8,w9,w10,w11,w12,?_⟩;rw[cO,hc,Hx];dsimp only;rw[SU rfl,h1,Hx];exact ih
  ·have J8:N[k]?=none:=List.getElem?_eq_none (by lia);have ek:k=N.length:=by lia
   rw[hX J8];dsimp only;refine⟨t6,t7,t8,t9,Hz,HS,HC,?_⟩;have hc:(HI (aB J3 (aq 5) (av (a8 iR (ah (aq 4) aH))))) [some (.f,Hw names ap),some (.f,eN names ps),some (.d,dM N),some (.d,dW N),some (.l .f,.lst (kN N)),some (.f,.int (k:Int)),t6,t7,t8,t9,Hz,HS,HC]=.ok (false,[some (.f,Hw names ap),some (.f,eN names ps),some (.d,dM N),some (.d,dW N),some (.l .f,.lst (kN N)),some (.f,.int (k:Int)),t6,t7,t8,t9,Hz,HS,HC]):=by
    have:¬ (k:Int)<(N.length:Int):=by lia
    generalize dM N=GM;generalize dW N=GW;generalize eN names ps=NE;generalize Hw names ap=CE;simp only[pv,seval,op,wo,this,Uk]
   rw[cO,hc,Hx];dsimp only;rw[SX SN,ek]
theorem yV{names:LNN}{ps:List Pl}{ap:List Hq}(c:Nc names ps ap):∀(f F k:Nat) (N:List Gt),Iv N->k<=N.length->13<=f+k->f<=F->∀t4:Option R,
  match(bG names ps ap f k N).1 with
  |some d=>cq (HI (aB J3 (aq 3) (av (a8 iR (ah (aq 2) aH))))) fG F [some (.f,Hw names ap),some (.f,eN names ps),some (.d,dG N),some (.f,.int (k:Int)),t4]=.ok (.rt (.f,d))
  |none=>∃u4,cq (HI (aB J3 (aq 3) (av (a8 iR (ah (aq 2) aH))))) fG F [some (.f,Hw names ap),some (.f,eN names ps),some (.d,dG N),some (.f,.int (k:Int)),t4]=.ok (.nx [some (.f,Hw names ap),some (.f,eN names ps),some (.d,dG (bG names ps ap f k N).2),some (.f,.int ((bG names ps ap f k N).2.length:Int)),u4])
 | 0,F,k,N,i,hk,hf,_,t4=>by
  have:=i.le;lia
 |f+1,0,k,N,i,hk,hf,hF,t4=>by lia
 |f+1,F+1,k,N,i,hk,hf,hF,t4=>by
  have hlen:=D7 N;by_cases HW:k<N.length
  ·have J8:N[k]?=some N[k]:=nI HW;have h1:=D4 c N i k N[k] J8 t4;have Nf:=i.wl k _ J8;have gr:=hW (names:=names) (ps:=ps) c.ab names i (n:=N[k]) (by lia);have hc:(HI (aB J3 (aq 3) (av (a8 iR (ah (aq 2) aH))))) [some (.f,Hw names ap),some (.f,eN names ps),some (.d,dG N),some (.f,.int (k:Int)),t4]=.ok (true,[some (.f,Hw names ap),some (.f,eN names ps),some (.d,dG N),some (.f,.int (k:Int)),t4]):=by
    have:(k:Int)<(N.length:Int):=by lia
    generalize dG N=G1 at hlen ⊢;generalize eN names ps=NE;generalize Hw names ap=CE;simp only[pv,seval,op,hlen,this,Ur]
   cases hg:aR names ps ap N[k] names N with
   |mk o N'=>
    rw[hg]at h1 gr;cases o with
    |some d=>
     rw[jy J8 hg];dsimp only at h1 ⊢;rw[cO,hc,Hx];dsimp only;rw[SU rfl,h1,Hx]
    |none=>
     rw[jQ J8 hg];dsimp only at h1 gr ⊢;have hl:=gr.le;have ih:=yV c f F (k+1) N' gr.iv (by lia) (by lia) (by lia) (some (.f,.non));cases hgs:(bG names ps ap f (k+1) N').1 with
     |some d=>
      rw[hgs]at ih;dsimp only at ih ⊢;rw[cO,hc,Hx];dsimp only;rw[SU rfl,h1,Hx];exact ih
     |none=>
      rw[hgs]at ih;dsimp only at ih ⊢;obtain⟨w4,ih⟩:=ih;refine⟨w4,?_⟩;rw[cO,hc,Hx];dsimp only;rw[SU rfl,h1,Hx];exact ih
  ·have J8:N[k]?=none:=List.getElem?_eq_none (by lia);have ek:k=N.length:=by lia
   rw[hX J8];dsimp only;refine⟨t4,?_⟩;have hc:(HI (aB J3 (aq 3) (av (a8 iR (ah (aq 2) aH))))) [some (.f,Hw names ap),some (.f,eN names ps),some (.d,dG N),some (.f,.int (k:Int)),t4]=.ok (false,[some (.f,Hw names ap),some (.f,eN names ps),some (.d,dG N),some (.f,.int (k:Int)),t4]):=by
    have:¬ (k:Int)<(N.length:Int):=by lia
    generalize dG N=G1 at hlen ⊢;generalize eN names ps=NE;generalize Hw names ap=CE;simp only[pv,seval,op,hlen,this,Uk]
   rw[cO,hc,Hx];dsimp only;rw[SX SN,ek]
def N0(ps:List Pl):List Gt:=[(0,ps.map (·.1),[])]
theorem RP(ps:List Pl):Iv (N0 ps):=by
 refine⟨?_,fun n hn=>?_,fun k n hk=>?_⟩
 ·show[(0:Int)].Nodup;exact Tf.mpr ⟨TJ,Ug⟩
 ·rw[lI hn];exact⟨X2 0,(by decide:(0:Int)<12)⟩
 ·cases k with
  |zero=>
   cases hk;exact SS _
  |succ k=>simp[N0]at hk
abbrev walk(names:LNN)(ps:List Pl)(ap:List Hq):So:=bG names ps ap 13 0 (N0 ps)
def mk(N:List Gt)(s:Int):List Int:=((N.find? fun z=>z.1==s).map (·.2.1)).getD []
theorem D8{N:List Gt}{s:Int}{n:Gt}(h:(N.find? fun z=>z.1==s)=some n):mk N s=n.2.1:=by
 unfold mk;rw[h];rfl
theorem r6{N:List Gt}{s:Int}(h:s∈N.map (·.1)):∃n,(N.find? fun z=>z.1==s)=some n:=by
 cases hf:N.find? fun z=>z.1==s with
 |none=>
  rw[List.find?_eq_none]at hf;obtain⟨z,hz,e⟩:=pB h;exact absurd (Tu.mpr e) (hf z hz)
 |some n=>exact⟨n,rfl⟩
def wq(l:List (List Int)):D:=.tup [.str [115,97,109,101],.lst (l.map eM)]
theorem D9(N:List Gt)(k:Nat)(all:∀s:Nat,s<k->(s:Int)∈N.map (·.1)):c9 (aD 0) fI (aB Ht (av (aB Jq (aq 1) (aq 0))) (av (aK (.int 0)))) ((List.range k).map fun(s:Nat)=>D.int (s:Int)) [none,some (.f,dG N)]=.ok (((List.range k).map fun(s:Nat)=>mk N (s:Int)).map eM):=by
 rw[bW (r:=fun s:Nat=>eM (mk N (s:Int))) (fun env=>∃t,env=[t,some (.f,dG N)]) (List.range k) ?_ _ ⟨none,rfl⟩]
 ·rw[S9];rfl
 ·rintro s hs env ⟨t,rfl⟩;obtain⟨n,hn⟩:=r6 (all s (TB.mp hs));have hd:=Ej hn;unfold vG at hd;rw[D8 hn];generalize dG N=G1 at hd ⊢;exact⟨[some (.f,.int (s:Int)),some (.f,G1)],rfl,.f,[some (.f,.int (s:Int)),some (.f,G1)],by simp only[pv,seval,op,hd,OU],_,rfl⟩
theorem Ea(N:List Gt)(k:Nat)(all:∀s:Nat,s<k->(s:Int)∈N.map (·.1)):c9 (aD 0) fI (aB Jq (aq 1) (aq 0)) ((List.range k).map fun(s:Nat)=>D.int (s:Int)) [none,some (.f,dM N)]=.ok (((List.range k).map fun(s:Nat)=>mk N (s:Int)).map eM):=by
 rw[bW (r:=fun s:Nat=>eM (mk N (s:Int))) (fun env=>∃t,env=[t,some (.f,dM N)]) (List.range k) ?_ _ ⟨none,rfl⟩]
 ·rw[S9];rfl
 ·rintro s hs env ⟨t,rfl⟩;obtain⟨n,hn⟩:=r6 (all s (TB.mp hs));have hd:=Ek hn;rw[D8 hn];generalize dM N=G1 at hd ⊢;exact⟨[some (.f,.int (s:Int)),some (.f,G1)],rfl,.f,[some (.f,.int (s:Int)),some (.f,G1)],by simp only[pv,seval,op,hd],_,rfl⟩
theorem yc(names:LNN)(ps:List Pl)(hl:ps.length<=100):c7 [eN names ps]=.ok (.f,eM (ps.map (·.1))):=by
 have hc:c9 (jA 3 (aN (aD 0) (aN (aD 1) (aN (aD 2) dr)))) fI (aI 0) (ps.map eP) [none,none,none]=.ok ((ps.map (·.1)).map D.int):=by
  rw[bW (r:=fun p:Pl=>D.int p.1) (fun env=>∃t u w,env=[t,u,w]) ps ?_ _ ⟨none,none,none,rfl⟩]
  ·rw[S9];rfl
  ·rintro p _ env ⟨t,u,w,rfl⟩;exact⟨[some (.f,.int p.1),some (.f,.tup (p.2.1.map D.int)),some (.f,.tup (p.2.2.map D.int))],by unfold eP;simp only[pv,seval],.f,_,rfl,_,_,_,rfl⟩
 have OC:((ps.map (·.1)).map D.int).length<=sizeLine:=line_le (by rw[bD,bD];lia);unfold c7 j7 eN;rw[bJ (h:=by rfl)];simp only[pv,seval,op,Ou,hc,OC,Ho];rfl
theorem Eb{names:LNN}{ps:List Pl}{ap:List Hq}(c:Nc names ps ap)(KC:0<=a7 ap/\a7 ap<=12)(all:(walk names ps ap).1=none->∀s:Nat,s<(a7 ap).toNat->(s:Int)∈(walk names ps ap).2.map (·.1)):
  dX [Hw names ap,eN names ps]=.ok (.f,((walk names ps ap).1).getD (wq ((List.range (a7 ap).toNat).map fun(s:Nat)=>mk (walk names ps ap).2 (s:Int)))):=by
 have IZ:=c.pl;have J9:=c.al;have Qc:=Bf names ps (by lia);have fm:=jx (ps.map (·.1));have P6:=qr names ap (by lia);have hw:=yV c 13 100000 0 (N0 ps) (RP ps) (Tw _) (by lia) (by lia) none;have Kz:Je (.tup (names.map D.str)) (.tup (names.map D.str))=.ok (.f,.bl false):=lB _ (by rw[plainD];exact hV _ _);have Qd:Ht (Hw names ap) (.int 0)=.ok (.f,.tup (names.map D.str)):=rfl;have Qe:Ht (eN names ps) (.int 0)=.ok (.f,.tup (names.map D.str)):=rfl;unfold dX yJ;rw[bJ (h:=by rfl)];rw[ax (env':=[some (.f,Hw names ap),some (.f,eN names ps),none,none,none]) (by
  generalize eN names ps=NE at Qe ⊢;generalize Hw names ap=CE at Qd ⊢;simp only[pv,↓reduceIte,Nat.reduceAdd,Nat.reduceLT,Nat.reduceLeDiff,Nat.reduceEqDiff,op,Qd,Qe,Kz,dy])]
 rw[ax (env':=[some (.f,Hw names ap),some (.f,eN names ps),some (.d,dG (N0 ps)),none,none]) (by
  generalize eN names ps=NE at Qc ⊢;generalize Hw names ap=CE;simp only[pv,↓reduceIte,Nat.reduceAdd,Nat.reduceLT,Nat.reduceLeDiff,Nat.reduceEqDiff,op,Qc,fm];rfl)]
 rw[ax (env':=[some (.f,Hw names ap),some (.f,eN names ps),some (.d,dG (N0 ps)),some (.f,.int ((0:Nat):Int)),none]) (by
  generalize dG (N0 ps)=G0;simp only[pv,↓reduceIte,Nat.reduceAdd,Nat.reduceLT,Nat.reduceLeDiff,Nat.reduceEqDiff,op];rfl)]
 unfold walk at all ⊢;cases JH:(bG names ps ap 13 0 (N0 ps)).1 with
 |some d=>
  rw[JH]at hw;dsimp only at hw;rw[HL];unfold nh;rw[hw,Hx];rfl
 |none=>
  rw[JH]at hw;obtain⟨u4,hw⟩:=hw;have Mm:=D9 (bG names ps ap 13 0 (N0 ps)).2 (a7 ap).toNat (all JH)
  rw[ax (env':=_) (by
   unfold nh;exact hw)]
  unfold pg;have Qf:(((List.range (a7 ap).toNat).map fun(s:Nat)=>mk (bG names ps ap 13 0 (N0 ps)).2 (s:Int)).map eM).length<=sizeLine:=bF (by
   rw[bD,bD,Tp];lia)
  generalize ((List.range (a7 ap).toNat).map fun(s:Nat)=>mk (bG names ps ap 13 0 (N0 ps)).2 (s:Int))=RR at Mm Qf ⊢;generalize dG (bG names ps ap 13 0 (N0 ps)).2=G2 at Mm ⊢;generalize eN names ps=NE;generalize Hw names ap=CE at P6 ⊢;have hr:=F5 (a7 ap) KC.1 (by lia) (av (eL cF (ah (aq 0) aH))) [some (.f,CE),some (.f,NE),some (.d,G2),some (.f,.int ((bG names ps ap 13 0 (N0 ps)).2.length:Int)),u4] [some (.f,CE),some (.f,NE),some (.d,G2),some (.f,.int ((bG names ps ap 13 0 (N0 ps)).2.length:Int)),u4] (.val (.int (a7 ap))) (by simp only[pv,↓reduceIte,Nat.reduceAdd,Nat.reduceLT,Nat.reduceLeDiff,Nat.reduceEqDiff,op,P6]) rfl;generalize dO (av (eL cF (ah (aq 0) aH)))=IT at hr ⊢;generalize (aB Ht (av (aB Jq (aq 1) (aq 0))) (av (aK (.int 0))))=GG at Mm ⊢;simp only[pv,↓reduceIte,Nat.reduceAdd,Nat.reduceLT,Nat.reduceLeDiff,Nat.reduceEqDiff,op,hr,Mm,Qf];rfl
theorem FD{names:LNN}{ps:List Pl}{ap:List Hq}(c:Nc names ps ap)(all:(walk names ps ap).1=none->(walk names ps ap).2.length<=12/\∀s:Nat,s<(walk names ps ap).2.length->(s:Int)∈(walk names ps ap).2.map (·.1)):
  cN [Hw names ap,eN names ps]=.ok (.f,((walk names ps ap).1).getD (wq ((List.range (walk names ps ap).2.length).map fun(s:Nat)=>mk (walk names ps ap).2 (s:Int)))):=by
 have IZ:=c.pl;have Qc:=yc names ps (by lia);have fm:=jx (ps.map (·.1));have hw:=due_w c 13 100000 0 (N0 ps) (RP ps) (Tw _) (by lia) (by lia) none none none none none none none (fun r h=>nomatch h);unfold cN mf;rw[bJ (h:=by rfl)];rw[ax (env':=[some (.f,Hw names ap),some (.f,eN names ps),some (.d,dM (N0 ps)),none,none,none,none,none,none,none,none,none,none]) (by
  generalize eN names ps=NE at Qc ⊢;generalize Hw names ap=CE;simp only[pv,↓reduceIte,Nat.reduceAdd,Nat.reduceLT,Nat.reduceLeDiff,Nat.reduceEqDiff,op,Qc,fm];rfl)]
 rw[ax (env':=[some (.f,Hw names ap),some (.f,eN names ps),some (.d,dM (N0 ps)),some (.d,dW (N0 ps)),none,none,none,none,none,none,none,none,none]) (by
  generalize dM (N0 ps)=G0;simp only[pv,↓reduceIte,Nat.reduceAdd,Nat.reduceLT,Nat.reduceLeDiff,Nat.reduceEqDiff,op];rfl)]
 rw[ax (env':=[some (.f,Hw names ap),some (.f,eN names ps),some (.d,dM (N0 ps)),some (.d,dW (N0 ps)),some (.l .f,.lst (kN (N0 ps))),none,none,none,none,none,none,none,none]) (by
  generalize dM (N0 ps)=G0;generalize dW (N0 ps)=G1;simp only[pv,↓reduceIte,Nat.reduceAdd,Nat.reduceLT,Nat.reduceLeDiff,Nat.reduceEqDiff,op];rfl)]
 rw[ax (env':=[some (.f,Hw names ap),some (.f,eN names ps),some (.d,dM (N0 ps)),some (.d,dW (N0 ps)),some (.l .f,.lst (kN (N0 ps))),some (.f,.int ((0:Nat):Int)),none,none,none,none,none,none,none]) (by
  generalize dM (N0 ps)=G0;generalize dW (N0 ps)=G1;simp only[pv,↓reduceIte,Nat.reduceAdd,Nat.reduceLT,Nat.reduceLeDiff,Nat.reduceEqDiff,op];rfl)]
 unfold walk at all ⊢;cases JH:(bG names ps ap 13 0 (N0 ps)).1 with
 |some d=>
  rw[JH]at hw;dsimp only at hw;rw[HL];unfold gL;rw[hw,Hx];rfl
 |none=>
  rw[JH]at hw;obtain⟨u6,u7,u8,u9,IU,J7,Iw,hw⟩:=hw;obtain⟨JE,al⟩:=all JH;have Mm:=Ea (bG names ps ap 13 0 (N0 ps)).2 (bG names ps ap 13 0 (N0 ps)).2.length al;have Ml:=wo (bG names ps ap 13 0 (N0 ps)).2;rw[ax (env':=_) (by
   unfold gL;exact hw)]
  unfold jt;have Qf:(((List.range (bG names ps ap 13 0 (N0 ps)).2.length).map fun(s:Nat)=>mk (bG names ps ap 13 0 (N0 ps)).2 (s:Int)).map eM).length<=sizeLine:=bF (by
   rw[bD,bD,Tp];lia)
  generalize ((List.range (bG names ps ap 13 0 (N0 ps)).2.length).map fun(s:Nat)=>mk (bG names ps ap 13 0 (N0 ps)).2 (s:Int))=RR at Mm Qf ⊢;generalize dM (bG names ps ap 13 0 (N0 ps)).2=GM at Mm ⊢;generalize dW (bG names ps ap 13 0 (N0 ps)).2=GW;generalize kN (bG names ps ap 13 0 (N0 ps)).2=KK at Ml ⊢;generalize (bG names ps ap 13 0 (N0 ps)).2.length=LL at Mm Ml JE ⊢;generalize eN names ps=NE;generalize Hw names ap=CE;have hr:=F5 (LL:Int) (by lia) (by lia) (av (a8 iR (ah (aq 4) aH))) [some (.f,CE),some (.f,NE),some (.d,GM),some (.d,GW),some (.l .f,.lst KK),some (.f,.int (LL:Int)),u6,u7,u8,u9,IU,J7,Iw] [some (.f,CE),some (.f,NE),some (.d,GM),some (.d,GW),some (.l .f,.lst KK),some (.f,.int (LL:Int)),u6,u7,u8,u9,IU,J7,Iw] (.val (.int (LL:Int))) (by simp only[pv,↓reduceIte,Nat.reduceAdd,Nat.reduceLT,Nat.reduceLeDiff,Nat.reduceEqDiff,op,Ml]) rfl;rw[TR]at hr;generalize dO (av (a8 iR (ah (aq 4) aH)))=IT at hr ⊢;generalize (aB Jq (aq 1) (aq 0))=GG at Mm ⊢;simp only[pv,↓reduceIte,Nat.reduceAdd,Nat.reduceLT,Nat.reduceLeDiff,Nat.reduceEqDiff,op,hr,Mm,Qf];rfl
theorem jz{ap:List Hq}{x s:Int}{mv:List Nat}:s∈fX ap x mv<->((x,mv,s):Hq)∈ap:=by
 unfold fX;rw[TX];constructor
 ·rintro⟨a,ha,e⟩;obtain⟨h1,h2⟩:=UI.mp ha;rw[SY,Tu,Tu]at h2;obtain⟨a1,a2,a3⟩:=a;obtain⟨e1,e2⟩:=h2;cases e1;cases e2;cases e;exact h1
 ·intro h;exact⟨(x,mv,s),UI.mpr ⟨h,by simp⟩,rfl⟩
theorem yd{N:List Gt}{s:Int}{m:List Int}{w:LNN}(h:(cj N s m w).1=none):s∈(cj N s m w).2.map (·.1):=by
 unfold cj jP at h ⊢;cases hf:N.find? (nO s m) with
 |some n=>
  rw[hf]at h;cases h
 |none=>
  rw[hf]at h;dsimp only at h ⊢;cases hs:N.find? fun n=>n.1==s with
  |none=>
   dsimp only;rw[S6];exact SK _ (S7.mpr rfl)
  |some n=>
   rw[hs]at h;dsimp only at h ⊢;by_cases hm:n.2.1=m
   ·rw[SU hm];have h1:=List.find?_some hs;have h1:n.1=s:=by simpa using h1
    exact TX.mpr ⟨n,List.mem_of_find?_eq_some hs,h1⟩
   ·rw[SX hm]at h;cases h
theorem Gr.up{N N':List Gt}{o:Option D}(g:Gr N N' o){s:Int}(h:s∈N.map (·.1)):s∈N'.map (·.1):=by
 obtain⟨m,e⟩:=g.ex;rw[e,S6];exact SR _ h
theorem pL(m:List Int)(w:LNN):∀(ss:List Int) (N:List Gt),Iv N->(∀s∈ss,0<=s/\s<12)->w.length<=N.length->(bh m w ss N).1=none->∀s∈ss,s∈(bh m w ss N).2.map (·.1)
 |[],N,_,_,_,_=>fun _ h=>nomatch h
 |s::ss,N,i,hs,hw,h=>by
  have gr:=lG i (hs s SI) m hw;have gh:=yd (N:=N) (s:=s) (m:=m) (w:=w);unfold bh at h ⊢;cases hg:cj N s m w with
  |mk o N'=>
   rw[hg]at gr gh h;cases o with
   |some d=>cases h
   |none=>
    dsimp only at gr gh h ⊢;have g2:=nP m w ss gr.iv (fun x hx=>hs x (SM _ hx)) (Td hw gr.le);have ih:=pL m w ss N' gr.iv (fun x hx=>hs x (SM _ hx)) (Td hw gr.le) h;intro x hx;rcases SV.mp hx with e|hx
    ·rw[e];exact g2.up (gh rfl)
    ·exact ih x hx
theorem Bu{ap:List Hq}(hb:∀a∈ap,0<=a.2.2/\a.2.2<12){x:Int}{mv:List Nat}:∀s∈fX ap x mv,0<=s/\s<12:=fun s hs=>hb _ (jz.mp hs)
theorem pM{names:LNN}{ps:List Pl}{ap:List Hq}(hb:∀a∈ap,0<=a.2.2/\a.2.2<12){n:Gt}:∀(l:LNN) (N:List Gt),Iv N->n.2.2.length+1<=N.length->(aR names ps ap n l N).1=none->∀mv∈l,∀s∈fX ap n.1 mv,s∈(aR names ps ap n l N).2.map (·.1)
 |[],N,_,_,_=>fun _ h=>nomatch h
 |mv::l,N,i,hw,h=>by
  have gr:=nQ (names:=names) (ps:=ps) hb mv i hw;have mh:(de names ps ap n mv N).1=none->∀s∈fX ap n.1 mv,s∈(de names ps ap n mv N).2.map (·.1):=fun h=>by
   unfold de at h ⊢;have hg:=Bu hb (x:=n.1) (mv:=mv);cases hf:cz (names.idxOf mv) (n.2.1.zip ps) with
   |none=>
    rw[hf]at h;cases hgs:fX ap n.1 mv with
    |nil=>exact fun _ h=>nomatch h
    |cons s ss=>rw[hgs]at h;cases h
   |some t=>
    rw[hf]at h;cases hgs:fX ap n.1 mv with
    |nil=>rw[hgs]at h;cases h
    |cons s ss=>
     rw[hgs]at h hg;exact pL t (n.2.2++[mv]) (s::ss) N i hg (by rw[jB];exact hw) h
  unfold aR at h ⊢;cases hg:de names ps ap n mv N with
  |mk o N'=>
   rw[hg]at gr mh h;cases o with
   |some d=>cases h
   |none=>
    dsimp only at gr mh h ⊢;have g2:=hW (names:=names) (ps:=ps) hb l gr.iv (n:=n) (Td hw gr.le);have ih:=pM hb l N' gr.iv (Td hw gr.le) h;intro x hx s hs;rcases SV.mp hx with e|hx
    ·rw[e]at hs;exact g2.up (mh rfl s hs)
    ·exact ih x hx s hs
def Cl(names:LNN)(ap:List Hq)(N:List Gt)(k:Nat):Prop:=∀(j:Nat) (n:Gt),j<k->N[j]?=some n->∀mv∈names,∀s∈fX ap n.1 mv,s∈N.map (·.1)
theorem r9{names:LNN}{ps:List Pl}{ap:List Hq}(hb:∀a∈ap,0<=a.2.2/\a.2.2<12):∀(f k:Nat) (N:List Gt),Iv N->k<=N.length->13<=f+k->Cl names ap N k->(bG names ps ap f k N).1=none->Gr N (bG names ps ap f k N).2 none/\Cl names ap (bG names ps ap f k N).2 (bG names ps ap f k N).2.length
 | 0,k,N,i,hk,hf,_,_=>by
  have:=i.le;lia
 |f+1,k,N,i,hk,hf,cl,h=>by
  by_cases HW:k<N.length
  ·have J8:N[k]?=some N[k]:=nI HW;have Nf:=i.wl k _ J8;have gr:=hW (names:=names) (ps:=ps) hb names i (n:=N[k]) (by lia);have mh:=pM (names:=names) (ps:=ps) hb (n:=N[k]) names N i (by lia);cases hg:aR names ps ap N[k] names N with
   |mk o N'=>
    rw[hg]at gr mh;cases o with
    |some d=>rw[jy J8 hg]at h;cases h
    |none=>
     rw[jQ J8 hg]at h ⊢;dsimp only at gr mh;have hl:=gr.le;obtain⟨more,em⟩:=gr.ex;have cl':Cl names ap N' (k+1):=fun j n hj hn mv LA s hs=>by
      have RQ:N[j]?=some n:=by rw[em,List.getElem?_append_left (by lia)]at hn;exact hn
      by_cases ej:j=k
      ·subst ej;rw[J8]at RQ;cases RQ;exact mh rfl mv LA s hs
      ·exact gr.up (cl j n (by lia) RQ mv LA s hs)
     obtain⟨g2,c2⟩:=r9 hb f (k+1) N' gr.iv (by lia) (by lia) cl' h;exact⟨gr.trans g2,c2⟩
  ·have J8:N[k]?=none:=List.getElem?_eq_none (by lia);have ek:k=N.length:=by lia
   rw[hX J8];exact⟨Gr.refl i,ek▸cl⟩
section
variable{P:Int->Prop}
theorem Ec{N:List Gt}{s:Int}{m:List Int}{w:LNN}(h:∀n∈N,P n.1)(hs:P s):∀n∈(cj N s m w).2,P n.1:=by
 unfold cj jP;cases N.find? (nO s m) with
 |some n=>exact h
 |none=>
  dsimp only;cases N.find? fun n=>n.1==s with
  |none=>
   intro n hn;rcases ml hn with hn|hn
   ·exact h n hn
   ·rw[lI hn];exact hs
  |some n=>
   dsimp only;by_cases hm:n.2.1=m
   ·rw[SU hm];exact h
   ·rw[SX hm];exact h
theorem wt(m:List Int)(w:LNN):∀(ss:List Int) (N:List Gt),(∀n∈N,P n.1)->(∀s∈ss,P s)->∀n∈(bh m w ss N).2,P n.1
 |[],N,h,_=>h
 |s::ss,N,h,hs=>by
  have g:=Ec (m:=m) (w:=w) h (hs s SI);unfold bh;cases hg:cj N s m w with
  |mk o N'=>
   rw[hg]at g;cases o with
   |some d=>exact g
   |none=>exact wt m w ss N' g fun x hx=>hs x (SM _ hx)
theorem wu{names:LNN}{ps:List Pl}{ap:List Hq}(ha:∀a∈ap,P a.2.2){n:Gt}:∀(l:LNN) (N:List Gt),(∀n∈N,P n.1)->∀n'∈(aR names ps ap n l N).2,P n'.1
 |[],N,h=>h
 |mv::l,N,h=>by
  have g:∀n'∈(de names ps ap n mv N).2,P n'.1:=by
   unfold de;split
   ·exact h
   ·exact h
   ·exact h
   ·rename_i t s ss _ e;exact wt t _ (s::ss) N h fun x hx=>ha _ (jz.mp (by rw[e];exact hx))
  unfold aR;cases hg:de names ps ap n mv N with
  |mk o N'=>
   rw[hg]at g;cases o with
   |some d=>exact g
   |none=>exact wu ha l N' g
theorem yW{names:LNN}{ps:List Pl}{ap:List Hq}(ha:∀a∈ap,P a.2.2):∀(f k:Nat) (N:List Gt),(∀n∈N,P n.1)->∀n∈(bG names ps ap f k N).2,P n.1
 | 0,k,N,h=>h
 |f+1,k,N,h=>by
  cases hk:N[k]? with
  |none=>rw[hX hk];exact h
  |some n=>
   have g:=wu (names:=names) (ps:=ps) ha (n:=n) names N h;cases hg:aR names ps ap n names N with
   |mk o N'=>
    rw[hg]at g;cases o with
    |some d=>rw[jy hk hg];exact g
    |none=>rw[jQ hk hg];exact yW ha f (k+1) N' g
end
theorem walk_all{names:LNN}{ps:List Pl}{ap:List Hq}{mZ:Nat}(r:Ra names ap mZ)(h:(walk names ps ap).1=none):
  (walk names ps ap).2.length<=12/\((walk names ps ap).2.length:Int)=a7 ap/\∀s:Nat,s<(walk names ps ap).2.length->(s:Int)∈(walk names ps ap).2.map (·.1):=by
 have hm:=r.mm;have hb:∀a∈ap,0<=a.2.2/\a.2.2<12:=fun a ha=>by
  have:=r.bd a ha;lia
 have KC:=pF hm.1 r.bd;obtain⟨g,cl⟩:=r9 (names:=names) (ps:=ps) hb 13 0 (N0 ps) (RP ps) (Tw _) (by lia) (fun j n hj=>by lia) h;have kp:=yW (P:=fun s=>0<=s/\s<a7 ap) (names:=names) (ps:=ps) (ap:=ap) (fun a ha=>⟨(hb a ha).1,(vS ha).2⟩) 13 0 (N0 ps) (fun n hn=>by
  rw[lI hn];exact⟨X2 0,by show(0:Int)<_;lia⟩)
 unfold walk at h ⊢;generalize bG names ps ap 13 0 (N0 ps)=W at h g cl kp ⊢;have z0:(0:Int)∈W.2.map (·.1):=g.up (S7.mpr rfl);have key:∀j:Nat,j<mZ->(j:Int)∈W.2.map (·.1):=by
  intro j;induction j using Nat.strongRecOn with
  |_ j ih=>
   intro hj;cases j with
   |zero=>exact z0
   |succ j=>
    obtain⟨a,ha,e1,b,RJ,e2⟩:=r.rc (j+1) (by lia) hj;obtain⟨n,hn,en⟩:=pB (ih b RJ (by lia));obtain⟨x,hx,ex⟩:=VP hn;have:=cl x n hx (by rw[nI hx,ex]) a.2.1 (r.nm a ha) a.2.2 (jz.mpr (by rw[en,<-e2];exact ha));rw[e1]at this;exact this
 have len:(W.2.length:Int)=a7 ap:=by
  have l1:W.2.length<=(a7 ap).toNat:=by
   have:=kx (a7 ap).toNat g.iv.nd (fun x hx=>by
    obtain⟨n,hn,e⟩:=pB hx;rw[<-e];have:=kp n hn;lia)
   rwa [bD]at this
  have l2:(a7 ap).toNat<=W.2.length:=by
   have:=qx ((List.range (a7 ap).toNat).map fun(s:Nat)=>(s:Int)) (W.2.map (·.1)) (gU _ _ fun i j _ _ e=>by lia) (fun x hx=>by
    obtain⟨s,hs,e⟩:=pB hx;rw[<-e];exact key s (by have:=TB.mp hs;lia))
   rwa [bD,Tp,bD]at this
  lia
 exact⟨g.iv.le,len,fun s hs=>key s (by lia)⟩
def Ow(S:List (List Int))(N:List Gt):Prop:=∀n∈N,∃j:Nat,n.1=(j:Int)/\S[j]?=some n.2.1
theorem ye{S:List (List Int)}(nd:S.Nodup){N:List Gt}(o:Ow S N){j:Nat}{t:List Int}(hj:S[j]?=some t)(w:LNN):(cj N (j:Int) t w).1=none/\Ow S (cj N (j:Int) t w).2:=by
 have hf:N.find? (nO (j:Int) t)=none:=by
  rw[List.find?_eq_none];intro n hn h;unfold nO at h;rw[SY,S3]at h;obtain⟨i,e1,e2⟩:=o n hn;rw[h.2]at e2;obtain⟨h1,h2⟩:=ki e2;obtain⟨h3,h4⟩:=ki hj;have:i=j:=by
   have pw:=V4.mp nd;rcases Nat.lt_trichotomy i j with hl|hl|hl
   ·exact absurd (h2.trans h4.symm) (pw i j h1 h3 hl)
   ·exact hl
   ·exact absurd (h4.trans h2.symm) (pw j i h3 h1 hl)
  rw[e1,this]at h;simp at h
 unfold cj jP;rw[hf];dsimp only;cases hs:N.find? fun n=>n.1==(j:Int) with
 |none=>
  refine⟨rfl,fun n hn=>?_⟩;rcases ml hn with hn|hn
  ·exact o n hn
  ·rw[lI hn];exact⟨j,rfl,hj⟩
 |some n=>
  dsimp only;have h1:=List.find?_some hs;have h1:n.1=(j:Int):=by simpa using h1
  obtain⟨i,e1,e2⟩:=o n (List.mem_of_find?_eq_some hs);have:i=j:=by lia
  rw[this,hj]at e2;have e3:n.2.1=t:=(Tc e2).symm;rw[SU e3];exact⟨rfl,o⟩
theorem pN{S:List (List Int)}(nd:S.Nodup){t:List Int}(w:LNN):∀(ss:List Int) (N:List Gt),Ow S N->(∀s∈ss,∃j:Nat,s=(j:Int)/\S[j]?=some t)->(bh t w ss N).1=none/\Ow S (bh t w ss N).2
 |[],N,o,_=>⟨rfl,o⟩
 |s::ss,N,o,h=>by
  obtain⟨j,e,hj⟩:=h s SI;subst e;obtain⟨g1,g2⟩:=ye nd o hj w;unfold bh;cases hg:cj N (j:Int) t w with
  |mk q N'=>
   rw[hg]at g1 g2;dsimp only at g1;subst g1;exact pN nd w ss N' g2 fun x hx=>h x (SM _ hx)
structure Or(names:LNN)(ps:List Pl)(S:List (List Int))(ap:List Hq):Prop where
 nd:S.Nodup
 z:S[0]?=some (ps.map (·.1))
 ab:∀(x s:Int) (mv:List Nat),((x,mv,s):Hq)∈ap->∃i j:Nat,x=(i:Int)/\s=(j:Int)/\∃a b,S[i]?=some a/\S[j]?=some b/\cz (names.idxOf mv) (a.zip ps)=some b
 fu:∀(i:Nat) (mv:List Nat) (a t:List Int),mv∈names->S[i]?=some a->cz (names.idxOf mv) (a.zip ps)=some t->∃m:Nat,(((i:Int),mv,(m:Int)):Hq)∈ap
theorem yf{names:LNN}{ps:List Pl}{S:List (List Int)}{ap:List Hq}(r:Or names ps S ap){n:Gt}(hn:∃j:Nat,n.1=(j:Int)/\S[j]?=some n.2.1)(mv:List Nat)(hm:mv∈names){N:List Gt}(o:Ow S N):(de names ps ap n mv N).1=none/\Ow S (de names ps ap n mv N).2:=by
 obtain⟨i,e1,e2⟩:=hn;have ar:∀s∈fX ap n.1 mv,∃(j:Nat) (t:List Int),s=(j:Int)/\S[j]?=some t/\cz (names.idxOf mv) (n.2.1.zip ps)=some t:=fun s hs=>by
  obtain⟨i',j,h1,h2,a,b,h3,h4,h5⟩:=r.ab _ _ _ (jz.mp hs);have:i'=i:=by lia
  rw[this,e2]at h3;rw[<-Tc h3]at h5;exact⟨j,b,h2,h4,h5⟩
 unfold de;cases hf:cz (names.idxOf mv) (n.2.1.zip ps) with
 |none=>
  cases hg:fX ap n.1 mv with
  |nil=>exact⟨rfl,o⟩
  |cons s ss=>
   exfalso;rw[hg,hf]at ar;obtain⟨j,t,_,_,h⟩:=ar s SI;cases h
 |some t=>
  cases hg:fX ap n.1 mv with
  |nil=>
   exfalso;obtain⟨m,hm⟩:=r.fu i mv n.2.1 t hm e2 hf;have:=jz.mpr hm;rw[<-e1,hg]at this;cases this
  |cons s ss=>
   rw[hg,hf]at ar;refine pN r.nd _ (s::ss) N o fun x hx=>?_
   obtain⟨j,t',h1,h2,h3⟩:=ar x hx;rw[<-Tc h3]at h2;exact⟨j,h1,h2⟩
theorem pO{names:LNN}{ps:List Pl}{S:List (List Int)}{ap:List Hq}(r:Or names ps S ap){n:Gt}(hn:∃j:Nat,n.1=(j:Int)/\S[j]?=some n.2.1):∀(l:LNN),(∀mv∈l,mv∈names)->∀N,Ow S N->(aR names ps ap n l N).1=none/\Ow S (aR names ps ap n l N).2
 |[],_,N,o=>⟨rfl,o⟩
 |mv::l,hl,N,o=>by
  obtain⟨g1,g2⟩:=yf r hn mv (hl mv SI) o;unfold aR;cases hg:de names ps ap n mv N with
  |mk q N'=>
   rw[hg]at g1 g2;dsimp only at g1;subst g1;exact pO r hn l (fun x hx=>hl x (SM _ hx)) N' g2
theorem sd{names:LNN}{ps:List Pl}{S:List (List Int)}{ap:List Hq}(r:Or names ps S ap):∀(f k:Nat) (N:List Gt),Ow S N->(bG names ps ap f k N).1=none
 | 0,k,N,o=>rfl
 |f+1,k,N,o=>by
  cases hk:N[k]? with
  |none=>rw[hX hk]
  |some n=>
   obtain⟨g1,g2⟩:=pO r (o n (Ta hk)) names (fun _ h=>h) N o;cases hg:aR names ps ap n names N with
   |mk q N'=>
    rw[hg]at g1 g2;dsimp only at g1;subst g1;rw[jQ hk hg];exact sd r f (k+1) N' g2
theorem yg{names:LNN}{ps:List Pl}{S:List (List Int)}{ap:List Hq}(r:Or names ps S ap):(walk names ps ap).1=none:=
 sd r 13 0 (N0 ps) fun n hn=>by
  rw[lI hn];exact⟨0,rfl,r.z⟩
theorem Nt.or{names:LNN}{ps:List Pl}{S:List (List Int)}{A:List Hq}(n:Nt names ps S A):Or names ps S (bu cy A):=by
 obtain⟨m,r⟩:=n.rm;refine⟨r.nd,r.z,fun x s mv h=>?_,fun i mv a t hm hs hf=>?_⟩
 ·obtain⟨_,i,j,_,h1,h2,a,b,h3,h4,h5⟩:=r.ab _ ((jw cy).mp h);exact⟨i,j,h1,h2,a,b,h3,h4,h5⟩
 ·obtain⟨k,hk,e⟩:=VP hm;obtain⟨m,h1,h2⟩:=n.fu i k (.inl (ki hs).1) mv (by rw[nI hk,e]) a t hs hf;exact⟨m,(jw cy).mpr h2⟩
noncomputable def wx:FS:=(sSeq (Iu (Nj (Cs (HI (Qv "tuple" (aq 9)))) (Nj (HI (bo Je (aq 9) (aq 7))) (HI (bo Je (aq 8) (av (jV (aw (aI 6) (aw (aI 1) aT))))))))
  (d9 (aK (.bl false)))
  cw)
  (sSeq (Iu (HI (bo Je (av (aB Ht (av (eL dX (ah (av (dZ (aw (aB Ht (aq 1) (av (aK (.int 0)))) (aw (aI 2) aT)))) (ah (aq 1) aH)))) (av (aK (.int 0))))) (av (aK (.str [115,97,109,101])))))
  (d9 (aK (.bl false)))
  cw)
  (d9 (bo Ip (av (eL dX (ah (av (aB Ht (aq 8) (av (aK (.int 0))))) (ah (av (aB Ht (aq 8) (av (aK (.int 1))))) aH)))) (aq 7)))))
def wy:FS:=(bL 9 (eL dX (ah (av (aB Ht (aq 8) (av (aK (.int 0))))) (ah (av (aB Ht (aq 8) (av (aK (.int 1))))) aH))))
noncomputable def wz:FS:=(bL 8 (jV (aw (dZ (aw (aB Ht (aq 1) (av (aK (.int 0)))) (aw (a8 mS (ah (av (aB Ht (aq 6) (av (aK (.int 1))))) aH)) aT))) (aw (dZ (aw (aB Ht (aq 1) (av (aK (.int 0)))) (aw (a8 mS (ah (av (aB Ht (aq 1) (av (aK (.int 1))))) aH)) aT))) aT))))
def Ed:FS:=(bL 7 (eL cN (ah (aq 6) (ah (aq 1) aH))))
theorem wA(A0 A3 A4 A5:Option R)(o8:O)(ho:tu o8=true)(NM:D)(as pl ru:List D)(rs d:D)(Jp:dX [.tup [NM,.lst as],.tup [NM,.lst pl]]=.ok (.f,d))(Ls:dX [.tup [NM,.lst ru],.tup [NM,.lst pl]]=.ok (.f,.tup [.str [115,97,109,101],rs]))
  (Mk:wK "tuple" d=true) (OV:Je d d=.ok (.f,.bl false)) (Mi:Ip d d=.ok (.f,.bl true)) (Ng:Je (.lst [.tup [NM,.lst as],.tup [NM,.lst pl]]) (.lst [.tup [NM,.lst as],.tup [NM,.lst pl]])=.ok (.f,.bl false)) (ND:b5 (.tup [.str [115,97,109,101],rs])=false):
  wx [A0,some (.f,.tup [NM,.lst pl]),some (.f,.lst ru),A3,A4,A5,some (.f,.tup [NM,.lst as]),some (.f,d),some (o8,.lst [.tup [NM,.lst as],.tup [NM,.lst pl]]),some (.f,d)]=.ok (.rt (.f,.bl true)):=by
 have hs:Je (.str [115,97,109,101]) (.str [115,97,109,101])=.ok (.f,.bl false):=rfl;have a0:∀x y:D,Iy (x::y::[]) (0:Int)=some x:=fun _ _=>rfl
 have a1:∀x y:D,Iy (x::y::[]) (1:Int)=some y:=fun _ _=>rfl
 unfold wx;rw[ax (env':=[A0,some (.f,.tup [NM,.lst pl]),some (.f,.lst ru),A3,A4,A5,some (.f,.tup [NM,.lst as]),some (.f,d),some (o8,.lst [.tup [NM,.lst as],.tup [NM,.lst pl]]),some (.f,d)]) (by
  simp only[pv,seval,op,Mk,OV,Ng,dy,UH])]
 rw[ax (env':=[frz A0,some (.f,.tup [NM,.lst pl]),some (.f,.lst ru),frz A3,frz A4,frz A5,some (.f,.tup [NM,.lst as]),some (.f,d),some (.f,.lst [.tup [NM,.lst as],.tup [NM,.lst pl]]),some (.f,d)]) (by
  simp only[pv,seval,op,a0,a1,Ls,ND,hs,yN,dy])]
 cases hfd:b5 d with
 |true=>simp only[pv,seval,op,a0,a1,Jp,hfd,Mi]
 |false=>simp only[pv,seval,op,a0,a1,Jp,hfd,Mi,yN,dy]
theorem tail_ok(A0 A3 A4 A5:Option R)(NM:D)(as pl ru:List D)(rs d:D)(M6:cN [.tup [NM,.lst as],.tup [NM,.lst pl]]=.ok (.f,d))(Jp:dX [.tup [NM,.lst as],.tup [NM,.lst pl]]=.ok (.f,d))(Ls:dX [.tup [NM,.lst ru],.tup [NM,.lst pl]]=.ok (.f,.tup [.str [115,97,109,101],rs]))
  (Mk:wK "tuple" d=true) (OV:Je d d=.ok (.f,.bl false)) (Mi:Ip d d=.ok (.f,.bl true)) (Ng:Je (.lst [.tup [NM,.lst as],.tup [NM,.lst pl]]) (.lst [.tup [NM,.lst as],.tup [NM,.lst pl]])=.ok (.f,.bl false)) (ND:b5 (.tup [.str [115,97,109,101],rs])=false):
  sSeq Ed (sSeq wz (sSeq wy wx)) [A0,some (.f,.tup [NM,.lst pl]),some (.f,.lst ru),A3,A4,A5,some (.f,.tup [NM,.lst as]),none,none,none]=.ok (.rt (.f,.bl true)):=by
 have a0:∀x y:D,Iy (x::y::[]) (0:Int)=some x:=fun _ _=>rfl
 have a1:∀x y:D,Iy (x::y::[]) (1:Int)=some y:=fun _ _=>rfl
 have hand:∀B0 B3 B4 B5:Option R,wz [B0,some (.f,.tup [NM,.lst pl]),some (.f,.lst ru),B3,B4,B5,some (.f,.tup [NM,.lst as]),some (.f,d),none,none]=.ok (.nx [B0,some (.f,.tup [NM,.lst pl]),some (.f,.lst ru),B3,B4,B5,some (.f,.tup [NM,.lst as]),some (.f,d),some (.l .f,.lst [.tup [NM,.lst as],.tup [NM,.lst pl]]),none]):=fun B0 B3 B4 B5=>by
  unfold wz;simp only[pv,seval,op,a0,a1]
 cases hfd:b5 d with
 |true=>
  rw[ax (env':=[A0,some (.f,.tup [NM,.lst pl]),some (.f,.lst ru),A3,A4,A5,some (.f,.tup [NM,.lst as]),some (.f,d),none,none]) (by
   unfold Ed;simp only[pv,seval,op,M6,hfd])]
  rw[ax (hand _ _ _ _)];rw[ax (env':=[A0,some (.f,.tup [NM,.lst pl]),some (.f,.lst ru),A3,A4,A5,some (.f,.tup [NM,.lst as]),some (.f,d),some (.l .f,.lst [.tup [NM,.lst as],.tup [NM,.lst pl]]),some (.f,d)]) (by
   unfold wy;simp only[pv,seval,op,a0,a1,Jp,hfd])]
  exact wA _ _ _ _ _ rfl NM as pl ru rs d Jp Ls Mk OV Mi Ng ND
 |false=>
  rw[ax (env':=[frz A0,some (.f,.tup [NM,.lst pl]),some (.f,.lst ru),frz A3,frz A4,frz A5,some (.f,.tup [NM,.lst as]),some (.f,d),none,none]) (by
   unfold Ed;simp only[pv,seval,op,M6,hfd,yN,Bz,dy])]
  rw[ax (hand _ _ _ _)];rw[ax (env':=[frz (frz A0),some (.f,.tup [NM,.lst pl]),some (.f,.lst ru),frz (frz A3),frz (frz A4),frz (frz A5),some (.f,.tup [NM,.lst as]),some (.f,d),some (.f,.lst [.tup [NM,.lst as],.tup [NM,.lst pl]]),some (.f,d)]) (by
   unfold wy;simp only[pv,seval,op,a0,a1,Jp,hfd,yN,Bz,dy])]
  exact wA _ _ _ _ _ rfl NM as pl ru rs d Jp Ls Mk OV Mi Ng ND
theorem hZ(n:Nat)(w:LNN):plainD (n+1) (wD w)=true:=by
 unfold wD;rw[plainD];exact hV _ _
theorem yh(n:Nat)(l:List (List Int)):plainDs (n+1) (l.map eM)=true:=by
 induction l with
 |nil=>rfl
 |cons a l ih=>
  rw[eQ,plainDs,ih,VJ];unfold eM;rw[plainD];exact d5 _ _
theorem yi(n:Nat)(l:List Pl):plainDs (n+2) (l.map eP)=true:=by
 induction l with
 |nil=>rfl
 |cons a l ih=>
  rw[eQ,plainDs,ih,VJ];unfold eP;rw[plainD];simp only[plainDs,plainD,d5,TL]
def Pn(d:D):Prop:=(∃ds,d=.tup ds)/\plainD 40 d=true
theorem QM(l:List Nat)(a b:D)(ha:plainD 39 a=true)(hb:plainD 39 b=true):Pn (.tup [.str l,a,b]):=by
 refine⟨⟨_,rfl⟩,?_⟩;rw[plainD];simp only[plainDs,ha,hb,plainD,TL]
theorem Bv{N:List Gt}{s:Int}{m:List Int}{w:LNN}:∀d,(cj N s m w).1=some d->Pn d:=by
 unfold cj jP;intro d h;split at h
 ·rename_i d' hd;cases h;split at hd
  ·cases hd;exact QM _ _ _ (hZ 38 _) (hZ 38 _)
  ·split at hd
   ·cases hd
   ·split at hd
    ·cases hd
    ·cases hd;exact QM _ _ _ (hZ 38 _) (hZ 38 _)
 ·cases h
theorem sf(m:List Int)(w:LNN):∀(ss:List Int) (N:List Gt) d,(bh m w ss N).1=some d->Pn d
 |[],N,d,h=>by cases h
 |s::ss,N,d,h=>by
  unfold bh at h;split at h
  ·rename_i d' N' e;cases h;exact Bv (N:=N) (s:=s) (m:=m) (w:=w) d (by rw[e])
  ·exact sf m w ss _ d h
theorem si(names:LNN)(ps:List Pl)(ap:List Hq)(n:Gt):∀(l:LNN) (N:List Gt) d,(aR names ps ap n l N).1=some d->Pn d
 |[],N,d,h=>by cases h
 |mv::l,N,d,h=>by
  unfold aR at h;split at h
  ·rename_i d' N' e;cases h;have h:(de names ps ap n mv N).1=some d:=by rw[e]
   unfold de at h;split at h
   ·cases h
   ·cases h;exact QM _ _ _ (hZ 38 _) rfl
   ·cases h;exact QM _ _ _ (hZ 38 _) rfl
   ·exact sf _ _ _ _ d h
  ·exact si names ps ap n l _ d h
theorem wB(names:LNN)(ps:List Pl)(ap:List Hq):∀(f k:Nat) (N:List Gt) d,(bG names ps ap f k N).1=some d->Pn d
 | 0,k,N,d,h=>by cases h
 |f+1,k,N,d,h=>by
  cases hk:N[k]? with
  |none=>rw[hX hk]at h;cases h
  |some n=>
   cases hg:aR names ps ap n names N with
   |mk o N'=>
    cases o with
    |some d'=>
     rw[jy hk hg]at h;cases h;exact si names ps ap n names N d (by rw[hg])
    |none=>
     rw[jQ hk hg]at h;exact wB names ps ap f (k+1) N' d h
theorem Bw(l:List (List Int)):Pn (wq l):=by
 refine⟨⟨_,rfl⟩,?_⟩;unfold wq;rw[plainD];simp only[plainDs,plainD,yh,TL]
theorem Ra.nc{names:LNN}{ps:List Pl}{ap:List Hq}{mZ:Nat}(r:Ra names ap mZ)(hl:ps.length<=100)(hp:∀q∈ps,JY q names.length):Nc names ps ap:=⟨hl,hp,r.len,fun a ha=>by
 have:=r.bd a ha;have:=r.mm;lia⟩
theorem wC{names:LNN}{ps:List Pl}{ap:List Hq}{mZ:Nat}(r:Ra names ap mZ)(hl:ps.length<=100)(hp:∀q∈ps,JY q names.length):
  ∃d,cN [Hw names ap,eN names ps]=.ok (.f,d)/\dX [Hw names ap,eN names ps]=.ok (.f,d)/\Pn d/\((walk names ps ap).1=none->∃l,d=wq l):=by
 have c:=r.nc hl hp;have hm:=r.mm;have KC:=pF hm.1 r.bd;have hd:=FD c fun h=>⟨(walk_all r h).1,(walk_all r h).2.2⟩
 have hh:=Eb c ⟨by lia,by lia⟩ fun h s hs=>(walk_all r h).2.2 s (by have:=(walk_all r h).2.1;lia)
 cases hw:(walk names ps ap).1 with
 |some d=>
  rw[hw]at hd hh;exact⟨d,hd,hh,wB names ps ap 13 0 (N0 ps) d hw,fun h=>nomatch h⟩
 |none=>
  have hlen:=(walk_all r hw).2.1;rw[hw]at hd hh;rw[show(a7 ap).toNat=(walk names ps ap).2.length by lia]at hh;exact⟨_,hd,hh,Bw _,fun _=>⟨_,rfl⟩⟩
theorem wF(names:LNN)(ps:List Pl)(ap:List Hq):plainD 40 (.lst [Hw names ap,eN names ps])=true:=by
 unfold Hw eN;rw[plainD];simp only[plainDs,plainD,hV,yi 35 ps,jO 34 ap,TL]
theorem FE(ns:List Int){names:LNN}{ps:List Pl}{S:List (List Int)}{A:List Hq}(n:Nt names ps S A):∃(ap:List Hq) (o3:O) (t4 t5:Option R),tu o3=true/\ap.length<=30/\Bd names ap/\qh [some (.f,.lst (ns.map D.int)),some (.f,eN names ps),some (.f,.lst ((bu cy A).map eA)),some (.l .f,.lst ((bu cy A).map eA)),none,none,none,none,none,none]=.ok (.nx [some (.f,.lst (ns.map D.int)),some (.f,eN names ps),some (.f,.lst ((bu cy A).map eA)),some (o3,.lst (ap.map eA)),t4,t5,none,none,none,none]):=by
 have J9:=n.al;have b0:Bd names (bu cy A):=n.ra.sort.bd';obtain⟨env',ef,ap,o3,t4,t5,ho,hl,bd,rfl⟩:=nH (a:=aD 4) (g:=ni) (e:=fun k=>D.int ((2:Int)+(k:Int))) 6 (fun i env=>∃(ap:List Hq) (o3:O) (t4 t5:Option R),tu o3=true/\ap.length<=24+i/\Bd names ap/\env=[some (.f,.lst (ns.map D.int)),some (.f,eN names ps),some (.f,.lst ((bu cy A).map eA)),some (o3,.lst (ap.map eA)),t4,t5,none,none,none,none]) (by
  rintro k env hk ⟨ap,o3,t4,t5,ho,hl,bd,rfl⟩;have ck:=mq ns (2+k);have Mj:=nM (cell ns (2+k)) (((2+k:Nat)):Int) (by lia) (by lia);rw[show((2+k:Nat):Int)=(2:Int)+(k:Int) by lia]at ck Mj;generalize wM (cell ns (2+k)) ((2:Int)+(k:Int))=x at Mj;refine⟨[some (.f,.lst (ns.map D.int)),some (.f,eN names ps),some (.f,.lst ((bu cy A).map eA)),some (o3,.lst (ap.map eA)),some (.f,.int ((2:Int)+(k:Int))),t5,none,none,none,none],rfl,?_⟩;unfold ni;rw[ax (env':=[some (.f,.lst (ns.map D.int)),some (.f,eN names ps),some (.f,.lst ((bu cy A).map eA)),some (o3,.lst (ap.map eA)),some (.f,.int ((2:Int)+(k:Int))),some (.f,.int x),none,none,none,none]) (by simp only[pv,seval,op,ck,Mj])];cases h3:(x / 64%3==0) with
  |false=>
   refine⟨_,?_,ap,o3,some (.f,.int ((2:Int)+(k:Int))),some (.f,.int x),ho,by lia,bd,rfl⟩;simp only[pv,seval,op,fW _ 64 (by decide) (by decide),ju _ 3 (by decide),h3,dy]
  |true=>
   obtain⟨J5,bd',hl',eb⟩:=DQ names n.n0 n.n3 ap (by lia) bd (x / 192);obtain⟨K,mZ,ra,Ml,et⟩:=rW names J5 (by lia) bd';have f1:=nK J5;have f2:=nK (bu cy K);refine⟨[some (.f,.lst (ns.map D.int)),some (.f,eN names ps),some (.f,.lst ((bu cy A).map eA)),some (.l .f,.lst ((bu cy K).map eA)),some (.f,.int ((2:Int)+(k:Int))),some (.f,.int x),none,none,none,none],?_,bu cy K,.l .f,some (.f,.int ((2:Int)+(k:Int))),some (.f,.int x),rfl,by rw[gT];lia,ra.sort.bd',rfl⟩;unfold eN;simp only[pv,seval,op,fW _ 64 (by decide) (by decide),fW _ 192 (by decide) (by decide),ju _ 3 (by decide),h3,eb,et,f1,f2,ho]) _ ⟨bu cy A,.l .f,none,none,rfl,by rw[gT];lia,b0,rfl⟩
 refine⟨ap,o3,t4,t5,ho,by lia,bd,?_⟩;unfold qh;generalize eN names ps=NE at ef ⊢;simp only[pv,seval,op];rw[SU (by decide)];simp only[pv,seval,op];exact ef
theorem wG(ns:List Int)(h63:ns.length<=63):∃o,Ay [.lst (ns.map D.int)]=.ok (o,.bl true):=by
 obtain⟨names,ps,S,A,n,en,er⟩:=Ft ns 8;have en:du [.lst (ns.map D.int),.int 8]=.ok (.f,eN names ps):=en;obtain⟨ap,o3,t4,t5,ho,hl,bd,e1⟩:=FE ns n;obtain⟨K,mZ,ra,Ml,et⟩:=rW names ap (by lia) bd;have hp9:=n.p9;obtain⟨d,M6,Jp,⟨⟨ds,eds⟩,SF⟩,_⟩:=wC (ps:=ps) ra.sort (by lia) n.po;obtain⟨d2,_,Ls,_,Qg⟩:=wC (ps:=ps) n.ra.sort (by lia) n.po;obtain⟨l2,e2⟩:=Qg (yg n.or);subst e2;have IZ:=wF names ps (bu cy K);have OV:=lB d SF;have Mi:=vN d SF;have Ng:=lB _ IZ;have Mk:wK "tuple" d=true:=by rw[eds];rfl
 have f2:=nK (bu cy K);have OT:∀(x y:List D),flatDs [.lst x,.lst y]=false:=fun _ _=>rfl
 have Le:∀(x:D) (y:List D),b5 (.tup [x,.lst y])=false:=fun x y=>by
  rw[cV];simp only[flatDs,b5,Vx,V5]
 have a0:∀x y:D,Iy (x::y::[]) (0:Int)=some x:=fun _ _=>rfl
 have a1:∀x y:D,Iy (x::y::[]) (1:Int)=some y:=fun _ _=>rfl
 unfold Ay C9;rw[bJ (h:=by rfl)];rw[ax (env':=[some (.f,.lst (ns.map D.int)),some (.f,eN names ps),none,none,none,none,none,none,none,none]) (by
  unfold eN at en ⊢;simp only[pv,↓reduceIte,Nat.reduceAdd,Nat.reduceLT,Nat.reduceLeDiff,Nat.reduceEqDiff,op,en,Le,dy,yN,Bz])]
 rw[ax (env':=[some (.f,.lst (ns.map D.int)),some (.f,eN names ps),some (.f,.lst ((bu cy A).map eA)),none,none,none,none,none,none,none]) (by
  generalize eN names ps=NE at er ⊢;simp only[pv,↓reduceIte,Nat.reduceAdd,Nat.reduceLT,Nat.reduceLeDiff,Nat.reduceEqDiff,op,er,Le,a0,dy,yN,Bz])]
 rw[ax (env':=[some (.f,.lst (ns.map D.int)),some (.f,eN names ps),some (.f,.lst ((bu cy A).map eA)),some (.l .f,.lst ((bu cy A).map eA)),none,none,none,none,none,none]) (by
  generalize eN names ps=NE at er ⊢;simp only[pv,↓reduceIte,Nat.reduceAdd,Nat.reduceLT,Nat.reduceLeDiff,Nat.reduceEqDiff,op])]
 rw[ax e1];unfold rH;rw[ax (env':=[some (.f,.lst (ns.map D.int)),some (.f,eN names ps),some (.f,.lst ((bu cy A).map eA)),some (o3,.lst (ap.map eA)),t4,t5,some (.f,Hw names (bu cy K)),none,none,none]) (by
  unfold eN Hw;simp only[pv,↓reduceIte,Nat.reduceAdd,Nat.reduceLT,Nat.reduceLeDiff,Nat.reduceEqDiff,op,a0,et,f2,ho])]
 have tl:=tail_ok (some (.f,.lst (ns.map D.int))) (some (o3,.lst (ap.map eA))) t4 t5 (.tup (names.map D.str)) ((bu cy K).map eA) (ps.map eP) ((bu cy A).map eA) (.lst (l2.map eM)) d M6 Jp Ls Mk OV Mi Ng (Le _ _);refine⟨.f,?_⟩;have SG:sSeq Ed (sSeq wz (sSeq wy wx)) [some (.f,.lst (ns.map D.int)),some (.f,eN names ps),some (.f,.lst ((bu cy A).map eA)),some (o3,.lst (ap.map eA)),t4,t5,some (.f,Hw names (bu cy K)),none,none,none]=.ok (.rt (.f,.bl true)):=tl;unfold Ed wz wy wx at SG;rw[SG,Hx]
end LW
namespace FIN
open PySem PySem.Spec PyProof.Rows L2 NX PV LW
theorem Ee{l:PySem.W.OpenLaw}{w:World}{K:W.Frag}{h:Heap}{mg:Str->Option Value}{fa f:Addr}{od an:Option Addr}{sl:Array (Option Value)}{oc kV dc pm cd ct:Value}(X:K.In h)(G:h.Ns mainGlobals mg)(hfa:mg "law" = some (.ref fa))
  (aL:PySem.W.nsIn K mainGlobals "law" = some (some (.ref f))) (lL:K.lookup f=some ⟨oc,od,.func (PySem.W.fnOf "law" "law" (e7 nF) (cW nF) (defScope nF) .none kV dc pm an cd ct),sl⟩) (cL:PySem.W.codeIn K cd "law" = true) (kL:PySem.W.keepIn K (.ref f)=true)
  (IV:Def K mg "states_of" iL) (Jw:Def K mg "goes_to" lq) (HZ:Def K mg "first_marking" eK) (JQ:Def K mg "can_go" nj) (Kg:Def K mg "moved" qi) (K1:Def K mg "give" vD) (Jx:Def K mg "look_at" lr) (K2:Def K mg "held" vF) (Ih:Def K mg "_law_cell_at" fA) (IB:Def K mg "_law_mixed" gM) (IC:Def K mg "_law_names" gN) (IW:Def K mg "_law_step" iM) (Jj:Def K mg "_law_run" jL) (IX:Def K mg "_law_fold" iN) (ID:Def K mg "_law_place" gO) (Ik:Def K mg "_law_scaled" fT) (Il:Def K mg "_law_places" fU) (IE:Def K mg "_law_moves" gP) (Jk:Def K mg "_law_net" jM) (Im:Def K mg "_law_tidied" fV) (IY:Def K mg "_law_bent" iO) (IF:Def K mg "_law_first" gQ) (Jl:Def K mg "_law_due" jN)
  (Kr:PySem.W.nsIn K mainGlobals "all" = some none) (HR:PySem.W.nsIn K mainGlobals "isinstance" = some none) (HK:PySem.W.nsIn K mainGlobals "len" = some none) (Iz:PySem.W.nsIn K mainGlobals "list" = some none) (IH:PySem.W.nsIn K mainGlobals "max" = some none) (Ku:PySem.W.nsIn K mainGlobals "min" = some none) (Hy:PySem.W.nsIn K mainGlobals "range" = some none) (HP:PySem.W.nsIn K mainGlobals "sorted" = some none) (Hr:PySem.W.nsIn K mainGlobals "tuple" = some none) (Jo:PySem.W.nsIn K mainGlobals "zip" = some none):
  ∃fd:FuncData,(∀(s:Shared) (v:Value),BindsTo s fd ⟨[v],[]⟩ [("_law_script",v)])/\∀base:Heap,K.In base->base.Ns mainGlobals mg->FnOk l.prog w K mg base Lh 5 fa fd ["_law_script"] (xC K):=by
 have e:=hfa.symm.trans (PySem.W.mg_of X G aL);cases e;have F:=yp (st:=nF) lL cL kL;have Qh:=TM X G Kr;have Kh:=TM X G HR;have Jy:=TM X G HK;have L9:=TM X G Iz;have Ma:=TM X G IH;have Qi:=TM X G Ku;have IG:=TM X G Hy;have JR:=TM X G HP;have Ia:=TM X G Hr;have Mb:=TM X G Jo;refine⟨PySem.W.fnOf "law" "law" (e7 nF) (cW nF) (defScope nF) .none kV dc pm an cd ct,fun s v=>.of_eq rfl,fun base KB GB=>?_⟩;have Kw:Ct l.prog w K mg base "states_of" 1 (spF K cF):=pj IV Ma;have Lu:Ct l.prog w K mg base "goes_to" 1 (spF K fF):=sX Jw;have JF:Ct l.prog w K mg base "first_marking" 1 (spF K bX):=kh HZ Ia;have Mc:Ct l.prog w K mg base "can_go" 1 (spF K hU):=vC JQ Qh Mb;have M7:Ct l.prog w K mg base "moved" 2 (spF K jK):=xK Kg Mc Ia Mb;have wa:Ct l.prog w K mg base "give" 1 (spM K (.d) lg):=AA K1;have Lv:Ct l.prog w K mg base "look_at" 3 (spJ 2 K (.d) dF):=sY Jx wa Lu M7 Jy;have OF:Ct l.prog w K mg base "held" 4 (spF K dX):=AB K2 JF Lv Kw Jy L9 IG;have Ii:Ct l.prog w K mg base "_law_cell_at" 1 (spF K aO):=ly Ih Jy;have Ib:Ct l.prog w K mg base "_law_mixed" 1 (spF K aZ):=nq IB;have Ki:Ct l.prog w K mg base "_law_names" 2 (spF K cZ):=nr IC Ib IG JR;have Jz:Ct l.prog w K mg base "_law_step" 1 (spF K bQ):=pq IW Ia Mb;have JS:Ct l.prog w K mg base "_law_run" 2 (spF K bY):=qj Jj Jz Jy JR Ia;have Kx:Ct l.prog w K mg base "_law_fold" 2 (spF K dt):=px IX Ib;have Kj:Ct l.prog w K mg base "_law_place" 2 (spF K c5):=nu ID Ib Ma IG;have JZ:Ct l.prog w K mg base "_law_scaled" 1 (spF K b6):=lO Ik Ia;have J0:Ct l.prog w K mg base "_law_places" 3 (spF K cK):=lP Il Ii Kx Kj JZ IG;have Kk:Ct l.prog w K mg base "_law_moves" 3 (spF K c6):=nv IE Ii Ki Ia;have K3:Ct l.prog w K mg base "_law_net" 4 (spF K du):=ql Jk Kk J0 JS Jy Ia;have J2:Ct l.prog w K mg base "_law_tidied" 1 (spF K b7):=lQ Im Jy JR;have Ky:Ct l.prog w K mg base "_law_bent" 1 (spF K dv):=pA IY Jy Ma Qi IG;have Kl:Ct l.prog w K mg base "_law_first" 1 (spF K c7):=nE IF Ia;have K4:Ct l.prog w K mg base "_law_due" 2 (spF K cN):=qm Jl Kl Jz Jy IG;exact(Dc F Ky Ii K4 Ib K3 JS J2 OF Kh L9 IG Ia).imp (CO wG)
end FIN
def PySem.W.Fast.tw15372087130180781058:=0
def PySem.W.Fast.tw16240354764965136550:=0
def PySem.W.Fast.tw13680883744512634535:=0
def PySem.W.Fast.tw631711360108014081:=0
def PySem.W.Fast.tw15853126734110852318:=0
def PySem.W.Fast.tw13387421669750146737:=0
def PySem.W.Fast.tw8534832764647553033:=0
def PySem.W.Fast.tw14783556825097886104:=0
def PySem.W.Fast.tw14140092121392652825:=0
def PySem.W.Fast.tw4198761276167962208:=0
def PySem.W.Fast.tw14242377042983599186:=0
def PySem.W.Fast.tw16689753076313299468:=0
def PySem.W.Fast.tw4749311470998903884:=0
def PySem.W.Fast.tw13314142443101973238:=0
def PySem.W.Fast.tw625767875539375247:=0
def PySem.W.Fast.tw17289897715301984160:=0
def PySem.W.Fast.tw7575332380671916989:=0
def PySem.W.Fast.tw10075405800319942173:=0
def PySem.W.Fast.tw3542639224139867308:=0
def PySem.W.Fast.tw11414586581484415791:=0
def PySem.W.Fast.tw727886837598020605:=0
def PySem.W.Fast.tw4435866507990797647:=0
def PySem.W.Fast.tw7404816208567109700:=0
def PySem.W.Fast.tw13740635134242451673:=0
def PySem.W.Fast.tw2506046897909122368:=0
def PySem.W.Fast.tw12168974811077513252:=0
def PySem.W.Fast.tw9231706866898463903:=0
def PySem.W.Fast.tw18243410195162705014:=0
def PySem.W.Fast.tw14742128167677956171:=0
def PySem.W.Fast.tw16609803443313944895:=0
def PySem.W.Fast.tw6884988032944011403:=0
def PySem.W.Fast.tw17100115975389710731:=0
def PySem.W.Fast.tw4960175845211250933:=0
def PySem.W.Fast.tw9507892987401119069:=0
open PySem PySem.W PyProof.Rows
set_option maxRecDepth 100000 in
set_option maxHeartbeats 0 in
theorem PySem.Challenge.cw_netfinder_k26_charts_held_holds : PySem.Challenge.rw_netfinder_k26_charts_held.Holds := by
  w_on; o_law; k_head; (case hw => w_witness2)
  k_fill
  refine PV.walk (l := PySem.Challenge.rw_netfinder_k26_charts_held) (k := 5) (x := "_law_script") rfl rfl ⟨rfl, by decide, by decide⟩ (fun w h Y => PySem.W.kIn_of Y) ?F
  case F =>
    intro w mg fa h KX G O8
    refine' FIN.Ee KX G O8 ?aL ?lL ?cL ?kL ?IV ?Jw ?HZ ?JQ ?Kg ?K1 ?Jx ?K2 ?Ih ?IB ?IC ?IW ?Jj ?IX ?ID ?Ik ?Il ?IE ?Jk ?Im ?IY ?IF ?Jl ?Kr ?HR ?HK ?Iz ?IH ?Ku ?Hy ?HP ?Hr ?Jo
    (case aL => k_is); (case lL => k_is); (case cL => k_is); (case kL => k_is)
    (case IV => (refine' PV.cE KX G ?a ?l ?c ?k; (case a => k_is); (case l => k_is); (case c => k_is); (case k => k_is)))
    (case Jw => (refine' PV.cE KX G ?a ?l ?c ?k; (case a => k_is); (case l => k_is); (case c => k_is); (case k => k_is)))
    (case HZ => (refine' PV.cE KX G ?a ?l ?c ?k; (case a => k_is); (case l => k_is); (case c => k_is); (case k => k_is)))
    (case JQ => (refine' PV.cE KX G ?a ?l ?c ?k; (case a => k_is); (case l => k_is); (case c => k_is); (case k => k_is)))
    (case Kg => (refine' PV.cE KX G ?a ?l ?c ?k; (case a => k_is); (case l => k_is); (case c => k_is); (case k => k_is)))
    (case K1 => (refine' PV.cE KX G ?a ?l ?c ?k; (case a => k_is); (case l => k_is); (case c => k_is); (case k => k_is)))
    (case Jx => (refine' PV.cE KX G ?a ?l ?c ?k; (case a => k_is); (case l => k_is); (case c => k_is); (case k => k_is)))
    (case K2 => (refine' PV.cE KX G ?a ?l ?c ?k; (case a => k_is); (case l => k_is); (case c => k_is); (case k => k_is)))
    (case Ih => (refine' PV.cE KX G ?a ?l ?c ?k; (case a => k_is); (case l => k_is); (case c => k_is); (case k => k_is)))
    (case IB => (refine' PV.cE KX G ?a ?l ?c ?k; (case a => k_is); (case l => k_is); (case c => k_is); (case k => k_is)))
    (case IC => (refine' PV.cE KX G ?a ?l ?c ?k; (case a => k_is); (case l => k_is); (case c => k_is); (case k => k_is)))
    (case IW => (refine' PV.cE KX G ?a ?l ?c ?k; (case a => k_is); (case l => k_is); (case c => k_is); (case k => k_is)))
    (case Jj => (refine' PV.cE KX G ?a ?l ?c ?k; (case a => k_is); (case l => k_is); (case c => k_is); (case k => k_is)))
    (case IX => (refine' PV.cE KX G ?a ?l ?c ?k; (case a => k_is); (case l => k_is); (case c => k_is); (case k => k_is)))
    (case ID => (refine' PV.cE KX G ?a ?l ?c ?k; (case a => k_is); (case l => k_is); (case c => k_is); (case k => k_is)))
    (case Ik => (refine' PV.cE KX G ?a ?l ?c ?k; (case a => k_is); (case l => k_is); (case c => k_is); (case k => k_is)))
    (case Il => (refine' PV.cE KX G ?a ?l ?c ?k; (case a => k_is); (case l => k_is); (case c => k_is); (case k => k_is)))
    (case IE => (refine' PV.cE KX G ?a ?l ?c ?k; (case a => k_is); (case l => k_is); (case c => k_is); (case k => k_is)))
    (case Jk => (refine' PV.cE KX G ?a ?l ?c ?k; (case a => k_is); (case l => k_is); (case c => k_is); (case k => k_is)))
    (case Im => (refine' PV.cE KX G ?a ?l ?c ?k; (case a => k_is); (case l => k_is); (case c => k_is); (case k => k_is)))
    (case IY => (refine' PV.cE KX G ?a ?l ?c ?k; (case a => k_is); (case l => k_is); (case c => k_is); (case k => k_is)))
    (case IF => (refine' PV.cE KX G ?a ?l ?c ?k; (case a => k_is); (case l => k_is); (case c => k_is); (case k => k_is)))
    (case Jl => (refine' PV.cE KX G ?a ?l ?c ?k; (case a => k_is); (case l => k_is); (case c => k_is); (case k => k_is)))
    (case Kr => k_is)
    (case HR => k_is)
    (case HK => k_is)
    (case Iz => k_is)
    (case IH => k_is)
    (case Ku => k_is)
    (case Hy => k_is)
    (case HP => k_is)
    (case Hr => k_is)
    (case Jo => k_is)
