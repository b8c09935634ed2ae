import PyProof.Rows.All
import Wide.All
import OpenK.AllK
import Wide.FinOn
import Lean
import PyProof.EqAt
import PyProof.EqKinds
import PyProof.TupleCall
import PySem.Challenge.RW_netfinder_k52_beads_and_places
set_option Elab.async false
set_option linter.all false
set_option maxRecDepth 100000
set_option compiler.extract_closed false
set_option bootstrap.genMatcherCode false
noncomputable section
def RG:=@PySem.wpAny_bind
def RH:=@PySem.wpAny_pure
def RI:=@List.size_toArray
def RJ:=@List.length_map
def RK:=@Bool.false_ne_true
def RL:=@Nat.le_refl
def RM:=@List.mem_cons_self
def RN:=@List.mem_append_right
def RO:=@if_pos
def RP:=@List.map_append
def RQ:=@List.map_map
def RS:=@PySem.Heap.lt_size
def RT:=@List.mem_cons
def RU:=@List.mem_cons_of_mem
def RV:=@List.mem_append_left
def RW:=@List.mem_of_getElem?
def RX:=@List.length_range
def RY:=@if_neg
def RZ:=@Nat.lt_of_lt_of_le
def R0:=@decide_eq_true_eq
def R3:=@List.all_eq_true
def R4:=@List.mem_singleton
def R5:=@List.length_singleton
def R6:=@List.map_cons
def R7:=@Int.eq_ofNat_of_zero_le
def R8:=@Nat.ne_of_lt
def R9:=@Bool.and_eq_true
def Sa:=@PySem.PassesOwn.never
def Sb:=@List.length_cons
def Sd:=@List.map_nil
def Se:=@List.nodup_cons
def Sf:=@decide_eq_false
def Sg:=@List.mem_range
def Sh:=@Bool.eq_iff_iff
def Si:=@beq_iff_eq
def Sj:=@Option.some.inj
def Sk:=@Int.toNat_natCast
def Sl:=@PySem.W.mg_none_of
def Sm:=@decide_eq_true
def Sn:=@Option.map_eq_some_iff
def So:=@Nat.zero_le
def Sq:=@List.mem_map
def Sr:=@List.mem_iff_getElem?
def Ss:=@List.nodup_append
def Su:=@List.length_take
def Sv:=@List.mem_append
def Sw:=@beq_eq_false_iff_ne
def Sy:=@List.not_mem_nil
def Sz:=@PySem.wpAny_newObj_type
def SA:=@List.length_nil
def SD:=@List.length_append
def SE:=@Bool.not_true
def SF:=@beq_self_eq_true
def SG:=@List.any_eq_true
def SH:=@List.take_add_one
def SI:=@PySem.wpAny_seqItems
def SJ:=@Nat.le_trans
def SK:=@List.map_congr_left
def SM:=@List.all_map
def SN:=@List.idxOf_lt_length_of_mem
def SO:=@PySem.wpAny_call_entry
def SQ:=@List.take_length
def SR:=@List.append_assoc
def SS:=@decide_eq_false_iff_not
def SU:=@PySem.sizeLine_eq
def SV:=@List.zip_cons_cons
def SW:=@List.append_nil
def SX:=@List.nodup_nil
def SY:=@congrArg
def S1:=@List.eq_nil_of_length_eq_zero
def S3:=@List.lookup_cons
def S4:=@List.getElem_mem
def S5:=@PySem.wpAny_truthy_bool
def S6:=@Option.isSome_iff_exists
def S7:=@PySem.wpAny_field
def S8:=@Bool.false_eq_true
def S9:=@List.length_zip
def Ta:=@Option.bind_eq_some_iff
def Tb:=@Array.length_toList
def Tc:=@PyProof.Rows.slot_tuple_getitem
def Td:=@List.replicate_succ
def Te:=@PySem.wpAny_holding
def Tf:=@PySem.wpAny_tryCatch
def Tg:=@Bool.not_false
def Th:=@List.any_map
def Ti:=@decide_false
def Tj:=@Ne.symm
def Tn:=@PySem.wpAny_typeNameOfWhole_keyiter
def To:=@PySem.Around.under_plainId
def Tp:=@PySem.F.slot_dict_keyiterator_next
def Tq:=@List.flatten_cons
def Tr:=@List.ext_getElem?
def Ts:=@PyProof.Rows.callWith_type1
def Tt:=@PySem.mem_of_lookup
def Tu:=@PySem.wpAny_letGo
def Tv:=@PyProof.Rows.KeyOrd.kle_refl
def Tw:=@PySem.W.kia_one
def Tx:=@Option.map_some
def Tz:=@List.take_of_length_le
def TB:=@PySem.F.slot_tuple_iterator_next
def TC:=@PySem.F.plain_max_loop
def TF:=@PySem.F.plain_min_loop
def TH:=@Nat.lt_irrefl
def TJ:=@PySem.wpAny_pyIter_tuple
def TK:=@PySem.wpAny_Call_Name_kw
def TL:=@PySem.wpAny_setField_rec
def TM:=@decide_true
def TN:=@PySem.wpAny_passesOwn
def TQ:=@PySem.wpAny_pyIter_list
def TR:=@List.length_set
def TU:=@List.foldl_cons
def TV:=@PySem.F.slot_tuple_index
def TX:=@List.filterMap_cons_none
def TY:=@List.filterMap_cons_some
def TZ:=@PySem.plainId_quiet
def T3:=@List.length_pos_iff
def T4:=@PySem.F.slot_list_index
def T5:=@List.length_drop
def T6:=@Nat.lt_succ_self
def T7:=@PySem.Heap.size_push
def T8:=@List.take_zero
def T9:=@List.pairwise_cons
def Ua:=@Nat.le_succ
def Ub:=@PySem.codeAny_builtin
def Uc:=@PySem.wpAny_updateSeq
def Ud:=@of_decide_eq_true
def Ue:=@Bool.and_self
def Ug:=@Bool.eq_false_iff
def Uh:=@List.nodup_iff_pairwise_ne
def Ui:=@PySem.Calls.call_function_entry
def Uj:=@List.toList_toArray
def Uk:=@PySem.Heap.SameBut.update
def Ul:=@PySem.wpAny_mono
def Um:=@PySem.F.args_tuple_add_2
def Uo:=@PySem.wpAny_typeOf
def Up:=@PySem.F.type_tuple_index
def Uq:=@List.of_mem_zip
def Ur:=@PySem.F.entry_tuple_add
def Us:=@if_true
def Ut:=@PySem.Obj.data_mapFields
def Uu:=@List.cons.inj
def Uv:=@PySem.tupleKind_room_in1
def Uw:=@PySem.F.plainAttrs_list
def Ux:=@PySem.F.type_list_index
def Uy:=@Nat.not_lt_zero
def Uz:=@List.map_take
def UA:=@PySem.F.slot_tuple_add
def UB:=@PySem.Calls.callWith_builtin
def UC:=@PyProof.Rows.KeyOrd.kle_of_klt
def UD:=@PySem.wpAny_dictEntries
def UE:=@List.pairwise_map
def UG:=@Option.some.injEq
def UH:=@if_false
def UI:=@List.length_filter_le
def UJ:=@PyProof.Rows.KeyOrd.kle_trans
def UK:=@PySem.wpAny_updateSeq_pair
def UL:=@List.mem_of_mem_take
def UM:=@List.count_le_length
def UN:=@PySem.Paired.length
def UO:=@List.all_cons
def UP:=@List.mem_filter
def UQ:=@List.filterMap_cons
def UR:=@PySem.wpAny_execs_nil
def US:=@List.getElem_of_mem
def UT:=@PySem.F.slot_zip_next
def UU:=@List.nil_append
def UW:=@Nat.min_eq_left
def UX:=@List.mem_filterMap
def UY:=@List.set_set
def UZ:=@Nat.sub_self
def U0:=@Int.cast_ofNat_Int
def U1:=@PySem.wpAny_setField
def U2:=@List.take_sublist
def U3:=@bne_self_eq_false
def U4:=@Nat.lt_succ_of_lt
def U5:=@List.foldl_append
def U6:=@PySem.wpAny_rule
def U7:=@Option.isSome_map
def U8:=@List.any_eq_false
def U9:=@List.count_append
def Va:=@Bool.false_or
def Vb:=@PySem.wpAny_onRaise
def Vc:=@PySem.wpAny_attempt
def Vd:=@List.not_lt
def Ve:=@List.sum_cons
def Vf:=@PySem.noFill_tuple_add
def Vg:=@Option.getD_none
def Vh:=@Option.getD_some
def Vi:=@PySem.F.entry_max_loop
def Vj:=@List.cons_append
def Vk:=@PySem.call_meets
def Vl:=@List.cons_ne_nil
def Vm:=@PySem.F.entry_min_loop
def Vn:=@Nat.le_of_lt
def Vo:=@PySem.concat_meets
def Vp:=@Nat.le_of_eq
def Vq:=@List.range_succ
def Vr:=@List.forIn_cons
def Vs:=@Bool.or_eq_true
def Vt:=@PySem.wpAny_dictEpoch
def Vu:=@List.idxOf_cons
def Vv:=@Nat.zero_add
def Vx:=@Int.natCast_add
def Vy:=@PySem.typeIs_str
def Vz:=@PySem.typeIs_int
def VA:=@PySem.call_meets
def VB:=@List.drop_zero
def VC:=@Bool.and_false
def VD:=@PySem.wpAny_of_eq
def VE:=@Int.le_refl
def VF:=@PySem.wpAny_standAt
def VG:=@PySem.seq_tuple_add
def VI:=@PySem.wpAny_newList
def VJ:=@List.any_cons
def VL:=@Bool.and_true
def VN:=@Nat.ne_of_gt
def VQ:=@Bool.true_or
def VR:=@Nat.add_zero
def VS:=@Nat.mul_comm
def VT:=@Int.mul_zero
def VU:=@or_false
def VY:=@Int.mul_add
def V0:=@bne_iff_ne
namespace L2
open PySem PySem.Spec PyProof.Rows
def IsTupN (h:Heap) (a:Addr) (items:Array Value):Prop:=∃ o,h.get? a=some o/\o.cls=.type "tuple"/\(∃ n,o.data=.seq items n)/\o.dict=none
theorem IsTupN.tup {h:Heap} {a:Addr} {items:Array Value} (p:IsTupN h a items):IsTup h a items:=by
 obtain ⟨o,e,c,n,_⟩:=p
 exact ⟨o,e,c,n⟩
theorem IsTupN.new (h:Heap) (items:Array Value):IsTupN (h.push { cls:=.type "tuple",data:=.seq items }) h.objs.size items:=⟨_,Heap.get?_push_size _ rfl,rfl,⟨_,rfl⟩,rfl⟩
abbrev Key:=Sum Int Str
def sZ:Key->Value->Bool
 | .inl k,v=>Value.isInt k v
 | .inr x,v=>Value.isStrOf x v
def E8 (w:World):Key->Int
 | .inl k=>hashInt k
 | .inr x=>hashStr w x
theorem cz:∀ {k:Key} {v:Value},sZ k v=true->(∃ i t,k=Sum.inl i/\v=Value.int i t)\/(∃ x t,k=Sum.inr x/\v=Value.str x t)
 | .inl i,v,h=>by
  obtain ⟨t,e⟩:=Value.isInt_shape (k:=i) (v:=v) h
  exact .inl ⟨i,t,rfl,e⟩
 | .inr x,v,h=>by
  obtain ⟨t,e⟩:=Value.isStrOf_shape (x:=x) (v:=v) h
  exact .inr ⟨x,t,rfl,e⟩
theorem uv (i:Int) (t:Tok):sZ (.inl i) (.int i t)=true:=by simp [sZ,Value.isInt]
theorem uw (x:Str) (t:Tok):sZ (.inr x) (.str x t)=true:=by simp [sZ,Value.isStrOf]
theorem Bi (a b:Int):decide ((Sum.inl a:Key)=Sum.inl b)=(a == b):=by
 by_cases e:a=b
 ·subst e;simp
 ·have h:¬ (Sum.inl a:Key)=Sum.inl b:=fun q=>e (Sum.inl.inj q)
  rw [Sf h]
  exact (Sw.mpr e).symm
theorem Bj (a b:Str):decide ((Sum.inr a:Key)=Sum.inr b)=decide (a=b):=by
 by_cases e:a=b
 ·subst e;simp
 ·have h:¬ (Sum.inr a:Key)=Sum.inr b:=fun q=>e (Sum.inr.inj q)
  rw [Sf h,Sf e]
theorem Bk (a:Int) (b:Str):decide ((Sum.inl a:Key)=Sum.inr b)=false:=Sf (fun q=>nomatch q)
theorem Bl (a:Str) (b:Int):decide ((Sum.inr a:Key)=Sum.inl b)=false:=Sf (fun q=>nomatch q)
def mixKind (prog:Program) (w:World):PySem.KeyKind prog w Key where
 is:=sZ
 hash:=E8 w
 inj:=fun v a b ha hb=>by
  rcases cz ha with ⟨i,t,rfl,rfl⟩ | ⟨x,t,rfl,rfl⟩
  ·rcases cz hb with ⟨j,u,rfl,e⟩ | ⟨y,u,rfl,e⟩
   ·injection e with e1 _;rw [e1]
   ·exact nomatch e
  ·rcases cz hb with ⟨j,u,rfl,e⟩ | ⟨y,u,rfl,e⟩
   ·exact nomatch e
   ·injection e with e1 _;rw [e1]
 byValue:=fun k v h=>by
  rcases cz h with ⟨i,t,rfl,rfl⟩ | ⟨x,t,rfl,rfl⟩ <;> rfl
 pyHash:=fun hv h=>by
  rcases cz hv with ⟨i,t,rfl,rfl⟩ | ⟨x,t,rfl,rfl⟩
  ·exact wpAny_pyHash_int h
  ·exact wpAny_pyHash_str h
 eqBool:=fun hu hv h=>by
  rcases cz hu with ⟨i,t,rfl,rfl⟩ | ⟨x,t,rfl,rfl⟩
  ·rcases cz hv with ⟨j,u,rfl,rfl⟩ | ⟨y,u,rfl,rfl⟩
   ·rw [Bi] at h;exact wpAny_eqBool_int h
   ·rw [Bk] at h;exact SeqAt.EqAt.int_str i t y u _ _ _ _ h
  ·rcases cz hv with ⟨j,u,rfl,rfl⟩ | ⟨y,u,rfl,rfl⟩
   ·rw [Bl] at h;exact SeqAt.EqAt.str_int x t j u _ _ _ _ h
   ·rw [Bj] at h;exact wpAny_eqBool_str h
 «strs»:=fun k x t v h=>by
  rcases cz h with ⟨i,u,rfl,e⟩ | ⟨y,u,rfl,e⟩
  ·exact nomatch e
  ·injection e with e1 _
   subst e1
   cases v <;> rfl
theorem qg (prog:Program) (w:World) (i:Int) (t:Tok):(mixKind prog w).is (.inl i) (.int i t)=true:=uv i t
theorem qh (prog:Program) (w:World) (x:Str) (t:Tok):(mixKind prog w).is (.inr x) (.str x t)=true:=uw x t
inductive V where
 | non | bl (b:Bool) | int (i:Int) | str (x:Str) | byt (b:Array UInt8) | flt (b:UInt64) | ref (a:Addr) | ty (n:String)
 deriving DecidableEq
def RelV:V->Value->Prop
 | .non,u=>u=Value.none
 | .bl b,u=>u=Value.bool b
 | .int i,u=>∃ t,u=Value.int i t
 | .str x,u=>∃ t,u=Value.str x t
 | .byt b,u=>∃ t,u=Value.bytes b t
 | .flt b,u=>∃ t,u=Value.float b t
 | .ref a,u=>u=Value.ref a
 | .ty n,u=>u=Value.type n
abbrev Vals:List V->List Value->Prop:=Paired RelV
theorem Vals.length {xs:List V} {us:List Value} (r:Vals xs us):xs.length=us.length:=UN r
theorem Vals.get:∀ {xs:List V} {us:List Value} {i:Nat} {x:V},Vals xs us->xs[i]?=some x->∃ u,us[i]?=some u/\RelV x u
 | _,_,_,_,.nil,e=>by simp at e
 | _,_,0,_,.cons r _,e=>by simp at e;subst e;exact ⟨_,rfl,r⟩
 | _,_,i + 1,x,.cons _ t,e=>by
  obtain ⟨u,h1,h2⟩:=Vals.get (i:=i) (x:=x) t (by simpa using e)
  exact ⟨u,by simpa using h1,h2⟩
theorem Vals.set {x:V} {u:Value} (r:RelV x u):∀ {xs:List V} {us:List Value} (i:Nat),Vals xs us->Vals (xs.set i x) (us.set i u)
 | _,_,_,.nil=>.nil
 | _,_,0,.cons _ t=>.cons r t
 | _,_,i + 1,.cons q t=>.cons q (Vals.set r i t)
theorem Vals.append:∀ {xs ys:List V} {us ws:List Value},Vals xs us->Vals ys ws->Vals (xs++ys) (us++ws)
 | _,_,_,_,.nil,s=>s
 | _,_,_,_,.cons r t,s=>.cons r (Vals.append t s)
theorem Vals.take:∀ {xs:List V} {us:List Value} (n:Nat),Vals xs us->Vals (xs.take n) (us.take n)
 | _,_,0,_=>.nil
 | _,_,_ + 1,.nil=>.nil
 | _,_,n + 1,.cons r t=>.cons r (Vals.take n t)
theorem Vals.drop:∀ {xs:List V} {us:List Value} (n:Nat),Vals xs us->Vals (xs.drop n) (us.drop n)
 | _,_,0,r=>r
 | _,_,_ + 1,.nil=>.nil
 | _,_,n + 1,.cons _ t=>Vals.drop n t
theorem Vals.none_of:∀ {xs:List V} {us:List Value} {i:Nat},Vals xs us->xs[i]?=none->us[i]?=none:=fun {xs us i} r e=>by
 have h1:=r.length
 have h2:xs.length<=i:=List.getElem?_eq_none_iff.mp e
 exact List.getElem?_eq_none_iff.mpr (by lia)
def RelO:Option V->Option Value->Prop
 | some v,some u=>RelV v u
 | none,none=>True
 | _,_=>False
def KV {κ:Type}:List (κ×V)->List (κ×Value)->Prop:=Paired fun (p:κ×V) (q:κ×Value)=>p.1=q.1/\RelV p.2 q.2
def kV:Key->V
 | .inl i=>.int i
 | .inr x=>.str x
inductive HO where
 | lst (xs:List V)
 | tup (xs:List V)
 | dK (Gb:List (Key×V)) | dT (Gb:List (List Key×V))
 | set (S:Int->Bool) (n:Nat)
 | ins (C dx:Addr) (fs:List (Str×V))
 | own (x:Addr)
 | xd (fs:List (Str×V))
 | met (f x:Addr)
 | rng (lo hi:Int)
 | frz (o:Obj) (u:HO)
 | tbl (ps:Array Value)
 | ext (φ:Heap->Prop)
abbrev Hp:=Addr->Option HO
def upd (H:Hp) (a:Addr) (o:HO):Hp:=fun b=>if b=a then some o else H b
theorem bQ {H:Hp} {a:Addr} {o:HO}:upd H a o a=some o:=by unfold upd;rw [RO rfl]
theorem aS {H:Hp} {a b:Addr} {o:HO} (h:b≠a):upd H a o b=H b:=by unfold upd;rw [RY h]
theorem DL {H:Hp} {a b:Addr} {o u:HO} (h:H a=some o) (h':H b=some u) (d:o≠u):a≠b:=by
 intro e;subst e;rw [h] at h';exact d (Sj h')
theorem bx {H:Hp} {a b:Addr} {o:HO} (h:H a=some o) (h':H b=none):a≠b:=by
 intro e;subst e;rw [h] at h';cases h'
section
variable (P:Program) (w:World)
def ObjOk (H:Hp) (h:Heap) (a:Addr):HO->Prop
 | .lst xs=>xs.length<=sizeLine/\∃ (F9:List Value) (n:Nat),Vals xs F9/\h.get? a=some { cls:=.type "list",data:=.seq F9.toArray n }
 | .tup xs=>xs.length<=sizeLine/\∃ F9:List Value,Vals xs F9/\IsTupN h a F9.toArray
 | .dK Gb=>Gb.length<=sizeLine/\(a == sysModules)=false/\∃ vs,KV Gb vs/\h.DictOf (mixKind P w) a vs
 | .dT Gb=>Gb.length<=sizeLine/\(a == sysModules)=false/\∃ xs:List (List Key×Addr×Value),
   Paired (fun (p:List Key×V) (q:List Key×Addr×Value)=>p.1=q.1/\H q.2.1=some (.tup (p.1.map kV))/\RelV p.2 q.2.2) Gb xs/\
   ∃ o es ep,h.get? a=some o/\o.ExactDict/\o.data=.dict es ep/\es.toList=xs.map (entryOfKey (tupleKind (mixKind P w)))/\(xs.map (·.1)).Nodup
 | .set S n=>h.SetOf (intKind P w) a S n
 | .ins C dx fs=>H dx=some (.own a)/\fs.length<=1000/\dx≠a/\h.get? a=some (PySem.W.instObj C dx)/\
   ∃ mA,h.Ns1 dx mA/\(∀ f,RelO (fs.lookup f) (mA f))/\PySem.Within mA (fs.map (·.1))
 | .own _=>∃ o,h.get? a=some o
 | .xd fs=>∃ mA,h.Ns1 a mA/\∀ f,RelO (fs.lookup f) (mA f)
 | .rng lo hi=>∃ t u v,h.get? a=some { cls:=.type "range",data:=.fields #[.int lo t,.int hi u,.int 1 v] }
 | .frz o u=>h.get? a=some o/\ObjOk H h a u
 | .tbl ps=>h.get? a=some { cls:=.none,data:=.fields ps }
 | .met f x=>h.get? a=some (PySem.W.methodObj (.ref f) (.ref x))
 | .ext φ=>φ h/\(∃ o,h.get? a=some o)/\∀ h1 h2:Heap,φ h1->(∀ o,h1.get? a=some o->h2.get? a=some o)->φ h2
def HOk (H:Hp) (h:Heap):Prop:=∀ a o,H a=some o->ObjOk P w H h a o
end
section
variable {P:Program} {w:World} {H H':Hp} {h h':Heap} {a:Addr} {o:HO}
theorem ObjOk.lt (x:ObjOk P w H h a o):a < h.objs.size:=by
 cases o with
 | lst xs=>obtain ⟨_,_,_,_,e⟩:=x;exact RS e
 | tup xs=>obtain ⟨_,_,_,p⟩:=x;exact p.tup.lt
 | dK Gb=>obtain ⟨_,_,_,_,o,_,_,e,_⟩:=x;exact RS e
 | dT Gb=>obtain ⟨_,_,_,_,o,_,_,e,_⟩:=x;exact RS e
 | set S n=>obtain ⟨o,_,_,_,e,_⟩:=x;exact RS e
 | ins C dx fs=>obtain ⟨_,_,_,e,_⟩:=x;exact RS e
 | own y=>obtain ⟨_,e⟩:=x;exact RS e
 | xd fs=>obtain ⟨_,⟨_,_,_,e,_⟩,_⟩:=x;exact RS e
 | rng lo hi=>obtain ⟨_,_,_,e⟩:=x;exact RS e
 | frz ob u=>obtain ⟨e,_⟩:=x;exact RS e
 | tbl ps=>exact RS (show h.get? a=some _ from x)
 | met f y=>exact RS (show h.get? a=some _ from x)
 | ext φ=>obtain ⟨_,⟨_,e⟩,_⟩:=x;exact RS e
theorem Paired.mapP {α β:Type} {F G:α->β->Prop}:∀ {l₁:List α} {l₂:List β},Paired F l₁ l₂->(∀ a b,F a b->G a b)->Paired G l₁ l₂
 | _,_,.nil,_=>.nil
 | _,_,.cons r t,f=>.cons (f _ _ r) (Paired.mapP t f)
theorem ObjOk.stay (x:ObjOk P w H h a o) (k:∀ b u,(b=a\/H b=some (.own a))->h.get? b=some u->h'.get? b=some u)
  (ho:∀ b,H b=some (.own a)->H' b=some (.own a)) (ht:∀ b xs,H b=some (.tup xs)->H' b=some (.tup xs)):ObjOk P w H' h' a o:=by
 induction o with
 | lst xs=>obtain ⟨z,F9,n,r,e⟩:=x;exact ⟨z,F9,n,r,k _ _ (.inl rfl) e⟩
 | tup xs=>obtain ⟨z,F9,r,ob,e,c⟩:=x;exact ⟨z,F9,r,ob,k _ _ (.inl rfl) e,c⟩
 | dK Gb=>obtain ⟨z,y,vs,r,ob,es,ep,e,c⟩:=x;exact ⟨z,y,vs,r,ob,es,ep,k _ _ (.inl rfl) e,c⟩
 | dT Gb=>
  obtain ⟨z,y,xs,r,ob,es,ep,e,c⟩:=x
  exact ⟨z,y,xs,Paired.mapP r fun p q z=>⟨z.1,ht _ _ z.2.1,z.2.2⟩,ob,es,ep,k _ _ (.inl rfl) e,c⟩
 | set S n=>obtain ⟨ob,es,ep,t,e,c⟩:=x;exact ⟨ob,es,ep,t,k _ _ (.inl rfl) e,c⟩
 | ins C dx fs=>
  obtain ⟨d,z,ne,e,mA,⟨od,es,ep,e2,c⟩,r⟩:=x
  exact ⟨ho _ d,z,ne,k _ _ (.inl rfl) e,mA,⟨od,es,ep,k _ _ (.inr d) e2,c⟩,r⟩
 | own y=>obtain ⟨ob,e⟩:=x;exact ⟨ob,k _ _ (.inl rfl) e⟩
 | xd fs=>obtain ⟨mA,⟨od,es,ep,e,c⟩,r⟩:=x;exact ⟨mA,⟨od,es,ep,k _ _ (.inl rfl) e,c⟩,r⟩
 | rng lo hi=>obtain ⟨t,u,v,e⟩:=x;exact ⟨t,u,v,k _ _ (.inl rfl) e⟩
 | frz ob u ih=>obtain ⟨e,q⟩:=x;exact ⟨k _ _ (.inl rfl) e,ih q⟩
 | tbl ps=>
  have e:h.get? a=some { cls:=.none,data:=.fields ps }:=x
  show h'.get? a=some { cls:=.none,data:=.fields ps }
  exact k a _ (.inl rfl) e
 | met f y=>
  have e:h.get? a=some (PySem.W.methodObj (.ref f) (.ref y)):=x
  show h'.get? a=some (PySem.W.methodObj (.ref f) (.ref y))
  exact k a _ (.inl rfl) e
 | ext φ=>obtain ⟨p,⟨o,e⟩,st⟩:=x;exact ⟨st _ _ p fun o q=>k _ _ (.inl rfl) q,⟨o,k _ _ (.inl rfl) e⟩,st⟩
theorem HOk.lt (x:HOk P w H h) (e:H a=some o):a < h.objs.size:=(x a o e).lt
theorem HOk.fresh (x:HOk P w H h) (e:h.objs.size<=a):H a=none:=by
 cases q:H a with
 | none=>rfl
 | some u=>exact absurd (RZ (x.lt q) e) (TH _)
theorem HOk.kept (x:HOk P w H h) (k:∀ b u,h.get? b=some u->h'.get? b=some u):HOk P w H h':=fun a o e=>
 (x a o e).stay (fun b u _ q=>k b u q) (fun _ q=>q) fun _ _ q=>q
theorem HOk.laid (x:HOk P w H h) (k:∀ b u,h.get? b=some u->h'.get? b=some u) (hp:h.objs.size<=a) (new:ObjOk P w (upd H a o) h' a o):HOk P w (upd H a o) h':=fun b u e=>by
 have hn:=x.fresh hp
 by_cases hb:b=a
 ·subst hb;rw [bQ] at e;cases e;exact new
 ·rw [aS hb] at e
  exact (x b u e).stay (fun c v _ q=>k c v q) (fun c q=>by rw [aS (bx q hn)];exact q) fun c xs q=>by rw [aS (bx q hn)];exact q
end
def Rd (H:Hp) (a:Addr) (u:HO):Prop:=H a=some u\/∃ o,H a=some (.frz o u)
theorem Rd.ok {P:Program} {w:World} {H:Hp} {h:Heap} {a:Addr} {u:HO} (r:Rd H a u) (x:HOk P w H h):ObjOk P w H h a u:=by
 rcases r with r | ⟨o,r⟩
 ·exact x a u r
 ·obtain ⟨_,q⟩:=x a _ r
  exact q
def Of:Option HO->Prop
 | some (.lst _)=>True
 | some (.dK _)=>True
 | some (.dT _)=>True
 | some (.set _ _)=>True
 | some (.ins _ _ _)=>True
 | some (.ext _)=>True
 | _=>False
section
variable {P:Program} {w:World} {H:Hp} {h h':Heap} {x e:Addr} {o':HO}
theorem HOk.write (ok:HOk P w H h) (mu:Of (H x)) (he:e=x\/H e=some (.own x)) (k:∀ b u,b≠e->h.get? b=some u->h'.get? b=some u) (N1:∃ u,h'.get? e=some u)
  (new:ObjOk P w (upd H x o') h' x o'):HOk P w (upd H x o') h':=fun b u q=>by
 have KN:∀ c y,H c=some (.own y)->c≠x:=fun c y r z=>by subst z;rw [r] at mu;exact mu
 have ntup:∀ c xs,H c=some (.tup xs)->c≠x:=fun c xs r z=>by subst z;rw [r] at mu;exact mu
 by_cases hb:b=x
 ·subst hb;rw [bQ] at q;cases q;exact new
 ·rw [aS hb] at q
  by_cases K3:b=e
  ·have q':H b=some (.own x):=by
    rcases he with z | z
    ·exact absurd (K3.trans z) hb
    ·rw [K3];exact z
   rw [q] at q';cases q'
   obtain ⟨v,hv⟩:=N1
   exact ⟨v,by rw [K3];exact hv⟩
  ·refine (ok b u q).stay (fun c v hc r=>k c v ?_ r) (fun c r=>by rw [aS (KN c b r)];exact r) fun c xs r=>by rw [aS (ntup c xs r)];exact r
   rcases hc with rfl | hc
   ·exact K3
   ·rintro rfl
    rcases he with z | z
    ·exact KN c b hc z
    ·rw [hc] at z;cases z;exact hb rfl
end
structure Un (fs ex:List Addr) (H H':Hp) (h h':Heap):Prop where
 keep:∀ b o,h.get? b=some o->H b=none->b∉fs->b∉ex->h'.get? b=some o
 slot:∀ b o,h.get? b=some o->H b=none->b∈fs->b∉ex->∃ sl,h'.get? b=some { o with slots:=sl }
 free:∀ b o,h.get? b=some o->H b=none->b∉ex->H' b=none
 there:∀ b o,h.get? b=some o->b∉ex->∃ o',h'.get? b=some o'
 tups:∀ b xs,H b=some (.tup xs)->H' b=some (.tup xs)
 frzs:∀ b o u,H b=some (.frz o u)->H' b=some (.frz o u)
 tbls:∀ b ps,H b=some (.tbl ps)->∃ more,H' b=some (.tbl (ps++more))
section
variable {fs fs' ex ex':List Addr} {H H1 H2:Hp} {h h1 h2 h':Heap} {a x e:Addr} {o:HO}
theorem Un.any (u:Un fs ex H H1 h h1) {b:Addr} {ob:Obj} (q:h.get? b=some ob) (n:H b=none) (hx:b∉ex):∃ sl,h1.get? b=some { ob with slots:=sl }:=by
 by_cases hb:b∈fs
 ·exact u.slot b ob q n hb hx
 ·exact ⟨ob.slots,u.keep b ob q n hb hx⟩
theorem Un.trans (a:Un fs ex H H1 h h1) (b:Un fs ex H1 H2 h1 h2):Un fs ex H H2 h h2 where
 keep:=fun c ob q n hc hx=>b.keep c ob (a.keep c ob q n hc hx) (a.free c ob q n hx) hc hx
 slot:=fun c ob q n hc hx=>by
  obtain ⟨sl,e1⟩:=a.slot c ob q n hc hx
  obtain ⟨PR,e2⟩:=b.slot c _ e1 (a.free c ob q n hx) hc hx
  exact ⟨PR,e2⟩
 free:=fun c ob q n hx=>by
  obtain ⟨o',e1⟩:=a.there c ob q hx
  exact b.free c o' e1 (a.free c ob q n hx) hx
 there:=fun c ob q hx=>by
  obtain ⟨o',e1⟩:=a.there c ob q hx
  exact b.there c o' e1 hx
 tups:=fun c xs q=>b.tups c xs (a.tups c xs q)
 frzs:=fun c ob xs q=>b.frzs c ob xs (a.frzs c ob xs q)
 tbls:=fun c ps q=>by
  obtain ⟨m1,e1⟩:=a.tbls c ps q
  obtain ⟨m2,e2⟩:=b.tbls c _ e1
  exact ⟨m1++m2,by rw [e2,Array.append_assoc]⟩
theorem Un.kept (k:∀ b u,h.get? b=some u->h'.get? b=some u):Un fs ex H H h h':=
 ⟨fun b ob q _ _ _=>k b ob q,fun b ob q _ _ _=>⟨ob.slots,k b ob q⟩,fun _ _ _ n _=>n,fun b ob q _=>⟨ob,k b ob q⟩,fun _ _ q=>q,fun _ _ _ q=>q,fun _ ps q=>⟨#[],by rw [q];simp⟩⟩
theorem Un.refl:Un fs ex H H h h:=Un.kept fun _ _ q=>q
theorem Un.laid (k:∀ b u,h.get? b=some u->h'.get? b=some u) (hp:h.objs.size<=a) (hn:H a=none):Un fs ex H (upd H a o) h h' where
 keep:=fun b u q _ _ _=>k b u q
 slot:=fun b u q _ _ _=>⟨u.slots,k b u q⟩
 free:=fun b u q n _=>by rw [aS (R8 (RZ (RS q) hp))];exact n
 there:=fun b u q _=>⟨u,k b u q⟩
 tups:=fun b xs q=>by rw [aS (bx q hn)];exact q
 frzs:=fun b u xs q=>by rw [aS (bx q hn)];exact q
 tbls:=fun b ps q=>⟨#[],by rw [aS (bx q hn),q];simp⟩
theorem Un.write (mu:Of (H x)) (he:e=x\/H e=some (.own x)) (k:∀ b u,b≠e->h.get? b=some u->h'.get? b=some u) (N1:∃ u,h'.get? e=some u):Un fs ex H (upd H x o) h h':=by
 have hx:∀ b,H b=none->b≠x:=fun b n z=>by subst z;rw [n] at mu;exact mu
 have hb:∀ b,H b=none->b≠e:=fun b n z=>by
  subst z
  rcases he with r | r
  ·exact hx b n r
  ·rw [n] at r;cases r
 have hm:∀ b u,H b=some u->¬ Of (some u)->b≠x:=fun b u q nm z=>by subst z;rw [q] at mu;exact nm mu
 refine ⟨fun b u q n _ _=>k b u (hb b n) q,fun b u q n _ _=>⟨u.slots,k b u (hb b n) q⟩,fun b u q n _=>by rw [aS (hx b n)];exact n,fun b u q _=>?_,
  fun b xs q=>by rw [aS (hm b _ q fun z=>z)];exact q,fun b u xs q=>by rw [aS (hm b _ q fun z=>z)];exact q,fun b ps q=>⟨#[],by rw [aS (hm b _ q fun z=>z),q];simp⟩⟩
 by_cases K3:b=e
 ·subst K3;exact N1
 ·exact ⟨u,k b u K3 q⟩
end
def trk (h:Heap) (H:Hp):List Addr:=(List.range h.objs.size).filter fun a=>(H a).isSome
def wW (h:Heap) (H:Hp):Heap:=PySem.W.hideAll h (trk h H)
theorem ux (h:Heap) (H:Hp):(wW h H).objs.size=h.objs.size:=PySem.W.hideAll_size _ _
theorem wX {h:Heap} {H:Hp} {b:Addr} {o:Obj} (e:h.get? b=some o) (n:H b=none):(wW h H).get? b=some o:=
 PySem.W.hideAll_get _ e fun hm=>by
  have q:(H b).isSome=true:=(UP.mp hm).2
  rw [n] at q;simp at q
theorem yW {h:Heap} {H:Hp} {b:Addr} {o:Obj} (e:(wW h H).get? b=some o):h.get? b=some o/\H b=none:=by
 have e':h.get? b=some o:=PySem.W.of_hideAll (trk h H) e
 refine ⟨e',?_⟩
 cases q:H b with
 | none=>rfl
 | some x=>
  have hm:b∈trk h H:=UP.mpr ⟨Sg.mpr (RS e'),by simp [q]⟩
  have z:(wW h H).get? b=none:=PySem.W.hideAll_none (trk h H) hm
  rw [z] at e;cases e
def yX (g h:Heap) (L:Addr):List (Addr×Obj):=(List.range h.objs.size).filterMap fun a=>if a=L\/(g.get? a).isSome=true then none else (h.get? a).map fun o=>(a,o)
def eD (g h:Heap) (L d:Addr):List (Addr×Obj):=(yX g h L).filter fun p=>decide (p.1≠d)
structure Mod (K:W.Frag) (mg:Str->Option Value) (base:Heap):Prop where
 kin:K.In base
 glob:base.Ns mainGlobals mg
 blt:∃ mb,base.Ns builtinsNs mb/\∀ x:Str,x≠"__name__"->mb x=bootBuiltins x
 nolimit:base.NoLimit
structure Cx where
 prog:Program
 w:World
 K:W.Frag
 mg:Str->Option Value
 base:Heap
 A:Around
 N:List Str
 s₀:Shared
 H₀:Hp
 env:Env
 outer:List Env
 stack:List Env
 ex:List Addr
 fn:Str->Bool
 calm:Bool
 pn:List (Addr×Obj)
 xe:Value->Shared->Prop
def KC (l:List Env):List Addr:=l.filterMap (·.frame)
abbrev Cx.fs (X:Cx):List Addr:=KC X.outer
def PU (sc:Scope) (x:Str):Prop:=sc.names.lookup x=some .local\/sc.names.lookup x=some .cell\/sc.names.lookup x=some .free
def Loc (sc:Scope) (x:Str):Prop:=sc.names.lookup x=some .local\/sc.names.lookup x=some .cell
def EV (sc:Scope) (x:Str):Bool:=match sc.names.lookup x with
 | some .local=>true
 | some .cell=>true
 | _=>false
theorem lo {sc:Scope} {x:Str} (h:EV sc x=true):Loc sc x:=by
 unfold EV at h
 split at h
 ·exact .inl (by assumption)
 ·exact .inr (by assumption)
 ·cases h

def E9 (env:Env) (h:Heap) (m:Str->Option Value) (x:Str) (u:Value):Prop:=
 (env.kindOf x=some .local/\m x=some u)\/((env.kindOf x=some .cell\/env.kindOf x=some .free)/\∃ c,env.cells.lookup x=some c/\h.IsCell c (some u))
structure Cx.Ok (X:Cx):Prop where
 mod:Mod X.K X.mg X.base
 kind:X.env.scope.kind=.function
 glob:X.env.globals=mainGlobals
 blt:X.env.builtins=builtinsNs
 above:X.s₀.heap.objs.size<=X.env.locals
 inj:∀ x y c,X.env.cells.lookup x=some c->X.env.cells.lookup y=some c->x=y
 has:∀ x,(X.env.kindOf x=some .cell\/X.env.kindOf x=some .free)->∃ c,X.env.cells.lookup x=some c
 cab:∀ x c,X.fn x=true->X.env.cells.lookup x=some c->X.s₀.heap.objs.size<=c
 hd:X.calm=true->X.A.handled=none
 frames:X.A.frames=some X.stack
 stk:X.stack=X.outer\/(X.stack=X.env :: X.outer/\X.env.frame=some X.env.locals)
 exf:∀ b∈X.ex,b≠X.env.locals/\∀ x c,X.env.cells.lookup x=some c->c≠b
 bs:∀ b o,X.base.get? b=some o->X.s₀.heap.get? b=some o/\X.H₀ b=none
 bsz:X.base.objs.size<=X.s₀.heap.objs.size
 noex:∀ b o,X.base.get? b=some o->b∉X.ex
 exfs:∀ b∈X.ex,b∉X.fs
 funs:X.s₀.heap.FunFrames X.base X.outer
 frf:∀ b∈X.fs,X.H₀ b=none
structure Inv (X:Cx) (pins:List (Addr×Obj)) (σ:List (Option V)) (H:Hp) (s:Shared):Prop where
 ok:X.Ok
 os:s.os=X.s₀.os
 bare:AllBare s.gens
 base:Un X.fs X.ex X.H₀ H X.s₀.heap s.heap
 loc:∃ m,s.heap.Ns X.env.locals m/\∀ (i:Nat) (x:Str) (v:V),X.N[i]?=some x->σ[i]?=some (some v)->PU X.env.scope x->∃ u,RelV v u/\E9 X.env s.heap m x u
 cell:∀ x c,X.env.cells.lookup x=some c->∃ v,s.heap.IsCell c v
 free:H X.env.locals=none
 freeC:∀ x c,X.env.cells.lookup x=some c->H c=none
 pin:∀ p∈X.pn++pins,s.heap.get? p.1=some p.2/\H p.1=none/\p.1≠X.env.locals/\p.1∉X.fs/\∀ v,p.2.data≠.cell v
 hok:HOk X.prog X.w H s.heap
 len:σ.length=X.N.length
section
variable {X:Cx} {pins:List (Addr×Obj)} {σ:List (Option V)} {H H':Hp} {s:Shared} {h':Heap}
theorem Cx.Ok.nofr (ok:X.Ok) {b:Addr} {o:Obj} (e:X.base.get? b=some o):b∉X.fs:=fun hb=>by
 have:=(ok.funs.mem hb).1
 rw [e] at this;cases this
theorem Inv.bs (I:Inv X pins σ H s):∀ b o,X.base.get? b=some o->s.heap.get? b=some o/\H b=none:=fun b o e=>
 ⟨I.base.keep b o (I.ok.bs b o e).1 (I.ok.bs b o e).2 (I.ok.nofr e) (I.ok.noex b o e),I.base.free b o (I.ok.bs b o e).1 (I.ok.bs b o e).2 (I.ok.noex b o e)⟩
theorem Inv.bk (I:Inv X pins σ H s):∀ b o,X.base.get? b=some o->s.heap.get? b=some o:=fun b o e=>(I.bs b o e).1
theorem Inv.mod (I:Inv X pins σ H s):Mod X.K X.mg X.base:=I.ok.mod
theorem Inv.kIn (I:Inv X pins σ H s):X.K.In s.heap:=I.ok.mod.kin.keeps I.bk
theorem Inv.lt (I:Inv X pins σ H s):X.env.locals < s.heap.objs.size:=let ⟨_,hn,_⟩:=I.loc;hn.lt
theorem Inv.sz (I:Inv X pins σ H s):X.s₀.heap.objs.size<=s.heap.objs.size:=SJ I.ok.above (Vn I.lt)
theorem Inv.nofs (I:Inv X pins σ H s) {a:Addr} (h:s.heap.objs.size<=a):a∉X.fs:=fun hb=>by
 obtain ⟨_,o,ho,_⟩:=I.ok.funs.mem hb
 exact absurd (RZ (RS ho) (SJ I.sz h)) (TH _)
theorem Inv.cne (I:Inv X pins σ H s):∀ x c,X.env.cells.lookup x=some c->c≠X.env.locals:=fun x c e z=>by
 obtain ⟨v,o,ho,hd⟩:=I.cell x c e
 obtain ⟨m,⟨o',es,ep,LX,MZ,_⟩,_⟩:=I.loc
 rw [z,LX] at ho;cases ho;rw [MZ] at hd;cases hd
theorem Inv.funs (I:Inv X pins σ H s):s.heap.FunFrames X.base X.outer:=by
 have all:∀ (l:List Env),(∀ b∈KC l,b∈X.fs)->X.s₀.heap.FunFrames X.base l->s.heap.FunFrames X.base l:=by
  intro l
  induction l with
  | nil=>intro _ _;trivial
  | cons env r ih=>
   intro hs hl
   obtain ⟨hk,⟨L,o,hf,hn,ho,hd⟩,hr⟩:=hl
   have hL:L∈X.fs:=hs L (by unfold KC;rw [UQ,hf];exact RM)
   obtain ⟨sl,e⟩:=I.base.slot L o ho (I.ok.frf L hL) hL fun z=>I.ok.exfs L z hL
   exact ⟨hk,⟨L,_,hf,hn,e,hd⟩,ih (fun b hb=>hs b (by unfold KC;rw [UQ,hf];exact RU _ hb)) hr⟩
 exact all X.outer (fun _ hb=>hb) I.ok.funs
theorem Inv.stack (I:Inv X pins σ H s):s.heap.FunFrames X.base X.stack:=by
 rcases I.ok.stk with e | ⟨e,hf⟩
 ·rw [e];exact I.funs
 ·rw [e]
  obtain ⟨m,hn,_⟩:=I.loc
  refine .cons (by rw [I.ok.kind];decide) hf hn ?_ I.funs
  exact Heap.get?_none_of_le (SJ I.ok.bsz I.ok.above)
theorem Inv.stkSub (I:Inv X pins σ H s):∀ b∈KC X.stack,b∈X.env.locals :: X.fs:=fun b hb=>by
 rcases I.ok.stk with e | ⟨e,hf⟩
 ·rw [e] at hb;exact RU _ hb
 ·rw [e] at hb
  unfold KC at hb
  rw [UQ,hf] at hb
  exact hb
theorem Inv.stkFree (I:Inv X pins σ H s):∀ b∈KC X.stack,H b=none:=fun b hb=>by
 rcases RT.mp (I.stkSub b hb) with e | hb
 ·rw [e];exact I.free
 ·obtain ⟨_,o,ho,_⟩:=I.ok.funs.mem hb
  exact I.base.free b o ho (I.ok.frf b hb) fun z=>I.ok.exfs b z hb
theorem Inv.step {g':Array GenState} {t':Nat} {d':Drawn} {ch:List Addr} (I:Inv X pins σ H s)
  (LK:∀ b∈ch,(b∈X.ex\/X.s₀.heap.objs.size<=b)/\b≠X.env.locals/\(∀ x c,X.env.cells.lookup x=some c->c≠b)/\∀ p∈X.pn++pins,p.1≠b)
  (keep:∀ b o,b≠X.env.locals->b∉X.fs->b∉ch->s.heap.get? b=some o->H b=none->h'.get? b=some o)
  (slot:∀ b o,b≠X.env.locals->b∈X.fs->b∉ch->s.heap.get? b=some o->H b=none->∃ sl,h'.get? b=some { o with slots:=sl }) (free:∀ b o,b∉ch->s.heap.get? b=some o->H b=none->H' b=none)
  (there:∀ b o,b∉ch->s.heap.get? b=some o->∃ o',h'.get? b=some o')
  (tups:∀ b xs,H b=some (.tup xs)->H' b=some (.tup xs)) (frzs:∀ b o u,H b=some (.frz o u)->H' b=some (.frz o u)) (tbls:∀ b ps,H b=some (.tbl ps)->∃ more,H' b=some (.tbl (ps++more)))
  (ns:∀ m,s.heap.Ns X.env.locals m->h'.Ns X.env.locals m) (hok:HOk X.prog X.w H' h') (hg:AllBare g') :
  Inv X pins σ H' { s with heap:=h',gens:=g',drawn:=d',toks:=t' }:=by
 have QV:∀ b o,X.s₀.heap.get? b=some o->b≠X.env.locals:=fun b o e=>R8 (RZ (RS e) I.ok.above)
 have Pe:∀ b o,X.s₀.heap.get? b=some o->b∉X.ex->b∉ch:=fun b o e hx hb=>by
  rcases (LK b hb).1 with z | z
  ·exact hx z
  ·exact absurd (RZ (RS e) z) (TH _)
 have cellK:∀ x c,X.env.cells.lookup x=some c->∀ v,s.heap.IsCell c v->h'.IsCell c v:=fun x c e v Gp=>by
  obtain ⟨o,ho,hd⟩:=Gp
  have Og:c∉ch:=fun z=>(LK c z).2.2.1 x c e rfl
  by_cases hc:c∈X.fs
  ·obtain ⟨sl,q⟩:=slot c o (I.cne x c e) hc Og ho (I.freeC x c e)
   exact ⟨_,q,hd⟩
  ·exact ⟨o,keep c o (I.cne x c e) hc Og ho (I.freeC x c e),hd⟩
 refine ⟨I.ok,I.os,hg,⟨fun b o e n hb hx=>?_,fun b o e n hb hx=>?_,fun b o e n hx=>?_,fun b o e hx=>?_,fun b xs e=>tups b xs (I.base.tups b xs e),fun b o xs e=>frzs b o xs (I.base.frzs b o xs e),fun b ps e=>?_⟩,?_,fun x c e=>?_,?_,fun x c e=>?_,fun p hp=>?_,hok,I.len⟩
 ·exact keep b o (QV b o e) hb (Pe b o e hx) (I.base.keep b o e n hb hx) (I.base.free b o e n hx)
 ·obtain ⟨sl,e1⟩:=I.base.slot b o e n hb hx
  obtain ⟨PR,e2⟩:=slot b _ (QV b o e) hb (Pe b o e hx) e1 (I.base.free b o e n hx)
  exact ⟨PR,e2⟩
 ·obtain ⟨o',e1⟩:=I.base.there b o e hx
  exact free b o' (Pe b o e hx) e1 (I.base.free b o e n hx)
 ·obtain ⟨o',e1⟩:=I.base.there b o e hx
  exact there b o' (Pe b o e hx) e1
 ·obtain ⟨m1,e1⟩:=I.base.tbls b ps e
  obtain ⟨m2,e2⟩:=tbls b _ e1
  exact ⟨m1++m2,by rw [e2,Array.append_assoc]⟩
 ·obtain ⟨m,hn,hl⟩:=I.loc
  refine ⟨m,ns m hn,fun i x v e1 e2 e3=>?_⟩
  obtain ⟨u,r,l⟩:=hl i x v e1 e2 e3
  refine ⟨u,r,?_⟩
  rcases l with l | ⟨k,c,e,z⟩
  ·exact .inl l
  ·exact .inr ⟨k,c,e,cellK x c e _ z⟩
 ·obtain ⟨v,z⟩:=I.cell x c e
  exact ⟨v,cellK x c e v z⟩
 ·obtain ⟨m,⟨o,_,_,ho,_⟩,_⟩:=I.loc
  exact free _ o (fun z=>(LK _ z).2.1 rfl) ho I.free
 ·obtain ⟨v,o,ho,hd⟩:=I.cell x c e
  exact free c o (fun z=>(LK c z).2.2.1 x c e rfl) ho (I.freeC x c e)
 ·obtain ⟨e,n,ne,nf,d⟩:=I.pin p hp
  have Og:p.1∉ch:=fun z=>(LK p.1 z).2.2.2 p hp rfl
  exact ⟨keep p.1 p.2 ne nf Og e n,free p.1 p.2 Og e n,ne,nf,d⟩
theorem Inv.un {t':Nat} (I:Inv X pins σ H s) (u:Un X.fs [] H H' s.heap h') (hok:HOk X.prog X.w H' h'):Inv X pins σ H' { s with heap:=h',toks:=t' }:=by
 obtain ⟨m,⟨o,es,ep,ho,r⟩,_⟩:=id I.loc
 obtain ⟨sl,hL⟩:=u.any ho I.free (by simp)
 exact I.step (g':=s.gens) (d':=s.drawn) (ch:=[]) (fun _ z=>nomatch z) (fun b o _ hb _ e n=>u.keep b o e n hb (by simp)) (fun b o _ hb _ e n=>u.slot b o e n hb (by simp)) (fun b o _ e n=>u.free b o e n (by simp)) (fun b o _ e=>u.there b o e (by simp)) u.tups u.frzs u.tbls (fun m' hm=>by
  obtain ⟨o',M0,PX,LX,r'⟩:=hm
  rw [ho] at LX;cases LX
  exact ⟨_,M0,PX,hL,r'⟩) hok I.bare
theorem Inv.call {g':Array GenState} {t':Nat} {d':Drawn} {ch:List Addr} (I:Inv X pins σ H s) (u:Un (KC X.stack) ch H H' s.heap h') (hok:HOk X.prog X.w H' h') (hg:AllBare g')
  (LK:∀ b∈ch,(b∈X.ex\/X.s₀.heap.objs.size<=b)/\b≠X.env.locals/\(∀ x c,X.env.cells.lookup x=some c->c≠b)/\∀ p∈X.pn++pins,p.1≠b) :
  Inv X pins σ H' { s with heap:=h',gens:=g',drawn:=d',toks:=t' }:=by
 obtain ⟨m,⟨o,es,ep,ho,r⟩,_⟩:=id I.loc
 obtain ⟨sl,hL⟩:=u.any ho I.free fun z=>(LK _ z).2.1 rfl
 exact I.step (ch:=ch) LK (fun b o hL hb hc e n=>u.keep b o e n (fun z=>(RT.mp (I.stkSub b z)).elim hL hb) hc) (fun b o _ _ hc e n=>u.any e n hc) (fun b o hc e n=>u.free b o e n hc) (fun b o hc e=>u.there b o e hc) u.tups u.frzs u.tbls (fun m' hm=>by
  obtain ⟨o',M0,PX,LX,r'⟩:=hm
  rw [ho] at LX;cases LX
  exact ⟨_,M0,PX,hL,r'⟩) hok hg
theorem Inv.turned {t':Nat} {it:Addr} (I:Inv X pins σ H s) (k:∀ b o,b≠it->s.heap.get? b=some o->h'.get? b=some o) (hn:H it=none) (hL:it≠X.env.locals)
  (h1:it∈X.ex\/X.s₀.heap.objs.size<=it) (h2:∀ x c,X.env.cells.lookup x=some c->c≠it) (h3:∀ p∈X.pn++pins,p.1≠it):Inv X pins σ H { s with heap:=h',toks:=t' }:=by
 have QX:∀ b u,H b=some u->b≠it:=fun b u e z=>by rw [z,hn] at e;cases e
 refine I.step (g':=s.gens) (d':=s.drawn) (ch:=[it]) (fun b hb=>?_) (fun b o _ _ hc e _=>k b o (fun z=>hc (by simp [z])) e) (fun b o _ _ hc e _=>⟨o.slots,k b o (fun z=>hc (by simp [z])) e⟩) (fun _ _ _ _ n=>n)
  (fun b o hc e=>⟨o,k b o (fun z=>hc (by simp [z])) e⟩) (fun _ _ e=>e) (fun _ _ _ e=>e) (fun b ps e=>⟨#[],by rw [e];simp⟩) (fun m hm=>?_) (fun b u e=>?_) I.bare
 ·have e:b=it:=by simpa using hb
  subst e
  exact ⟨h1,hL,h2,h3⟩
 ·obtain ⟨o,es,ep,ho,r⟩:=hm
  exact ⟨o,es,ep,k _ o (Tj hL) ho,r⟩
 ·refine (I.hok b u e).stay (fun c v hc q=>k c v ?_ q) (fun _ q=>q) fun _ _ q=>q
  rcases hc with z | z
  ·rw [z];exact QX b u e
  ·exact QX c _ z
theorem Inv.tok (I:Inv X pins σ H s) (t:Nat):Inv X pins σ H { s with toks:=t }:=I.un (h':=s.heap) (t':=t) Un.refl I.hok
theorem Inv.kept {t':Nat} (I:Inv X pins σ H s) (k:∀ b u,s.heap.get? b=some u->h'.get? b=some u):Inv X pins σ H { s with heap:=h',toks:=t' }:=I.un (Un.kept k) (I.hok.kept k)
theorem Inv.laid {a:Addr} {o:HO} {t':Nat} (I:Inv X pins σ H s) (k:∀ b u,s.heap.get? b=some u->h'.get? b=some u) (hp:s.heap.objs.size<=a) (new:ObjOk X.prog X.w (upd H a o) h' a o) :
  Inv X pins σ (upd H a o) { s with heap:=h',toks:=t' }:=I.un (Un.laid k hp (I.hok.fresh hp)) (I.hok.laid k hp new)
theorem Inv.write {x e:Addr} {o:HO} {t':Nat} (I:Inv X pins σ H s) (mu:Of (H x)) (he:e=x\/H e=some (.own x)) (k:∀ b u,b≠e->s.heap.get? b=some u->h'.get? b=some u) (N1:∃ u,h'.get? e=some u)
  (new:ObjOk X.prog X.w (upd H x o) h' x o):Inv X pins σ (upd H x o) { s with heap:=h',toks:=t' }:=I.un (Un.write mu he k N1) (I.hok.write mu he k N1 new)
theorem Inv.pins_of {MK:List (Addr×Obj)} (I:Inv X pins σ H s) (h:∀ p∈MK,s.heap.get? p.1=some p.2/\H p.1=none/\p.1≠X.env.locals/\p.1∉X.fs/\∀ v,p.2.data≠.cell v):Inv X MK σ H s:=
 ⟨I.ok,I.os,I.bare,I.base,I.loc,I.cell,I.free,I.freeC,fun p hp=>(Sv.mp hp).elim (fun z=>I.pin p (RV _ z)) (h p),I.hok,I.len⟩
theorem qU {N:List Str} (hN:N.Nodup) {i j:Nat} {x:Str} (a:N[i]?=some x) (b:N[j]?=some x):i=j:=by
 obtain ⟨h1,e1⟩:=List.getElem?_eq_some_iff.mp a
 obtain ⟨h2,e2⟩:=List.getElem?_eq_some_iff.mp b
 exact (List.getElem_inj hN).mp (e1.trans e2.symm)
theorem oO {M:Model} {A:Around} {E:Value->Shared->Prop} {i:Nat} {x:Str} {v:V} {u:Value} {Q:Unit->Shared->Prop} (I:Inv X pins σ H s) (hN:X.N.Nodup) (hi:X.N[i]?=some x) (hx:Loc X.env.scope x) (r:RelV v u)
  (h:∀ s',Inv X pins (σ.set i (some v)) H s'->(∃ a,Heap.SameBut a s.heap s'.heap/\(a=X.env.locals\/X.env.cells.lookup x=some a))->Q () s') (hf:X.fn x=true\/X.env.scope.names.lookup x=some .local:=by first | exact .inl rfl | exact .inr rfl | assumption):wpAny M A (storeName X.env x u) Q E s:=by
 obtain ⟨m,hn,hl⟩:=id I.loc
 have hcls:(X.env.scope.kind == .class || (X.env.scope.kind == .module && X.env.locals != X.env.globals))=false:=by rw [I.ok.kind];rfl
 have hiσ:i < σ.length:=by rw [I.len];exact (List.getElem?_eq_some_iff.mp hi).1
 have cne:=I.cne
 have tracked:∀ {a:Addr} {h':Heap},(∃ o,s.heap.get? a=some o/\H a=none)->Heap.SameBut a s.heap h'->HOk X.prog X.w H h':=fun {a h'} ha hs b ob e=>by
  obtain ⟨_,_,ML⟩:=ha
  refine (I.hok b ob e).stay (fun c w' hc q=>(hs.2 c ?_).trans q) (fun _ q=>q) fun _ _ q=>q
  rintro rfl
  rcases hc with rfl | hc
  ·rw [ML] at e;cases e
  ·rw [ML] at hc;cases hc
 rcases hx with hk | hk
 ·refine wpAny_storeName_local hk hn (fun h' hn' hs=>?_) hcls
  obtain ⟨oL,_,_,hoL,_⟩:=id hn
  refine h _ ⟨I.ok,I.os,I.bare,⟨fun b o e n hb hx=>?_,fun b o e n hb hx=>?_,I.base.free,fun b o e hx=>?_,I.base.tups,I.base.frzs,I.base.tbls⟩,⟨_,hn',fun j y v' e1 e2 e3=>?_⟩,fun y c e=>?_,I.free,I.freeC,fun p hp=>?_,tracked ⟨oL,hoL,I.free⟩ hs,by simpa using I.len⟩ ⟨_,hs,.inl rfl⟩
  ·exact (hs.2 b (R8 (RZ (RS e) I.ok.above))).trans (I.base.keep b o e n hb hx)
  ·obtain ⟨sl,e1⟩:=I.base.slot b o e n hb hx
   exact ⟨sl,(hs.2 b (R8 (RZ (RS e) I.ok.above))).trans e1⟩
  ·obtain ⟨o',e1⟩:=I.base.there b o e hx
   exact ⟨o',(hs.2 b (R8 (RZ (RS e) I.ok.above))).trans e1⟩
  ·by_cases hj:j=i
   ·subst hj
    rw [hi] at e1;cases e1
    rw [List.getElem?_set_self hiσ] at e2
    cases e2
    exact ⟨u,r,.inl ⟨hk,by simp⟩⟩
   ·rw [List.getElem?_set_ne (Tj hj)] at e2
    obtain ⟨u',r',q⟩:=hl j y v' e1 e2 e3
    refine ⟨u',r',?_⟩
    rcases q with ⟨k,e⟩ | ⟨k,c,e,z⟩
    ·refine .inl ⟨k,?_⟩
     have:y≠x:=fun e=>hj (qU hN e1 (e▸hi))
     simp [this,e]
    ·exact .inr ⟨k,c,e,z.sameBut hs (cne y c e)⟩
  ·obtain ⟨w',z⟩:=I.cell y c e
   exact ⟨w',z.sameBut hs (cne y c e)⟩
  ·obtain ⟨e,n,ne,nf,d⟩:=I.pin p hp
   exact ⟨(hs.2 p.1 ne).trans e,n,ne,nf,d⟩
 ·have LY:X.fn x=true:=by
   rcases hf with z | z
   ·exact z
   ·rw [z] at hk;cases hk
  obtain ⟨c,hc⟩:=I.ok.has x (.inl hk)
  obtain ⟨w',z⟩:=I.cell x c hc
  refine wpAny_storeName_cell I.ok.kind hk hc z (fun h' IV hs=>?_)
  obtain ⟨oc,QY,hocd⟩:=id z
  refine h { s with heap:=h' } ⟨I.ok,I.os,I.bare,⟨fun b o e n hb hx=>?_,fun b o e n hb hx=>?_,I.base.free,fun b o e hx=>?_,I.base.tups,I.base.frzs,I.base.tbls⟩,⟨m,hn.sameBut hs (Tj (cne x c hc)),fun j y v' e1 e2 e3=>?_⟩,fun y c' e=>?_,I.free,I.freeC,fun p hp=>?_,tracked ⟨oc,QY,I.freeC x c hc⟩ hs,by simpa using I.len⟩ ⟨c,hs,.inr hc⟩
  ·exact (hs.2 b (R8 (RZ (RS e) (I.ok.cab x c LY hc)))).trans (I.base.keep b o e n hb hx)
  ·obtain ⟨sl,e1⟩:=I.base.slot b o e n hb hx
   exact ⟨sl,(hs.2 b (R8 (RZ (RS e) (I.ok.cab x c LY hc)))).trans e1⟩
  ·obtain ⟨o',e1⟩:=I.base.there b o e hx
   exact ⟨o',(hs.2 b (R8 (RZ (RS e) (I.ok.cab x c LY hc)))).trans e1⟩
  ·by_cases hj:j=i
   ·subst hj
    rw [hi] at e1;cases e1
    rw [List.getElem?_set_self hiσ] at e2
    cases e2
    exact ⟨u,r,.inr ⟨.inl hk,c,hc,IV⟩⟩
   ·rw [List.getElem?_set_ne (Tj hj)] at e2
    obtain ⟨u',r',q⟩:=hl j y v' e1 e2 e3
    refine ⟨u',r',?_⟩
    rcases q with q | ⟨k,c',e,z'⟩
    ·exact .inl q
    ·refine .inr ⟨k,c',e,z'.sameBut hs ?_⟩
     rintro rfl
     exact hj (qU hN e1 (I.ok.inj _ _ _ e hc▸hi))
  ·by_cases Oh:c'=c
   ·subst Oh;exact ⟨_,IV⟩
   ·obtain ⟨w2,z2⟩:=I.cell y c' e
    exact ⟨w2,z2.sameBut hs Oh⟩
  ·obtain ⟨e,n,ne,nf,d⟩:=I.pin p hp
   refine ⟨(hs.2 p.1 ?_).trans e,n,ne,nf,d⟩
   intro q
   rw [q,QY] at e
   have q':oc=p.2:=Sj e
   exact d w' (by rw [<-q'];exact hocd)
theorem qV {M:Model} {A:Around} {E:Value->Shared->Prop} {i:Nat} {x:Str} {v:V} {u:Value} {Q:Unit->Shared->Prop} (I:Inv X pins σ H s) (hN:X.N.Nodup) (hi:X.N[i]?=some x) (hx:Loc X.env.scope x) (r:RelV v u)
  (h:∀ s',Inv X pins (σ.set i (some v)) H s'->Q () s') (hf:X.fn x=true\/X.env.scope.names.lookup x=some .local:=by first | exact .inl rfl | exact .inr rfl | assumption):wpAny M A (storeName X.env x u) Q E s:=
 oO I hN hi hx r (fun s' I' _=>h s' I') hf
theorem Inv.call' {s':Shared} {ch:List Addr} (I:Inv X pins σ H s) (ho:s'.os=s.os) (u:Un (KC X.stack) ch H H' s.heap s'.heap) (hok:HOk X.prog X.w H' s'.heap) (hg:AllBare s'.gens)
  (LK:∀ b∈ch,(b∈X.ex\/X.s₀.heap.objs.size<=b)/\b≠X.env.locals/\(∀ x c,X.env.cells.lookup x=some c->c≠b)/\∀ p∈X.pn++pins,p.1≠b):Inv X pins σ H' s':=by
 obtain ⟨h',g',d',t',o'⟩:=s'
 have e:o'=s.os:=ho
 subst e
 exact I.call (g':=g') (t':=t') (d':=d') u hok hg LK
end
abbrev XK:=Value->Option Addr->Hp->Prop
abbrev St:=List (Option V)
abbrev VK:=V->Hp->Prop
abbrev TE:=St->Hp->VK->Prop
abbrev TT:=St->Hp->(Bool->Hp->Prop)->Prop
abbrev TA:=St->Hp->(List V->Hp->Prop)->Prop
structure Ends where
 nx:St->Hp->Prop
 rt:VK
 bk:St->Hp->Prop:=fun _ _=>False
 ct:St->Hp->Prop:=fun _ _=>False
abbrev TS:=Ends->St->Hp->Prop
def EP (X:Cx) (pins:List (Addr×Obj)) (σ:St) (Q:VK) (u:Value) (s':Shared):Prop:=∃ v H',Inv X pins σ H' s'/\RelV v u/\Q v H'
def TP (X:Cx) (pins:List (Addr×Obj)) (σ:St) (Q:Bool->Hp->Prop) (b:Bool) (s':Shared):Prop:=∃ H',Inv X pins σ H' s'/\Q b H'
def AP (X:Cx) (pins:List (Addr×Obj)) (σ:St) (Q:List V->Hp->Prop) (us:List Value) (s':Shared):Prop:=∃ vs H',Inv X pins σ H' s'/\Vals vs us/\Q vs H'
def SP (X:Cx) (pins:List (Addr×Obj)) (D:Ends) (f:Flow) (s':Shared):Prop:=
 match f with
 | .next=>∃ σ' H',Inv X pins σ' H' s'/\D.nx σ' H'
 | .brk=>∃ σ' H',Inv X pins σ' H' s'/\D.bk σ' H'
 | .cont=>∃ σ' H',Inv X pins σ' H' s'/\D.ct σ' H'
 | .ret u=>∃ v σ' H',Inv X pins σ' H' s'/\RelV v u/\D.rt v H'
def PE (X:Cx) (e:Expr) (t:TE):Prop:=
 ∀ (pins:List (Addr×Obj)) (s:Shared) (σ:St) (H:Hp) (Q:VK),Inv X pins σ H s->t σ H Q->wpAny (model X.prog X.w) X.A (eval e X.env) (EP X pins σ Q) X.xe s
def PT (X:Cx) (e:Expr) (t:TT):Prop:=
 ∀ (pins:List (Addr×Obj)) (s:Shared) (σ:St) (H:Hp) (Q:Bool->Hp->Prop),Inv X pins σ H s->t σ H Q->wpAny (model X.prog X.w) X.A (isTrue e X.env (eval e X.env)) (TP X pins σ Q) X.xe s
def PW (X:Cx) (e:Expr) (t:TT):Prop:=
 ∀ (whole:Sem Value) (pins:List (Addr×Obj)) (s:Shared) (σ:St) (H:Hp) (Q:Bool->Hp->Prop),Inv X pins σ H s->t σ H Q->wpAny (model X.prog X.w) X.A (isTrue e X.env whole) (TP X pins σ Q) X.xe s
theorem PW.pt {X:Cx} {e:Expr} {t:TT} (h:PW X e t):PT X e t:=h _
def PA (X:Cx) (es:List Expr) (t:TA):Prop:=
 ∀ (pos:Pos) (pins:List (Addr×Obj)) (s:Shared) (σ:St) (H:Hp) (Q:List V->Hp->Prop),Inv X pins σ H s->t σ H Q->wpAny (model X.prog X.w) X.A (spliced (backTo pos (starEach es X.env))) (AP X pins σ Q) X.xe s
def PS (X:Cx) (st:Stmt) (t:TS):Prop:=
 ∀ (pins:List (Addr×Obj)) (s:Shared) (σ:St) (H:Hp) (D:Ends),Inv X pins σ H s->t D σ H->wpAny (model X.prog X.w) X.A (exec st X.env) (SP X pins D) X.xe s
def PSs (X:Cx) (st:List Stmt) (t:TS):Prop:=
 ∀ (pins:List (Addr×Obj)) (s:Shared) (σ:St) (H:Hp) (D:Ends),Inv X pins σ H s->t D σ H->wpAny (model X.prog X.w) X.A (execs st X.env) (SP X pins D) X.xe s
theorem Gs {α:Type} {t:Sem α} {Q Q':α->Shared->Prop} {M:Model} {A:Around} {E:Value->Shared->Prop} {s:Shared} (h:wpAny M A t Q E s) (hQ:∀ a s,Q a s->Q' a s):wpAny M A t Q' E s:=Ul h hQ fun _ _ x=>x
section
variable {X:Cx}
theorem bin {a b:Expr} {ta tb:TE} (ha:PE X a ta) (hb:PE X b tb) {pins:List (Addr×Obj)} {s:Shared} {σ:St} {H:Hp} {R:V->V->Hp->Prop} (I:Inv X pins σ H s) (h:ta σ H fun x H1=>tb σ H1 fun y H2=>R x y H2)
  {α:Type} {Q:α->Shared->Prop} {f:Value->Value->Sem α}
  (hf:∀ v u s2 x y H2,Inv X pins σ H2 s2->RelV x v->RelV y u->R x y H2->wpAny (model X.prog X.w) X.A (f v u) Q X.xe s2) :
  wpAny (model X.prog X.w) X.A (eval a X.env) (fun v s₁=>wpAny (model X.prog X.w) X.A (eval b X.env) (fun u s₂=>wpAny (model X.prog X.w) X.A (f v u) Q X.xe s₂) X.xe s₁) X.xe s:=by
 refine Gs (ha pins s σ H _ I h) fun v s1 Gu=>?_
 obtain ⟨x,H1,I1,r1,q1⟩:=Gu
 refine Gs (hb pins s1 σ H1 _ I1 q1) fun u s2 Gu=>?_
 obtain ⟨y,H2,I2,r2,q2⟩:=Gu
 exact hf v u s2 x y H2 I2 r1 r2 q2
def wR (i:Nat):TE:=fun σ H Q=>∃ v,σ[i]?=some (some v)/\Q v H
def tC (v:V):TE:=fun _ H Q=>Q v H
theorem Bm {i:Nat} {x:Str} {pos:Pos} (hN:X.N[i]?=some x) (hv:PU X.env.scope x) (hd:(x == ("__debug__" : Str))=false:=by decide) (Ld:(x == ("__classdict__" : Str))=false:=by decide):PE X (.Name x pos) (wR i):=by
 intro pins s σ H Q I h
 obtain ⟨v,e,h⟩:=h
 obtain ⟨m,hn,hl⟩:=I.loc
 obtain ⟨u,r,l⟩:=hl i x v hN e hv
 have fin:EP X pins σ Q u s:=⟨v,H,I,r,h⟩
 rcases l with ⟨hk,hm⟩ | ⟨hk,c,hc,G9⟩
 ·exact wpAny_Name (wpAny_loadName_local I.ok.kind hk hn hm fin) hd
 ·rcases hk with hk | hk
  ·exact wpAny_Name (wpAny_loadName_cell I.ok.kind hk hc G9 fin) hd
  ·exact wpAny_Name (wpAny_loadName_free I.ok.kind hk hc G9 fin Ld) hd
theorem Bn {i j pos}:PE X (.Constant (.int i) j pos) (tC (.int i)):=fun _ _ _ H _ I h=>wpAny_Constant_int ⟨.int i,H,I.tok _,⟨_,rfl⟩,h⟩
theorem DM {b j pos}:PE X (.Constant (.bool b) j pos) (tC (.bl b)):=fun _ _ _ H _ I h=>Constant_bool ⟨.bl b,H,I,rfl,h⟩
theorem Bo {j pos}:PE X (.Constant .none j pos) (tC .non):=fun _ _ _ H _ I h=>Constant_none ⟨.non,H,I,rfl,h⟩
theorem Bp {x j pos}:PE X (.Constant (.str x) j pos) (tC (.str x)):=fun _ _ _ H _ I h=>Calls.Constant_str ⟨.str x,H,I.tok _,⟨_,rfl⟩,h⟩
def Gl (X:Cx) (x:Str):Prop:=X.env.kindOf x=some .globalImplicit
theorem yY {E:Value->Shared->Prop} {pins:List (Addr×Obj)} {s:Shared} {σ:St} {H:Hp} {x:Str} {u:Value} {pos:Pos} {Q:Value->Shared->Prop} (I:Inv X pins σ H s) (hg:Gl X x) (hm:X.mg x=some u) (h:Q u s)
  (hd:(x == ("__debug__" : Str))=false:=by decide):wpAny (model X.prog X.w) X.A (eval (.Name x pos) X.env) Q E s:=
 Calls.Name_function_global I.ok.kind hg (Calls.loadGlobal_global (by rw [I.ok.glob];exact I.mod.glob.keeps I.bk) hm h) hd
theorem ku {E:Value->Shared->Prop} {pins:List (Addr×Obj)} {s:Shared} {σ:St} {H:Hp} {x:Str} {u:Value} {pos:Pos} {Q:Value->Shared->Prop} (I:Inv X pins σ H s) (hg:Gl X x) (hm:X.mg x=none) (hv:bootBuiltins x=some u) (h:Q u s)
  (hn:x≠"__name__":=by decide) (hd:(x == ("__debug__" : Str))=false:=by decide):wpAny (model X.prog X.w) X.A (eval (.Name x pos) X.env) Q E s:=by
 obtain ⟨mb,h1,h2⟩:=I.mod.blt
 exact Calls.Name_function_global I.ok.kind hg (Calls.loadGlobal_builtin (by rw [I.ok.glob];exact I.mod.glob.keeps I.bk) hm (by rw [I.ok.blt];exact h1.keeps I.bk) ((h2 x hn).trans hv) h) hd
theorem yZ {x:Str} {v:V} {u:Value} {pos:Pos} (hg:Gl X x) (hm:X.mg x=none) (hv:bootBuiltins x=some u) (r:RelV v u) (hn:x≠"__name__":=by decide) (hd:(x == ("__debug__" : Str))=false:=by decide):PE X (.Name x pos) (tC v):=
 fun _ _ _ H _ I h=>ku I hg hm hv ⟨v,H,I,r,h⟩ hn hd
variable {a b:Expr} {ta tb:TE} {pos:Pos}
def PC (X:Cx) (op:CmpOp) (a b:Expr) (t:TE):Prop:=
 ∀ (pins:List (Addr×Obj)) (s:Shared) (σ:St) (H:Hp) (Q:VK),Inv X pins σ H s->t σ H Q->
  wpAny (model X.prog X.w) X.A (eval a X.env) (fun v s₁=>wpAny (model X.prog X.w) X.A (eval b X.env) (fun u s₂=>wpAny (model X.prog X.w) X.A (compareOp op v u) (EP X pins σ Q) X.xe s₂) X.xe s₁) X.xe s
theorem wY (b:Expr) {op:CmpOp} (h:op≠.In) (h2:op≠.NotIn):behindInMarks op b=false:=by
 have e1:(op == CmpOp.In)=false:=by cases op <;> first | rfl | exact absurd rfl h
 have e2:(op == CmpOp.NotIn)=false:=by cases op <;> first | rfl | exact absurd rfl h2
 cases b <;> simp [behindInMarks,e1,e2]
def tB (t:TE):TT:=fun σ H Q=>t σ H fun x H1=>∃ c,x=.bl c/\Q c H1
theorem EW {op:CmpOp} {t:TE} (h:PC X op a b t) (h1:behindInMarks op b=false:=by first | exact wY _ (by decide) (by decide) | rfl):PT X (.Compare a [op] [b] pos) (tB t):=by
 intro pins s σ H Q I hw
 refine wpAny_isTrue_Compare1 (Gs (h pins s σ H _ I hw) fun v s1 h1=>Gs h1 fun u s2 h2=>Gs h2 fun c s3 ⟨x,H1,I1,r1,q1⟩=>?_) h1
 obtain ⟨d,rfl,q⟩:=q1
 cases r1
 exact S5 ⟨H1,I1,q⟩
theorem Bq {e:Expr} {t:TE} (h:PE X e t) (he:∀ whole,isTrue e X.env whole=(do let v <-whole;standAt e.pos;holding [v] (truthy v)):=by intro _;rfl):PT X e (tB t):=by
 intro pins s σ H Q I hw
 refine isTrue_plain (Gs (h pins s σ H _ I hw) fun v s1 ⟨x,H1,I1,r1,q1⟩=>?_) (he _)
 obtain ⟨d,rfl,q⟩:=q1
 cases r1
 exact S5 ⟨H1,I1,q⟩
variable {tA Pf:TT} {eD:List Expr}
def Fb (t u:TT):TT:=fun σ H Q=>t σ H fun c H1=>if c=true then u σ H1 Q else Q false H1
def tOr (t u:TT):TT:=fun σ H Q=>t σ H fun c H1=>if c=true then Q true H1 else u σ H1 Q
def Fc (t:TT):TT:=fun σ H Q=>t σ H fun c H1=>Q (!c) H1
theorem y0 (ha:PT X a tA):PW X (.BoolOp .And [a] pos) tA:=by
 intro wh pins s σ H Q I h
 refine isTrue_and (Gs (ha pins s σ H Q I h) fun c s1 e=>?_)
 cases c with
 | true=>exact isTrue_and_nil e
 | false=>exact e
theorem Br (ha:PT X a tA):PW X (.BoolOp .Or [a] pos) tA:=by
 intro wh pins s σ H Q I h
 refine isTrue_or (Gs (ha pins s σ H Q I h) fun c s1 e=>?_)
 cases c with
 | false=>exact isTrue_or_nil e
 | true=>exact e
theorem Bs (ha:PT X a tA) (hb:PW X (.BoolOp .And (b :: eD) pos) Pf):PW X (.BoolOp .And (a :: b :: eD) pos) (Fb tA Pf):=by
 intro wh pins s σ H Q I h
 refine isTrue_and (Gs (ha pins s σ H _ I h) fun c s1 Gu=>?_)
 obtain ⟨H1,I1,q1⟩:=Gu
 cases c with
 | true=>exact hb wh pins s1 σ H1 Q I1 q1
 | false=>exact ⟨H1,I1,q1⟩
theorem DN (ha:PT X a tA) (hb:PW X (.BoolOp .Or (b :: eD) pos) Pf):PW X (.BoolOp .Or (a :: b :: eD) pos) (tOr tA Pf):=by
 intro wh pins s σ H Q I h
 refine isTrue_or (Gs (ha pins s σ H _ I h) fun c s1 Gu=>?_)
 obtain ⟨H1,I1,q1⟩:=Gu
 cases c with
 | true=>exact ⟨H1,I1,q1⟩
 | false=>exact hb wh pins s1 σ H1 Q I1 q1
theorem Bt (ha:PT X a tA):PT X (.UnaryOp .Not a pos) (Fc tA):=by
 intro pins s σ H Q I h
 exact isTrue_not (ha pins s σ H (fun c H1=>Q (!c) H1) I h)
def DO (ta tb:TE):TE:=fun σ H Q=>ta σ H fun x H1=>∃ c,x=.bl c/\if c=true then tb σ H1 Q else Q (.bl false) H1
def Fd (ta tb:TE):TE:=fun σ H Q=>ta σ H fun x H1=>∃ c,x=.bl c/\if c=true then Q (.bl true) H1 else tb σ H1 Q
def DP (ta:TE):TE:=fun σ H Q=>ta σ H fun x H1=>∃ c,x=.bl c/\Q (.bl (!c)) H1
theorem Bu {op} {t:TE} (h:PE X a t):PE X (.BoolOp op [a] pos) t:=fun pins s σ H Q I hw=>BoolOp_one (h pins s σ H Q I hw)
theorem Bv (ha:PE X a ta) (hb:PE X (.BoolOp .And (b :: eD) pos) tb):PE X (.BoolOp .And (a :: b :: eD) pos) (DO ta tb):=by
 intro pins s σ H Q I h
 refine BoolOp_and (Gs (ha pins s σ H _ I h) fun v s1 Gu=>?_)
 obtain ⟨x,H1,I1,r1,q1⟩:=Gu
 obtain ⟨c,rfl,q1⟩:=q1
 cases r1
 refine S5 ?_
 cases c with
 | true=>exact hb pins s1 σ H1 Q I1 q1
 | false=>exact ⟨.bl false,H1,I1,rfl,q1⟩
theorem DQ (ha:PE X a ta) (hb:PE X (.BoolOp .Or (b :: eD) pos) tb):PE X (.BoolOp .Or (a :: b :: eD) pos) (Fd ta tb):=by
 intro pins s σ H Q I h
 refine BoolOp_or (Gs (ha pins s σ H _ I h) fun v s1 Gu=>?_)
 obtain ⟨x,H1,I1,r1,q1⟩:=Gu
 obtain ⟨c,rfl,q1⟩:=q1
 cases r1
 refine S5 ?_
 cases c with
 | false=>exact hb pins s1 σ H1 Q I1 q1
 | true=>exact ⟨.bl true,H1,I1,rfl,q1⟩
theorem Bw (ha:PE X a ta):PE X (.UnaryOp .Not a pos) (DP ta):=by
 intro pins s σ H Q I h
 refine UnaryOp_ (Gs (ha pins s σ H _ I h) fun v s1 Gu=>?_)
 obtain ⟨x,H1,I1,r1,q1⟩:=Gu
 obtain ⟨c,rfl,q1⟩:=q1
 cases r1
 exact not_of (S5 ⟨.bl (!c),H1,I1,rfl,q1⟩)
end
def SqL (K:W.Frag) (H:Hp) (a:Addr) (xs:List V):Prop:=
 Rd H a (.lst xs)\/
  ∃ (o:Obj) (F9:Array Value) (n:Nat),K.lookup a=some o/\o.cls=.type "list"/\o.dict=none/\o.data=.seq F9 n/\F9.size<=sizeLine/\Vals xs F9.toList
def SqT (K:W.Frag) (H:Hp) (a:Addr) (xs:List V):Prop:=
 Rd H a (.tup xs)\/
  ∃ (o:Obj) (F9:Array Value) (n:Nat),K.lookup a=some o/\o.cls=.type "tuple"/\o.dict=none/\o.data=.seq F9 n/\F9.size<=sizeLine/\Vals xs F9.toList
def Fe:Value->Option V
 | .none=>some .non
 | .bool b=>some (.bl b)
 | .int i _=>some (.int i)
 | .str x _=>some (.str x)
 | .bytes b _=>some (.byt b)
 | .float b _=>some (.flt b)
 | .ref a=>some (.ref a)
 | .type n=>some (.ty n)
 | _=>none
theorem RelV.abs {x:V} {u:Value} (r:RelV x u):Fe u=some x:=by
 cases x with
 | non=>cases r;rfl
 | bl _=>cases r;rfl
 | int _=>obtain ⟨t,rfl⟩:=r;rfl
 | str _=>obtain ⟨t,rfl⟩:=r;rfl
 | byt _=>obtain ⟨t,rfl⟩:=r;rfl
 | flt _=>obtain ⟨t,rfl⟩:=r;rfl
 | ref _=>cases r;rfl
 | ty _=>cases r;rfl
theorem RelV.inj {x y:V} {u:Value} (r:RelV x u) (q:RelV y u):x=y:=Sj (r.abs.symm.trans q.abs)
theorem Vals.inj:∀ {xs ys:List V} {us:List Value},Vals xs us->Vals ys us->xs=ys
 | _,_,_,.nil,.nil=>rfl
 | _,_,_,.cons r t,.cons r' t'=>by rw [r.inj r',Vals.inj t t']
section
variable {X:Cx} {pins:List (Addr×Obj)} {σ:St} {H:Hp} {s:Shared} {a:Addr} {xs ys:List V}
theorem SqL.of {K:W.Frag} (h:H a=some (.lst xs)):SqL K H a xs:=.inl (.inl h)
theorem SqT.of {K:W.Frag} (h:H a=some (.tup xs)):SqT K H a xs:=.inl (.inl h)
theorem Inv.list (I:Inv X pins σ H s) (h:SqL X.K H a xs):∃ F9:List Value,Vals xs F9/\PlainL s.heap a F9.toArray/\xs.length<=sizeLine:=by
 rcases h with h | ⟨o,F9,n,hk,hc,hd,hs,hz,r⟩
 ·obtain ⟨z,F9,n,r,e⟩:=h.ok I.hok
  exact ⟨F9,r,⟨_,n,e,rfl,rfl,rfl⟩,z⟩
 ·refine ⟨F9.toList,r,⟨o,n,I.kIn a o hk,hc,hd,by simpa using hs⟩,?_⟩
  have e:=r.length
  simp only [Tb] at e
  lia
theorem Inv.tupleN (I:Inv X pins σ H s) (h:SqT X.K H a xs):∃ F9:List Value,Vals xs F9/\IsTupN s.heap a F9.toArray/\xs.length<=sizeLine:=by
 rcases h with h | ⟨o,F9,n,hk,hc,hdn,hs,hz,r⟩
 ·obtain ⟨z,F9,r,p⟩:=h.ok I.hok
  exact ⟨F9,r,p,z⟩
 ·refine ⟨F9.toList,r,⟨o,I.kIn a o hk,hc,⟨n,by simpa using hs⟩,hdn⟩,?_⟩
  have e:=r.length
  simp only [Tb] at e
  lia
theorem Inv.tuple (I:Inv X pins σ H s) (h:SqT X.K H a xs):∃ F9:List Value,Vals xs F9/\IsTup s.heap a F9.toArray/\xs.length<=sizeLine:=by
 obtain ⟨F9,r,p,z⟩:=I.tupleN h
 exact ⟨F9,r,p.tup,z⟩
theorem Inv.list_inj (I:Inv X pins σ H s) (h:SqL X.K H a xs) (h':SqL X.K H a ys):xs=ys:=by
 obtain ⟨F9,r,⟨o,n,e,_,_,d⟩,_⟩:=I.list h
 obtain ⟨its',r',⟨o',n',e',_,_,d'⟩,_⟩:=I.list h'
 rw [e] at e';cases e'
 rw [d] at d'
 injection d' with d1 _
 have:F9=its':=by simpa using SY Array.toList d1
 subst this
 exact r.inj r'
theorem Inv.tuple_inj (I:Inv X pins σ H s) (h:SqT X.K H a xs) (h':SqT X.K H a ys):xs=ys:=by
 obtain ⟨F9,r,⟨o,e,_,n,d⟩,_⟩:=I.tuple h
 obtain ⟨its',r',⟨o',e',_,n',d'⟩,_⟩:=I.tuple h'
 rw [e] at e';cases e'
 rw [d] at d'
 injection d' with d1 _
 have:F9=its':=by simpa using SY Array.toList d1
 subst this
 exact r.inj r'
end
abbrev Cx.wish (X:Cx) (E:Value->Shared->Prop):Cx:={ X with xe:=E }
abbrev Cx.nox (X:Cx):Cx:=X.wish fun _ _=>False
theorem Cx.Ok.wish {X:Cx} (ok:X.Ok) (E:Value->Shared->Prop):(X.wish E).Ok:=
 ⟨ok.mod,ok.kind,ok.glob,ok.blt,ok.above,ok.inj,ok.has,ok.cab,ok.hd,ok.frames,ok.stk,ok.exf,ok.bs,ok.bsz,ok.noex,ok.exfs,ok.funs,ok.frf⟩
theorem Cx.Ok.unwish {X:Cx} {E:Value->Shared->Prop} (ok:(X.wish E).Ok):X.Ok:=
 ⟨ok.mod,ok.kind,ok.glob,ok.blt,ok.above,ok.inj,ok.has,ok.cab,ok.hd,ok.frames,ok.stk,ok.exf,ok.bs,ok.bsz,ok.noex,ok.exfs,ok.funs,ok.frf⟩
section
variable {X:Cx} {pins:List (Addr×Obj)} {σ:St} {H:Hp} {s:Shared} {E:Value->Shared->Prop}
theorem Inv.wish (I:Inv X pins σ H s) (E:Value->Shared->Prop):Inv (X.wish E) pins σ H s:=⟨I.ok.wish E,I.os,I.bare,I.base,I.loc,I.cell,I.free,I.freeC,I.pin,I.hok,I.len⟩
theorem Inv.unwish (I:Inv (X.wish E) pins σ H s):Inv X pins σ H s:=⟨I.ok.unwish,I.os,I.bare,I.base,I.loc,I.cell,I.free,I.freeC,I.pin,I.hok,I.len⟩
theorem SP.unwish {D:Ends} {f:Flow} {s':Shared} (h:SP (X.wish E) pins D f s'):SP X pins D f s':=by
 cases f with
 | next=>obtain ⟨σ',H',I,q⟩:=h;exact ⟨σ',H',I.unwish,q⟩
 | brk=>obtain ⟨σ',H',I,q⟩:=h;exact ⟨σ',H',I.unwish,q⟩
 | cont=>obtain ⟨σ',H',I,q⟩:=h;exact ⟨σ',H',I.unwish,q⟩
 | ret u=>obtain ⟨v,σ',H',I,r,q⟩:=h;exact ⟨v,σ',H',I.unwish,r,q⟩
theorem PSs.nox {st:List Stmt} {t:TS} (h:PSs X.nox st t):PSs X st t:=fun pins s σ H D I hw=>
 Ul (h pins s σ H D (I.wish _) hw) (fun _ _ q=>q.unwish) fun _ _ z=>False.elim z
end
section
variable {X:Cx} {st:Stmt} {eD:List Stmt} {t u:TS} {e:Expr} {te:TE} {pos:Pos}
def DR:TS:=fun D σ H=>D.nx σ H
def Ff (t u:TS):TS:=fun D σ H=>t { D with nx:=u D } σ H
theorem y1:PSs X [] DR:=fun _ _ σ H _ I h=>UR ⟨σ,H,I,h⟩
theorem wZ (h1:PS X st t) (h2:PSs X eD u):PSs X (st :: eD) (Ff t u):=by
 intro pins s σ H D I h
 refine wpAny_execs_cons (Gs (h1 pins s σ H { D with nx:=u D } I h) fun f s1 q=>?_)
 cases f with
 | next=>
  obtain ⟨σ',H',I',q⟩:=q
  exact h2 pins s1 σ' H' D I' q
 | ret v=>exact q
 | brk=>exact q
 | cont=>exact q
theorem y2 (h1:PS X st t):PSs X [st] t:=by
 intro pins s σ H D I h
 refine wpAny_execs_cons (Gs (h1 pins s σ H D I h) fun f s1 q=>?_)
 cases f with
 | next=>exact UR q
 | ret v=>exact q
 | brk=>exact q
 | cont=>exact q
theorem Inv.quiet {pins:List (Addr×Obj)} {σ:St} {H:Hp} {s:Shared} (I:Inv X pins σ H s):interactive X.env=false:=by simp [interactive,I.ok.kind]
def DS (te:TE):TS:=fun D σ H=>te σ H fun _ H1=>D.nx σ H1
theorem y3 (he:PE X e te) (hs:swapsWith e none pos.line X.env=pure false:=by rfl):PS X (.Expr e pos) (DS te):=by
 intro pins s σ H D I h
 exact wpAny_Expr_any (Gs (he pins s σ H _ I h) fun v s1 ⟨x,H1,I1,r1,q1⟩=>⟨σ,H1,I1,q1⟩) I.quiet hs
def Fg (te:TE):TS:=fun D σ H=>te σ H D.rt
theorem Bx (he:PE X e te):PS X (.Return (some e) pos) (Fg te):=by
 intro pins s σ H D I h
 exact wpAny_Return_some (Gs (he pins s σ H _ I h) fun v s1 ⟨x,H1,I1,r1,q1⟩=>⟨x,σ,H1,I1,r1,q1⟩)
def Fh (c:TT) (t u:TS):TS:=fun D σ H=>c σ H fun b H1=>if b=true then t D σ H1 else u D σ H1
theorem DT {c:Expr} {a b:List Stmt} {tc:TT} (hc:PT X c tc) (ha:PSs X a t) (hb:PSs X b u):PS X (.If c a b pos) (Fh tc t u):=by
 intro pins s σ H D I h
 refine wpAny_If (Gs (hc pins s σ H _ I h) fun d s1 Gu=>?_)
 obtain ⟨H1,I1,q1⟩:=Gu
 cases d with
 | true=>exact ha pins s1 σ H1 D I1 q1
 | false=>exact hb pins s1 σ H1 D I1 q1
def By:TS:=fun _ _ _=>False
theorem w4:PS X st By:=fun _ _ _ _ _ _ h=>h.elim
end
abbrev TG:=V->St->Hp->(St->Hp->Prop)->Prop
abbrev MM:=List V->St->Hp->(St->Hp->Prop)->Prop
def PG (X:Cx) (target:Expr) (t:TG):Prop:=
 ∀ (pins:List (Addr×Obj)) (s:Shared) (σ:St) (H:Hp) (v:V) (u:Value) (Q:St->Hp->Prop),Inv X pins σ H s->RelV v u->t v σ H Q->
  wpAny (model X.prog X.w) X.A (assign target X.env u) (fun _ s'=>∃ σ' H',Inv X pins σ' H' s'/\Q σ' H') X.xe s
def M1 (X:Cx) (ts:List Expr) (t:MM):Prop:=
 ∀ (pins:List (Addr×Obj)) (s:Shared) (σ:St) (H:Hp) (vs:List V) (us:List Value) (Q:St->Hp->Prop),Inv X pins σ H s->Vals vs us->t vs σ H Q->
  wpAny (model X.prog X.w) X.A (assignInOrder ((assignEach ts X.env).map (·.2)) us) (fun _ s'=>∃ σ' H',Inv X pins σ' H' s'/\Q σ' H') X.xe s
abbrev Fi:=V->V->V->Hp->(Hp->Prop)->Prop
def Fj (X:Cx) (t:Fi):Prop:=
 ∀ (pins:List (Addr×Obj)) (s:Shared) (σ:St) (H:Hp) (o i v:V) (ov iv u:Value) (Q:Hp->Prop),Inv X pins σ H s->RelV o ov->RelV i iv->RelV v u->t o i v H Q->
  wpAny (model X.prog X.w) X.A (setItem ov iv u) (fun _ s'=>∃ H',Inv X pins σ H' s'/\Q H') X.xe s
section
variable {X:Cx} {pos:Pos}
def Bz (i:Nat):TG:=fun v σ H Q=>Q (σ.set i (some v)) H
theorem y4 {i:Nat} {x:Str} (hN:X.N.Nodup) (hi:X.N[i]?=some x) (hx:Loc X.env.scope x) (hf:X.fn x=true\/X.env.scope.names.lookup x=some .local:=by first | exact .inl rfl | exact .inr rfl | assumption):PG X (.Name x pos) (Bz i):=by
 intro pins s σ H v u Q I r h
 exact wpAny_assign_Name (qV I hN hi hx r (fun s' I'=>⟨_,H,I',h⟩) hf)
def Fl:MM:=fun vs σ H Q=>vs=[]/\Q σ H
def DU (t:TG) (u:MM):MM:=fun vs σ H Q=>∃ v r,vs=v :: r/\t v σ H fun σ' H'=>u r σ' H' Q
theorem y6:M1 X [] Fl:=by
 intro pins s σ H vs us Q I r h
 obtain ⟨e,h⟩:=h
 subst e
 cases r
 exact assignInOrder_nil ⟨σ,H,I,h⟩
theorem w5 {e:Expr} {es:List Expr} {t:TG} {u:MM} (h1:PG X e t) (h2:M1 X es u)
  (hs:(assignEach (e :: es) X.env).map (·.2)=assign e X.env :: (assignEach es X.env).map (·.2):=by rfl):M1 X (e :: es) (DU t u):=by
 intro pins s σ H vs us Q I r h
 obtain ⟨v,vr,e1,h⟩:=h
 subst e1
 cases r with
 | cons r rr=>
  rw [hs]
  refine assignInOrder_cons (Gs (h1 pins s σ H _ _ _ I r h) fun _ s1 Gu=>?_)
  obtain ⟨σ1,H1,I1,q1⟩:=Gu
  exact h2 pins s1 σ1 H1 _ _ Q I1 rr q1
def Fm (K:W.Frag) (n:Nat) (t:MM):TG:=fun v σ H Q=>∃ a xs,v=.ref a/\SqT K H a xs/\xs.length=n/\t xs σ H Q
theorem BA {es:List Expr} {k:Nat} {t:MM} {n:Nat} (hc:X.calm=true) (h:M1 X es t)
  (hn:(assignEach es X.env).length=n:=by rfl) (KD:(assignEach es X.env).findIdx? (·.1)=none:=by rfl):PG X (.Tuple es k pos) (Fm X.K n t):=by
 intro pins s σ H v u Q I r hw
 obtain ⟨a,xs,e1,hq,hl,hw⟩:=hw
 subst e1
 cases r
 obtain ⟨F9,rv,ht,hz⟩:=I.tuple hq
 refine assign_Tuple_tuple (I.ok.hd hc) ht (by simp [hn,<-hl,rv.length]) KD fun h' hx=>?_
 have I1:Inv X pins σ H { s with heap:=h' }:=I.kept (t':=s.toks) fun b o e=>hx b o (R8 (RS e)) e
 exact h pins _ σ H xs _ Q I1 (by simpa using rv) hw
def EX (te:TE) (g:TG):TS:=fun D σ H=>te σ H fun x H1=>g x σ H1 D.nx
theorem BC {tg e:Expr} {te:TE} {g:TG} (he:PE X e te) (hg:PG X tg g) (hs:swapsWithSole [tg] e pos.line X.env=pure false:=by rfl) (hw:swappedStores [tg] e X.env=pure none:=by rfl)
  (h1:(assignEach [tg] X.env).map (·.2)=[assign tg X.env]:=by rfl):PS X (.Assign [tg] e pos) (EX te g):=by
 intro pins s σ H D I h
 refine wpAny_Assign_stores (Gs (he pins s σ H _ I h) fun v s1 ⟨x,H1,I1,r1,q1⟩=>?_) hs hw
 rw [h1]
 exact Gs (hg pins s1 σ H1 x v _ I1 r1 q1) fun _ s2 q=>q
theorem BD {i:Nat} {x:Str} {e:Expr} {te:TE} {pos':Pos} (hN:X.N.Nodup) (hi:X.N[i]?=some x) (hx:Loc X.env.scope x) (he:PE X e te) (hs:swapsWith e (some (.Name x pos')) pos.line X.env=pure false:=by rfl) (hf:X.fn x=true\/X.env.scope.names.lookup x=some .local:=by first | exact .inl rfl | exact .inr rfl | assumption) :
  PS X (.Assign [.Name x pos'] e pos) (EX te (Bz i)):=by
 intro pins s σ H D I h
 refine wpAny_Assign_Name (Gs (he pins s σ H _ I h) fun v s1 ⟨y,H1,I1,r1,q1⟩=>?_) hs
 exact qV I1 hN hi hx r1 (fun s2 I2=>⟨_,H1,I2,q1⟩) hf
end
section
variable {X:Cx} {pos:Pos}
def BE (c:TT) (tb:TS):TS:=fun D σ H=>∃ W:Nat->St->Hp->Prop,(∃ m,W m σ H)/\∀ m σ H,W m σ H->
 c σ H fun b H1=>if b=true then ∃ N:St->Hp->Prop,(∀ σ' H',N σ' H'->∃ m',m' < m/\W m' σ' H')/\tb { D with nx:=N,ct:=N,bk:=D.nx } σ H1 else D.nx σ H1
theorem w6 {c:Expr} {body:List Stmt} {tc:TT} {tb:TS} (hp:PassesOwn (model X.prog X.w) X.A X.env X.xe) (hc:PT X c tc) (hb:PSs X body tb):PS X (.While c body [] pos) (BE tc tb):=by
 intro pins s σ H D I h
 obtain ⟨W,⟨m0,w0⟩,turn⟩:=h
 refine wpAny_While (codeAny_whileLoop (fun n s'=>∃ σ' H',Inv X pins σ' H' s'/\W n σ' H') ?_ m0 ⟨σ,H,I,w0⟩)
 rintro n s1 ⟨σ1,H1,I1,w1⟩
 refine TN hp (Gs (hc pins s1 σ1 H1 _ I1 (turn n σ1 H1 w1)) fun b s2 Gu=>?_)
 obtain ⟨H2,I2,q2⟩:=Gu
 cases b with
 | true=>
  obtain ⟨N,hN,q2⟩:=q2
  rw [RO rfl]
  refine TN hp (Gs (hb pins s2 σ1 H2 _ I2 q2) fun f s3 q3=>?_)
  cases f with
  | next=>
   obtain ⟨σ3,H3,I3,n3⟩:=q3
   obtain ⟨m',hm,w3⟩:=hN σ3 H3 n3
   exact ⟨m',hm,σ3,H3,I3,w3⟩
  | cont=>
   obtain ⟨σ3,H3,I3,n3⟩:=q3
   obtain ⟨m',hm,w3⟩:=hN σ3 H3 n3
   exact ⟨m',hm,σ3,H3,I3,w3⟩
  | brk=>exact q3
  | ret v=>exact q3
 | false=>
  rw [RY RK]
  exact UR ⟨σ1,H2,I2,q2⟩
end
structure It where
 go:Nat->Hp->Prop
 yld:Nat->Hp->V->Hp->Prop
 stop:Nat->Hp->Prop
def uk (X:Cx) (pins:List (Addr×Obj)) (H:Hp) (b:Addr):Prop:=
 H b=none/\b≠X.env.locals/\b∉X.fs/\(b∈X.ex\/X.s₀.heap.objs.size<=b)/\(∀ x c,X.env.cells.lookup x=some c->c≠b)/\∀ p∈X.pn++pins,p.1≠b
theorem Inv.fpOk {X:Cx} {pins:List (Addr×Obj)} {σ:St} {H H':Hp} {s:Shared} {b:Addr} (I:Inv X pins σ H s) (hb:s.heap.objs.size<=b) (hn:H' b=none):uk X pins H' b:=by
 refine ⟨hn,VN (RZ I.lt hb),I.nofs hb,.inr (SJ I.sz hb),fun x c e z=>?_,fun p hp z=>?_⟩
 ·obtain ⟨v,q⟩:=I.cell x c e
  exact absurd (RZ q.lt (by rw [z];exact hb)) (TH _)
 ·exact absurd (RZ (RS (I.pin p hp).1) (by rw [z];exact hb)) (TH _)
structure Turn (P:Program) (w:World) (K:W.Frag) (tg:Expr) (J:It) (fp:List Addr) (it:Addr) (tn:Nat->Heap->Prop):Prop where
 mem:it∈fp
 obj:∀ i h,tn i h->∀ b∈fp,∃ o,h.get? b=some o/\∀ v,o.data≠.cell v
 keep:∀ i h h',tn i h->(∀ b∈fp,∀ o,h.get? b=some o->h'.get? b=some o)->tn i h'
 item:∀ (X:Cx),X.prog=P->X.w=w->X.K=K->X.calm=true->∀ (i:Nat) (pins:List (Addr×Obj)) (s:Shared) (σ:St) (H:Hp) (E:Value->Shared->Prop),Inv X pins σ H s->(∀ b∈fp,uk X pins H b)->tn i s.heap->J.go i H->
  wpAny (model P w) X.A (pyNext (.ref it)) (fun r s1=>∃ u,r=some u/\
   wpAny (model P w) X.A (letOwnedTupleGo tg (.ref it) u) (fun _ s2=>∃ x H',Inv X pins σ H' s2/\RelV x u/\J.yld i H x H'/\tn (i + 1) s2.heap/\∀ b∈fp,H' b=none) E s1) E s
 done:∀ (X:Cx),X.prog=P->X.w=w->X.K=K->X.calm=true->∀ (i:Nat) (pins:List (Addr×Obj)) (s:Shared) (σ:St) (H:Hp) (E:Value->Shared->Prop),Inv X pins σ H s->(∀ b∈fp,uk X pins H b)->tn i s.heap->J.stop i H->
  wpAny (model P w) X.A (pyNext (.ref it)) (fun r s1=>r=none/\Inv X pins σ H s1) E s
 self:∀ (A:Around) (i:Nat) (s:Shared) (Q:Value->Shared->Prop) (E:Value->Shared->Prop),tn i s.heap->Q (.ref it) s->wpAny (model P w) A (pyIter (.ref it)) Q E s
abbrev TI:=St->Hp->(It->Hp->Prop)->Prop
def QZ (X:Cx) (pins:List (Addr×Obj)) (σ:St) (tg:Expr) (R:It->Hp->Prop) (Pg:Value) (s2:Shared):Prop:=
 ∃ (it:Addr) (fp:List Addr) (tn:Nat->Heap->Prop) (J:It) (H':Hp),Pg=.ref it/\Inv X pins σ H' s2/\Turn X.prog X.w X.K tg J fp it tn/\tn 0 s2.heap/\(∀ b∈fp,uk X pins H' b)/\R J H'
def PI (X:Cx) (tg iter:Expr) (wi:TI):Prop:=
 ∀ (pins:List (Addr×Obj)) (s:Shared) (σ:St) (H:Hp) (R:It->Hp->Prop),Inv X pins σ H s->wi σ H R->
  wpAny (model X.prog X.w) X.A (eval iter X.env) (fun v s1=>wpAny (model X.prog X.w) X.A (pyIter v) (QZ X pins σ tg R) X.xe s1) X.xe s
theorem w9 {M : Model} {A : Around} {E : Value -> Shared -> Prop} {s : Shared} {tg : Expr} {it : Addr} {u : Value} {o : Obj} {n : String} {vs : Array Value} {Q : Unit -> Shared -> Prop} (ho : s.heap.get? it = some o) (hc : o.cls = .type n) (hd : o.data = .fields vs)
    (hn : ["enumerate", "zip", "dict_itemiterator", "dict_reverseitemiterator", "odict_iterator", "itertools.zip_longest", "itertools.pairwise"].contains n = false) (hQ : Q () s) : wpAny M A (letOwnedTupleGo tg (.ref it) u) Q E s := by
  unfold letOwnedTupleGo
  cases tg <;> first
    | exact RH hQ
    | (cases u <;> first
        | exact RH hQ
        | (refine RG (wpAny_load ho ?_)
           rw [hc, hd]
           show wpAny M A (if (["enumerate", "zip", "dict_itemiterator", "dict_reverseitemiterator", "odict_iterator", "itertools.zip_longest", "itertools.pairwise"].contains n && vs[0]? == some (rawInt _)) = true then _ else _) Q E s
           rw [RY (by intro h; rw [hn, Bool.false_and] at h; cases h)]
           exact RH hQ))
def N2 (K:W.Frag) (a:Addr):It:=
 ⟨fun i H=>∃ xs x,SqL K H a xs/\xs[i]?=some x,fun i H x H'=>H'=H/\∀ xs,SqL K H a xs->xs[i]?=some x,fun i H=>∃ xs,SqL K H a xs/\xs.length<=i⟩
def PY (K:W.Frag) (a:Addr):It:=
 ⟨fun i H=>∃ xs x,SqT K H a xs/\xs[i]?=some x,fun i H x H'=>H'=H/\∀ xs,SqT K H a xs->xs[i]?=some x,fun i H=>∃ xs,SqT K H a xs/\xs.length<=i⟩
def Oi (lo:Int) (n:Nat):It:=⟨fun i _=>i < n,fun i H x H'=>H'=H/\x=.int (lo + i),fun i _=>n<=i⟩
theorem uy {P:Program} {w:World} {K:W.Frag} {tg:Expr} (a it:Addr):Turn P w K tg (N2 K a) [it] it (fun i h=>h.IsListIter it a i) where
 mem:=by simp
 obj:=fun i h st b hb=>by
  have e:b=it:=by simpa using hb
  subst e
  obtain ⟨o,e,c,d⟩:=st
  exact ⟨o,e,fun v z=>by rw [d] at z;cases z⟩
 keep:=fun i h h' st k=>st.at fun o e=>k it (by simp) o e
 item:=by
  intro X hP hw hK hc i pins s σ H E I hf st hg
  subst hP hw hK
  obtain ⟨xs,x,hq,hx⟩:=hg
  obtain ⟨F9,rv,p,hz⟩:=I.list hq
  obtain ⟨u,hu,ru⟩:=rv.get hx
  obtain ⟨f0,f1,f2,f3,f4,f5⟩:=hf it (by simp)
  refine wpAny_pyNext_list_item st p.isList (x:=u) (by simpa using hu) fun h' IA sb=>?_
  have I1:Inv X pins σ H { s with heap:=h' }:=I.turned (t':=s.toks) (fun b o hb e=>(sb.2 b hb).trans e) f0 f1 f3 f4 f5
  obtain ⟨o,e,c,d⟩:=id IA
  exact ⟨u,rfl,w9 (s:={ s with heap:=h' }) e c d (by decide) ⟨x,H,I1,ru,⟨rfl,fun ys hy=>by rw [I.list_inj hy hq];exact hx⟩,IA,fun b hb=>(hf b hb).1⟩⟩
 done:=by
  intro X hP hw hK hc i pins s σ H E I hf st hg
  subst hP hw hK
  obtain ⟨xs,hq,hx⟩:=hg
  obtain ⟨F9,rv,p,hz⟩:=I.list hq
  obtain ⟨f0,f1,f2,f3,f4,f5⟩:=hf it (by simp)
  have hl:=rv.length
  exact wpAny_pyNext_list_end (I.ok.hd hc) st p.isList (by simp;lia) fun h' eb=>⟨rfl,I.turned (t':=s.toks) (fun b o hb e=>eb b o hb e) f0 f1 f3 f4 f5⟩
 self:=fun _ _ _ _ _ st h=>wpAny_pyIter_listiter st h
theorem tf {P:Program} {w:World} {K:W.Frag} {tg:Expr} (a it:Addr):Turn P w K tg (PY K a) [it] it (fun i h=>h.IsTupleIter it a i) where
 mem:=by simp
 obj:=fun i h st b hb=>by
  have e:b=it:=by simpa using hb
  subst e
  obtain ⟨o,e,c,d⟩:=st
  exact ⟨o,e,fun v z=>by rw [d] at z;cases z⟩
 keep:=fun i h h' st k=>st.at fun o e=>k it (by simp) o e
 item:=by
  intro X hP hw hK hc i pins s σ H E I hf st hg
  subst hP hw hK
  obtain ⟨xs,x,hq,hx⟩:=hg
  obtain ⟨F9,rv,p,hz⟩:=I.tuple hq
  obtain ⟨u,hu,ru⟩:=rv.get hx
  obtain ⟨f0,f1,f2,f3,f4,f5⟩:=hf it (by simp)
  refine wpAny_pyNext_tuple_item st (show s.heap.IsTuple a F9.toArray from p) (x:=u) (by simpa using hu) fun h' IA sb=>?_
  have I1:Inv X pins σ H { s with heap:=h' }:=I.turned (t':=s.toks) (fun b o hb e=>(sb.2 b hb).trans e) f0 f1 f3 f4 f5
  obtain ⟨o,e,c,d⟩:=id IA
  exact ⟨u,rfl,w9 (s:={ s with heap:=h' }) e c d (by decide) ⟨x,H,I1,ru,⟨rfl,fun ys hy=>by rw [I.tuple_inj hy hq];exact hx⟩,IA,fun b hb=>(hf b hb).1⟩⟩
 done:=by
  intro X hP hw hK hc i pins s σ H E I hf st hg
  subst hP hw hK
  obtain ⟨xs,hq,hx⟩:=hg
  obtain ⟨F9,rv,p,hz⟩:=I.tuple hq
  obtain ⟨f0,f1,f2,f3,f4,f5⟩:=hf it (by simp)
  have hl:=rv.length
  exact wpAny_pyNext_tuple_end (I.ok.hd hc) st (show s.heap.IsTuple a F9.toArray from p) (by simp;lia) fun h' eb=>⟨rfl,I.turned (t':=s.toks) (fun b o hb e=>eb b o hb e) f0 f1 f3 f4 f5⟩
 self:=fun _ _ _ _ _ st h=>wpAny_pyIter_tupleiter st h
theorem tj {P:Program} {w:World} {K:W.Frag} {tg:Expr} (it:Addr) (lo:Int) (n:Nat):Turn P w K tg (Oi lo n) [it] it (fun i h=>IsRangeIter h it (lo + (i:Nat) * 1) ((n:Int) - (i:Nat)) 1) where
 mem:=by simp
 obj:=fun i h st b hb=>by
  have e:b=it:=by simpa using hb
  subst e
  exact ⟨_,st,fun v z=>by
   have z':Data.fields _=Data.cell v:=z
   cases z'⟩
 keep:=fun i h h' st k=>k it (by simp) _ st
 item:=by
  intro X hP hw hK hc i pins s σ H E I hf st hg
  subst hP hw hK
  obtain ⟨f0,f1,f2,f3,f4,f5⟩:=hf it (by simp)
  have W:=Walks.range (prog:=X.prog) (w:=X.w) (I.ok.hd hc) it lo 1 n
  refine W.item i s _ _ hg st fun v h' tk hv IA kk=>?_
  obtain ⟨t,rfl⟩:=hv
  have I1:Inv X pins σ H { s with heap:=h',toks:=tk }:=I.turned (fun b o hb e=>kk b o (by simpa using hb) e) f0 f1 f3 f4 f5
  refine ⟨_,rfl,w9 (s:={ s with heap:=h',toks:=tk }) (n:="range_iterator") IA rfl rfl (by decide) ⟨.int (lo + i),H,I1,⟨t,?_⟩,⟨rfl,rfl⟩,IA,fun b hb=>(hf b hb).1⟩⟩
  rw [Int.mul_one]
 done:=by
  intro X hP hw hK hc i pins s σ H E I hf st hg
  subst hP hw hK
  obtain ⟨f0,f1,f2,f3,f4,f5⟩:=hf it (by simp)
  exact wpAny_pyNext_range_end (I.ok.hd hc) st (by have:n<=i:=hg;lia) fun h' eb=>⟨rfl,I.turned (t':=s.toks) (fun b o hb e=>eb b o hb e) f0 f1 f3 f4 f5⟩
 self:=fun _ _ _ _ _ st h=>wpAny_pyIter_rangeiter st h
section
variable {X:Cx} {tg:Expr}
def DV (K:W.Frag) (tl:TE):TI:=fun σ H R=>tl σ H fun x H1=>∃ a,x=.ref a/\(∃ xs,SqL K H1 a xs)/\R (N2 K a) H1
def Fn (K:W.Frag) (tl:TE):TI:=fun σ H R=>tl σ H fun x H1=>∃ a,x=.ref a/\(∃ xs,SqT K H1 a xs)/\R (PY K a) H1
theorem uz {l:Expr} {tl:TE} (hl:PE X l tl):PI X tg l (DV X.K tl):=by
 intro pins s σ H R I h
 refine Gs (hl pins s σ H _ I h) fun v s1 Gu=>?_
 obtain ⟨x,H1,I1,r1,q1⟩:=Gu
 obtain ⟨a,e,⟨xs,hq⟩,q⟩:=q1
 subst e
 cases r1
 obtain ⟨F9,rv,p,hz⟩:=I1.list hq
 refine TQ p.isList ?_
 refine ⟨s1.heap.objs.size,[s1.heap.objs.size],_,_,H1,rfl,I1.kept (t':=s1.toks) fun b o e=>Heap.get?_push_of_some _ e,uy a _,⟨_,Heap.get?_push_size _ rfl,rfl,rfl⟩,fun b hb=>?_,q⟩
 have e:b=s1.heap.objs.size:=by simpa using hb
 subst e
 exact I1.fpOk (RL _) (I1.hok.fresh (RL _))
theorem BF {l:Expr} {tl:TE} (hl:PE X l tl):PI X tg l (Fn X.K tl):=by
 intro pins s σ H R I h
 refine Gs (hl pins s σ H _ I h) fun v s1 Gu=>?_
 obtain ⟨x,H1,I1,r1,q1⟩:=Gu
 obtain ⟨a,e,⟨xs,hq⟩,q⟩:=q1
 subst e
 cases r1
 obtain ⟨F9,rv,p,hz⟩:=I1.tuple hq
 refine TJ (show s1.heap.IsTuple a F9.toArray from p) ?_
 refine ⟨s1.heap.objs.size,[s1.heap.objs.size],_,_,H1,rfl,I1.kept (t':=s1.toks) fun b o e=>Heap.get?_push_of_some _ e,tf a _,⟨_,Heap.get?_push_size _ rfl,rfl,rfl⟩,fun b hb=>?_,q⟩
 have e:b=s1.heap.objs.size:=by simpa using hb
 subst e
 exact I1.fpOk (RL _) (I1.hok.fresh (RL _))
theorem qW {pins:List (Addr×Obj)} {σ:St} {H:Hp} {s:Shared} {R:It->Hp->Prop} {E:Value->Shared->Prop} {lo hi:Int} {t u v:Tok} {tk:Nat} (I:Inv X pins σ H s) (h1 : -(2 ^ 62)<=lo) (h2:lo < 2 ^ 62) (h3 : -(2 ^ 62)<=hi) (h4:hi < 2 ^ 62)
  (q:R (Oi lo (hi - lo).toNat) H):wpAny (model X.prog X.w) X.A (pyIter (.ref s.heap.objs.size)) (QZ X pins σ tg R) E { s with heap:=s.heap.push { cls:=.type "range",data:=.fields #[.int lo t,.int hi u,.int 1 v] },toks:=tk }:=by
 refine wpAny_pyIter_range (IsRange.new ..) (small_one h1 h2 h3 h4) ?_
 have I1:Inv X pins σ H { s with heap:=s.heap.push { cls:=.type "range",data:=.fields #[.int lo t,.int hi u,.int 1 v] },toks:=tk }:=I.kept fun b o e=>Heap.get?_push_of_some _ e
 refine ⟨(s.heap.push { cls:=.type "range",data:=.fields #[.int lo t,.int hi u,.int 1 v] }).objs.size,[(s.heap.push { cls:=.type "range",data:=.fields #[.int lo t,.int hi u,.int 1 v] }).objs.size],_,_,H,rfl,
  I1.kept (t':=tk) fun b o e=>Heap.get?_push_of_some _ e,tj _ lo (hi - lo).toNat,?_,fun b hb=>?_,q⟩
 ·have e1:lo + ((0:Nat):Int) * 1=lo:=by simp
  have e2:(((hi - lo).toNat:Nat):Int) - ((0:Nat):Int)=Builtin.Range.rangeSize lo hi 1:=by rw [rangeSize_one];split <;> lia
  show IsRangeIter _ _ (lo + ((0:Nat):Int) * 1) ((((hi - lo).toNat:Nat):Int) - ((0:Nat):Int)) 1
  rw [e1,e2]
  exact Heap.get?_push_size _ rfl
 ·have e:b=(s.heap.push { cls:=.type "range",data:=.fields #[.int lo t,.int hi u,.int 1 v] }).objs.size:=by simpa using hb
  subst e
  exact I1.fpOk (RL _) (I1.hok.fresh (RL _))
def DW (ta:TA):TI:=fun σ H R=>ta σ H fun vs H1=>∃ j:Int,vs=[.int j]/\-(2 ^ 62)<=j/\j < 2 ^ 62/\R (Oi 0 j.toNat) H1
def DX (ta:TA):TI:=fun σ H R=>ta σ H fun vs H1=>∃ i j:Int,vs=[.int i,.int j]/\(-(2 ^ 62)<=i/\i < 2 ^ 62/\-(2 ^ 62)<=j/\j < 2 ^ 62)/\R (Oi i (j - i).toNat) H1
theorem uA {a:Expr} {ta:TA} {p pos:Pos} (hg:Gl X "range") (hm:X.mg "range" = none) (ha:PA X [a] ta) (hs:starEach [a] X.env=[(false,eval a X.env)]:=by rfl):PI X tg (.Call (.Name "range" p) [a] [] pos) (DW ta):=by
 intro pins s σ H R I h
 refine Call_ (ku I hg hm boot_range (Ts (Gs (ha pos pins s σ H _ I h) fun us s1 ⟨vs,H1,I1,r1,q1⟩=>?_) hs rfl))
 obtain ⟨j,e,q1,q2,q⟩:=q1
 subst e
 cases r1 with
 | cons r rr=>
  cases rr
  obtain ⟨t,rfl⟩:=r
  exact call_range_1 (qW I1 (by lia) (by lia) q1 q2 (by simpa using q))
theorem uB {a b:Expr} {ta:TA} {p pos:Pos} (hg:Gl X "range") (hm:X.mg "range" = none) (ha:PA X [a,b] ta) (hs:starEach [a,b] X.env=[(false,eval a X.env),(false,eval b X.env)]:=by rfl) (MN:starEach [b] X.env=[(false,eval b X.env)]:=by rfl) :
  PI X tg (.Call (.Name "range" p) [a,b] [] pos) (DX ta):=by
 intro pins s σ H R I h
 refine Call_ (ku I hg hm boot_range (Ts (Gs (ha pos pins s σ H _ I h) fun us s1 ⟨vs,H1,I1,r1,q1⟩=>?_) (by rw [hs,MN]) (by rw [MN];rfl)))
 obtain ⟨i,j,e,⟨q1,q2,q3,q4⟩,q⟩:=q1
 subst e
 cases r1 with
 | cons r rr=>
  cases rr with
  | cons r' rr=>
   cases rr
   obtain ⟨t,rfl⟩:=r
   obtain ⟨t',rfl⟩:=r'
   exact call_range_2 (qW I1 q1 q2 q3 q4 q)
def Fo (wi:TI) (g:TG) (tb:TS):TS:=fun D σ H=>wi σ H fun J H1=>∃ W:Nat->Nat->St->Hp->Prop,(∃ m,W 0 m σ H1)/\∀ i m σ H,W i m σ H->
 (J.stop i H/\D.nx σ H)\/(J.go i H/\∃ N:St->Hp->Prop,(∀ σ' H',N σ' H'->∃ m',m' < m/\W (i + 1) m' σ' H')/\∀ x H',J.yld i H x H'->g x σ H' fun σ2 H2=>tb { D with nx:=N,ct:=N,bk:=D.nx } σ2 H2)
def oP (fp:List Addr) (h:Heap):List (Addr×Obj):=fp.filterMap fun b=>(h.get? b).map fun o=>(b,o)
theorem iK {fp:List Addr} {h:Heap} {b:Addr} {o:Obj} (hb:b∈fp) (e:h.get? b=some o):(b,o)∈oP fp h:=UX.mpr ⟨b,hb,by rw [e];rfl⟩
theorem uC {fp:List Addr} {h:Heap} {p:Addr×Obj} (hp:p∈oP fp h):p.1∈fp/\h.get? p.1=some p.2:=by
 obtain ⟨b,hb,e⟩:=UX.mp hp
 cases q:h.get? b with
 | none=>rw [q] at e;cases e
 | some o=>
  rw [q] at e
  have e':(b,o)=p:=Sj e
  subst e'
  exact ⟨hb,q⟩
theorem Inv.pinned {pins:List (Addr×Obj)} {σ:St} {H:Hp} {s:Shared} {fp:List Addr} (I:Inv X pins σ H s) (hf:∀ b∈fp,uk X pins H b) (ho:∀ b∈fp,∃ o,s.heap.get? b=some o/\∀ v,o.data≠.cell v):Inv X (pins++oP fp s.heap) σ H s:=
 I.pins_of fun p hp=>(Sv.mp hp).elim (fun z=>I.pin p (RN _ z)) fun z=>by
  obtain ⟨hb,e⟩:=uC z
  obtain ⟨f0,f1,f2,_⟩:=hf p.1 hb
  obtain ⟨o,e',d⟩:=ho p.1 hb
  rw [e] at e';cases e'
  exact ⟨e,f0,f1,f2,d⟩
theorem Inv.unpinned {pins pl:List (Addr×Obj)} {σ:St} {H:Hp} {s:Shared} (I:Inv X (pins++pl) σ H s):Inv X pins σ H s:=I.pins_of fun p hp=>I.pin p (RN _ (RV _ hp))
theorem BG {iter:Expr} {body:List Stmt} {wi:TI} {g:TG} {tb:TS} {pos:Pos} (hp:PassesOwn (model X.prog X.w) X.A X.env X.xe) (hc:X.calm=true) (hi:PI X tg iter wi) (hg:PG X tg g) (hb:PSs X body tb)
  (hs:∀ x,foldedSetIterable iter X.env x=pure x:=by intro _;rfl):PS X (.For tg iter body [] pos) (Fo wi g tb):=by
 intro pins s σ H D I h
 refine wpAny_For (Gs (hi pins s σ H _ I h) fun v s1 h1=>Gs h1 fun Pg s2 h2=>?_) hs
 obtain ⟨it,fp,tn,J,H2,e,I2,T,Gk,f2,W,⟨m0,w0⟩,turn⟩:=h2
 subst e
 have Kd:∀ {H':Hp},(∀ b∈fp,H' b=none)->∀ b∈fp,uk X pins H' b:=fun hn b hb=>⟨hn b hb,(f2 b hb).2⟩
 refine codeAny_forLoop_any (fun n s'=>∃ i σ' H',Inv X pins σ' H' s'/\tn i s'.heap/\(∀ b∈fp,H' b=none)/\W i n σ' H') ?_ m0 ⟨0,σ,H2,I2,Gk,fun b hb=>(f2 b hb).1,w0⟩
 rintro n s3 ⟨i,σ3,H3,I3,GO,M3,w3⟩
 rcases turn i n σ3 H3 w3 with ⟨stop,qn⟩ | ⟨go,N,hN,step⟩
 ·refine TN hp (Gs (T.done X rfl rfl rfl hc i pins s3 σ3 H3 X.xe I3 (Kd M3) GO stop) fun r s4 Gu=>?_)
  obtain ⟨hr,I4⟩:=Gu
  subst hr
  exact UR ⟨σ3,H3,I4,qn⟩
 ·refine TN hp (Gs (T.item X rfl rfl rfl hc i pins s3 σ3 H3 X.xe I3 (Kd M3) GO go) fun r s4 Gu=>?_)
  obtain ⟨u,hr,h4⟩:=Gu
  subst hr
  refine TN hp (Gs h4 fun _ s5 Gu=>?_)
  obtain ⟨x,H5,I5,r5,y5,IW,PZ⟩:=Gu
  have P0:=I5.pinned (Kd PZ) (T.obj _ _ IW)
  refine TN hp (Gs (hg _ s5 σ3 H5 x u _ P0 r5 (step x H5 y5)) fun _ s6 Gu=>?_)
  obtain ⟨σ6,H6,I6,q6⟩:=Gu
  refine TN hp (Gs (hb _ s6 σ6 H6 _ I6 q6) fun f s7 q7=>?_)
  have again:∀ {σ7:St} {H7:Hp},Inv X (pins++oP fp s5.heap) σ7 H7 s7->N σ7 H7->∃ m,m < n/\∃ i σ' H',Inv X pins σ' H' s7/\tn i s7.heap/\(∀ b∈fp,H' b=none)/\W i m σ' H':=fun {σ7 H7} I7 n7=>by
   obtain ⟨m',hm,w7⟩:=hN σ7 H7 n7
   refine ⟨m',hm,i + 1,σ7,H7,I7.unpinned,T.keep _ _ _ IW fun b hb o e=>(I7.pin (b,o) (RN _ (RN _ (iK hb e)))).1,fun b hb=>?_,w7⟩
   obtain ⟨o,e,d⟩:=T.obj _ _ IW b hb
   exact (I7.pin (b,o) (RN _ (RN _ (iK hb e)))).2.1
  cases f with
  | next=>obtain ⟨σ7,H7,I7,n7⟩:=q7;exact again I7 n7
  | cont=>obtain ⟨σ7,H7,I7,n7⟩:=q7;exact again I7 n7
  | brk=>obtain ⟨σ7,H7,I7,q7⟩:=q7;exact ⟨σ7,H7,I7.unpinned,q7⟩
  | ret v=>obtain ⟨x7,σ7,H7,I7,r7,q7⟩:=q7;exact ⟨x7,σ7,H7,I7.unpinned,r7,q7⟩
end
theorem for_list {K:W.Frag} {a:Addr} {xs:List V} {g:TG} {tb:TS} {D:Ends} {σ:St} {H:Hp} (Pv:Nat->St->Hp->Prop) (h0:Pv 0 σ H) (hl:∀ i σ H,i<=xs.length->Pv i σ H->SqL K H a xs)
  (hs:∀ i x σ H,xs[i]?=some x->Pv i σ H->g x σ H fun σ2 H2=>tb { D with nx:=Pv (i + 1),ct:=Pv (i + 1),bk:=D.nx } σ2 H2) (hd:∀ σ H,Pv xs.length σ H->D.nx σ H) :
  ∃ W:Nat->Nat->St->Hp->Prop,(∃ m,W 0 m σ H)/\∀ i m σ H,W i m σ H->
   ((N2 K a).stop i H/\D.nx σ H)\/((N2 K a).go i H/\∃ N:St->Hp->Prop,(∀ σ' H',N σ' H'->∃ m',m' < m/\W (i + 1) m' σ' H')/\∀ x H',(N2 K a).yld i H x H'->g x σ H' fun σ2 H2=>tb { D with nx:=N,ct:=N,bk:=D.nx } σ2 H2):=by
 refine ⟨fun i m σ H=>m=xs.length - i/\i<=xs.length/\Pv i σ H,⟨xs.length,by simp,So _,h0⟩,?_⟩
 rintro i m σ H ⟨rfl,hi,p⟩
 have q:=hl i σ H hi p
 by_cases GV:i < xs.length
 ·refine .inr ⟨⟨xs,xs[i],q,by simp [GV]⟩,Pv (i + 1),fun σ' H' p'=>⟨xs.length - (i + 1),by lia,rfl,GV,p'⟩,fun x H' y=>?_⟩
  obtain ⟨e,y⟩:=y
  subst e
  exact hs i x σ _ (y xs q) p
 ·have e:i=xs.length:=by lia
  subst e
  exact .inl ⟨⟨xs,q,RL _⟩,hd σ H p⟩
abbrev R2:=V->V->Hp->VK->Prop
def Hf (X:Cx) (f:Value->Value->Sem Value) (r:R2):Prop:=
 ∀ (pins:List (Addr×Obj)) (s:Shared) (σ:St) (H:Hp) (x y:V) (v u:Value) (Q:VK),Inv X pins σ H s->RelV x v->RelV y u->r x y H Q->
  wpAny (model X.prog X.w) X.A (f v u) (EP X pins σ Q) X.xe s
def dI (X:Cx) (f:Value) (r:List V->Hp->VK->Prop):Prop:=
 ∀ (pins:List (Addr×Obj)) (s:Shared) (σ:St) (H:Hp) (xs:List V) (us:List Value) (Q:VK),Inv X pins σ H s->Vals xs us->r xs H Q->
  wpAny (model X.prog X.w) X.A (call f us) (EP X pins σ Q) X.xe s
def N3 (r:R2) (ta tb:TE):TE:=fun σ H Q=>ta σ H fun x H1=>tb σ H1 fun y H2=>r x y H2 Q
def rI (C:Int->Int->Prop) (g:Int->Int->V):R2:=fun x y H Q=>∃ i j,x=.int i/\y=.int j/\C i j/\Q (g i j) H
def N4 (g:Int->Int->V):R2:=fun x y H Q=>∃ i j,x=.int i/\y=.int j/\Q (g i j) H
section
variable {X:Cx} {a b c:Expr} {ta tb tc:TE} {pos:Pos}
theorem DY (ha:PE X a ta) (hb:PE X b tb) {pins:List (Addr×Obj)} {s:Shared} {σ:St} {H:Hp} {R:V->V->Hp->Prop} (I:Inv X pins σ H s)
  (h:ta σ H fun x H1=>tb σ H1 fun y H2=>R x y H2) {Q:Value->Shared->Prop} {f:Value->Value->Sem Value}
  (hf:∀ v u s2 x y H2,Inv X pins σ H2 s2->RelV x v->RelV y u->R x y H2->wpAny (model X.prog X.w) X.A (f v u) Q X.xe s2) :
  wpAny (model X.prog X.w) X.A (eval a X.env) (fun v s₁=>wpAny (model X.prog X.w) X.A (eval b X.env) (fun u s₂=>wpAny (model X.prog X.w) X.A (f v u) Q X.xe s₂) X.xe s₁) X.xe s:=by
 refine Gs (ha pins s σ H _ I h) fun v s1 Gu=>?_
 obtain ⟨x,H1,I1,r1,q1⟩:=Gu
 refine Gs (hb pins s1 σ H1 _ I1 q1) fun u s2 Gu=>?_
 obtain ⟨y,H2,I2,r2,q2⟩:=Gu
 exact hf v u s2 x y H2 I2 r1 r2 q2
theorem DZ {op:Operator} {r:R2} (ho:Hf X (binaryOp op) r) (ha:PE X a ta) (hb:PE X b tb):PE X (.BinOp a op b pos) (N3 r ta tb):=by
 intro pins s σ H Q I h
 exact wpAny_BinOp (DY ha hb I h fun v u s2 x y H2 I2 rx ry q=>ho pins s2 σ H2 x y v u Q I2 rx ry q)
theorem Oj {f:Value->Value->Sem Value} {C:Int->Int->Prop} {g:Int->Int->Int}
  (rule:∀ (i j:Int) (t u:Tok) (s:Shared) (Q:Value->Shared->Prop) (E:Value->Shared->Prop),C i j->Q (.int (g i j) s.toks) { s with toks:=s.toks + 1 }->wpAny (model X.prog X.w) X.A (f (.int i t) (.int j u)) Q E s) :
  Hf X f (rI C fun i j=>.int (g i j)):=by
 intro pins s σ H x y v u Q I rx ry h
 obtain ⟨i,j,rfl,rfl,hc,q⟩:=h
 obtain ⟨t,rfl⟩:=rx
 obtain ⟨t',rfl⟩:=ry
 exact rule i j t t' s _ _ hc ⟨.int (g i j),H,I.tok _,⟨_,rfl⟩,q⟩
theorem EY {f:Value->Value->Sem Value} {g:Int->Int->Int}
  (rule:∀ (i j:Int) (t u:Tok) (s:Shared) (Q:Value->Shared->Prop) (E:Value->Shared->Prop),Q (.int (g i j) s.toks) { s with toks:=s.toks + 1 }->wpAny (model X.prog X.w) X.A (f (.int i t) (.int j u)) Q E s) :
  Hf X f (N4 fun i j=>.int (g i j)):=by
 intro pins s σ H x y v u Q I rx ry h
 obtain ⟨i,j,rfl,rfl,q⟩:=h
 obtain ⟨t,rfl⟩:=rx
 obtain ⟨t',rfl⟩:=ry
 exact rule i j t t' s _ _ ⟨.int (g i j),H,I.tok _,⟨_,rfl⟩,q⟩
theorem EZ {f:Value->Value->Sem Value} {g:Int->Int->Bool}
  (rule:∀ (i j:Int) (t u:Tok) (s:Shared) (Q:Value->Shared->Prop) (E:Value->Shared->Prop),Q (.bool (g i j)) s->wpAny (model X.prog X.w) X.A (f (.int i t) (.int j u)) Q E s) :
  Hf X f (N4 fun i j=>.bl (g i j)):=by
 intro pins s σ H x y v u Q I rx ry h
 obtain ⟨i,j,rfl,rfl,q⟩:=h
 obtain ⟨t,rfl⟩:=rx
 obtain ⟨t',rfl⟩:=ry
 exact rule i j t t' s _ _ ⟨.bl (g i j),H,I,rfl,q⟩
def Fp (i j:Int):Prop:=0 < j/\j < 1073741824
def Fq (i j:Int):Prop:=0<=j/\j<=1000000/\i.natAbs < 2 ^ 64
def CMul (i j:Int):Prop:=(-(2 ^ 64) < i/\i < 2 ^ 64)\/(-(2 ^ 64) < j/\j < 2 ^ 64)
theorem CMul.ok {i j:Int} (h:CMul i j):IntMulOk i j:=by
 rcases h with ⟨h1,h2⟩ | ⟨h1,h2⟩
 ·exact .of_left (intBits_le_64 h1 h2)
 ·exact .of_right (intBits_le_64 h1 h2)
theorem BH:Hf X (binaryOp .Add) (N4 fun i j=>.int (i + j)):=EY fun _ _ _ _ _ _ _ q=>add_int q
theorem BI:Hf X (binaryOp .Sub) (N4 fun i j=>.int (i - j)):=EY fun _ _ _ _ _ _ _ q=>sub_int q
theorem BJ:Hf X (binaryOp .Mult) (rI CMul fun i j=>.int (i * j)):=Oj fun _ _ _ _ _ _ _ hc q=>mul_int q hc.ok
theorem y7:Hf X (binaryOp .FloorDiv) (rI Fp fun i j=>.int (i / j)):=Oj fun i j _ _ _ _ _ hc q=>by
 have h1:(0:Int) < j:=hc.1
 have h2:j < 1073741824:=hc.2
 exact floordiv_int (by lia) (by rw [Int.fdiv_eq_ediv_of_nonneg i (by lia)];exact q) (.inl (PyProof.noPylong_small (by lia)))
theorem BK:Hf X (binaryOp .Mod) (rI (fun _ j=>0 < j) fun i j=>.int (i % j)):=Oj fun i j _ _ _ _ _ hc q=>by
 have h1:(0:Int) < j:=hc
 exact mod_int' (by lia) (by rw [Int.fmod_eq_emod_of_nonneg i (by lia)];exact q)
theorem BL:Hf X (binaryOp .Pow) (rI Fq fun i j=>.int (i ^ j.toNat)):=Oj fun _ _ _ _ _ _ _ hc q=>pow_int_small hc.1 hc.2.1 hc.2.2 q
end
section
variable {X:Cx} {a b c:Expr} {ta tb tc:TE} {pos:Pos}
theorem uD {pins:List (Addr×Obj)} {σ:St} {H:Hp} {s:Shared} {Q:VK} {k k':Bool} (I:Inv X pins σ H s) (q:Q (.bl k) H) (e:k=k'):EP X pins σ Q (.bool k') s:=by
 subst e
 exact ⟨.bl k,H,I,rfl,q⟩
theorem D0:Hf X (compareOp .Lt) (N4 fun i j=>.bl (decide (i < j))):=EZ fun _ _ _ _ _ _ _ q=>lt_int q
theorem D1:Hf X (compareOp .Gt) (N4 fun i j=>.bl (decide (j < i))):=EZ fun _ _ _ _ _ _ _ q=>gt_int q
theorem uE:Hf X (compareOp .Lt) (fun x y H Q=>∃ i j,x=.str i/\y=.str j/\Q (.bl (decide (i.cps.toList < j.cps.toList))) H):=by
 intro pins s σ H x y v u Q I rx ry h
 obtain ⟨i,j,rfl,rfl,q⟩:=h
 obtain ⟨t,rfl⟩:=rx
 obtain ⟨t',rfl⟩:=ry
 exact lt_str (uD I q rfl)
theorem uF:Hf X (compareOp .In) (fun x y H Q=>∃ i j,x=.str i/\y=.str j/\Q (.bl (!(Builtin.Str.occurrences j i 0 j.length 1).isEmpty)) H):=by
 intro pins s σ H x y v u Q I rx ry h
 obtain ⟨i,j,rfl,rfl,q⟩:=h
 obtain ⟨t,rfl⟩:=rx
 obtain ⟨t',rfl⟩:=ry
 exact in_str (uD I q rfl)
theorem oQ:Hf X (compareOp .NotIn) (fun x y H Q=>∃ i j,x=.str i/\y=.str j/\Q (.bl (!(!(Builtin.Str.occurrences j i 0 j.length 1).isEmpty))) H):=by
 intro pins s σ H x y v u Q I rx ry h
 obtain ⟨i,j,rfl,rfl,q⟩:=h
 obtain ⟨t,rfl⟩:=rx
 obtain ⟨t',rfl⟩:=ry
 exact notIn_str (uD I q rfl)
theorem bD (b:Expr) {op:CmpOp} (h:op≠.In:=by decide) (h2:op≠.NotIn:=by decide):behindInMarks op b=false:=by
 have e1:(op == CmpOp.In)=false:=by cases op <;> first | rfl | exact absurd rfl h
 have e2:(op == CmpOp.NotIn)=false:=by cases op <;> first | rfl | exact absurd rfl h2
 cases b <;> simp [behindInMarks,e1,e2]
theorem y8 {op:CmpOp} {r:R2} (ho:Hf X (compareOp op) r) (ha:PE X a ta) (hb:PE X b tb) (hm:behindInMarks op b=false):PE X (.Compare a [op] [b] pos) (N3 r ta tb):=by
 intro pins s σ H Q I h
 exact wpAny_Compare1 (DY ha hb I h fun v u s2 x y H2 I2 rx ry q=>ho pins s2 σ H2 x y v u Q I2 rx ry q) hm
def D3 (t:TE):TT:=fun σ H Q=>t σ H fun x H'=>∃ k,x=.bl k/\Q k H'
theorem uG {op:CmpOp} {r:R2} (ho:Hf X (compareOp op) r) (ha:PE X a ta) (hb:PE X b tb) (hm:behindInMarks op b=false):PT X (.Compare a [op] [b] pos) (D3 (N3 r ta tb)):=by
 intro pins s σ H Q I h
 refine wpAny_isTrue_Compare1 (Gs (ha pins s σ H _ I h) fun v s1 ⟨x,H1,I1,r1,q1⟩=>Gs (hb pins s1 σ H1 _ I1 q1) fun u s2 ⟨y,H2,I2,r2,q2⟩=>
  Gs (ho pins s2 σ H2 x y v u _ I2 r1 r2 q2) fun c s3 ⟨z,H3,I3,r3,k,e,q3⟩=>?_) hm
 subst e
 cases r3
 exact S5 ⟨H3,I3,q3⟩
theorem mU:(sizeLine:Nat) < 2 ^ 63:=by rw [SU];decide
theorem tm:Hf X (binaryOp .Add) (fun x y H Q=>∃ i j,x=.str i/\y=.str j/\i.length + j.length<=sizeLine/\Q (.str (i++j)) H):=by
 intro pins s σ H x y v u Q I rx ry h
 obtain ⟨i,j,rfl,rfl,hz,q⟩:=h
 obtain ⟨t,rfl⟩:=rx
 obtain ⟨t',rfl⟩:=ry
 exact add_str (fun t' tk=>⟨.str (i++j),H,I.tok _,⟨_,rfl⟩,q⟩) hz
theorem e7 {x:V} {us:List Value} (r:Vals [x] us):∃ u,us=[u]/\RelV x u:=by
 cases r with
 | cons r1 r2=>cases r2;exact ⟨_,rfl,r1⟩
theorem xa {x y:V} {us:List Value} (r:Vals [x,y] us):∃ u w',us=[u,w']/\RelV x u/\RelV y w':=by
 cases r with
 | cons r1 r2=>
  cases r2 with
  | cons r3 r4=>cases r4;exact ⟨_,_,rfl,r1,r3⟩
theorem uH (hc:X.calm=true):dI X (.builtin "min") (fun xs H Q=>∃ i j,xs=[.int i,.int j]/\Q (.int (if j < i then j else i)) H):=by
 intro pins s σ H xs us Q I r h
 obtain ⟨i,j,rfl,q⟩:=h
 obtain ⟨u,w',rfl,⟨t,rfl⟩,⟨t',rfl⟩⟩:=xa r
 refine min_two_ints (I.ok.hd hc) fun h' tk k=>⟨_,H,I.kept k,?_,q⟩
 by_cases hj:j < i
 ·rw [RO hj,RO hj];exact ⟨_,rfl⟩
 ·rw [RY hj,RY hj];exact ⟨_,rfl⟩
end
section
variable {prog:Program} {w:World} {A:Around} {E:Value->Shared->Prop} {s:Shared} {K:W.Frag} {x dx C f:Addr} {mA:Str->Option Value} {name:Str} {v:Value}
end
theorem RelO.some_of {v:V} {o:Option Value} (r:RelO (some v) o):∃ u,o=some u/\RelV v u:=by
 cases o with
 | none=>exact (show False from r).elim
 | some u=>exact ⟨u,rfl,r⟩
theorem RelO.none_of {o:Option Value} (r:RelO none o):o=none:=by
 cases o with
 | none=>rfl
 | some u=>exact (show False from r).elim
section
variable {P:Program} {w:World} {H H':Hp} {h h':Heap} {a C dx:Addr} {fs fs':List (Str×V)}
end
section
variable {X:Cx} {pins:List (Addr×Obj)} {σ:St} {H:Hp} {s:Shared} {a C dx:Addr} {fs:List (Str×V)} {f:Str} {v:V} {A:Around} {E:Value->Shared->Prop}
end
section
variable {X:Cx} {o e value:Expr} {f:Str} {pos pos' tpos:Pos} {ta tv:TE}
end
section
variable {X:Cx} {pins:List (Addr×Obj)} {σ:St} {H:Hp} {s:Shared} {A:Around} {E:Value->Shared->Prop} {Q:Value->Shared->Prop} {c:Value} {b:Bool}
end
structure Room (k:Nat) (A:Around):Prop where
 hd:A.handled=none
 dp:A.depth + 3 * k + 5 < recursionLimit
 un:A.units + 16 * k + 200 < cLine
theorem Room.mono {j k:Nat} {A:Around} (r:Room k A) (h:j<=k):Room j A:=⟨r.hd,by have:=r.dp;lia,by have:=r.un;lia⟩
theorem Room.m {j k:Nat} {A:Around} (r:Room k A) (h:j<=k:=by decide):Room j A:=r.mono h
theorem Room.deeper {k:Nat} {A:Around} (r:Room (k + 1) A) (env:Env):Room k (A.deeper env):=
 ⟨r.hd,by have:=r.dp;show A.depth + 1 + 3 * k + 5 < _;lia,by have:=r.un;show A.units + 3 + 16 * k + 200 < _;lia⟩
theorem Room.depth {k:Nat} {A:Around} (r:Room k A):A.depth < recursionLimit:=by have:=r.dp;lia
theorem Room.units {k:Nat} {A:Around} (r:Room k A):A.units + 64 < cLine:=by have:=r.un;lia
theorem Room.units0 {k:Nat} {A:Around} (r:Room k A):A.units < cLine:=by have:=r.un;lia
def Bc:TA:=fun _ H Q=>Q [] H
def tq (ta:TE) (tr:TA):TA:=fun σ H Q=>ta σ H fun x H1=>tr σ H1 fun xs H2=>Q (x :: xs) H2
section
variable {X:Cx} {e:Expr} {es:List Expr} {te:TE} {t:TA} {pos:Pos}
theorem mV:PA X [] Bc:=fun _ _ _ _ H Q I h=>Calls.spliced_nil ⟨[],H,I,.nil,h⟩
theorem gy (ha:PE X e te) (hr:PA X es t) (hs:starEach (e :: es) X.env=(false,eval e X.env) :: starEach es X.env:=by rfl):PA X (e :: es) (tq te t):=by
 intro pos pins s σ H Q I h
 rw [hs]
 show wpAny _ _ (spliced ((false,eval e X.env) :: backTo pos (starEach es X.env))) _ _ s
 refine Calls.spliced_cons (Gs (ha pins s σ H _ I h) fun u s1 Gu=>?_)
 obtain ⟨x,H1,I1,r1,q1⟩:=Gu
 exact Gs (hr pos pins s1 σ H1 _ I1 q1) fun us s2 ⟨xs,H2,I2,r2,q2⟩=>⟨x :: xs,H2,I2,.cons r1 r2,q2⟩
def Fs (t:TA):TE:=fun σ H Q=>t σ H fun xs H1=>xs.length<=sizeLine/\∀ p,H1 p=none->Q (.ref p) (upd H1 p (.tup xs))
def Ft (t:TA):TE:=fun σ H Q=>t σ H fun xs H1=>xs.length<=sizeLine/\∀ p,H1 p=none->Q (.ref p) (upd H1 p (.lst xs))
theorem ye {x1} (h:PA X es t):PE X (.Tuple es x1 pos) (Fs t):=by
 intro pins s σ H Q I hq
 refine wpAny_Tuple_spliced (Gs (h pos pins s σ H _ I hq) fun us s1 ⟨xs,H1,I1,r,z,q⟩=>⟨by rw [<-r.length];exact z,?_⟩)
 have hf:H1 s1.heap.objs.size=none:=I1.hok.fresh (RL _)
 refine ⟨.ref s1.heap.objs.size,upd H1 s1.heap.objs.size (.tup xs),I1.laid (t':=s1.toks) (fun b u e=>Heap.get?_push_of_some _ e) (RL _) ?_,rfl,q _ hf⟩
 exact ⟨z,us,r,⟨_,Heap.get?_push_size _ rfl,rfl,⟨_,rfl⟩,rfl⟩⟩
theorem BM (h:PA X es t):PE X (.List es pos) (Ft t):=by
 intro pins s σ H Q I hq
 refine wpAny_List_spliced (Gs (h pos pins s σ H _ I hq) fun us s1 ⟨xs,H1,I1,r,z,q⟩=>⟨by rw [<-r.length];exact z,?_⟩)
 have hf:H1 s1.heap.objs.size=none:=I1.hok.fresh (RL _)
 refine ⟨.ref s1.heap.objs.size,upd H1 s1.heap.objs.size (.lst xs),I1.laid (t':=s1.toks) (fun b u e=>Heap.get?_push_of_some _ e) (RL _) ?_,rfl,q _ hf⟩
 exact ⟨z,us,0,r,Heap.get?_push_size _ rfl⟩
end
abbrev Sp:=List V->Hp->VK->XK->Prop
abbrev K4:=List Env->Hp->Shared->XK->Value->Shared->Prop
structure Env0 (P:Program) (w:World) (K:W.Frag) (mg:Str->Option Value) (base:Heap) (A:Around) (outer:List Env) (s:Shared) (H:Hp):Prop where
 frames:A.frames=some outer
 mod:Mod K mg base
 bs:∀ b o,base.get? b=some o->s.heap.get? b=some o/\H b=none
 bsz:base.objs.size<=s.heap.objs.size
 funs:s.heap.FunFrames base outer
 frf:∀ b∈KC outer,H b=none
 hok:HOk P w H s.heap
 bare:AllBare s.gens
def CE (outer:List Env) (P:Program) (w:World) (H:Hp) (s:Shared) (Q:VK) (u:Value) (s':Shared):Prop:=
 ∃ v H',s'.os=s.os/\AllBare s'.gens/\Un (KC outer) [] H H' s.heap s'.heap/\HOk P w H' s'.heap/\RelV v u/\Q v H'
def CR (CX:K4) (outer:List Env) (P:Program) (w:World) (H:Hp) (s:Shared) (Q:VK) (E:XK) (r:Result) (s':Shared):Prop:=
 match r with
 | .ok (.ret u)=>CE outer P w H s Q u s'
 | .ok _=>False
 | .error e=>CX outer H s E e s'
structure FnOk (P:Program) (w:World) (K:W.Frag) (mg:Str->Option Value) (base:Heap) (CX:K4) (k:Nat) (f:Addr) (fd:FuncData) (ps:List Str) (sp:Sp):Prop where
 len:∀ vs H Q E,sp vs H Q E->vs.length=ps.length
 run:∀ (A:Around) (outer:List Env) (s:Shared) (H:Hp) (args:Args) (us:List Value) (vs:List V) (Q:VK) (E:XK),Room k A->Env0 P w K mg base A outer s H->BindsTo s fd args (ps.zip us)->Vals vs us->sp vs H Q E->
  codeAny (model P w) A (.call (.ref f) args) (CR CX outer P w H s Q E) s
theorem FnOk.imp {P:Program} {w:World} {K:W.Frag} {mg:Str->Option Value} {base:Heap} {CX:K4} {k:Nat} {f:Addr} {fd:FuncData} {ps:List Str} {sp Q0:Sp} (F:FnOk P w K mg base CX k f fd ps sp)
  (h:∀ vs H Q E,Q0 vs H Q E->sp vs H Q E):FnOk P w K mg base CX k f fd ps Q0:=
 ⟨fun vs H Q E q=>F.len vs H Q E (h _ _ _ _ q),fun A outer s H args us vs Q E hr he hb hv hs=>F.run A outer s H args us vs Q E hr he hb hv (h _ _ _ _ hs)⟩
section
variable {X:Cx} {pins:List (Addr×Obj)} {σ:St} {H:Hp} {s s':Shared}
theorem Inv.env0 (I:Inv X pins σ H s):Env0 X.prog X.w X.K X.mg X.base X.A X.stack s H:=
 ⟨I.ok.frames,I.ok.mod,I.bs,SJ I.ok.bsz I.sz,I.stack,I.stkFree,I.hok,I.bare⟩
theorem Inv.after {Q:VK} {u:Value} (I:Inv X pins σ H s) (h:CE X.stack X.prog X.w H s Q u s'):EP X pins σ Q u s':=by
 obtain ⟨v,H',os,bare,un,hok,r,q⟩:=h
 obtain ⟨hh,g,d,t,os'⟩:=s'
 obtain rfl:os'=s.os:=os
 exact ⟨v,H',I.call (h':=hh) (g':=g) (d':=d) (t':=t) (ch:=[]) un hok bare (fun b z=>absurd z (by simp)),r,q⟩
end
def tCall (sp:Sp) (MO:List V) (E:XK) (t:TA):TE:=fun σ H Q=>t σ H fun vs H1=>sp (vs++MO) H1 Q E
def Binds (K:W.Frag) (fd:FuncData) (ps:List Str) (ds:List Value):Prop:=
 ∀ (s:Shared) (us:List Value),K.In s.heap->(us++ds).length=ps.length->BindsTo s fd ⟨us,[]⟩ (ps.zip (us++ds))
theorem Binds.all {K:W.Frag} {fd:FuncData} {ps:List Str} (h:∀ us:List Value,us.length=ps.length->bindArgs fd ⟨us,[]⟩=pure (ps.zip us)):Binds K fd ps []:=fun s us _ hl=>by
 rw [SW] at hl ⊢
 exact .of_eq (h us hl)
def uI (CX:K4) (X:Cx) (E:XK):Prop:=∀ (pins:List (Addr×Obj)) (σ:St) (H:Hp) (s:Shared) (e:Value) (s':Shared),Inv X pins σ H s->CX X.stack H s E e s'->X.xe e s'
section
variable {X:Cx} {CX:K4} {k:Nat} {f C:Addr} {fd:FuncData} {ps:List Str} {sp:Sp} {MO:List V} {ds:List Value} {E:XK} {x m:Str} {p pos apos:Pos} {e o:Expr} {es:List Expr} {ta:TE} {t:TA}
theorem BN {pins:List (Addr×Obj)} {σ:St} {H:Hp} {s:Shared} {Q:VK} {us:List Value} {vs:List V} (F:FnOk X.prog X.w X.K X.mg X.base CX k f fd ps sp) (hr:Room k X.A) (hb:Binds X.K fd ps ds) (hd:Vals MO ds) (hx:uI CX X E)
  (I:Inv X pins σ H s) (r:Vals vs us) (h:sp (vs++MO) H Q E):wpAny (model X.prog X.w) X.A (call (.ref f) us) (EP X pins σ Q) X.xe s:=by
 have r2:Vals (vs++MO) (us++ds):=r.append hd
 have hl:(us++ds).length=ps.length:=by rw [<-r2.length];exact F.len _ _ _ _ h
 refine wpAny_call (codeAny_mono (F.run X.A X.stack s H ⟨us,[]⟩ (us++ds) (vs++MO) Q E hr I.env0 (hb s us I.kIn hl) r2 h) fun r s' hq=>?_)
 cases r with
 | error e=>exact hx pins σ H s e s' I hq
 | ok fl=>
  cases fl with
  | ret u=>exact I.after hq
  | next=>exact False.elim hq
  | brk=>exact False.elim hq
  | cont=>exact False.elim hq
theorem y9 (F:FnOk X.prog X.w X.K X.mg X.base CX k f fd ps sp) (hr:Room k X.A) (hg:Gl X x) (hm:X.mg x=some (.ref f)) (hk:PySem.W.keepIn X.K (.ref f)=true) (hb:Binds X.K fd ps ds) (hd:Vals MO ds) (hx:uI CX X E)
  (ha:PA X (e :: es) t) (Jk:(x == ("__debug__" : Str))=false:=by decide) (he:starEach (e :: es) X.env=(false,eval e X.env) :: starEach es X.env:=by rfl) (Iq:(backTo pos (starEach es X.env)).any (·.1)=false:=by rfl) :
  PE X (.Call (.Name x p) (e :: es) [] pos) (tCall sp MO E t):=by
 intro pins s σ H Q I h
 refine TK (yY I hg hm ?_ Jk)
 refine PySem.W.callWith_K (h₀:=X.base) I.ok.mod.kin hk (Gs (ha pos pins s σ H _ I h) fun us s1 ⟨vs,H1,I1,r,q⟩=>⟨I1.kIn,?_⟩) he Iq
 exact BN F hr hb hd hx I1 r q
end
def PK (X:Cx) (Ol:List Keyword) (t:TA):Prop:=
 ∀ (pos:Pos) (pins:List (Addr×Obj)) (s:Shared) (σ:St) (H:Hp) (Q:List V->Hp->Prop),Inv X pins σ H s->t σ H Q->wpAny (model X.prog X.w) X.A (evalAll ((backToKw pos (keywordEach Ol X.env)).map (·.2))) (AP X pins σ Q) X.xe s
section
variable {X:Cx} {CX:K4} {k:Nat} {f C:Addr} {fd:FuncData} {ps ks:List Str} {sp:Sp} {E:XK} {x m:Str} {p pos apos Jy:Pos} {e o:Expr} {es:List Expr} {Ol:List Keyword} {te ta:TE} {t tk:TA} {nm:Option Str}
theorem yf:PK X [] Bc:=fun _ _ _ _ H Q I h=>wpAny_evalAll_nil ⟨[],H,I,.nil,h⟩
theorem uJ (ha:PE X e te) (hr:PK X Ol t):PK X (⟨nm,e,Jy⟩ :: Ol) (tq te t):=by
 intro pos pins s σ H Q I h
 show wpAny _ _ (evalAll ((do let v <-eval e X.env;standAt pos;pure v) :: (backToKw pos (keywordEach Ol X.env)).map (·.2))) _ _ s
 refine wpAny_evalAll_cons (RG (Gs (ha pins s σ H _ I h) fun u s1 ⟨x,H1,I1,r1,q1⟩=>RG (VF (RH ?_))))
 exact Gs (hr pos pins s1 σ H1 _ I1 q1) fun us s2 ⟨xs,H2,I2,r2,q2⟩=>⟨x :: xs,H2,I2,.cons r1 r2,q2⟩
variable {g:List Value->List Value->List Value} {gV:List V->List V->List V}
end
structure FnScope (N P:List Str) (sc:Scope):Prop where
 kind:sc.kind=.function
 co:sc.isCoroutine=false
 gen:sc.isGenerator=false
 nd:N.Nodup
 pre:N.take P.length=P
 par:∀ x∈P,sc.names.lookup x=some .local\/sc.names.lookup x=some .cell
 nofree:∀ y∈sc.names,y.2≠.free
theorem fs {N P:List Str} {sc:Scope} (a:sc.kind=.function:=by rfl) (b:sc.isCoroutine=false:=by rfl) (c:sc.isGenerator=false:=by rfl) (d:N.Nodup:=by decide +kernel) (e:N.take P.length=P:=by rfl) (f:∀ x∈P,sc.names.lookup x=some .local\/sc.names.lookup x=some .cell:=by decide +kernel) (g:∀ y∈sc.names,y.2≠.free:=by decide +kernel):FnScope N P sc:=⟨a,b,c,d,e,f,g⟩
theorem oR {kindOf:Str->Option NameKind} {x:Str}:∀ {binds:List (Str×Value)} {m:Str->Option Value},(∀ v,(x,v)∉binds)->bindL kindOf binds m x=m x
 | [],_,_=>rfl
 | (n,v) :: r,m,h=>by
  unfold bindL
  rw [oR fun w hw=>h w (RU _ hw)]
  split
  ·have:x≠n:=by rintro rfl;exact h v RM
   simp [this]
  ·rfl
theorem oS {kindOf:Str->Option NameKind} {x:Str}:∀ {binds:List (Str×Value)} {m:Str->Option Value},(∀ v,(x,v)∉binds)->bindC kindOf binds m x=m x
 | [],_,_=>rfl
 | (n,v) :: r,m,h=>by
  unfold bindC
  rw [oS fun w hw=>h w (RU _ hw)]
  split
  ·rfl
  ·have:x≠n:=by rintro rfl;exact h v RM
   simp [this]
theorem oT {kindOf:Str->Option NameKind} {x:Str} {v:Value}:∀ {P:List Str} {vs:List Value} {i:Nat} {m:Str->Option Value},P.Nodup->P[i]?=some x->vs[i]?=some v->kindOf x=some .local->
  bindL kindOf (P.zip vs) m x=some v
 | [],_,_,_,_,h,_,_=>by simp at h
 | _ :: _,[],_,_,_,_,h,_=>by simp at h
 | p :: P,w :: vs,0,m,nd,h1,h2,hk=>by
  simp at h1 h2;subst h1;subst h2
  show bindL kindOf ((p,w) :: P.zip vs) m p=_
  unfold bindL
  rw [oR fun v hv=>(Se.mp nd).1 (Uq hv).1,RO hk]
  simp
 | p :: P,w :: vs,i + 1,m,nd,h1,h2,hk=>by
  show bindL kindOf ((p,w) :: P.zip vs) m x=_
  unfold bindL
  exact oT (i:=i) (Se.mp nd).2 (by simpa using h1) (by simpa using h2) hk
theorem oU {kindOf:Str->Option NameKind} {x:Str} {v:Value}:∀ {P:List Str} {vs:List Value} {i:Nat} {m:Str->Option Value},P.Nodup->P[i]?=some x->vs[i]?=some v->kindOf x≠some .local->
  bindC kindOf (P.zip vs) m x=some v
 | [],_,_,_,_,h,_,_=>by simp at h
 | _ :: _,[],_,_,_,_,h,_=>by simp at h
 | p :: P,w :: vs,0,m,nd,h1,h2,hk=>by
  simp at h1 h2;subst h1;subst h2
  show bindC kindOf ((p,w) :: P.zip vs) m p=_
  unfold bindC
  rw [oS fun v hv=>(Se.mp nd).1 (Uq hv).1,RY hk]
  simp
 | p :: P,w :: vs,i + 1,m,nd,h1,h2,hk=>by
  show bindC kindOf ((p,w) :: P.zip vs) m x=_
  unfold bindC
  exact oU (i:=i) (Se.mp nd).2 (by simpa using h1) (by simpa using h2) hk
def start (N:List Str) (vs:List V):St:=vs.map some++List.replicate (N.length - vs.length) none
def yg (CX:K4) (P:Program) (w:World) (K:W.Frag) (mg:Str->Option Value) (base:Heap) (N:List Str) (qual:Str) (scope:Scope) (f:Addr) (cd:Value) (A:Around) (outer:List Env) (s:Shared) (H:Hp) (E:XK):Cx where
 prog:=P
 w:=w
 K:=K
 mg:=mg
 base:=base
 A:=A.deeper (envOfC qual scope s.heap.objs.size f cd)
 N:=N
 s₀:=s
 H₀:=H
 env:=envOfC qual scope s.heap.objs.size f cd
 outer:=outer
 stack:=envOfC qual scope s.heap.objs.size f cd :: outer
 ex:=[]
 calm:=true
 fn:=fun _=>true
 pn:=[]
 xe:=fun e s'=>wpAny (model P w) (A.deeper (envOfC qual scope s.heap.objs.size f cd)) (leaving (envOfC qual scope s.heap.objs.size f cd) e) (fun _ P1=>CX outer H s E e P1) (fun e' P1=>CX outer H s E e' P1) s'
theorem qX {sc:Scope} {n:Nat} {x:Str} (h:sc.names.lookup x=some .cell):∃ c,(cellsFrom n sc.names []).lookup x=some c:=by
 have q:=PySem.W.cellsFrom_some sc.names n [] (.inl h)
 exact S6.mp q
theorem uK {CX:K4} {P:Program} {w:World} {K:W.Frag} {mg:Str->Option Value} {base:Heap} {N ps:List Str} {qual:Str} {scope:Scope} {f:Addr} {cd:Value} {A:Around} {outer:List Env} {s s1:Shared} {H:Hp} {E:XK} {us:List Value} {vs:List V}
  (S:FnScope N ps scope) (hd:A.handled=none) (e0:Env0 P w K mg base A outer s H) (hl:vs.length=ps.length) (r:Vals vs us)
  (x:InCallC s s.heap.objs.size (bindL (envOfC qual scope s.heap.objs.size f cd).kindOf (ps.zip us) fun _=>none) (cellsFrom (s.heap.objs.size + 1) scope.names []) (bindC (envOfC qual scope s.heap.objs.size f cd).kindOf (ps.zip us) fun _=>none) s1) :
  Inv (yg CX P w K mg base N qual scope f cd A outer s H E) [] (start N vs) H s1:=by
 have Iq:ps.length<=N.length:=by have:=SY List.length S.pre;rw [Su] at this;lia
 obtain ⟨h1,tk,rfl,hk⟩:=x.done
 have Om:∀ b:Addr,b∉(yg CX P w K mg base N qual scope f cd A outer s H E).ex:=fun b z=>absurd (show b∈([]:List Addr) from z) (by simp)
 refine ⟨⟨e0.mod,S.kind,rfl,rfl,RL _,fun y z c h1 h2=>?_,fun y hy=>?_,fun y c _ h=>?_,fun _=>hd,Around.frames_deeper e0.frames,.inr ⟨rfl,rfl⟩,fun b z=>absurd z (Om b),e0.bs,e0.bsz,fun b _ _=>Om b,fun b z=>absurd z (Om b),e0.funs,e0.frf⟩,
  rfl,e0.bare,Un.kept hk,⟨_,x.toInCall.ns,fun i y v h1 h2 h3=>?_⟩,fun y c h=>⟨_,x.cell y c h⟩,e0.hok.fresh (RL _),fun y c h=>?_,fun p hp=>absurd (show p∈([]:List (Addr×Obj)) from hp) (by simp),e0.hok.kept hk,?_⟩
 ·exact name_of_addr x.apart (Tt h1) (Tt h2)
 ·have hy:scope.names.lookup y=some .cell\/scope.names.lookup y=some .free:=hy
  rcases hy with hy | hy
  ·exact qX hy
  ·exact absurd rfl (S.nofree _ (Tt hy))
 ·exact Vn (x.above y c (Tt h))
 ·have hi:i < vs.length:=by
   unfold start at h2
   by_cases hi:i < vs.length
   ·exact hi
   ·rw [List.getElem?_append_right (by simpa using hi)] at h2
    rw [List.getElem?_replicate] at h2
    split at h2 <;> cases h2
  have ha:vs[i]?=some v:=by
   unfold start at h2
   rw [List.getElem?_append_left (by simpa using hi),List.getElem?_map] at h2
   cases e:vs[i]? with
   | none=>rw [e] at h2;cases h2
   | some a=>rw [e] at h2;cases h2;rfl
  obtain ⟨u,hu,rv⟩:=r.get ha
  have hp:ps[i]?=some y:=by
   rw [<-S.pre,List.getElem?_take_of_lt (by lia)];exact h1
  have Q1:ps.Nodup:=by rw [<-S.pre];exact S.nd.sublist (U2 _ _)
  refine ⟨u,rv,?_⟩
  rcases S.par y (RW hp) with k | k
  ·exact .inl ⟨k,oT Q1 hp hu k⟩
  ·obtain ⟨c,e⟩:=qX (n:=s.heap.objs.size + 1) k
   refine .inr ⟨.inl k,c,e,?_⟩
   have q:=x.cell y c e
   rw [oU Q1 hp hu (by show scope.names.lookup y≠_;rw [k];decide)] at q
   exact q
 ·exact e0.hok.fresh (Vn (x.above y c (Tt h)))
 ·unfold start
  show _=N.length
  rw [SD,RJ,List.length_replicate]
  lia
theorem D4 {CX:K4} {P:Program} {w:World} {K:W.Frag} {mg:Str->Option Value} {base:Heap} {k:Nat} {f:Addr} {name qual:Str} {params:Arguments} {body:List Stmt} {scope:Scope} {dV kV doc pm Gy ct oc:Value} {an od:Option Addr}
  {LL:Array (Option Value)} {N ps:List Str} {sp:Sp} (lk:K.lookup f=some ⟨oc,od,.func (PySem.W.fnOf name qual params body scope dV kV doc pm an Gy ct),LL⟩) (Ld:PySem.W.codeIn K Gy qual=true) (S:FnScope N ps scope)
  (len:∀ vs H Q E,sp vs H Q E->vs.length=ps.length)
  (Le:∀ (A:Around) (outer:List Env) (s:Shared) (H:Hp) (vs:List V) (Q:VK) (E:XK),Room k (A.deeper (envOfC qual scope s.heap.objs.size f Gy))->sp vs H Q E->
   ∃ t,PSs (yg CX P w K mg base N qual scope f Gy A outer s H E) body t/\t { nx:=fun _ H'=>Q .non H',rt:=Q } (start N vs) H) :
  FnOk P w K mg base CX (k + 1) f (PySem.W.fnOf name qual params body scope dV kV doc pm an Gy ct) ps sp:=by
 refine ⟨len,fun A outer s H args us vs Q E hr e0 hb r Lf=>?_⟩
 have hl:=len _ _ _ _ Lf
 have KX:K.In s.heap:=e0.mod.kin.keeps fun b o e=>(e0.bs b o e).1
 have lim:s.heap.NoLimit:=e0.mod.nolimit.keeps fun b o e=>(e0.bs b o e).1
 have IX:∀ y∈ps.zip us,scope.names.lookup y.1=some .local\/(scope.names.lookup y.1=some .cell/\((cellsFrom (s.heap.objs.size + 1) scope.names []).lookup y.1).isSome=true):=fun Gp hy=>by
  obtain ⟨n,v⟩:=Gp
  rcases S.par n (Uq hy).1 with q | q
  ·exact .inl q
  ·exact .inr ⟨q,PySem.W.cellsFrom_some _ _ _ (.inl q)⟩
 refine codeAny_call_function hr.depth (KX _ _ lk) rfl S.co S.gen rfl (PySem.W.codeRec_of KX Ld) (hb _ _ _ _ ?_)
 refine wpAny_newFunctionEnv_cells S.kind IX fun env he s1 x=>?_
 subst he
 refine ⟨lim.keeps x.toInCall.keep,codeAny_func ?_⟩
 obtain ⟨t,ht,hq⟩:=Le A outer s H vs Q E (hr.deeper _) Lf
 have I:Inv (yg CX P w K mg base N qual scope f Gy A outer s H E) [] (start N vs) H s1:=uK S hr.hd e0 hl r x
 refine Ul (ht [] s1 (start N vs) H _ I hq) (fun fl s' hs=>?_) fun e s' hs=>hs
 have fin:∀ {σ':St} {H':Hp} {v:V} {u:Value},Inv (yg CX P w K mg base N qual scope f Gy A outer s H E) [] σ' H' s'->RelV v u->Q v H'->CE outer P w H s Q u s':=
  fun {σ' H' v u} J rv q=>⟨v,H',J.os,J.bare,J.base,J.hok,rv,q⟩
 cases fl with
 | ret u=>
  obtain ⟨v,σ',H',J,rv,q⟩:=hs
  exact fin J rv q
 | next=>
  obtain ⟨σ',H',J,q⟩:=hs
  exact fin (v:=V.non) (u:=Value.none) J rfl q
 | brk=>
  obtain ⟨_,_,_,q⟩:=hs
  exact False.elim q
 | cont=>
  obtain ⟨_,_,_,q⟩:=hs
  exact False.elim q
section
variable {X:Cx} {x:Str} {p pos:Pos} {e:Expr} {es:List Expr} {t:TA} {id T:String} {r:List V->Hp->VK->Prop}
def P2 (r:List V->Hp->VK->Prop) (t:TA):TE:=fun σ H Q=>t σ H fun vs H1=>r vs H1 Q
theorem qY (hc:dI X (.builtin id) r) (hg:Gl X x) (hm:X.mg x=none) (hv:bootBuiltins x=some (.builtin id)) (ha:PA X (e :: es) t) (hn:x≠"__name__":=by decide) (Jk:(x == ("__debug__" : Str))=false:=by decide)
  (he:starEach (e :: es) X.env=(false,eval e X.env) :: starEach es X.env:=by rfl) (Iq:(backTo pos (starEach es X.env)).any (·.1)=false:=by rfl):PE X (.Call (.Name x p) (e :: es) [] pos) (P2 r t):=by
 intro pins s σ H Q I h
 refine TK (ku I hg hm hv ?_ hn Jk)
 exact PyProof.Rows.callWith_builtin1 (Gs (ha pos pins s σ H _ I h) fun us s1 ⟨vs,H1,I1,r1,q1⟩=>hc pins s1 σ H1 vs us Q I1 r1 q1) he Iq
theorem uL (hc:dI X (.type T) r) (hg:Gl X x) (hm:X.mg x=none) (hv:bootBuiltins x=some (.type T)) (ha:PA X (e :: es) t) (hn:x≠"__name__":=by decide) (Jk:(x == ("__debug__" : Str))=false:=by decide)
  (he:starEach (e :: es) X.env=(false,eval e X.env) :: starEach es X.env:=by rfl) (Iq:(backTo pos (starEach es X.env)).any (·.1)=false:=by rfl):PE X (.Call (.Name x p) (e :: es) [] pos) (P2 r t):=by
 intro pins s σ H Q I h
 refine TK (ku I hg hm hv ?_ hn Jk)
 exact Ts (Gs (ha pos pins s σ H _ I h) fun us s1 ⟨vs,H1,I1,r1,q1⟩=>hc pins s1 σ H1 vs us Q I1 r1 q1) he Iq
end
end L2
namespace HT
open PySem PyProof.Rows
section
open PySem.SeqAt
open PySem.AutoSeq1 (wpAny_loadPart')
open PySem.MeetsSeq PySem.MeetsSeq2 PySem.MeetsSeq3
end
section
variable {prog:Program} {w:World} {A:Around} {E:Value->Shared->Prop} {s:Shared}
theorem za {t b:Addr} {vs ws:List Value} {Q:Value->Shared->Prop} (ht:IsTup s.heap t vs.toArray) (hb:IsTup s.heap b ws.toArray) (hv:vs≠[])
  (h1:ws=[]->Q (.ref t) s) (h2:ws≠[]->Q (.ref s.heap.objs.size) { s with heap:=s.heap.push { cls:=.type "tuple",data:=.seq (vs++ws).toArray } })
  (hsz:vs.length + ws.length<=sizeLine):wpAny (model prog w) A (binaryOp .Add (.ref t) (.ref b)) Q E s:=by
 obtain ⟨⟨cls,dd,data,sl⟩,ho,hc,n,hd⟩:=id ht
 obtain ⟨⟨M4,LM,data2,LN⟩,Ir,HU,n2,hd2⟩:=id hb
 simp only at hc hd HU hd2
 subst hc hd HU hd2
 have e:vs.toArray++ws.toArray=(vs++ws).toArray:=by simp
 by_cases hw:ws=[]
 ·exact Vo ⟨_,ho,rfl⟩ ⟨_,Ir,rfl⟩ Vf VG UA Ur (Um _ _)
   (tuple_addW1 t b vs.toArray ws.toArray n n2 dd LM sl LN (by simpa using hv) (by simp [hw])) ⟨ho,Ir,h1 hw⟩
 ·refine Vo ⟨_,ho,rfl⟩ ⟨_,Ir,rfl⟩ Vf VG UA Ur (Um _ _)
   (tuple_addW2 t b vs.toArray ws.toArray n n2 dd LM sl LN (by simpa using hv) (by simpa using hw) (by rw [RI,RI];exact hsz)) ⟨ho,Ir,?_⟩
  rw [e]
  exact h2 hw
def sIx (n d:Nat):Option Int->Nat
 | none=>d
 | some v=>if v < 0 then (v + (n:Int)).toNat else min v.toNat n
theorem qZ (n d:Nat):sIx n d none=d:=rfl
theorem nv (n d k:Nat):sIx n d (some (k:Int))=min k n:=by
 show (if (k:Int) < 0 then ((k:Int) + (n:Int)).toNat else min (k:Int).toNat n)=min k n
 rw [RY (by lia),Sk]
theorem uM (n d:Nat) (hd:d<=n) (o:Option Int):sIx n d o<=n:=by
 cases o with
 | none=>exact hd
 | some v=>
  show (if v < 0 then (v + (n:Int)).toNat else min v.toNat n)<=n
  by_cases hv:v < 0
  ·rw [RO hv];lia
  ·rw [RY hv];exact Nat.min_le_right _ _
theorem uN (v:Int) (n d:Nat):(if v < 0 then max (v + (n:Int)) 0 else min v (n:Int))=((sIx n d (some v):Nat):Int):=by
 show (if v < 0 then max (v + (n:Int)) 0 else min v (n:Int))=(((if v < 0 then (v + (n:Int)).toNat else min v.toNat n):Nat):Int)
 by_cases hv:v < 0
 ·simp only [RO hv];lia
 ·simp only [RY hv];lia
theorem tu (lo hi:Option Int) (n:Nat):Builtin.Slice.sliceAdjust lo hi 1 (n:Int)=(((sIx n 0 lo:Nat):Int),((sIx n n hi:Nat):Int)):=by
 have h1:¬ ((1:Int) < 0):=by lia
 unfold Builtin.Slice.sliceAdjust
 simp only [h1,UH]
 refine Prod.ext ?_ ?_
 ·cases lo with
  | none=>rfl
  | some v=>exact uN v n 0
 ·cases hi with
  | none=>rfl
  | some v=>exact uN v n n
theorem tw (i j:Nat):Builtin.Slice.slicePlaces (i:Int) (j:Int) 1=j - i:=by
 unfold Builtin.Slice.slicePlaces
 have h1:(1:Int) > 0:=by lia
 simp only [h1,Us,Int.ediv_one]
 split <;> lia
theorem mW {v:Value} {o:Option Int} {Q:Option Int->Shared->Prop} (p:IsPart v o) (h:Q o s):wpAny (model prog w) A (Builtin.Slice.slicePartIndex v) Q E s:=by
 cases p with
 | none=>exact slicePart_none h
 | int i t=>exact slicePart_int h
theorem gQ {sl:Addr} {vl vu:Value} {lo hi:Option Int} {n:Nat} {Q:Int×Int×Nat->Shared->Prop} (hs:s.heap.IsSliceOf sl vl vu .none) (pl:IsPart vl lo) (pu:IsPart vu hi)
  (h:Q (((sIx n 0 lo:Nat):Int),1,sIx n n hi - sIx n 0 lo) s):wpAny (model prog w) A (Builtin.Slice.sliceApplied (.ref sl) (pure (n:Int))) Q E s:=by
 obtain ⟨os,M5,Ph,LZ⟩:=id hs
 unfold Builtin.Slice.sliceApplied Builtin.Slice.sliceFields
 refine RG (RG (S7 M5 LZ (x:=vl) rfl (RG (S7 M5 LZ (x:=vu) rfl (RG (S7 M5 LZ (x:=.none) rfl (RH ?_)))))))
 refine RG (slicePart_none ?_)
 show wpAny _ _ (if ((1:Int) == 0)=true then _ else _) _ _ s
 rw [RY (by decide)]
 refine RG (mW pl (RG (mW pu (RG (RH ?_)))))
 show wpAny _ _ (match Builtin.Slice.sliceAdjust lo hi 1 (n:Int) with | (lo,hi)=>pure (lo,(1:Int),Builtin.Slice.slicePlaces lo hi 1)) _ _ s
 rw [tu lo hi n]
 show wpAny _ _ (pure (((sIx n 0 lo:Nat):Int),(1:Int),Builtin.Slice.slicePlaces ((sIx n 0 lo:Nat):Int) ((sIx n n hi:Nat):Int) 1)) _ _ s
 rw [tw]
 exact RH h
theorem xb (xs:Array Value) (i k:Nat):((List.range k).filterMap fun (m:Nat)=>xs[((i:Int) + (m:Int) * 1).toNat]?).toArray=((xs.toList.drop i).take k).toArray:=by
 have e:(fun (m:Nat)=>xs[((i:Int) + (m:Int) * 1).toNat]?)=fun m=>xs[i + m]?:=by
  funext m
  have:((i:Int) + (m:Int) * 1).toNat=i + m:=by lia
  rw [this]
 rw [e]
 have:=pick_run xs i k
 rw [List.filterMap_map] at this
 have e2:((fun x=>xs[x]?)∘fun x=>i + x)=fun m=>xs[i + m]?:=rfl
 rw [e2] at this
 rw [this]
theorem j3 {t sl:Addr} {items:Array Value} {vl vu:Value} {lo hi:Option Int} {Q:Value->Shared->Prop} (ht:IsTup s.heap t items) (hs:s.heap.IsSliceOf sl vl vu .none) (pl:IsPart vl lo) (pu:IsPart vu hi)
  (hw:¬ (sIx items.size 0 lo=0/\sIx items.size items.size hi=items.size))
  (h:Q (.ref s.heap.objs.size) { s with heap:=s.heap.push { cls:=.type "tuple",data:=.seq ((items.toList.drop (sIx items.size 0 lo)).take (sIx items.size items.size hi - sIx items.size 0 lo)).toArray } })
  (hsz:items.size<=sizeLine):wpAny (model prog w) A (getItem (.ref t) (.ref sl)) Q E s:=by
 have KG:sizeOk (.seq ((items.toList.drop (sIx items.size 0 lo)).take (sIx items.size items.size hi - sIx items.size 0 lo)).toArray):=by
  show ((items.toList.drop (sIx items.size 0 lo)).take (sIx items.size items.size hi - sIx items.size 0 lo)).toArray.size<=sizeLine
  rw [RI,Su,T5,Tb]
  lia
 have hj:sIx items.size items.size hi<=items.size:=uM _ _ (RL _) hi
 obtain ⟨os,M5,Ph,LZ⟩:=id hs
 have P4:s.TypeIs (.ref sl) "slice":=⟨os,M5,Ph⟩
 unfold getItem
 try with_reducible refine Te ?_
 first | refine RG (RH ?_) | skip
 refine RG (wpAny_sequenceKey ht.typeIs (by decide) ?_)
 refine RG (wpAny_callSpecial?_slot (name:=Str.ofString "__getitem__") ht.typeIs Tc
  (SO Tc ht.typeIs entry_tuple_getitem ?_ (args_tuple_getitem _ _)))
 show wpAny _ _ (Builtin.Tuple.tupleItemsOf (.ref t) >>= _) _ _ s
 refine RG (tupleItemsOf_ ht ?_)
 refine RG (Uo P4 ?_)
 rw [RO (by decide)]
 refine RG (gQ hs pl pu ?_)
 have Q2:¬ ((((sIx items.size 0 lo:Nat):Int) == 0 && (1:Int) == 1 && (sIx items.size items.size hi - sIx items.size 0 lo) == items.size)=true):=by
  intro q
  rw [R9,R9] at q
  have q1:((sIx items.size 0 lo:Nat):Int)=0:=eq_of_beq q.1.1
  have q2:sIx items.size items.size hi - sIx items.size 0 lo=items.size:=eq_of_beq q.2
  exact hw ⟨by lia,by lia⟩
 show wpAny _ _ (if (((sIx items.size 0 lo:Nat):Int) == 0 && (1:Int) == 1 && (sIx items.size items.size hi - sIx items.size 0 lo) == items.size)=true then _ else _) _ _ s
 rw [RY Q2,xb]
 first
  | exact RG (m:=Builtin.Tuple.tupleExact _) (Sz (RH ⟨_,rfl,RH h⟩) KG)
  | exact RG (m:=Builtin.Tuple.tupleExact _) (Sz (RG (RH (RH ⟨_,rfl,RH h⟩))) KG)
  | exact RG (RG (m:=Builtin.Tuple.tupleExact _) (Sz (RH (RH ⟨_,rfl,RH h⟩)) KG))
  | exact RG (RG (m:=Builtin.Tuple.tupleExact _) (Sz (RH ⟨_,rfl,RH h⟩) KG))
end
end HT
namespace L2
open PySem PySem.Spec PyProof.Rows
abbrev TO:=St->Hp->(Option Int->Hp->Prop)->Prop
def PO (X:Cx) (e:Option Expr) (t:TO):Prop:=
 ∀ (pins:List (Addr×Obj)) (s:Shared) (σ:St) (H:Hp) (Q:Option Int->Hp->Prop),Inv X pins σ H s->t σ H Q->
  wpAny (model X.prog X.w) X.A (evalPart e X.env) (fun u s'=>∃ o H',Inv X pins σ H' s'/\IsPart u o/\Q o H') X.xe s
def zb:TO:=fun _ H Q=>Q none H
def D5 (t:TE):TO:=fun σ H Q=>t σ H fun x H1=>∃ i,x=.int i/\Q (some i) H1
section
variable {X:Cx} {e:Expr} {te:TE} {lo hi:Option Expr} {tl th:TO} {pos p2:Pos}
theorem zc:PO X none zb:=by
 intro pins s σ H Q I h
 rw [evalPart_none]
 exact RH ⟨none,H,I,.none,h⟩
theorem zd (h:PE X e te):PO X (some e) (D5 te):=by
 intro pins s σ H Q I hw
 rw [evalPart_some]
 refine Gs (h pins s σ H _ I hw) fun u s1 Gu=>?_
 obtain ⟨x,H1,I1,r1,q1⟩:=Gu
 obtain ⟨i,rfl,q⟩:=q1
 obtain ⟨t,rfl⟩:=r1
 exact ⟨some i,H1,I1,.int i t,q⟩
def M6 (X:Cx) (r:V->Option Int->Option Int->Hp->VK->Prop):Prop:=
 ∀ (pins:List (Addr×Obj)) (s:Shared) (σ:St) (H:Hp) (x:V) (v vl vu:Value) (lo hi:Option Int) (sl:Addr) (Q:VK),Inv X pins σ H s->RelV x v->s.heap.IsSliceOf sl vl vu .none->IsPart vl lo->IsPart vu hi->r x lo hi H Q->
  ∃ T id,typeLookup (.type T) "__getitem__" = pure (some (.builtin id))/\s.TypeIs v T/\wpAny (model X.prog X.w) X.A (getItem v (.ref sl)) (EP X pins σ Q) X.xe s
def tSl (r:V->Option Int->Option Int->Hp->VK->Prop) (te:TE) (tl th:TO):TE:=fun σ H Q=>te σ H fun x H1=>tl σ H1 fun l H2=>th σ H2 fun u H3=>r x l u H3 Q
theorem xc {r:V->Option Int->Option Int->Hp->VK->Prop} (hr:M6 X r) (he:PE X e te) (hl:PO X lo tl) (hu:PO X hi th):PE X (.Subscript e (.Slice lo hi none p2) pos) (tSl r te tl th):=by
 intro pins s σ H Q I h
 refine Subscript_ (Gs (he pins s σ H _ I h) fun v s1 Gu=>?_)
 obtain ⟨x,H1,I1,r1,q1⟩:=Gu
 refine wpAny_Slice (Gs (hl pins s1 σ H1 _ I1 q1) fun vl s2 ⟨l,H2,I2,pl,q2⟩=>Gs (hu pins s2 σ H2 _ I2 q2) fun vu s3 Gu=>?_)
 obtain ⟨u,H3,I3,pu,q3⟩:=Gu
 rw [evalPart_none]
 refine RH ?_
 have I4:Inv X pins σ H3 { s3 with heap:=s3.heap.push { cls:=.type "slice",data:=.fields #[vl,vu,.none] } }:=I3.kept (t':=s3.toks) fun b ob q=>Heap.get?_push_of_some _ q
 obtain ⟨T,id,hT,ht,hg⟩:=hr pins { s3 with heap:=s3.heap.push { cls:=.type "slice",data:=.fields #[vl,vu,.none] } } σ H3 x v vl vu l u s3.heap.objs.size Q I4 r1 (Heap.IsSliceOf.new ..) pl pu q3
 show wpAny (model X.prog X.w) X.A (subscriptTail e (.Slice lo hi none p2) v (.ref s3.heap.objs.size)) (EP X pins σ Q) X.xe { s3 with heap:=s3.heap.push { cls:=.type "slice",data:=.fields #[vl,vu,.none] } }
 exact tail_any (ops:=[.ref s3.heap.objs.size,v]) ht hT hg (by with_unfolding_all rfl)
def yh (xs:List V) (lo hi:Option Int):List V:=(xs.drop (HT.sIx xs.length 0 lo)).take (HT.sIx xs.length xs.length hi - HT.sIx xs.length 0 lo)
theorem lu (xs:List V) (lo hi:Option Int):(yh xs lo hi).length<=xs.length:=by
 unfold yh
 rw [Su,T5]
 lia
def Fu (K:W.Frag):V->Option Int->Option Int->Hp->VK->Prop:=fun x lo hi H Q=>∃ a xs,x=.ref a/\SqT K H a xs/\
 ¬ (HT.sIx xs.length 0 lo=0/\HT.sIx xs.length xs.length hi=xs.length)/\∀ p,H p=none->Q (.ref p) (upd H p (.tup (yh xs lo hi)))
theorem BO:M6 X (Fu X.K):=by
 intro pins s σ H x v vl vu lo hi sl Q I rx hs pl pu h
 obtain ⟨a,xs,rfl,hx,hw,q⟩:=h
 cases rx
 obtain ⟨F9,r,ht,hz⟩:=I.tuple hx
 have hlen:F9.toArray.size=xs.length:=by rw [RI];exact r.length.symm
 refine ⟨"tuple",_,PyProof.Rows.slot_tuple_getitem.lookup,ht.typeIs,?_⟩
 refine HT.j3 ht hs pl pu (by rw [hlen];exact hw) ?_ (by rw [hlen];exact hz)
 rw [hlen]
 refine ⟨.ref s.heap.objs.size,_,I.laid (t':=s.toks) (o:=.tup (yh xs lo hi)) (fun b ob q=>Heap.get?_push_of_some _ q) (RL _) ?_,rfl,q _ (I.hok.fresh (RL _))⟩
 exact ⟨SJ (lu xs lo hi) hz,_,(r.drop (HT.sIx xs.length 0 lo)).take (HT.sIx xs.length xs.length hi - HT.sIx xs.length 0 lo),IsTupN.new _ _⟩
def D6 (K:W.Frag):R2:=fun x y H Q=>∃ a b xs ys,x=.ref a/\y=.ref b/\SqT K H a xs/\SqT K H b ys/\xs≠[]/\xs.length + ys.length<=sizeLine/\
 (ys=[]->Q (.ref a) H)/\(ys≠[]->∀ p,H p=none->Q (.ref p) (upd H p (.tup (xs++ys))))
theorem Vals.nil_iff {xs:List V} {us:List Value} (r:Vals xs us):us=[]<->xs=[]:=by
 cases r with
 | nil=>simp
 | cons _ _=>simp
theorem ze:Hf X (binaryOp .Add) (D6 X.K):=by
 intro pins s σ H x y v u Q I rx ry h
 obtain ⟨a,b,xs,ys,rfl,rfl,ha,hb,hx,hz,q1,q2⟩:=h
 cases rx
 cases ry
 obtain ⟨F9,r1,p1,_⟩:=I.tuple ha
 obtain ⟨KO,r2,p2,_⟩:=I.tuple hb
 refine HT.za p1 p2 (fun z=>hx (r1.nil_iff.mp z)) (fun z=>⟨.ref a,H,I,rfl,q1 (r2.nil_iff.mp z)⟩) (fun z=>?_) (by rw [<-r1.length,<-r2.length];exact hz)
 refine ⟨.ref s.heap.objs.size,_,I.laid (t':=s.toks) (o:=.tup (xs++ys)) (fun b ob q=>Heap.get?_push_of_some _ q) (RL _) ?_,rfl,q2 (fun w=>z (r2.nil_iff.mpr w)) _ (I.hok.fresh (RL _))⟩
 exact ⟨by rw [SD];exact hz,_,r1.append r2,IsTupN.new _ _⟩
end
def ixN (n:Nat) (i:Int):Option Nat:=if 0<=i then (if i < n then some i.toNat else none) else if -(n:Int)<=i then some (i + n).toNat else none
def Ha {α:Type} (xs:List α) (i:Int):Option α:=(ixN xs.length i).bind fun j=>xs[j]?
theorem uO {n:Nat} {i:Int} {j:Nat} (h:ixN n i=some j):seqIndex? i n=some j/\j < n/\-(n:Int)<=i/\i < n:=by
 unfold ixN at h
 by_cases h0:0<=i
 ·rw [RO h0] at h
  by_cases h1:i < n
  ·rw [RO h1] at h
   have e:i.toNat=j:=Sj h
   exact ⟨by rw [seqIndex_of h0 h1,e],by lia,by lia,h1⟩
  ·rw [RY h1] at h;cases h
 ·rw [RY h0] at h
  by_cases h1 : -(n:Int)<=i
  ·rw [RO h1] at h
   have e:(i + n).toNat=j:=Sj h
   exact ⟨by rw [seqIndex_neg (by lia) h1,e],by lia,h1,by lia⟩
  ·rw [RY h1] at h;cases h
theorem qi {α:Type} {xs:List α} {i:Int} {v:α} (h:Ha xs i=some v):∃ j,seqIndex? i xs.length=some j/\xs[j]?=some v/\j < xs.length/\-(xs.length:Int)<=i/\i < xs.length:=by
 unfold Ha at h
 cases e:ixN xs.length i with
 | none=>rw [e] at h;cases h
 | some j=>
  rw [e] at h
  obtain ⟨h1,h2,h3,h4⟩:=uO e
  exact ⟨j,h1,h,h2,h3,h4⟩
theorem dt {α:Type} {xs:List α} {j:Nat} {v:α} (h:xs[j]?=some v):Ha xs (j:Int)=some v:=by
 have hj:j < xs.length:=(List.getElem?_eq_some_iff.mp h).1
 have e:ixN xs.length (j:Int)=some j:=by
  unfold ixN
  rw [RO (by lia),RO (by lia)];simp
 unfold Ha;rw [e];exact h
def uP (b:Expr):Prop:=∀ o i,subscripted b false o i=operate [o,i] (getItem o i)
def Oo (X:Cx) (r:R2):Prop:=
 ∀ (value slice:Expr) (pins:List (Addr×Obj)) (s:Shared) (σ:St) (H:Hp) (x y:V) (v u:Value) (Q:VK),Inv X pins σ H s->RelV x v->RelV y u->r x y H Q->
  subscripted slice false v u=operate [v,u] (getItem v u)->wpAny (model X.prog X.w) X.A (subscriptTail value slice v u) (EP X pins σ Q) X.xe s
def LO (X:Cx) (id:String) (r:V->List V->Hp->VK->Prop):Prop:=
 ∀ (pins:List (Addr×Obj)) (s:Shared) (σ:St) (H:Hp) (x:V) (xs:List V) (v:Value) (us:List Value) (Q:VK),Inv X pins σ H s->RelV x v->Vals xs us->r x xs H Q->
  wpAny (model X.prog X.w) X.A (call (.builtin id) (v :: us)) (EP X pins σ Q) X.xe s
section
variable {X:Cx} {a b:Expr} {ta tb:TE} {pos:Pos}
theorem D7 {r:R2} (hr:Oo X r) (ha:PE X a ta) (hb:PE X b tb) (hs:uP b):PE X (.Subscript a b pos) (N3 r ta tb):=by
 intro pins s σ H Q I h
 exact Subscript_ (DY ha hb I h fun v u s2 x y H2 I2 rx ry q=>hr a b pins s2 σ H2 x y v u Q I2 rx ry q (hs _ _))
def Fv (K:W.Frag):R2:=fun x y H Q=>∃ p xs i v,x=.ref p/\y=.int i/\SqL K H p xs/\Ha xs i=some v/\Q v H
def Fw (K:W.Frag):R2:=fun x y H Q=>∃ p xs i v,x=.ref p/\y=.int i/\SqT K H p xs/\Ha xs i=some v/\Q v H
def Fx:R2:=fun x y H Q=>∃ z i c,x=.str z/\y=.int i/\z.length<=sizeLine/\Ha z.cps.toList i=some c/\Q (.str ⟨#[c]⟩) H
theorem zf:Oo X (Fv X.K):=by
 intro value slice pins s σ H x y v u Q I rx ry h hs
 obtain ⟨p,xs,i,z,rfl,rfl,hq,he,q⟩:=h
 cases rx
 obtain ⟨t,rfl⟩:=ry
 obtain ⟨F9,r,pl,hz⟩:=I.list hq
 obtain ⟨j,h1,h2,h3,h4,h5⟩:=qi he
 obtain ⟨w,ew,KP⟩:=r.get h2
 have hl:=r.length
 have hn:=mU
 have fin:EP X pins σ Q w s:=⟨z,H,I,KP,q⟩
 by_cases h0:0<=i
 ·have hj:i.toNat=j:=by
   rw [seqIndex_of h0 h5] at h1
   exact Sj h1
  exact item_listR pl.isList h0 (by lia) (by rw [hj];simpa using ew) fin hs
 ·have hj:(i + (F9.toArray.size:Int)).toNat=j:=by
   rw [seqIndex_neg (by lia) h4] at h1
   rw [RI,<-hl]
   exact Sj h1
  exact subscriptTail_builtinR (x:=w) pl.isList.typeIs slot_list_getitem.lookup
   (wpAny_getItem_list_neg (Q:=fun r s'=>r=w/\EP X pins σ Q r s') pl.isList (by lia) (by rw [RI] <;> lia) (by lia) (by rw [hj];simpa using ew) ⟨rfl,fin⟩) hs
theorem BP:Oo X (Fw X.K):=by
 intro value slice pins s σ H x y v u Q I rx ry h hs
 obtain ⟨p,xs,i,z,rfl,rfl,hq,he,q⟩:=h
 cases rx
 obtain ⟨t,rfl⟩:=ry
 obtain ⟨F9,r,pl,hz⟩:=I.tuple hq
 obtain ⟨j,h1,h2,h3,h4,h5⟩:=qi he
 obtain ⟨w,ew,KP⟩:=r.get h2
 have hl:=r.length
 have hn:=mU
 have fin:EP X pins σ Q w s:=⟨z,H,I,KP,q⟩
 exact subscriptTail_builtinR (x:=w) pl.typeIs slot_tuple_getitem.lookup
  (getItem_tuple (j:=j) (Q:=fun r s'=>r=w/\EP X pins σ Q r s') pl (by lia) (by lia) (by rw [RI,<-hl];exact h1) (by simpa using ew) ⟨rfl,fin⟩) hs
theorem BQ:Oo X Fx:=by
 intro value slice pins s σ H x y v u Q I rx ry h hs
 obtain ⟨z,i,c,rfl,rfl,hz,he,q⟩:=h
 obtain ⟨t,rfl⟩:=rx
 obtain ⟨t',rfl⟩:=ry
 obtain ⟨j,h1,h2,h3,h4,h5⟩:=qi he
 have hl:z.cps.toList.length=z.length:=by simp [Str.length]
 rw [hl] at h1 h4 h5
 have hn:=mU
 exact tail_any (Vy s z t) slot_str_getitem.lookup (getItem_str (c:=c) (by
  have e1:decide (i < -(2 ^ 63:Int))=false:=Sf (by lia)
  have e2:decide (i >= 2 ^ 63)=false:=Sf (by lia)
  rw [e1,e2,Bool.or_false]) (by rw [h1];simpa using h2) ⟨.str ⟨#[c]⟩,H,I.tok _,⟨_,rfl⟩,q⟩) hs
theorem tF (F9:List Value) (n j:Nat) (u:Value):Obj.mapSeq (·.setIfInBounds j u) { cls:=.type "list",data:=.seq F9.toArray n }={ cls:=.type "list",data:=.seq (F9.set j u).toArray n }:=by
 simp [Obj.mapSeq]
theorem Inv.lst {pins:List (Addr×Obj)} {σ:St} {H:Hp} {s:Shared} {p:Addr} {xs:List V} (I:Inv X pins σ H s) (h:H p=some (.lst xs)) :
  ∃ (F9:List Value) (n:Nat),Vals xs F9/\s.heap.get? p=some { cls:=.type "list",data:=.seq F9.toArray n }/\xs.length<=sizeLine:=by
 obtain ⟨z,F9,n,r,e⟩:=I.hok p _ h
 exact ⟨F9,n,r,e,z⟩
theorem Inv.lstUpd {pins:List (Addr×Obj)} {σ:St} {H:Hp} {s:Shared} {p:Addr} {xs ys:List V} {F9 its':List Value} {n n':Nat} {f:Obj->Obj} (I:Inv X pins σ H s) (h:H p=some (.lst xs))
  (ho:s.heap.get? p=some { cls:=.type "list",data:=.seq F9.toArray n }) (hf:f { cls:=.type "list",data:=.seq F9.toArray n }={ cls:=.type "list",data:=.seq its'.toArray n' }) (r:Vals ys its') (hz:ys.length<=sizeLine) (t:Nat) :
  Inv X pins σ (upd H p (.lst ys)) { s with heap:=s.heap.update p f,toks:=t }:=by
 have e:(s.heap.update p f).get? p=some { cls:=.type "list",data:=.seq its'.toArray n' }:=by
  rw [Heap.get?_update_self f ho (by rw [hf] <;> rfl),hf]
 refine I.write (x:=p) (e:=p) (by rw [h];trivial) (.inl rfl) (fun b u hb q=>(Heap.get?_update_other _ _ (Tj hb)).trans q) ⟨_,e⟩ ?_
 exact ⟨hz,its',n',r,e⟩
def BR:V->V->V->Hp->(Hp->Prop)->Prop:=fun o i v H Q=>∃ p xs k j,o=.ref p/\i=.int k/\H p=some (.lst xs)/\ixN xs.length k=some j/\Q (upd H p (.lst (xs.set j v)))
theorem xf:Fj X BR:=by
 intro pins s σ H o i v ov iv u Q I ro ri rv h
 obtain ⟨p,xs,k,j,rfl,rfl,hp,hj,q⟩:=h
 cases ro
 obtain ⟨t,rfl⟩:=ri
 obtain ⟨F9,n,r,ho,hz⟩:=I.lst hp
 obtain ⟨h1,h2,h3,h4⟩:=uO hj
 have hl:=r.length
 have hn:=mU
 have I':Inv X pins σ (upd H p (.lst (xs.set j v))) { s with heap:=s.heap.update p (Obj.mapSeq (·.setIfInBounds j u)) }:=
  I.lstUpd hp ho (tF F9 n j u) (r.set rv j) (by rw [TR];exact hz) s.toks
 by_cases h0:0<=k
 ·have hk:k.toNat=j:=by
   rw [seqIndex_of h0 h4] at h1
   exact Sj h1
  exact PySem.W.ki_setAt ho h0 (by lia) (by rw [RI,<-hl];exact h4) (by rw [hk];exact ⟨_,I',q⟩)
 ·have hk:(k + (F9.toArray.size:Int)).toNat=j:=by
   rw [seqIndex_neg (by lia) h3] at h1
   rw [RI,<-hl]
   exact Sj h1
  exact PySem.W.ki_setBack ho (by lia) (by rw [RI,<-hl];exact h3) (by lia) (by rw [hk];exact ⟨_,I',q⟩)
theorem oV (lo hi:Option Int) (n:Nat):(sliceBounds lo hi none n).1=((HT.sIx n 0 lo:Nat):Int)/\(sliceBounds lo hi none n).2.1=((HT.sIx n n hi:Nat):Int)/\(sliceBounds lo hi none n).2.2=1:=by
 refine ⟨?_,?_,rfl⟩
 ·cases lo with
  | none=>simp [sliceBounds,HT.sIx]
  | some i=>
   simp only [sliceBounds,HT.sIx,Vg,show (1:Int) > 0 by decide,Us]
   by_cases h:i < 0
   ·simp only [h,Us] <;> lia
   ·simp only [h,UH] <;> lia
 ·cases hi with
  | none=>simp [sliceBounds,HT.sIx]
  | some i=>
   simp only [sliceBounds,HT.sIx,Vg,show (1:Int) > 0 by decide,Us]
   by_cases h:i < 0
   ·simp only [h,Us] <;> lia
   ·simp only [h,UH] <;> lia
theorem ny (F9:List Value) (lo hi:Option Int):slicePick F9.toArray lo hi none=((F9.drop (HT.sIx F9.length 0 lo)).take (HT.sIx F9.length F9.length hi - HT.sIx F9.length 0 lo)).toArray:=by
 obtain ⟨h1,h2,h3⟩:=oV lo hi F9.toArray.size
 unfold slicePick
 rw [h1,h2,h3]
 simp only [sliceRange_one,pick_run,RI] <;> rfl
def Fy (K:W.Frag):V->Option Int->Option Int->Hp->VK->Prop:=fun x lo hi H Q=>∃ a xs,x=.ref a/\SqL K H a xs/\∀ p,H p=none->Q (.ref p) (upd H p (.lst (yh xs lo hi)))
theorem zg:M6 X (Fy X.K):=by
 intro pins s σ H x v vl vu lo hi sl Q I rx hs pl pu h
 obtain ⟨a,xs,rfl,hx,q⟩:=h
 cases rx
 obtain ⟨F9,r,ht,hz⟩:=I.list hx
 have hlen:=r.length
 refine ⟨"list",_,slot_list_getitem.lookup,ht.isList.typeIs,?_⟩
 refine wpAny_getItem_list_slice ht.isList hs pl pu .none (by simp) ?_ (by rw [RI] <;> lia)
 rw [ny,<-hlen]
 refine ⟨.ref s.heap.objs.size,_,I.laid (t':=s.toks) (o:=.lst (yh xs lo hi)) (fun b ob q=>Heap.get?_push_of_some _ q) (RL _) ?_,rfl,q _ (I.hok.fresh (RL _))⟩
 exact ⟨SJ (lu xs lo hi) hz,_,0,(r.drop (HT.sIx xs.length 0 lo)).take (HT.sIx xs.length xs.length hi - HT.sIx xs.length 0 lo),Heap.get?_push_size _ rfl⟩
def xg:V->Bool
 | .non=>true
 | .bl _=>true
 | .int _=>true
 | .str _=>true
 | _=>false
def P5:V->V->Bool
 | .non,.non=>true
 | .bl a,.bl b=>a == b
 | .bl a,.int b=>(if a then 1 else 0) == b
 | .int a,.bl b=>a == (if b then 1 else 0)
 | .int a,.int b=>a == b
 | .str a,.str b=>a == b
 | _,_=>false
theorem yi {A:Around} {s:Shared} {y x:V} {u v:Value} (ry:RelV y u) (rx:RelV x v) (fy:xg y=true) (fx:xg x=true):SeqAt.EqAt A s u v (P5 y x):=by
 cases y with
 | non=>
  cases ry
  cases x with
  | non=>cases rx;exact SeqAt.EqAt.same _
  | bl b=>cases rx;exact SeqAt.EqAt.none_bool b
  | int b=>obtain ⟨t,rfl⟩:=rx;exact SeqAt.EqAt.none_int b t
  | str b=>obtain ⟨t,rfl⟩:=rx;exact SeqAt.EqAt.none_str b t
  | _=>exact absurd (show false=true from fx) RK
 | bl a=>
  cases ry
  cases x with
  | non=>cases rx;exact SeqAt.EqAt.bool_none a
  | bl b=>cases rx;exact SeqAt.EqAt.bool_bool a b
  | int b=>obtain ⟨t,rfl⟩:=rx;exact SeqAt.EqAt.bool_int a b t
  | str b=>obtain ⟨t,rfl⟩:=rx;exact SeqAt.EqAt.bool_str a b t
  | _=>exact absurd (show false=true from fx) RK
 | int a=>
  obtain ⟨t',rfl⟩:=ry
  cases x with
  | non=>cases rx;exact SeqAt.EqAt.int_none a t'
  | bl b=>cases rx;exact SeqAt.EqAt.int_bool a t' b
  | int b=>obtain ⟨t,rfl⟩:=rx;exact SeqAt.EqAt.int_int a t' b t
  | str b=>obtain ⟨t,rfl⟩:=rx;exact SeqAt.EqAt.int_str a t' b t
  | _=>exact absurd (show false=true from fx) RK
 | str a=>
  obtain ⟨t',rfl⟩:=ry
  cases x with
  | non=>cases rx;exact SeqAt.EqAt.str_none a t'
  | bl b=>cases rx;exact SeqAt.EqAt.str_bool a t' b
  | int b=>obtain ⟨t,rfl⟩:=rx;exact SeqAt.EqAt.str_int a t' b t
  | str b=>obtain ⟨t,rfl⟩:=rx;exact SeqAt.EqAt.str_str a t' b t
  | _=>exact absurd (show false=true from fx) RK
 | _=>exact absurd (show false=true from fy) RK
theorem kx:dI X (.builtin "len") (fun xs H Q=>∃ p ys,xs=[.ref p]/\(SqL X.K H p ys\/SqT X.K H p ys)/\Q (.int ys.length) H):=by
 intro pins s σ H xs us Q I r h
 obtain ⟨p,ys,rfl,hq,q⟩:=h
 obtain ⟨u,rfl,rx⟩:=e7 r
 cases rx
 have hn:=mU
 rcases hq with hq | hq
 ·obtain ⟨F9,r',pl,hz⟩:=I.list hq
  have hlen:=r'.length
  exact Calls.call_len_list pl.isList (by simp only [RI] <;> lia) ⟨.int ys.length,H,I.tok _,⟨s.toks + 1,by rw [RI,hlen]⟩,q⟩
 ·obtain ⟨F9,r',pl,hz⟩:=I.tuple hq
  have hlen:=r'.length
  exact len_tuple pl (by simp only [RI] <;> lia) ⟨.int ys.length,H,I.tok _,⟨s.toks + 1,by rw [RI,hlen]⟩,q⟩
theorem oW:dI X (.builtin "len") (fun xs H Q=>∃ z,xs=[.str z]/\z.length<=sizeLine/\Q (.int z.length) H):=by
 intro pins s σ H xs us Q I r h
 obtain ⟨z,rfl,hz,q⟩:=h
 obtain ⟨u,rfl,t,rfl⟩:=e7 r
 have hn:=mU
 exact len_str (by lia) ⟨.int z.length,H,I.tok _,⟨_,rfl⟩,q⟩
theorem ky:dI X (.type "list") (fun xs H Q=>∃ p ys,xs=[.ref p]/\(SqL X.K H p ys\/SqT X.K H p ys)/\∀ l,H l=none->Q (.ref l) (upd H l (.lst ys))):=by
 intro pins s σ H xs us Q I r h
 obtain ⟨p,ys,rfl,hq,q⟩:=h
 obtain ⟨u,rfl,rx⟩:=e7 r
 cases rx
 have fin:∀ (F9:List Value),Vals ys F9->ys.length<=sizeLine->∀ (h':Heap) (c':Nat),(∀ b o',s.heap.get? b=some o'->h'.get? b=some o')->
   h'.get? s.heap.objs.size=some { cls:=.type "list",dict:=none,data:=.seq F9.toArray c',slots:=#[] }->EP X pins σ Q (.ref s.heap.objs.size) { s with heap:=h' }:=fun F9 r' hz h' c' kp e=>
  ⟨.ref s.heap.objs.size,_,I.laid (t':=s.toks) kp (RL _) (show ObjOk X.prog X.w _ h' _ (.lst ys) from ⟨hz,F9,c',r',e⟩),rfl,q _ (I.hok.fresh (RL _))⟩
 rcases hq with hq | hq
 ·obtain ⟨F9,r',pl,hz⟩:=I.list hq
  have hlen:=r'.length
  obtain ⟨o,ho,hc,n,hd⟩:=pl.isList
  exact call_list_seq p (.inl rfl) ho hc hd (fun h' c' kp e=>fin F9 r' hz h' c' kp e) (by simp only [RI] <;> lia)
 ·obtain ⟨F9,r',pl,hz⟩:=I.tuple hq
  have hlen:=r'.length
  obtain ⟨o,ho,hc,n,hd⟩:=pl
  exact call_list_seq p (.inr rfl) ho hc hd (fun h' c' kp e=>fin F9 r' hz h' c' kp e) (by simp only [RI] <;> lia)
theorem jt:dI X (.type "tuple") (fun xs H Q=>∃ p ys,xs=[.ref p]/\((SqL X.K H p ys/\∀ l,H l=none->Q (.ref l) (upd H l (.tup ys)))\/(SqT X.K H p ys/\Q (.ref p) H))):=by
 intro pins s σ H xs us Q I r h
 obtain ⟨p,ys,rfl,h⟩:=h
 obtain ⟨u,rfl,rx⟩:=e7 r
 cases rx
 rcases h with ⟨hq,q⟩ | ⟨hq,q⟩
 ·obtain ⟨F9,r',pl,hz⟩:=I.list hq
  have hlen:=r'.length
  refine call_tuple_list pl.isList (fun h' kp=>?_) (by simp only [RI] <;> lia)
  have I1:Inv X pins σ H { s with heap:=h' }:=I.kept (t':=s.toks) kp
  have I2:Inv X pins σ (upd H h'.objs.size (.tup ys)) { s with heap:=h'.push { cls:=.type "tuple",data:=.seq F9.toArray } }:=
   I1.laid (t':=s.toks) (fun b o e=>Heap.get?_push_of_some _ e) (RL _) (show ObjOk X.prog X.w _ _ _ (.tup ys) from ⟨hz,F9,r',IsTupN.new _ _⟩)
  exact ⟨.ref h'.objs.size,_,I2,rfl,q _ (I1.hok.fresh (RL _))⟩
 ·obtain ⟨F9,r',pl,hz⟩:=I.tuple hq
  exact call_tuple_same pl ⟨.ref p,H,I,rfl,q⟩
def Pj (K:W.Frag) (T:String) (x:V) (H:Hp):Prop:=match x with
 | .str _=>T = "str"
 | .int _=>T = "int"
 | .ref p=>(T = "list"/\∃ xs,SqL K H p xs)\/(T = "tuple"/\∃ o,K.lookup p=some o/\o.cls=.type "tuple"/\o.dict=none)\/
   (T = "dict"/\((∃ Gb,H p=some (.dK Gb))\/∃ Gb,H p=some (.dT Gb)))\/(T = "set"/\∃ S n,H p=some (.set S n))
 | _=>False
theorem yj {pins:List (Addr×Obj)} {σ:St} {H:Hp} {s:Shared} {T:String} {x:V} {v:Value} (I:Inv X pins σ H s) (r:RelV x v) (ty:Pj X.K T x H) :
  s.TypeIs v T/\∀ a,v=.ref a->∃ ob,s.heap.get? a=some ob/\ob.dict=none:=by
 cases x with
 | str z=>
  obtain ⟨t,rfl⟩:=r
  cases (show T = "str" from ty)
  exact ⟨Vy s z t,fun _ e=>nomatch e⟩
 | int i=>
  obtain ⟨t,rfl⟩:=r
  cases (show T = "int" from ty)
  exact ⟨Vz s i t,fun _ e=>nomatch e⟩
 | ref p=>
  cases r
  rcases ty with ⟨rfl,xs,hq⟩ | ⟨rfl,o,hk,hc,hd⟩ | ⟨rfl,hk⟩ | ⟨rfl,S,n,hk⟩
  ·obtain ⟨F9,_,pl,_⟩:=I.list hq
   refine ⟨pl.isList.typeIs,fun a e=>?_⟩
   cases e
   obtain ⟨o,n,e,c,hd,_⟩:=pl
   exact ⟨o,e,hd⟩
  ·refine ⟨⟨o,I.kIn p o hk,hc⟩,fun a e=>?_⟩
   cases e
   exact ⟨o,I.kIn _ o hk,hd⟩
  ·have z:∃ o,s.heap.get? p=some o/\o.ExactDict:=by
    rcases hk with ⟨Gb,hk⟩ | ⟨Gb,hk⟩
    ·obtain ⟨_,_,_,_,o,_,_,e,ex,_⟩:=I.hok p _ hk
     exact ⟨o,e,ex⟩
    ·obtain ⟨_,_,_,_,o,_,_,e,ex,_⟩:=I.hok p _ hk
     exact ⟨o,e,ex⟩
   obtain ⟨o,e,ex⟩:=z
   refine ⟨⟨o,e,ex.1⟩,fun a e2=>?_⟩
   cases e2
   exact ⟨o,e,ex.2.1⟩
  ·obtain ⟨o,_,_,_,e,ex,_⟩:=I.hok p _ hk
   refine ⟨⟨o,e,ex.1⟩,fun a e2=>?_⟩
   cases e2
   exact ⟨o,e,ex.2.1⟩
 | _=>exact False.elim ty
def Fz (K:W.Frag) (T:String) (r:V->List V->Hp->VK->Prop) (to:TE):TE:=fun σ H Q=>to σ H fun x H1=>Pj K T x H1/\r x [] H1 Q
def tBM (K:W.Frag) (T:String) (r:V->List V->Hp->VK->Prop) (to:TE) (t:TA):TE:=fun σ H Q=>to σ H fun x H1=>Pj K T x H1/\t σ H1 fun xs H2=>r x xs H2 Q
variable {o e:Expr} {es:List Expr} {to:TE} {t:TA} {name:Str} {apos Gv:Pos} {T id:String} {r:V->List V->Hp->VK->Prop}
theorem BS (pa:PlainAttrs T) (slot:Slot T name id) (KQ:typeOf (.builtin id)=pure (.type "method_descriptor")) (hm:LO X id r) (ho:PE X o to)
  (Hb:attributeBase o name X.env (eval o X.env)=eval o X.env:=by rfl) (Hc:(apos.endLine == Gv.line)=true:=by rfl):PE X (.Call (.Attribute o name apos) [] [] Gv) (Fz X.K T r to):=by
 intro pins s σ H Q I h
 refine wpAny_Call_method0_late Hb Hc (Gs (ho pins s σ H _ I h) fun v s1 Gu=>?_)
 obtain ⟨x,H1,I1,r1,ty,q1⟩:=Gu
 obtain ⟨h1,h2⟩:=yj I1 r1 ty
 exact ⟨T,id,pa,slot,KQ,h1,h2,UB rfl (PySem.evalArgs_none (hm pins s1 σ H1 x [] v [] Q I1 r1 .nil q1))⟩
theorem zh (pa:PlainAttrs T) (slot:Slot T name id) (KQ:typeOf (.builtin id)=pure (.type "method_descriptor")) (hm:LO X id r) (ho:PE X o to) (ha:PA X (e :: es) t)
  (Hb:attributeBase o name X.env (eval o X.env)=eval o X.env:=by rfl)
  (IY:((backTo Gv (starEach (e :: es) X.env)).all (fun x=>!x.1) && (backToKw Gv (keywordEach [] X.env)).all (fun x=>x.1.isSome)
   && decide ((e :: es).length + ([]:List Keyword).length + (if ([]:List Keyword).isEmpty then 0 else 1) < 30))=true:=by rfl)
  (Hc:(apos.endLine == Gv.line)=true:=by rfl) (hs:starEach (e :: es) X.env=(false,eval e X.env) :: starEach es X.env:=by rfl) (Hd:(backTo Gv (starEach es X.env)).any (·.1)=false:=by rfl) :
  PE X (.Call (.Attribute o name apos) (e :: es) [] Gv) (tBM X.K T r to t):=by
 intro pins s σ H Q I h
 refine wpAny_Call_method_late Hb IY Hc rfl (Gs (ho pins s σ H _ I h) fun v s1 Gu=>?_)
 obtain ⟨x,H1,I1,r1,ty,q1⟩:=Gu
 obtain ⟨h1,h2⟩:=yj I1 r1 ty
 refine ⟨T,id,pa,slot,KQ,h1,h2,?_⟩
 have hA:=ha Gv pins s1 σ H1 _ I1 q1
 rw [hs] at hA ⊢
 refine UB (by show (false || (backTo Gv (starEach es X.env)).any (·.1))=false;rw [Hd] <;> rfl) (Calls.evalArgs_plain ?_)
 exact Gs hA fun us s2 ⟨vs,H2,I2,r2,q2⟩=>hm pins s2 σ H2 x vs v us Q I2 r1 r2 q2
end
def MtM (X:Cx) (id:String) (r:V->List V->Hp->VK->Prop):Prop:=
 ∀ (pins:List (Addr×Obj)) (s:Shared) (σ:St) (H:Hp) (x:V) (xs:List V) (v:Value) (us:List Value) (Q:VK),Inv X pins σ H s->RelV x v->Vals xs us->r x xs H Q->
  wpAny (model X.prog X.w) X.A (call (.builtin id) (v :: us)) (EP X pins σ Q) X.xe s
theorem Vals.one:∀ {x:V} {us:List Value},Vals [x] us->∃ u,us=[u]/\RelV x u
 | _,_,.cons r .nil=>⟨_,rfl,r⟩
theorem Vals.zero:∀ {us:List Value},Vals [] us->us=[]
 | _,.nil=>rfl
theorem Vals.dropLast {xs:List V} {us:List Value} (h:Vals xs us):Vals xs.dropLast us.dropLast:=by
 induction h with
 | nil=>exact .nil
 | cons r t ih=>
  cases t with
  | nil=>exact .nil
  | cons q t'=>exact .cons r ih
theorem Vals.eraseIdx:∀ {xs:List V} {us:List Value} (i:Nat),Vals xs us->Vals (xs.eraseIdx i) (us.eraseIdx i)
 | _,_,_,.nil=>.nil
 | _,_,0,.cons _ t=>t
 | _,_,i + 1,.cons r t=>.cons r (Vals.eraseIdx i t)
theorem Vals.rep {xs:List V} {us:List Value} (h:Vals xs us):∀ k:Nat,Vals (List.replicate k xs).flatten (List.replicate k us).flatten
 | 0=>.nil
 | k + 1=>by
  rw [Td,Td,Tq,Tq]
  exact Vals.append h (Vals.rep h k)
theorem tG {α:Type} (l:List α):l.eraseIdx (l.length - 1)=l.dropLast:=by
 induction l with
 | nil=>rfl
 | cons a r ih=>
  cases r with
  | nil=>rfl
  | cons b r=>
   have e:(a :: b :: r).length - 1=((b :: r).length - 1) + 1:=by
    have h1:(a :: b :: r).length=r.length + 2:=rfl
    have h2:(b :: r).length=r.length + 1:=rfl
    lia
   rw [e,List.eraseIdx_cons_succ,ih]
   all_goals rfl
theorem oX (F9:List Value):∀ (k:Nat) (acc:List Value),
  List.foldl (fun x1 x2=>x1++x2) acc.toArray (List.replicate k F9.toArray)=(acc++(List.replicate k F9).flatten).toArray
 | 0,acc=>by simp
 | k + 1,acc=>by
  have e:acc.toArray++F9.toArray=(acc++F9).toArray:=by simp
  have e2:(acc++F9)++(List.replicate k F9).flatten=acc++(List.replicate (k + 1) F9).flatten:=by
   rw [Td,Tq,SR]
  rw [<-e2,<-oX F9 k (acc++F9),<-e,Td,TU]
section
variable {X:Cx} {pins:List (Addr×Obj)} {σ:St} {H:Hp} {s:Shared} {l b:Addr} {xs ys zs:List V}
theorem Inv.lset {F9 its':List Value} {n:Nat} {f:Array Value->Array Value} {t':Nat} (I:Inv X pins σ H s) (hH:H l=some (.lst xs))
  (e:s.heap.get? l=some { cls:=.type "list",data:=.seq F9.toArray n }) (hf:f F9.toArray=its'.toArray) (hv:Vals ys its') (hz:ys.length<=sizeLine) :
  Inv X pins σ (upd H l (.lst ys)) { s with heap:=s.heap.update l (Obj.mapSeq f),toks:=t' }:=by
 have q:=PySem.IsL.update e f
 rw [hf] at q
 refine I.write (x:=l) (e:=l) (by rw [hH];exact trivial) (.inl rfl) (fun b' u hb hu=>(Heap.get?_update_other s.heap (Obj.mapSeq f) (Tj hb)).trans hu) ⟨_,q⟩ ?_
 exact ⟨hz,its',_,hv,q⟩
theorem Inv.lnew {F9:List Value} {t':Nat} (I:Inv X pins σ H s) (hv:Vals ys F9) (hz:ys.length<=sizeLine) :
  Inv X pins σ (upd H s.heap.objs.size (.lst ys)) { s with heap:=s.heap.push { cls:=.type "list",data:=.seq F9.toArray },toks:=t' }:=
 I.laid (fun _ _ q=>Heap.get?_push_of_some _ q) (RL _) ⟨hz,F9,0,hv,Heap.get?_push_size _ rfl⟩
theorem Inv.fresh (I:Inv X pins σ H s):H s.heap.objs.size=none:=I.hok.fresh (RL _)
theorem Inv.lstM (I:Inv X pins σ H s) (hH:H l=some (.lst xs)):xs.length<=sizeLine/\∃ (F9:List Value) (n:Nat),Vals xs F9/\xs.length=F9.length/\s.heap.get? l=some { cls:=.type "list",data:=.seq F9.toArray n }:=by
 obtain ⟨z,F9,n,r,e⟩:=I.hok l _ hH
 exact ⟨z,F9,n,r,r.length,e⟩
theorem xh {n:Nat} (h:n<=sizeLine):Builtin.List.listTooLong n=false:=by
 unfold Builtin.List.listTooLong
 exact Sf (by lia)
end
section
variable {X:Cx}
def zi:V->List V->Hp->VK->Prop:=fun x vs H Q=>∃ l xs y,x=.ref l/\vs=[y]/\H l=some (.lst xs)/\xs.length < sizeLine/\Q .non (upd H l (.lst (xs++[y])))
theorem oY:MtM X "list.append" zi:=by
 intro pins s σ H x vs v us Q I rx rv h
 obtain ⟨l,xs,y,rfl,rfl,hH,hz,q⟩:=h
 cases rx
 obtain ⟨u,rfl,ru⟩:=rv.one
 obtain ⟨z,F9,n,r,hl,e⟩:=I.lstM hH
 refine VA F.slot_list_append ⟨_,e,rfl⟩ F.entry_list_append (F.args_list_append_2 _ _) (PySem.list_append l F9.toArray n u (by rw [RI];lia)) ⟨e,?_⟩
 refine ⟨.non,_,I.lset (its':=F9++[u]) hH e (by simp) (r.append (.cons ru .nil)) ?_,rfl,q⟩
 rw [SD,R5]
 lia
def FA:V->List V->Hp->VK->Prop:=fun x vs H Q=>∃ l xs y,x=.ref l/\vs=[]/\H l=some (.lst xs)/\xs[xs.length - 1]?=some y/\Q y (upd H l (.lst xs.dropLast))
theorem E1:MtM X "list.pop" FA:=by
 intro pins s σ H x vs v us Q I rx rv h
 obtain ⟨l,xs,y,rfl,rfl,hH,hy,q⟩:=h
 cases rx
 have M7:=rv.zero
 subst M7
 obtain ⟨z,F9,n,r,hl,e⟩:=I.lstM hH
 obtain ⟨u,hu,ru⟩:=r.get hy
 have hy':F9.toArray[F9.toArray.size - 1]?=some u:=by
  show F9.toArray[F9.length - 1]?=some u
  rw [<-Array.getElem?_toList,<-hl]
  exact hu
 refine VA F.slot_list_pop ⟨_,e,rfl⟩ F.entry_list_pop (F.args_list_pop_1 _) (MeetsSeq.list_pop_last l F9.toArray n u hy' (by rw [RI];lia)) ⟨e,?_⟩
 refine ⟨y,_,I.lset (its':=F9.dropLast) hH e ?_ r.dropLast ?_,ru,q⟩
 ·show F9.toArray.eraseIdxIfInBounds (F9.toArray.size - 1)=F9.dropLast.toArray
  rw [RI,List.eraseIdxIfInBounds_toArray,tG]
 ·rw [List.length_dropLast]
  lia
def BU:V->List V->Hp->VK->Prop:=fun x vs H Q=>∃ l xs,x=.ref l/\vs=[]/\H l=some (.lst xs)/\Q .non (upd H l (.lst []))
theorem xi:MtM X "list.clear" BU:=by
 intro pins s σ H x vs v us Q I rx rv h
 obtain ⟨l,xs,rfl,rfl,hH,q⟩:=h
 cases rx
 have M7:=rv.zero
 subst M7
 obtain ⟨z,F9,n,r,hl,e⟩:=I.lstM hH
 refine VA F.slot_list_clear ⟨_,e,rfl⟩ F.entry_list_clear (F.args_list_clear_1 _) (AutoSeq1.list_clear_list_0 l F9.toArray n (by rw [RI];lia)) ⟨e,?_⟩
 exact ⟨.non,_,I.lset (its':=[]) (ys:=[]) hH e rfl .nil (So _),rfl,q⟩
theorem nE {α:Type} (xs:List α) (k:Nat):(List.replicate k xs).flatten.length=k * xs.length:=by
 induction k with
 | zero=>simp
 | succ k ih=>rw [Td,Tq,SD,ih,Nat.succ_mul,Nat.add_comm]
end
section
variable {prog:Program} {w:World} {A:Around} {E:Value->Shared->Prop} {s:Shared}
end
section
variable {X:Cx}
end
end L2
namespace Att
open PySem PySem.W PySem.Calls PyProof.Rows
theorem lx {P:Params} {h:Heap}:∀ (ns:List Int) (vs:List Value),WellAll P h vs (ns.map WData.int)->IntsAre vs ns:=by
 intro ns
 induction ns with
 | nil=>
  intro vs w
  rw [Sd] at w
  cases w
  exact .nil
 | cons n ns ih=>
  intro vs w
  rw [R6] at w
  cases w with
  | cons a b=>
   cases a
   exact .cons _ _ (ih _ b)
theorem uQ {l:OpenLaw} {n:Nat} (hn:l.most=some n) {P:Params} {h:Heap} {args:List WData} {vals:List Value}
  (L0:l.row.toRowW.claim.pre args=true) (N5:WellAll P h vals args) :
  ∃ a vs ns,vals=[Value.ref a]/\args=[WData.list (ns.map WData.int)]/\h.get? a=some { cls:=.type "list",data:=.seq vs.toArray }/\IntsAre vs ns/\ns.length<=n:=by
 have hsh:WShape.hasAll [] args [.list .int]=true:=(pre_splitW L0).1
 have hc:l.pre.holds [] { args:=args }=true:=(pre_splitW L0).2
 obtain ⟨d,r,rfl,h1,h2⟩:=hasAllW_cons hsh
 obtain rfl:=hasAllW_nil h2
 obtain ⟨xs,rfl,h3⟩:=hasW_list h1
 obtain ⟨ns,rfl⟩:=items_int h3
 have hlen:ns.length<=n:=by
  unfold OpenLaw.pre at hc
  have h4:(WTm.not (.lt (.lit (.int (n:Int))) (.len (.arg 0)))).holds [] { args:=[.list (ns.map .int)] }=true:=by
   have h4:=(holds_andW hc).1
   rw [hn] at h4
   exact h4
  have h5:=condW_of h4 (w_not (w_lt w_lit (w_len_list (w_arg rfl))))
  rw [RJ] at h5
  refine Nat.le_of_not_lt fun q=>?_
  have q':(n:Int) < ((ns.length:Nat):Int):=by lia
  first
   | (rw [Sm q'] at h5;exact absurd h5 (by decide))
   | (simp at h5;lia)
 cases N5 with
 | cons w1 w2=>
  cases w2
  cases w1 with
  | list ho Hu=>exact ⟨_,_,ns,rfl,rfl,ho,lx ns _ Hu,hlen⟩
theorem uR (l:OpenLaw) (args:List WData):l.row.toRowW.claim.post args (.bool true) args=true:=
 postW_of (r:=l.row.toRowW) (X:=(true == true))
  (show WShape.has [] (.bool true) .bool=true by first | rfl | decide | simp [WShape.has,WShape.arms,WShape.armsAll])
  (show (WTm.eq .res (.lit (.bool true))).value [] { args:=args,res:=some (.bool true),after:=args }=some (.bool (true == true)) from w_eq_bool (w_res rfl) w_lit) rfl
theorem attach_call {l:OpenLaw} {n:Nat} {q:Program} {loose:List Str} {XP:(Str->Option Value)->Heap->Prop} {YP:World->Heap->Prop} {d:DefRec}
  (hn:l.most=some n) (Oq:d.params.defaults=[])
  (call:∀ (w:World) (s₀ s₁:Shared) (mg mb:Str->Option Value) (fa:Addr) (o:Obj) (pm cd doc:Value) (a:Addr) (vs:List Value) (ns:List Int),
   Ground q loose [] XP w s₀ mg mb s₁.heap->YP w s₁.heap->
   s₁.heap.get? fa=some o->o.data=.func (docDef d.name d.params d.body d.scope pm cd doc)->s₁.heap.CodeRec cd d.name->mg d.name=some (.ref fa)->
   s₁.heap.get? a=some { cls:=.type "list",data:=.seq vs.toArray }->IntsAre vs ns->ns.length<=n->s₁.gens = #[]->
   codeAny (model l.prog w) callerA (.call (.ref fa) ⟨[.ref a],[]⟩) (fun r s'=>r=.ok (.ret (.bool true))/\OldK s₁.heap s'.heap/\s'.os=s₁.os/\AllBare s'.gens) s₁) :
  WalkO q loose XP YP l.row.toRowW d [] (fun f vs=>PySem.call f vs):=by
 intro w s₀ s₁ mg mb G Y fa o pm cd doc dV kV ho hd Ld hD Ot hg args vals as L0 hlay hrd N5 Q3
 obtain rfl:dV=.none:=Dflts.none hD Oq
 obtain rfl:kV=.none:=Dflts.noKw hD
 obtain ⟨a,vs,ns,rfl,rfl,M8,hints,hlen⟩:=uQ hn L0 N5
 refine enter_call (codeAny_mono (call w s₀ s₁ mg mb fa o pm cd doc a vs ns G Y ho (fd_plain hd) Ld Ot M8 hints hlen hg) fun r s' hq=>?_)
 obtain ⟨rfl,h2,h3,h4⟩:=hq
 exact ⟨.inl ⟨.bool true,.bool true,[],rfl,fun _=>rfl,.bool true,uR l _,fun _=>⟨List.Pairwise.nil,fun _ hm=>(nomatch hm)⟩⟩,h2,h3,h4⟩
section
variable {prog:Program} {w:World} {A:Around} {E:Value->Shared->Prop} {s:Shared} {K:Frag}
end
end Att
namespace L2
open PySem PySem.Spec PyProof.Rows
theorem oZ:∀ {vs:List Value} {ns:List Int},IntsAre vs ns->Vals (ns.map V.int) vs
 | _,_,.nil=>.nil
 | _,_,.cons n t h=>.cons ⟨t,rfl⟩ (oZ h)
def D8 (H:Hp):Prop:=∀ b,H b=none\/∃ o xs,H b=some (.frz o (.lst xs))
theorem xj {P:Program} {w:World} {K:W.Frag} {mg mb:Str->Option Value} {CX:K4} {k:Nat} {fa a:Addr} {fd:FuncData} {x:Str} {sp:Sp} {s₁:Shared} {vs:List Value} {ns:List Int}
  (KX:K.In s₁.heap) (MP:s₁.heap.Ns mainGlobals mg) (hb:s₁.heap.Ns builtinsNs mb) (Lg:∀ x:Str,x≠"__name__"->mb x=bootBuiltins x) (hlim:s₁.heap.NoLimit) (hg:s₁.gens = #[])
  (ha:s₁.heap.get? a=some { cls:=.type "list",data:=.seq vs.toArray }) (hi:IntsAre vs ns) (hl:ns.length<=sizeLine) (hr:Room k callerA)
  (F:∀ base:Heap,K.In base->base.Ns mainGlobals mg->FnOk P w K mg base CX k fa fd [x] sp) (Ou:∀ (s:Shared) (u:Value),BindsTo s fd ⟨[u],[]⟩ [(x,u)])
  (Lf:∀ H:Hp,D8 H->SqL K H a (ns.map V.int)->sp [.ref a] H (fun v _=>v=.bl true) fun _ _ _=>False)
  (P6:∀ H e s',CX [] H s₁ (fun _ _ _=>False) e s'->False) :
  codeAny (model P w) callerA (.call (.ref fa) ⟨[.ref a],[]⟩) (fun r s'=>r=.ok (.ret (.bool true))/\OldK s₁.heap s'.heap/\s'.os=s₁.os/\AllBare s'.gens) s₁:=by
 have rv:=oZ hi
 have lenV:=hi.length
 have core:∀ H:Hp,D8 H->SqL K H a (ns.map V.int)->HOk P w H s₁.heap->(∀ b,H b≠none->b=a)->(H a≠none->K.lookup a=none)->
   codeAny (model P w) callerA (.call (.ref fa) ⟨[.ref a],[]⟩) (fun r s'=>r=.ok (.ret (.bool true))/\OldK s₁.heap s'.heap/\s'.os=s₁.os/\AllBare s'.gens) s₁:=by
  intro H hO hS hok hA hK
  have KH:∀ {b:Addr} {o:Obj},s₁.heap.get? b=some o->H b=none->(wW s₁.heap H).get? b=some o:=fun e n=>wX e n
  have Om:∀ {b:Addr} {o:Obj} {es:Array DictEntry} {ep:Nat},s₁.heap.get? b=some o->o.data=.dict es ep->H b=none:=fun {b o es ep} e d=>by
   cases q:H b with
   | none=>rfl
   | some u=>
    have e':b=a:=hA b (by rw [q];simp)
    subst e'
    rw [ha] at e;cases e
    have d':Data.seq vs.toArray _=Data.dict es ep:=d
    cases d'
  have Pk:∀ {b:Addr} {m:Str->Option Value},s₁.heap.Ns b m->(wW s₁.heap H).Ns b m:=fun {b m} ⟨o,es,ep,e,d,r⟩=>⟨o,es,ep,KH e (Om e d),d,r⟩
  have Q4:K.In (wW s₁.heap H):=fun b o e=>KH (KX b o e) (by
   cases q:H b with
   | none=>rfl
   | some u=>
    have e':b=a:=hA b (by rw [q];simp)
    subst e'
    rw [hK (by rw [q];simp)] at e;cases e)
  have hM:Mod K mg (wW s₁.heap H):=⟨Q4,Pk MP,⟨mb,Pk hb,Lg⟩,let ⟨mc,h1,h2⟩:=hlim;⟨mc,Pk h1,h2⟩⟩
  have e0:Env0 P w K mg (wW s₁.heap H) callerA [] s₁ H:=⟨rfl,hM,fun b o e=>yW e,Vp (ux _ _),trivial,fun b hb=>absurd (show b∈([]:List Addr) from hb) (by simp),hok,.of_eq hg⟩
  refine codeAny_mono ((F _ Q4 (Pk MP)).run callerA [] s₁ H ⟨[.ref a],[]⟩ [.ref a] [.ref a] _ _ hr e0 (Ou s₁ (.ref a)) (.cons rfl .nil) (Lf H hO hS)) fun r s' h=>?_
  cases r with
  | error e=>exact (P6 H e s' h).elim
  | ok fl=>
   cases fl with
   | next=>exact False.elim h
   | brk=>exact False.elim h
   | cont=>exact False.elim h
   | ret u=>
    obtain ⟨v,H',os,bare,un,hok',r',q⟩:=h
    have q':v=.bl true:=q
    subst q'
    obtain rfl:u=Value.bool true:=r'
    refine ⟨rfl,OldK.of_keep fun b o e=>?_,os,bare⟩
    cases q:H b with
    | none=>exact un.keep b o e q (by intro z;exact absurd (show b∈([]:List Addr) from z) (by simp)) (by simp)
    | some u=>
     rcases hO b with z | ⟨ob,xs,z⟩
     ·rw [q] at z;cases z
     ·have z2:=un.frzs b ob _ z
      obtain ⟨e1,_⟩:=hok b _ z
      obtain ⟨e2,_⟩:=hok' b _ z2
      rw [e] at e1;cases e1
      exact e2
 cases hk:K.lookup a with
 | some o=>
  have e:=KX a o hk
  rw [ha] at e
  cases e
  refine core (fun _=>none) (fun _=>.inl rfl) (.inr ⟨_,vs.toArray,_,hk,rfl,rfl,rfl,by rw [RI,lenV];exact hl,by simpa using rv⟩) (fun b u z=>by have z':(none:Option HO)=some u:=z;cases z') (fun b z=>absurd rfl z) fun z=>absurd rfl z
 | none=>
  refine core (fun b=>if b=a then some (.frz { cls:=.type "list",data:=.seq vs.toArray } (.lst (ns.map V.int))) else none) (fun b=>?_) (.inl (.inr ⟨{ cls:=.type "list",data:=.seq vs.toArray },RO rfl⟩)) (fun b u z=>?_) (fun b z=>?_) fun _=>hk
  ·by_cases hb:b=a
   ·exact .inr ⟨_,_,RO hb⟩
   ·exact .inl (RY hb)
  ·by_cases hb:b=a
   ·have z':=(RO hb).symm.trans z
    cases z'
    subst hb
    exact ⟨ha,by rw [RJ];exact hl,vs,_,rv,ha⟩
   ·have z':=(RY hb).symm.trans z
    cases z'
  ·by_cases hb:b=a
   ·exact hb
   ·exact absurd (RY hb) z
theorem zj {l:PySem.W.OpenLaw} {n k:Nat} {q:Program} {loose:List Str} {XP:(Str->Option Value)->Heap->Prop} {YP:World->Heap->Prop} {d:DefRec} {K:Params->W.Frag} {CX:World->K4} {sp:World->Sp} {x:Str}
  (hn:l.most=some n) (Lh:n<=sizeLine) (Oq:d.params.defaults=[]) (hr:Room k callerA)
  (hY:∀ (w:World) (h:Heap),YP w h->(K w.params).In h)
  (F:∀ (w:World) (mg:Str->Option Value) (fa:Addr) (h:Heap),(K w.params).In h->h.Ns mainGlobals mg->mg d.name=some (.ref fa)->
   ∃ fd:FuncData,(∀ (s:Shared) (u:Value),BindsTo s fd ⟨[u],[]⟩ [(x,u)])/\
    ∀ base:Heap,(K w.params).In base->base.Ns mainGlobals mg->FnOk l.prog w (K w.params) mg base (CX w) k fa fd [x] (sp w))
  (Lf:∀ (w:World) (H:Hp) (a:Addr) (ns:List Int),ns.length<=n->D8 H->SqL (K w.params) H a (ns.map V.int)->sp w [.ref a] H (fun v _=>v=.bl true) fun _ _ _=>False)
  (P6:∀ (w:World) (H:Hp) (s:Shared) (e:Value) (s':Shared),CX w [] H s (fun _ _ _=>False) e s'->False) :
  PySem.W.WalkO q loose XP YP l.row.toRowW d [] (fun f vs=>PySem.call f vs):=by
 refine Att.attach_call hn Oq fun w s₀ s₁ mg mb fa o pm cd doc a vs ns G Y ho hd Ld Ot M8 hints hlen hg=>?_
 have KX:=hY w _ Y
 obtain ⟨fd,hb,hF⟩:=F w mg fa _ KX G.T.g Ot
 exact xj KX G.T.g G.T.b G.T.builtins G.T.nolimit hg M8 hints (SJ hlen Lh) hr hF hb (fun H hO hS=>Lf w H a ns hlen hO hS) fun H e s'=>P6 w H s₁ e s'
def g5 (s:Stmt):Arguments:=match s with
 | .FunctionDef _ a _ _ _ _ _ _ _ _=>a
 | _=>{ posonlyargs:=[],args:=[],vararg:=none,kwonlyargs:=[],kw_defaults:=[],kwarg:=none,defaults:=[] }
def ft (s:Stmt):List Stmt:=match s with
 | .FunctionDef _ _ b _ _ _ _ _ _ _=>b
 | _=>[]
def defScope (s:Stmt):Scope:=match s with
 | .FunctionDef _ _ _ _ _ _ sc _ _ _=>sc
 | _=>{ kind:=.function,names:=[],isGenerator:=false,isCoroutine:=false }
abbrev Li:K4:=fun _ _ _ _ _ _=>False
abbrev E0:XK:=fun _ _ _=>False
theorem D9 {X:Cx}:uI Li X E0:=fun _ _ _ _ _ _ _ h=>h.elim
structure Fun (K:W.Frag) (x qual:Str) (st:Stmt) (f:Addr) (fd:FuncData):Prop where
 ex:∃ (oc:Value) (od:Option Addr) (kV doc pm:Value) (an:Option Addr) (Gy ct:Value) (LL:Array (Option Value)),
  fd=PySem.W.fnOf x qual (g5 st) (ft st) (defScope st) .none kV doc pm an Gy ct/\K.lookup f=some ⟨oc,od,.func fd,LL⟩/\PySem.W.codeIn K Gy qual=true
 kp:PySem.W.keepIn K (.ref f)=true
section
variable {P:Program} {w:World} {K:W.Frag} {mg:Str->Option Value} {base:Heap}
theorem Fun.ok {x qual:Str} {st:Stmt} {f:Addr} {fd:FuncData} {N ps:List Str} {k:Nat} {sp:Sp} (F:Fun K x qual st f fd) (S:FnScope N ps (defScope st)) (len:∀ vs H Q E,sp vs H Q E->vs.length=ps.length)
  (Le:∀ (Gy:Value) (A:Around) (outer:List Env) (s:Shared) (H:Hp) (vs:List V) (Q:VK) (E:XK),Room k (A.deeper (envOfC qual (defScope st) s.heap.objs.size f Gy))->sp vs H Q E->
   ∃ t,PSs (yg Li P w K mg base N qual (defScope st) f Gy A outer s H E).nox (ft st) t/\t { nx:=fun _ H'=>Q .non H',rt:=Q } (start N vs) H):FnOk P w K mg base Li (k + 1) f fd ps sp:=by
 obtain ⟨oc,od,kV,doc,pm,an,Gy,ct,LL,rfl,lk,Ld⟩:=F.ex
 refine D4 lk Ld S len fun A outer s H vs Q E hr Lf=>?_
 obtain ⟨t,h,q⟩:=Le Gy A outer s H vs Q E hr Lf
 exact ⟨t,h.nox,q⟩
theorem Fun.binds {x qual:Str} {st:Stmt} {f:Addr} {fd:FuncData} {ps:List Str} (F:Fun K x qual st f fd)
  (h:∀ (kV doc pm:Value) (an:Option Addr) (Gy ct:Value) (us:List Value),us.length=ps.length->bindArgs (PySem.W.fnOf x qual (g5 st) (ft st) (defScope st) .none kV doc pm an Gy ct) ⟨us,[]⟩=pure (ps.zip us)):Binds K fd ps []:=by
 obtain ⟨oc,od,kV,doc,pm,an,Gy,ct,LL,rfl,lk,Ld⟩:=F.ex
 exact .all (h kV doc pm an Gy ct)
theorem yk {x qual:Str} {st:Stmt} {f:Addr} {oc:Value} {od an:Option Addr} {LL:Array (Option Value)} {kV doc pm Gy ct:Value} (l:K.lookup f=some ⟨oc,od,.func (PySem.W.fnOf x qual (g5 st) (ft st) (defScope st) .none kV doc pm an Gy ct),LL⟩)
  (c:PySem.W.codeIn K Gy qual=true) (k:PySem.W.keepIn K (.ref f)=true):Fun K x qual st f (PySem.W.fnOf x qual (g5 st) (ft st) (defScope st) .none kV doc pm an Gy ct):=⟨⟨oc,od,kV,doc,pm,an,Gy,ct,LL,rfl,l,c⟩,k⟩
end
theorem hu_of {A:Around} {k:Nat} (hr:Room k A):A.units + 1 < cLine:=Nat.lt_of_le_of_lt (Nat.add_le_add_left (by decide:1<=64) _) hr.units
section
variable {X:Cx}
theorem pv (i:Nat) {x:Str} {pos:Pos} (hN:X.N[i]?=some x:=by rfl) (hv:PU X.env.scope x:=by first | exact Or.inl rfl | exact Or.inr (Or.inl rfl) | exact Or.inr (Or.inr rfl)) (hd:(x == ("__debug__" : Str))=false:=by decide)
  (Ld:(x == ("__classdict__" : Str))=false:=by decide):PE X (.Name x pos) (wR i):=Bm hN hv hd Ld
end
theorem iteF {A B:Prop} (h:B):if false=true then A else B:=by
 rw [RY RK]
 exact h
theorem BV {A B:Prop} (h:A):if true=true then A else B:=by
 rw [RO rfl]
 exact h
def Same (H H':Hp):Prop:=∀ b o,H b=some o->H' b=some o
theorem Same.refl (H:Hp):Same H H:=fun _ _ h=>h
theorem Same.trans {H H1 H2:Hp} (a:Same H H1) (b:Same H1 H2):Same H H2:=fun c o h=>b c o (a c o h)
theorem Same.free {H H':Hp} (e:Same H H') {l:Addr} (h:H' l=Option.none):H l=Option.none:=by
 cases q:H l with
 | none=>rfl
 | some o=>
  rw [e l o q] at h
  cases h
theorem Same.seq {K:W.Frag} {H H':Hp} {a:Addr} {xs:List V} (e:Same H H') (h:SqL K H a xs):SqL K H' a xs:=by
 rcases h with (h | ⟨o,h⟩) | h
 ·exact .inl (.inl (e _ _ h))
 ·exact .inl (.inr ⟨o,e _ _ h⟩)
 ·exact .inr h
end L2
set_option maxHeartbeats 4000000
namespace NX
open PySem PySem.Spec PyProof.Rows L2
section
variable {X:Cx}
theorem xk (v:Int) (n:Nat):max (0:Int) (min (if v < 0 then v + (n:Int) else v) (n:Int))=((HT.sIx n 0 (some v):Nat):Int):=by
 show _=(((if v < 0 then (v + (n:Int)).toNat else min v.toNat n):Nat):Int)
 split <;> lia
theorem BW (a b:Nat):sliceRange (a:Int) (b:Int) 1=(List.range (b - a)).map (fun k=>a + k):=by
 unfold sliceRange
 rw [RO (by decide:(1:Int) > 0)]
 by_cases GV:(a:Int) < b
 ·have e3:(((b:Int) - a + 1 - 1) / 1).toNat=b - a:=by first | lia | (simp;done) | (simp;lia)
  simp only [GV,Us,e3]
  refine SK fun k _=>?_
  lia
 ·have:b - a=0:=by lia
  simp [GV,this]
theorem FC (lo hi:Option Int) (n:Nat):Builtin.Str.strSliceIndices lo hi 1 n=(List.range (HT.sIx n n hi - HT.sIx n 0 lo)).map (fun k=>HT.sIx n 0 lo + k):=by
 rw [<-BW]
 unfold Builtin.Str.strSliceIndices
 simp only [show (1:Int) > 0 from by decide,Us]
 cases lo with
 | none=>
  cases hi with
  | none=>rfl
  | some v=>exact SY (fun z=>sliceRange 0 z 1) (xk v n)
 | some u=>
  cases hi with
  | none=>exact SY (fun z=>sliceRange z (n:Int) 1) (xk u n)
  | some v=>exact (SY (fun z=>sliceRange z _ 1) (xk u n)).trans (SY (fun z=>sliceRange _ z 1) (xk v n))
def BX (xs:List Nat) (lo hi:Option Int):List Nat:=(xs.drop (HT.sIx xs.length 0 lo)).take (HT.sIx xs.length xs.length hi - HT.sIx xs.length 0 lo)
theorem ym {α:Type} (l:List α):∀ (n a:Nat),a + n<=l.length->((List.range n).map (fun k=>a + k)).filterMap (l[·]?)=(l.drop a).take n
 | 0,_,_=>by simp
 | n + 1,a,h=>by
  have GV:a + n < l.length:=by lia
  rw [Vq,RP,List.filterMap_append,ym l n a (by lia),SH,List.getElem?_drop]
  simp [List.getElem?_eq_getElem GV]
theorem uS (x:Str) (lo hi:Option Int):(Txt.slice x lo hi).cps.toList=BX x.cps.toList lo hi:=by
 have hl:x.cps.toList.length=x.length:=Tb
 have ha:=HT.uM x.length 0 (So _) lo
 have hb:=HT.uM x.length x.length (RL _) hi
 unfold Txt.slice BX
 rw [FC,hl]
 split
 ·rename_i h
  have h2:HT.sIx x.length x.length hi - HT.sIx x.length 0 lo=x.length:=by simpa using h
  have ez:HT.sIx x.length 0 lo=0\/x.length=0:=by lia
  rcases ez with e | e
  ·rw [h2,e,VB,Tz (by lia)]
  ·have:x.cps.toList=[]:=S1 (by lia)
   rw [this]
   simp
 ·have hk:∀ (f:List Nat),f.filterMap (x.cps[·]?)=f.filterMap (x.cps.toList[·]?):=fun f=>by
   congr 1
   funext i
   simp
  show (List.filterMap _ _).toArray.toList=_
  rw [Uj,hk]
  by_cases hle:HT.sIx x.length 0 lo<=HT.sIx x.length x.length hi
  ·rw [ym _ _ _ (by lia)]
  ·have e0:HT.sIx x.length x.length hi - HT.sIx x.length 0 lo=0:=by lia
   rw [e0]
   rfl
abbrev S (l:List Nat):Str:=⟨l.toArray⟩
theorem o4 (x:Str):S x.cps.toList=x:=by cases x;simp [S]
theorem S_inj {a b:List Nat} (h:S a=S b):a=b:=by
 have:=SY (fun z:Str=>z.cps.toList) h
 simpa [S] using this
theorem mJ (l:List Nat):(S l).length=l.length:=by simp [S,Str.length]
theorem fu (l:List Nat):(S l).cps.toList=l:=by simp [S]
theorem Ea (a b:List Nat):S a++S b=S (a++b):=by
 rw [<-o4 (S a++S b),PySem.W.KT.app_list,fu,fu]
def FD:V->Option Int->Option Int->Hp->VK->Prop:=fun x lo hi H Q=>∃ l,x=.str (S l)/\l.length<=sizeLine/\Q (.str (S (BX l lo hi))) H
theorem BY:M6 X FD:=by
 intro pins s σ H x v vl vu lo hi sl Q I rx hs pl pu h
 obtain ⟨l,rfl,hz,q⟩:=h
 obtain ⟨t,rfl⟩:=rx
 have hz':(S l).length<=sizeLine:=by rw [mJ];exact hz
 have e:∀ t' k,EP X pins σ Q (.str (Txt.slice (S l) lo hi) t') { s with toks:=k }:=fun t' k=>by
  refine ⟨.str (S (BX l lo hi)),H,I.tok _,⟨t',?_⟩,q⟩
  have e1:=uS (S l) lo hi
  rw [fu] at e1
  rw [<-e1,o4]
 refine ⟨"str",_,PySem.F.slot_str_getitem.lookup,Vy _ _ _,?_⟩
 have key:∀ (M9 Pm:Option (Int×Tok)),partValue M9=vl->partValue Pm=vu->M9.map (·.1)=lo->Pm.map (·.1)=hi->
   wpAny (model X.prog X.w) X.A (getItem (.str (S l) t) (.ref sl)) (EP X pins σ Q) X.xe s:=by
  rintro M9 Pm rfl rfl rfl rfl
  exact wpAny_getItem_str_slice (l:=M9) (u:=Pm) (st:=none) hs rfl (post_val_or_str ⟨SJ (Txt.slice_le (S l) _ _) hz',fun t' k=>e t' k⟩)
 cases pl with
 | none=>
  cases pu with
  | none=>exact key none none rfl rfl rfl rfl
  | int j uj=>exact key none (some (j,uj)) rfl rfl rfl rfl
 | int i ui=>
  cases pu with
  | none=>exact key (some (i,ui)) none rfl rfl rfl rfl
  | int j uj=>exact key (some (i,ui)) (some (j,uj)) rfl rfl rfl rfl
theorem getD_of {xs:List V} {j:Nat} {x:V} (h:xs[j]?=some x):xs.getD j .non=x:=by rw [List.getD_eq_getElem?_getD,h];rfl
end
def Def (K:W.Frag) (mg:Str->Option Value) (x:Str) (st:Stmt):Prop:=∃ f fd,Fun K x x st f fd/\mg x=some (.ref f)
def Ct (P:Program) (w:World) (K:W.Frag) (mg:Str->Option Value) (base:Heap) (x:Str) (k:Nat) (sp:Sp):Prop:=
 ∃ f fd ps,FnOk P w K mg base Li k f fd ps sp/\mg x=some (.ref f)/\PySem.W.keepIn K (.ref f)=true/\Binds K fd ps []
section
variable {X:Cx} {e:Expr} {es:List Expr} {t:TA} {x:Str} {p pos:Pos} {k:Nat} {sp:Sp}
theorem Eb (C:Ct X.prog X.w X.K X.mg X.base x k sp) (hr:Room k X.A) (hg:Gl X x) (ha:PA X (e :: es) t) (Jk:(x == ("__debug__" : Str))=false:=by decide)
  (he:starEach (e :: es) X.env=(false,eval e X.env) :: starEach es X.env:=by rfl) (Iq:(backTo pos (starEach es X.env)).any (·.1)=false:=by rfl) :
  PE X (.Call (.Name x p) (e :: es) [] pos) (tCall sp [] E0 t):=by
 obtain ⟨f,fd,ps,G,m,kp,b⟩:=C
 exact y9 G hr hg m kp b .nil D9 ha Jk he Iq
end
theorem bt_len:bootBuiltins "len" = some (.builtin "len"):=by decide +kernel
theorem nF:bootBuiltins "isinstance" = some (.builtin "isinstance"):=by decide +kernel
theorem uT:bootBuiltins "list" = some (.type "list"):=by decide +kernel
theorem yn:bootBuiltins "int" = some (.type "int"):=by decide +kernel
theorem bR:bootBuiltins "tuple" = some (.type "tuple"):=by decide +kernel
theorem zk:bootBuiltins "bool" = some (.type "bool"):=by decide +kernel
theorem line_eq:sizeLine=16777216:=SU
theorem flat_strs (a:List (List Nat)):(a.map fun l=>V.str (S l)).all xg=true:=by
 rw [R3]
 intro v hv
 obtain ⟨l,_,rfl⟩:=Sq.mp hv
 rfl
section
variable {X:Cx} {e:Expr} {st:Stmt}
end
def clOf (scope:Scope) (env:Env):List (Str×Addr):=scope.names.foldl (fun cs y=>if y.2 == NameKind.free then (y.1,(env.cells.lookup y.1).getD 0) :: cs else cs) []
def ju (scope:Scope) (env:Env):Bool:=scope.names.all fun y=>y.2 != NameKind.free || env.kindOf y.1 == some .cell || env.kindOf y.1 == some .free
theorem iL (env:Env):∀ (l:List (Str×NameKind)) (cs:List (Str×Addr)),(∀ y∈l,y.2=.free->∃ c,env.cells.lookup y.1=some c)->
  (forIn l cs fun (y:Str×NameKind) (r:List (Str×Addr))=>(do
   if y.2 == NameKind.free then
    let a <-cellOf env y.1
    pure (ForInStep.yield ((y.1,a) :: r))
   else pure (ForInStep.yield r):Sem (ForInStep (List (Str×Addr)))))=pure (l.foldl (fun cs y=>if y.2 == NameKind.free then (y.1,(env.cells.lookup y.1).getD 0) :: cs else cs) cs)
 | [],cs,_=>by simp
 | y :: l,cs,h=>by
  rw [Vr,TU]
  by_cases k:y.2=.free
  ·obtain ⟨c,e⟩:=h y RM k
   have e2:cellOf env y.1=pure c:=by unfold cellOf;rw [e]
   simp only [k,SF,Us,e2,e,Vh,pure_bind]
   exact iL env l _ fun z hz=>h z (RU _ hz)
  ·have kb:(y.2 == NameKind.free)=false:=by simpa using k
   simp only [kb,S8,UH,pure_bind]
   exact iL env l _ fun z hz=>h z (RU _ hz)
theorem iV (env:Env) (x:Str) (c:Addr):∀ (l:List (Str×NameKind)) (cs:List (Str×Addr)),(∀ y∈l,y.2=.free->∃ c,env.cells.lookup y.1=some c)->(cs.lookup x=some c->env.cells.lookup x=some c)->
  (l.foldl (fun cs y=>if y.2 == NameKind.free then (y.1,(env.cells.lookup y.1).getD 0) :: cs else cs) cs).lookup x=some c->env.cells.lookup x=some c
 | [],_,_,h,e=>h e
 | y :: l,cs,hf,h,e=>by
  rw [TU] at e
  refine iV env x c l _ (fun z hz=>hf z (RU _ hz)) (fun q=>?_) e
  split at q
  ·rename_i k
   have k:y.2=.free:=by simpa using k
   obtain ⟨d,ed⟩:=hf y RM k
   rw [S3] at q
   cases hx:x == y.1 with
   | true=>
    rw [hx] at q
    have exy:x=y.1:=by simpa using hx
    rw [ed,Vh] at q
    rw [exy,ed]
    exact q
   | false=>
    rw [hx] at q
    exact h q
  ·exact h q
theorem ly (env:Env) (x:Str):∀ (l:List (Str×NameKind)) (cs:List (Str×Addr)),((∃ d,cs.lookup x=some d)\/(x,NameKind.free)∈l)->
  ∃ d,(l.foldl (fun cs y=>if y.2 == NameKind.free then (y.1,(env.cells.lookup y.1).getD 0) :: cs else cs) cs).lookup x=some d
 | [],_,h=>by
  rcases h with h | h
  ·exact h
  ·cases h
 | y :: l,cs,h=>by
  rw [TU]
  refine ly env x l _ ?_
  rcases h with ⟨d,h⟩ | h
  ·refine .inl ?_
   split
   ·rw [S3]
    cases hx:x == y.1 with
    | true=>exact ⟨_,rfl⟩
    | false=>exact ⟨d,h⟩
   ·exact ⟨d,h⟩
  ·rcases RT.mp h with h | h
   ·refine .inl ?_
    rw [<-h]
    refine ⟨(env.cells.lookup x).getD 0,?_⟩
    show List.lookup x ((x,_) :: cs)=_
    rw [S3,SF]
   ·exact .inr h
def cF (X:Cx) (scope:Scope) (N:List Str) (C:Addr) (s:Shared) (H:Hp) (fp:List Addr) (pn:List (Addr×Obj)):Cx:=
 { X with N:=N,s₀:=s,H₀:=H,env:=compEnvC scope (clOf scope X.env) C X.env,outer:=X.stack,ex:=fp,fn:=fun _=>false,pn:=pn,xe:=fun _ _=>False }
def mX (ix:List (Option Nat)) (σ:L2.St):L2.St:=ix.map fun i=>i.bind fun i=>(σ[i]?).bind id
def zl (wi:TI) (ix:List (Option Nat)) (g:TG) (tc:TT) (te:TE):TE:=fun σ H Q=>wi σ H fun J H1=>∀ D,H1 D=none->∃ W:Nat->Nat->L2.St->Hp->Prop,(∃ m,W 0 m (mX ix σ) (upd H1 D (.lst [])))/\
 ∀ i m σ1 H2,W i m σ1 H2->(J.stop i H2/\Q (.ref D) H2)\/(J.go i H2/\∀ x H3,J.yld i H2 x H3->g x σ1 H3 fun σ2 H4=>tc σ2 H4 fun b H5=>if b=true then te σ2 H5 fun v H6=>
  ∃ ys,H6 D=some (.lst ys)/\ys.length < sizeLine/\∃ m',m' < m/\W (i + 1) m' σ2 (upd H6 D (.lst (ys++[v]))) else ∃ m',m' < m/\W (i + 1) m' σ2 H5)
abbrev L1:Value->Shared->Prop:=fun _ _=>False
theorem N6 {α:Type} {M:Model} {A:Around} {t:Sem α} {Q Q':α->Shared->Prop} {E:Value->Shared->Prop} {s:Shared} (h:wpAny M A t Q L1 s) (k:∀ a s,Q a s->Q' a s):wpAny M A t Q' E s:=Ul h k fun _ _ z=>z.elim
theorem uU {prog:Program} {w:World} {A:Around} {R:Result->Shared->Prop} {s:Shared} {elt target iter:Expr} {ifs:List Expr} {scope:Scope} {pos:Pos} {it acc:Value} {env:Env} (I:Nat->Shared->Prop)
  (turn:∀ n s,I n s->wpAny (model prog w) A (pyNext it) (fun r s₁=>match r with
   | none=>R (.ok .next) s₁
   | some v=>wpAny (model prog w) A (letOwnedTupleGo target it v) (fun _ s₂=>wpAny (model prog w) A (assign target env v) (fun _ s₃=>
     wpAny (model prog w) A (forIn ifs true fun c r=>if r=true then do let ok <-isTrue c env (eval c env);pure (ForInStep.yield ok) else pure (ForInStep.yield r)) (fun ok s₄=>
      if ok=true then wpAny (model prog w) A (eval elt env) (fun x s₅=>
       wpAny (model prog w) A (call (.builtin "list.append") [acc,x]) (fun _ s₆=>∃ m,m < n/\I m s₆) L1 s₅) L1 s₄
      else ∃ m,m < n/\I m s₄) L1 s₃) L1 s₂) L1 s₁) L1 s)
  (n:Nat) (h:I n s):codeAny (model prog w) A (.compLoop (.ListComp elt [⟨target,iter,ifs,0⟩] scope pos) 0 it acc env) R s:=by
 refine codeAny_loop rfl I (fun n s hI=>?_) n h
 show wpAny _ A ((compTurn (.ListComp elt [⟨target,iter,ifs,0⟩] scope pos) 0 it acc env).onRaise (fun x=>do noteFrame x env;theTreesLotGoes x)) _ _ s
 refine wpAny_noted ?_
 rw [compTurn_list]
 refine RG (VF (RG (N6 (turn n s hI) fun r s₁ h₁=>?_)))
 cases r with
 | none=>exact RH h₁
 | some v=>
  refine RG (N6 h₁ fun _ s₂ h₂=>RG (N6 h₂ fun _ s₃ h₃=>RG (N6 h₃ fun ok s₄ h₄=>?_)))
  cases ok with
  | false=>exact RH ⟨rfl,h₄⟩
  | true=>exact RG (RG (N6 h₄ fun x s₅ h₅=>RG (N6 h₅ fun _ s₆ h₆=>RH (RH ⟨rfl,h₆⟩))))
def N7 (X:Cx) (ifs:List Expr) (t:TT):Prop:=
 ∀ (pins:List (Addr×Obj)) (s:Shared) (σ:L2.St) (H:Hp) (Q:Bool->Hp->Prop),Inv X pins σ H s->t σ H Q->
  wpAny (model X.prog X.w) X.A (forIn ifs true fun c r=>if r=true then do let ok <-isTrue c X.env (eval c X.env);pure (ForInStep.yield ok) else pure (ForInStep.yield r)) (TP X pins σ Q) X.xe s
def FE:TT:=fun _ H Q=>Q true H
theorem zm {X:Cx}:N7 X [] FE:=fun _ _ _ H _ I h=>wpAny_tests_nil ⟨H,I,h⟩
theorem zo {X:Cx} {c:Expr} {t:TT} (h:PT X c t):N7 X [c] t:=fun pins s σ H Q I k=>wpAny_tests_one (h pins s σ H Q I k)
def yo (X:Cx) (scope:Scope) (N:List Str) (ix:List (Option Nat)):Bool:=
 N.length == ix.length && (N.zip ix).all fun y=>match y.2 with
  | none=>true
  | some j=>X.N[j]? == some y.1 && scope.names.lookup y.1 == some .free
theorem o5 {scope:Scope} {env:Env} {x:Str} (h:scope.names.lookup x=some .free):(relabel scope env).names.lookup x=some .cell\/(relabel scope env).names.lookup x=some .free:=by
 unfold relabel
 dsimp only
 generalize scope.names=l at h
 induction l with
 | nil=>cases h
 | cons y l ih=>
  obtain ⟨n,k⟩:=y
  rw [S3] at h
  rw [R6]
  cases hx:x == n with
  | true=>
   rw [hx] at h
   have hk:k=.free:=Sj h
   subst hk
   dsimp only
   split
   ·exact .inl (by rw [S3,hx])
   ·exact .inr (by rw [S3,hx])
  | false=>
   rw [hx] at h
   dsimp only
   split
   ·rw [S3,hx];exact ih h
   ·rw [S3,hx];exact ih h
theorem o6 {scope:Scope} {env:Env} {x:Str} (hc:∀ y∈scope.names,y.2≠.cell) (h:(relabel scope env).names.lookup x=some .cell\/(relabel scope env).names.lookup x=some .free):(x,NameKind.free)∈scope.names:=by
 unfold relabel at h
 dsimp only at h
 generalize scope.names=l at h hc
 induction l with
 | nil=>rcases h with h | h <;> cases h
 | cons y l ih=>
  obtain ⟨n,k⟩:=y
  rw [R6] at h
  dsimp only at h
  have nk:k≠.cell:=hc (n,k) RM
  have Q5:=ih (hc:=fun z hz=>hc z (RU _ hz))
  by_cases cnd:(k == NameKind.free && env.scope.kind == .function && env.kindOf n == some .cell)=true
  ·rw [RO cnd,S3] at h
   have kf:k=.free:=by
    have:(k == NameKind.free)=true:=by
     simp only [R9] at cnd
     exact cnd.1.1
    simpa using this
   cases hx:x == n with
   | true=>
    have:x=n:=by simpa using hx
    rw [this,kf]
    exact RM
   | false=>
    rw [hx] at h
    exact RU _ (Q5 h)
  ·rw [RY cnd,S3] at h
   cases hx:x == n with
   | true=>
    rw [hx] at h
    have:x=n:=by simpa using hx
    rcases h with h | h
    ·exact absurd (Sj h) nk
    ·rw [this,<-Sj h]
     exact RM
   | false=>
    rw [hx] at h
    exact RU _ (Q5 h)
section
variable {X:Cx} {pins:List (Addr×Obj)} {σ:L2.St} {H:Hp} {s:Shared} {scope:Scope} {N:List Str} {ix:List (Option Nat)} {fp:List Addr}
theorem nG (ok:X.Ok) (hf:ju scope X.env=true):∀ y∈scope.names,y.2=.free->∃ c,X.env.cells.lookup y.1=some c:=fun y hy k=>by
 have:=R3.mp hf y hy
 rw [k] at this
 simp only [U3,Va,Vs,Si] at this
 exact ok.has y.1 this
theorem lA (ok:X.Ok) (hf:ju scope X.env=true) {x:Str} {c:Addr} (h:(clOf scope X.env).lookup x=some c):X.env.cells.lookup x=some c:=
 iV X.env x c scope.names [] (nG ok hf) (fun z=>nomatch z) h
theorem uV (ok:X.Ok) (hf:ju scope X.env=true) {x:Str} (h:(x,NameKind.free)∈scope.names):∃ c,(clOf scope X.env).lookup x=some c/\X.env.cells.lookup x=some c:=by
 obtain ⟨c,e⟩:=ly X.env x scope.names [] (.inr h)
 exact ⟨c,e,lA ok hf e⟩
theorem _root_.L2.Inv.block (I:Inv X pins σ H s) (hf:ju scope X.env=true) (hk:scope.kind=.function) (G9:∀ y∈scope.names,y.2≠.cell) (H0:yo X scope N ix=true) (fo:∀ b∈fp,uk X pins H b) (fin:∀ b∈fp,∃ o,s.heap.get? b=some o)
  {h1:Heap} {t1:Nat} {D C:Addr} (hD:D=s.heap.objs.size) (hC:C=s.heap.objs.size + 1) (old:∀ b o,s.heap.get? b=some o->h1.get? b=some o) {n:Nat} (acc:h1.get? D=some { cls:=.type "list",data:=.seq #[] n })
  {m:Str->Option Value} (ns:h1.Ns C m):Inv (cF X scope N C s H fp (X.pn++pins)) [] (mX ix σ) (upd H D (.lst [])) { s with heap:=h1,toks:=t1 }:=by
 have Ke:s.heap.objs.size<=C:=by rw [hC];exact Ua _
 have freshD:s.heap.objs.size<=D:=by rw [hD];exact RL _
 have nD:H D=none:=I.hok.fresh freshD
 have DC:D≠C:=by rw [hD,hC];exact R8 (T6 _)
 have Na:∀ b,H b=none->b≠D->upd H D (.lst []) b=none:=fun b n z=>by rw [aS z];exact n
 have N8:∀ b o,s.heap.get? b=some o->b≠D:=fun b o e=>R8 (RZ (RS e) freshD)
 have L4:∀ b o,s.heap.get? b=some o->b≠C:=fun b o e=>R8 (RZ (RS e) Ke)
 have cellAt:∀ x c,(clOf scope X.env).lookup x=some c->∃ v o,s.heap.get? c=some o/\o.data=.cell v:=fun x c e=>by
  obtain ⟨v,o,ho,hd⟩:=I.cell x c (lA I.ok hf e)
  exact ⟨v,o,ho,hd⟩
 have okY:(cF X scope N C s H fp (X.pn++pins)).Ok:=by
  refine ⟨I.ok.mod,hk,I.ok.glob,I.ok.blt,Ke,fun x y c e1 e2=>?_,fun x hx=>?_,fun x c z _=>?_,I.ok.hd,I.ok.frames,.inl rfl,fun b hb=>?_,I.bs,?_,fun b o e hb=>?_,fun b hb hs=>?_,I.stack,I.stkFree⟩
  ·exact I.ok.inj x y c (lA I.ok hf e1) (lA I.ok hf e2)
  ·obtain ⟨c,e,_⟩:=uV I.ok hf (o6 G9 hx)
   exact ⟨c,e⟩
  ·exact absurd (show false=true from z) RK
  ·obtain ⟨f0,f1,f2,f3,f4,f5⟩:=fo b hb
   refine ⟨?_,fun x c e=>f4 x c (lA I.ok hf e)⟩
   intro z
   have z:b=C:=z
   obtain ⟨o,ho⟩:=fin b hb
   exact L4 b o ho z
  ·exact SJ I.ok.bsz I.sz
  ·obtain ⟨f0,f1,f2,f3,f4,f5⟩:=fo b hb
   rcases f3 with q | q
   ·exact I.ok.noex b o e q
   ·exact absurd (RZ (RS e) (SJ I.ok.bsz q)) (TH _)
  ·obtain ⟨f0,f1,f2,_⟩:=fo b hb
   exact (RT.mp (I.stkSub b hs)).elim f1 f2
 refine ⟨okY,rfl,I.bare,Un.laid old freshD nD,⟨m,ns,fun i x v e1 e2 e3=>?_⟩,fun x c e=>?_,?_,fun x c e=>?_,fun p hp=>?_,I.hok.laid old freshD ⟨So _,[],n,.nil,acc⟩,?_⟩
 ·
  have e2:(ix.map fun i=>i.bind fun i=>(σ[i]?).bind id)[i]?=some (some v):=e2
  have e1:N[i]?=some x:=e1
  unfold yo at H0
  rw [R9] at H0
  rw [List.getElem?_map] at e2
  cases q:ix[i]? with
  | none=>rw [q] at e2;cases e2
  | some o=>
   rw [q] at e2
   have e2:(o.bind fun i=>(σ[i]?).bind id)=some v:=Sj e2
   cases o with
   | none=>cases e2
   | some j=>
    have e2:(σ[j]?).bind id=some v:=e2
    have hσ:σ[j]?=some (some v):=by
     cases w':σ[j]? with
     | none=>rw [w'] at e2;cases e2
     | some y=>rw [w'] at e2;exact SY some e2
    have hz:(N.zip ix)[i]?=some (x,some j):=by
     rw [List.getElem?_zip_eq_some]
     exact ⟨e1,q⟩
    have hy:=R3.mp H0.2 _ (RW hz)
    simp only [R9,Si] at hy
    have Q6:(x,NameKind.free)∈scope.names:=Tt hy.2
    obtain ⟨c,c1,c2⟩:=uV I.ok hf Q6
    have Ov:X.env.kindOf x=some .cell\/X.env.kindOf x=some .free:=by
     have:=R3.mp hf _ Q6
     simpa using this
    obtain ⟨mo,Q2,Q3⟩:=I.loc
    obtain ⟨u,r,l⟩:=Q3 j x v hy.1 hσ (.inr Ov)
    refine ⟨u,r,.inr ⟨o5 hy.2,c,c1,?_⟩⟩
    rcases l with ⟨k1,_⟩ | ⟨_,c',e',LX⟩
    ·rcases Ov with k2 | k2 <;> (rw [k1] at k2;cases k2)
    ·rw [c2] at e'
     cases e'
     obtain ⟨o,ho,hd⟩:=LX
     exact ⟨o,old c o ho,hd⟩
 ·obtain ⟨v,o,ho,hd⟩:=cellAt x c e
  exact ⟨v,o,old c o ho,hd⟩
 ·exact Na C (I.hok.fresh Ke) (Tj DC)
 ·obtain ⟨v,o,ho,hd⟩:=cellAt x c e
  exact Na c (I.freeC x c (lA I.ok hf e)) (N8 c o ho)
 ·have hp:p∈X.pn++pins:=by
   have:p∈(X.pn++pins)++[]:=hp
   rwa [SW] at this
  obtain ⟨e,nn,ne,nf,d⟩:=I.pin p hp
  refine ⟨old _ _ e,Na _ nn (N8 _ _ e),L4 _ _ e,fun z=>?_,d⟩
  exact (RT.mp (I.stkSub p.1 z)).elim ne nf
 ·unfold yo at H0
  rw [R9] at H0
  have:N.length=ix.length:=by simpa using H0.1
  show (ix.map _).length=N.length
  rw [RJ,this]
theorem _root_.L2.Inv.unblock {C:Addr} {σ1:L2.St} {H1:Hp} {s1:Shared} {h2:Heap} (I:Inv X pins σ H s) (fo:∀ b∈fp,uk X pins H b) (hC:s.heap.objs.size<=C) (J:Inv (cF X scope N C s H fp (X.pn++pins)) [] σ1 H1 s1) (hs:Heap.SameBut C s1.heap h2) :
  Inv X pins σ H1 { s1 with heap:=h2 }:=by
 have L4:∀ b o,s.heap.get? b=some o->b≠C:=fun b o e=>R8 (RZ (RS e) hC)
 have bb:Un (KC X.stack) fp H H1 s.heap s1.heap:=J.base
 have jf:H1 C=none:=J.free
 refine I.call' (s':={ s1 with heap:=h2 }) (ch:=fp) J.os ⟨fun b o e n hb hx=>?_,fun b o e n hb hx=>?_,bb.free,fun b o e hx=>?_,bb.tups,bb.frzs,bb.tbls⟩ (fun b ob e=>?_) J.bare fun b hb=>?_
 ·exact (hs.2 b (L4 b o e)).trans (bb.keep b o e n hb hx)
 ·obtain ⟨sl,q⟩:=bb.slot b o e n hb hx
  exact ⟨sl,(hs.2 b (L4 b o e)).trans q⟩
 ·obtain ⟨o',q⟩:=bb.there b o e hx
  exact ⟨o',(hs.2 b (L4 b o e)).trans q⟩
 ·refine (J.hok b ob e).stay (fun c w' hc q=>(hs.2 c ?_).trans q) (fun _ q=>q) fun _ _ q=>q
  rintro rfl
  rcases hc with rfl | hc
  ·rw [jf] at e;cases e
  ·rw [jf] at hc;cases hc
 ·obtain ⟨f0,f1,f2,f3,f4,f5⟩:=fo b hb
  exact ⟨f3,f1,f4,f5⟩
end
section
variable {X:Cx} {scope:Scope} {N:List Str} {ix:List (Option Nat)} {tg iter elt:Expr} {ifs:List Expr} {pos:Pos} {wi:TI} {g:TG} {tc:TT} {te:TE}
theorem mY {pins:List (Addr×Obj)} {σ:L2.St} {H2:Hp} {s2:Shared} {J:It} {fp:List Addr} {it:Addr} {tn:Nat->Heap->Prop} {Q:VK} {RR:Value->Addr->Result->Shared->Prop} {E:Value->Shared->Prop}
  (hc:X.calm=true) (I2:Inv X pins σ H2 s2) (T:Turn X.prog X.w X.K tg J fp it tn) (Gk:tn 0 s2.heap) (f2:∀ b∈fp,uk X pins H2 b)
  (hg:∀ C s H fp pn,PG (cF X scope N C s H fp pn) tg g) (ht:∀ C s H fp pn,N7 (cF X scope N C s H fp pn) ifs tc) (he:∀ C s H fp pn,PE (cF X scope N C s H fp pn) elt te)
  (hf:ju scope X.env=true) (hk:scope.kind=.function) (G9:∀ y∈scope.names,y.2≠.cell) (H0:yo X scope N ix=true)
  (q:∀ D,H2 D=none->∃ W:Nat->Nat->L2.St->Hp->Prop,(∃ m,W 0 m (mX ix σ) (upd H2 D (.lst [])))/\
   ∀ i m σ1 H3,W i m σ1 H3->(J.stop i H3/\Q (.ref D) H3)\/(J.go i H3/\∀ x H4,J.yld i H3 x H4->g x σ1 H4 fun σ2 H5=>tc σ2 H5 fun b H6=>if b=true then te σ2 H6 fun v H7=>
    ∃ ys,H7 D=some (.lst ys)/\ys.length < sizeLine/\∃ m',m' < m/\W (i + 1) m' σ2 (upd H7 D (.lst (ys++[v]))) else ∃ m',m' < m/\W (i + 1) m' σ2 H6))
  (hRR:∀ (D C:Addr) (σ1:L2.St) (H1:Hp) (s1:Shared),s2.heap.objs.size<=C->Inv (cF X scope N C s2 H2 fp (X.pn++pins)) [] σ1 H1 s1->Q (.ref D) H1->RR (.ref D) C (.ok .next) s1) :
  wpAny (model X.prog X.w) X.A (newList []) (fun acc s₃=>wpAny (model X.prog X.w) X.A (newFunctionEnv scope X.env.globals (clOf scope X.env) [] X.env.qual none .none (some X.env)) (fun Ow s₄=>
   codeAny (model X.prog X.w) X.A (.compStart (.ListComp elt [⟨tg,iter,ifs,0⟩] scope pos) 0 (.ref it) acc { Ow with scope:=relabel scope X.env }) (RR acc Ow.locals) s₄) E s₃) E s2:=by
 refine Sz (wpAny_newFunctionEnv G9 (by intro y hy;simp at hy) (fun h₁ hns₁ hsb₁=>?_) hk)
 dsimp only at hns₁ hsb₁ ⊢
 generalize hH2:s2.heap.push { cls:=.type "list",dict:=none,data:=.seq ([]:List Value).toArray }=HH at hns₁ hsb₁ ⊢
 have hC:HH.objs.size=s2.heap.objs.size + 1:=by rw [<-hH2,T7]
 have hDC:s2.heap.objs.size≠HH.objs.size:=by rw [hC];exact R8 (T6 _)
 have Ox:s2.heap.objs.size<=HH.objs.size:=by rw [hC];exact Ua _
 have L4:∀ b o,s2.heap.get? b=some o->b≠HH.objs.size:=fun b o e=>R8 (RZ (RS e) Ox)
 have old:∀ b o,s2.heap.get? b=some o->h₁.get? b=some o:=fun b o e=>hsb₁.extBut b o (L4 b o e) (Heap.get?_push_of_some _ (hH2▸Heap.get?_push_of_some _ e))
 have L5:h₁.get? s2.heap.objs.size=some { cls:=.type "list",data:=.seq #[] 0 }:=hsb₁.extBut _ _ hDC (Heap.get?_push_of_some _ (hH2▸Heap.get?_push_size _ rfl))
 obtain ⟨W,⟨m0,w0⟩,turn⟩:=q s2.heap.objs.size (I2.hok.fresh (RL _))
 have fin:∀ b∈fp,∃ o,s2.heap.get? b=some o:=fun b hb=>let ⟨o,e,_⟩:=T.obj 0 _ Gk b hb;⟨o,e⟩
 have Kd:∀ {H':Hp},(∀ b∈fp,H' b=none)->∀ b∈fp,uk (cF X scope N HH.objs.size s2 H2 fp (X.pn++pins)) [] H' b:=fun {H'} hn b hb=>by
  obtain ⟨f0,f1,ff,f3,f4,f5⟩:=f2 b hb
  refine ⟨hn b hb,?_,fun z=>?_,.inl hb,fun x c e=>f4 x c (lA I2.ok hf e),fun p hp=>?_⟩
  ·intro z
   have z:b=HH.objs.size:=z
   obtain ⟨o,ho⟩:=fin b hb
   exact L4 b o ho z
  ·exact (RT.mp (I2.stkSub b z)).elim f1 ff
  ·have hp:p∈X.pn++pins:=by
    have:p∈(X.pn++pins)++[]:=hp
    rwa [SW] at this
   exact f5 p hp
 have loop:∀ s₃:Shared,s₃={ s2 with heap:=h₁,toks:=s2.toks + ([]:List (Str×Value)).length }->
   codeAny (model X.prog X.w) X.A (.compLoop (.ListComp elt [⟨tg,iter,ifs,0⟩] scope pos) 0 (.ref it) (.ref s2.heap.objs.size) (compEnvC scope (clOf scope X.env) HH.objs.size X.env)) (RR (.ref s2.heap.objs.size) HH.objs.size) s₃:=by
  rintro s₃ rfl
  refine uU (fun n s'=>∃ i σ' H',Inv (cF X scope N HH.objs.size s2 H2 fp (X.pn++pins)) [] σ' H' s'/\tn i s'.heap/\(∀ b∈fp,H' b=none)/\W i n σ' H') ?_ m0
   ⟨0,_,_,I2.block hf hk G9 H0 f2 fin rfl hC old L5 hns₁,T.keep 0 _ _ Gk fun b _ o e=>old b o e,fun b hb=>?_,w0⟩
  ·rintro n s3 ⟨i,σ3,H3,I3,GO,M3,w3⟩
   rcases turn i n σ3 H3 w3 with ⟨stop,qn⟩ | ⟨go,step⟩
   ·refine Gs (T.done (cF X scope N HH.objs.size s2 H2 fp (X.pn++pins)) rfl rfl rfl hc i [] s3 σ3 H3 L1 I3 (Kd M3) GO stop) fun r s4 Gu=>?_
    obtain ⟨hr,I4⟩:=Gu
    subst hr
    exact hRR _ _ σ3 H3 s4 Ox I4 qn
   ·refine Gs (T.item (cF X scope N HH.objs.size s2 H2 fp (X.pn++pins)) rfl rfl rfl hc i [] s3 σ3 H3 L1 I3 (Kd M3) GO go) fun r s4 Gu=>?_
    obtain ⟨u,hr,h4⟩:=Gu
    subst hr
    refine Gs h4 fun _ s5 Gu=>?_
    obtain ⟨x,H5,I5,r5,y5,IW,PZ⟩:=Gu
    have P0:=I5.pinned (Kd PZ) (T.obj _ _ IW)
    refine Gs (hg _ _ _ _ _ _ s5 σ3 H5 x u _ P0 r5 (step x H5 y5)) fun _ s6 Gu=>?_
    obtain ⟨σ6,H6,I6,q6⟩:=Gu
    refine Gs (ht _ _ _ _ _ _ s6 σ6 H6 _ I6 q6) fun ok s7 Gu=>?_
    obtain ⟨H7,I7,q7⟩:=Gu
    have again:∀ {H8:Hp} {s8:Shared},Inv (cF X scope N HH.objs.size s2 H2 fp (X.pn++pins)) ([]++oP fp s5.heap) σ6 H8 s8->(∃ m',m' < n/\W (i + 1) m' σ6 H8)->
      ∃ m,m < n/\∃ i σ' H',Inv (cF X scope N HH.objs.size s2 H2 fp (X.pn++pins)) [] σ' H' s8/\tn i s8.heap/\(∀ b∈fp,H' b=none)/\W i m σ' H':=fun {H8 s8} I8 ⟨m',hm,w8⟩=>by
     refine ⟨m',hm,i + 1,σ6,H8,I8.unpinned,T.keep _ _ _ IW fun b hb o e=>(I8.pin (b,o) (RN _ (RN _ (iK hb e)))).1,fun b hb=>?_,w8⟩
     obtain ⟨o,e,d⟩:=T.obj _ _ IW b hb
     exact (I8.pin (b,o) (RN _ (RN _ (iK hb e)))).2.1
    cases ok with
    | false=>exact again I7 q7
    | true=>
     show wpAny _ _ _ _ _ _
     refine Gs (he _ _ _ _ _ _ s7 σ6 H7 _ I7 q7) fun x8 s8 Gu=>?_
     obtain ⟨v8,H8,I8,r8,ys,P7,GV,q8⟩:=Gu
     refine Gs (oY _ s8 σ6 H8 (.ref s2.heap.objs.size) [v8] (.ref s2.heap.objs.size) [x8] (fun _ H9=>∃ m',m' < n/\W (i + 1) m' σ6 H9) I8 rfl (.cons r8 .nil) ⟨_,ys,v8,rfl,rfl,P7,GV,q8⟩) fun _ s9 Gu=>?_
     obtain ⟨_,H9,I9,_,q9⟩:=Gu
     exact again I9 q9
  ·rw [aS (fun z=>by
    obtain ⟨o,ho⟩:=fin b hb
    exact absurd z (R8 (RS ho)))]
   exact (f2 b hb).1
 exact codeAny_compStart_list (loop _ rfl) (T.self _ 0 _ _ _ (T.keep 0 _ _ Gk fun b _ o e=>old b o e) (loop _ rfl))
theorem zp (ix:List (Option Nat)) (N:List Str) (hc:X.calm=true) (hi:PI X tg iter wi) (hg:∀ C s H fp pn,PG (cF X scope N C s H fp pn) tg g) (ht:∀ C s H fp pn,N7 (cF X scope N C s H fp pn) ifs tc) (he:∀ C s H fp pn,PE (cF X scope N C s H fp pn) elt te)
  (hf:ju scope X.env=true:=by rfl) (hk:scope.kind=.function:=by rfl) (G9:∀ y∈scope.names,y.2≠.cell:=by decide +kernel) (Ia:∀ y∈scope.names,y.2=.local->scope.names.lookup y.1=some .local:=by decide +kernel) (H0:yo X scope N ix=true:=by rfl)
  (hs:∀ x,foldedSetIterable iter X.env x=pure x:=by intro _;rfl):PE X (.ListComp elt [⟨tg,iter,ifs,0⟩] scope pos) (zl wi ix g tc te):=by
 intro pins s σ H Q I h
 rw [eval_ListComp]
 have Lj:closureFor scope X.env=pure (clOf scope X.env):=by
  unfold closureFor clOf
  have:=iL X.env scope.names [] (nG I.ok hf)
  simpa using this
 refine wpAny_comprehension_free (use:=none) rfl hs Lj hk Ia (Gs (hi pins s σ H _ I h) fun v s1 h1=>Gs h1 fun Pg s2 h2=>?_)
 obtain ⟨it,fp,tn,J,H2,e,I2,T,Gk,f2,q⟩:=h2
 subst e
 refine mY (RR:=fun acc C=>compPost (model X.prog X.w) X.A X.xe none (EP X pins σ Q) acc C) (Q:=Q) (iter:=iter) hc I2 T Gk f2 hg ht he hf hk G9 H0 q fun D C σ1 H1 s1 hC J1 q1=>?_
 obtain ⟨m,ns,_⟩:=J1.loc
 exact ⟨m,ns,fun h' P8=>⟨.ref D,H1,I2.unblock f2 hC J1 P8,rfl,q1⟩⟩
end
section
variable {X:Cx} {scope:Scope} {N:List Str} {ix:List (Option Nat)} {tg iter elt:Expr} {ifs:List Expr} {pos:Pos} {wi:TI} {g:TG} {tc:TT} {te:TE}
theorem zq {i:Nat} {y:Str} {py Lk:Pos} (ix:List (Option Nat)) (N:List Str) (hN:X.N.Nodup) (P9:X.N[i]?=some y) (hy:Loc X.env.scope y) (hc:X.calm=true) (hi:PI X tg iter wi) (hg:∀ C s H fp pn,PG (cF X scope N C s H fp pn) tg g) (ht:∀ C s H fp pn,N7 (cF X scope N C s H fp pn) ifs tc)
  (he:∀ C s H fp pn,PE (cF X scope N C s H fp pn) elt te) (Qa:swapsWith (.ListComp elt [⟨tg,iter,ifs,0⟩] scope pos) (some (.Name y py)) Lk.line X.env=pure true:=by rfl)
  (hf:ju scope X.env=true:=by rfl) (hk:scope.kind=.function:=by rfl) (G9:∀ y∈scope.names,y.2≠.cell:=by decide +kernel) (Ia:∀ y∈scope.names,y.2=.local->scope.names.lookup y.1=some .local:=by decide +kernel) (H0:yo X scope N ix=true:=by rfl)
  (hs:∀ x,foldedSetIterable iter X.env x=pure x:=by intro _;rfl) (LY:X.fn y=true\/X.env.scope.names.lookup y=some .local:=by first | exact .inl rfl | exact .inr rfl) :
  PS X (.Assign [.Name y py] (.ListComp elt [⟨tg,iter,ifs,0⟩] scope pos) Lk) (fun D σ H=>zl wi ix g tc te σ H fun v H'=>D.nx (σ.set i (some v)) H'):=by
 intro pins s σ H Dd I h
 rw [exec_Assign_Name_used _ _ _ _ Qa]
 have Lj:closureFor scope X.env=pure (clOf scope X.env):=by
  unfold closureFor clOf
  have:=iL X.env scope.names [] (nG I.ok hf)
  simpa using this
 refine RG (VF (RG ?_))
 show wpAny _ X.A (do let _ <-comprehension (.ListComp elt [⟨tg,iter,ifs,0⟩] scope pos) scope X.env _ (newList []) false (eval iter X.env) (some (assign (.Name y py) X.env))) _ _ s
 refine RG (Ul (wpAny_comprehension_free (use:=some (assign (.Name y py) X.env)) (Q:=fun _ s'=>SP X pins Dd .next s') rfl hs Lj hk Ia
  (Gs (hi pins s σ H _ I h) fun v s1 h1=>Gs h1 fun Pg s2 h2=>?_)) (fun _ s' hq=>RH (RH hq)) fun _ _ e=>e)
 obtain ⟨it,fp,tn,J,H2,e,I2,T,Gk,f2,q⟩:=h2
 subst e
 refine mY (RR:=fun acc C=>compPost (model X.prog X.w) X.A X.xe (some (assign (.Name y py) X.env)) (fun _ s'=>SP X pins Dd .next s') acc C) (Q:=fun v H'=>Dd.nx (σ.set i (some v)) H') (iter:=iter) hc I2 T Gk f2 hg ht he hf hk G9 H0 q fun D C σ1 H1 s1 hC J1 q1=>?_
 obtain ⟨m,ns,_⟩:=id J1.loc
 have ns:s1.heap.Ns C m:=ns
 have I3:Inv X pins σ H1 s1:=I2.unblock f2 hC J1 (.refl ..)
 show wpAny _ X.A (assign (.Name y py) X.env (.ref D)) _ _ s1
 refine wpAny_assign_Name (oO I3 hN P9 hy (v:=.ref D) rfl (fun s4 I4 ⟨a,sb,ha⟩=>?_) LY)
 have aC:C≠a:=by
  intro z
  rcases ha with ha | ha
  ·exact R8 (RZ I2.lt hC) (ha▸z.symm)
  ·obtain ⟨v,o,ho,_⟩:=I2.cell y a ha
   exact R8 (RZ (RS ho) hC) z.symm
 refine ⟨m,ns.sameBut sb aC,fun h' P8=>?_⟩
 have jf:H1 C=none:=J1.free
 have kk:∀ b o,b≠C->s4.heap.get? b=some o->h'.get? b=some o:=fun b o hb e=>(P8.2 b hb).trans e
 refine ⟨σ.set i (some (.ref D)),H1,?_,q1⟩
 have z:=I4.turned (t':=s4.toks) kk jf (fun z=>R8 (RZ I2.lt hC) z.symm) (.inr (SJ I2.sz hC)) (fun x c e z=>by
  obtain ⟨v,o,ho,_⟩:=I2.cell x c e
  exact R8 (RZ (RS ho) hC) z) (fun p hp z=>R8 (RZ (RS (I2.pin p hp).1) hC) z)
 exact z
end
def Itv (val:Nat->V) (n:Nat):It:=⟨fun i _=>i < n,fun i H x H'=>H'=H/\x=val i,fun i _=>i=n⟩
theorem q0 {P:Program} {w:World} {K:W.Frag} {tg:Expr} (ty:String) (KQ:["enumerate","zip","dict_itemiterator","dict_reverseitemiterator","odict_iterator","itertools.zip_longest","itertools.pairwise"].contains ty=false) (l:List Nat) (t:Tok) (it:Addr)
  (Wk:∀ A:Around,A.handled=none->Walks P w A it [it] [it] (S l).cps.size (SignAt (S l)) (fun i h=>h.IsStrIter it ty (S l) t i))
  (self:∀ (A:Around) (i:Nat) (s:Shared) (Q:Value->Shared->Prop) (E:Value->Shared->Prop),s.heap.IsStrIter it ty (S l) t i->Q (.ref it) s->wpAny (model P w) A (pyIter (.ref it)) Q E s) :
  Turn P w K tg (Itv (fun i=>.str (S [l.getD i 0])) l.length) [it] it (fun i h=>h.IsStrIter it ty (S l) t i) where
 mem:=by simp
 obj:=fun i h st b hb=>by
  have e:b=it:=by simpa using hb
  subst e
  obtain ⟨o,e,c,d⟩:=st
  exact ⟨o,e,fun v z=>by rw [d] at z;cases z⟩
 keep:=fun i h h' st k=>by
  obtain ⟨o,e,r⟩:=st
  exact ⟨o,k it (by simp) o e,r⟩
 item:=by
  intro X hP hw hK hc i pins s σ H E I hf st hg
  subst hP hw hK
  obtain ⟨f0,f1,f2,f3,f4,f5⟩:=hf it (by simp)
  have hg:i < l.length:=hg
  refine (Wk X.A (I.ok.hd hc)).item i s _ _ (by simpa [S] using hg) st fun v h' tk hv IA kk=>?_
  obtain ⟨c,u,IV,rfl⟩:=hv
  have I1:Inv X pins σ H { s with heap:=h',toks:=tk }:=I.turned (fun b o hb e=>kk b o (by simpa using hb) e) f0 f1 f3 f4 f5
  obtain ⟨o,e,cc,d⟩:=id IA
  have K5:l.getD i 0=c:=by
   have:l[i]?=some c:=by simpa [S] using IV
   rw [List.getD_eq_getElem?_getD,this]
   rfl
  refine ⟨_,rfl,w9 (s:={ s with heap:=h',toks:=tk }) e cc d KQ ⟨.str (S [l.getD i 0]),H,I1,⟨u,?_⟩,⟨rfl,rfl⟩,IA,fun b hb=>(hf b hb).1⟩⟩
  rw [K5]
 done:=by
  intro X hP hw hK hc i pins s σ H E I hf st hg
  subst hP hw hK
  obtain ⟨f0,f1,f2,f3,f4,f5⟩:=hf it (by simp)
  have hg:i=l.length:=hg
  have hn:(S l).cps.size=i:=by rw [hg];simp [S]
  refine (Wk X.A (I.ok.hd hc)).done s _ _ (by rw [hn];exact st) fun h' tk kk=>⟨rfl,I.turned (fun b o hb e=>kk b o (by simpa using hb) e) f0 f1 f3 f4 f5⟩
 self:=self
def FF (tl:TE):TI:=fun σ H R=>tl σ H fun x H1=>∃ l,x=.str (S l)/\R (Itv (fun i=>.str (S [l.getD i 0])) l.length) H1
section
variable {X:Cx} {tg:Expr}
theorem BZ {l:Expr} {tl:TE} (hl:PE X l tl):PI X tg l (FF tl):=by
 intro pins s σ H R I h
 refine Gs (hl pins s σ H _ I h) fun v s1 Gu=>?_
 obtain ⟨x,H1,I1,r1,l,e,q⟩:=Gu
 subst e
 obtain ⟨t,rfl⟩:=r1
 cases ha:(S l).cps.all (·< 128)
 ·refine wpAny_pyIter_wide ha ?_
  refine ⟨s1.heap.objs.size,[s1.heap.objs.size],_,_,H1,rfl,I1.kept (t':=s1.toks) fun b o e=>Heap.get?_push_of_some _ e,
   q0 "str_iterator" (by decide) l t _ (fun A hA=>Walks.strWide hA _ _ _) (fun _ _ _ _ _ st h=>wpAny_pyIter_striter_wide st h),⟨_,Heap.get?_push_size _ rfl,rfl,rfl⟩,fun b hb=>?_,q⟩
  have e:b=s1.heap.objs.size:=by simpa using hb
  subst e
  exact I1.fpOk (RL _) (I1.hok.fresh (RL _))
 ·refine wpAny_pyIter_ascii ha ?_
  refine ⟨s1.heap.objs.size,[s1.heap.objs.size],_,_,H1,rfl,I1.kept (t':=s1.toks) fun b o e=>Heap.get?_push_of_some _ e,
   q0 "str_ascii_iterator" (by decide) l t _ (fun A hA=>Walks.strAscii hA _ _ _) (fun _ _ _ _ _ st h=>wpAny_pyIter_striter_ascii st h),⟨_,Heap.get?_push_size _ rfl,rfl,rfl⟩,fun b hb=>?_,q⟩
  have e:b=s1.heap.objs.size:=by simpa using hb
  subst e
  exact I1.fpOk (RL _) (I1.hok.fresh (RL _))
theorem gA {pins:List (Addr×Obj)} {s:Shared} {σ:L2.St} {H:Hp} {p:Addr} {xs:List V} {E:Value->Shared->Prop} {R:Value->Shared->Prop} (hc:X.calm=true) (I:Inv X pins σ H s) (h:SqL X.K H p xs\/SqT X.K H p xs)
  (k:∀ (it:Addr) (fp:List Addr) (o:Obj) (us:List Value) (Sx:Nat->Heap->Prop),Vals xs us->Walks X.prog X.w X.A.in1 it fp [it] us.length (fun i v=>us[i]?=some v) Sx->Sx 0 (s.heap.push o)->(∀ b∈fp,b < (s.heap.push o).objs.size)->it=s.heap.objs.size->R (.ref it) { s with heap:=s.heap.push o }) :
  wpAny (model X.prog X.w) X.A.in1 (pyIter (.ref p)) R E s:=by
 have hh:X.A.in1.handled=none:=I.ok.hd hc
 rcases h with h | h
 ·obtain ⟨us,r,pl,hz⟩:=I.list h
  have GV:p < s.heap.objs.size:=by obtain ⟨o,ho,_⟩:=pl.isList;exact RS ho
  refine TQ pl.isList (k s.heap.objs.size [s.heap.objs.size,p] _ us (fun i h=>h.IsListIter s.heap.objs.size p i/\h.IsList p us.toArray) r (by
   have W:=Walks.list (prog:=X.prog) (w:=X.w) hh s.heap.objs.size p (R8 GV) us.toArray
   simpa using W) ⟨⟨_,Heap.get?_push_size _ rfl,rfl,rfl⟩,pl.isList.at fun o e=>Heap.get?_push_of_some _ e⟩ (fun b hb=>?_) rfl)
  rw [T7]
  rcases RT.mp hb with rfl | hb
  ·exact T6 _
  ·rw [R4] at hb
   rw [hb]
   exact U4 GV
 ·obtain ⟨us,r,pl,hz⟩:=I.tuple h
  have M9:s.heap.IsTuple p us.toArray:=pl
  have GV:p < s.heap.objs.size:=by obtain ⟨o,ho,_⟩:=pl;exact RS ho
  refine TJ M9 (k s.heap.objs.size [s.heap.objs.size,p] _ us (fun i h=>h.IsTupleIter s.heap.objs.size p i/\h.IsTuple p us.toArray) r (by
   have W:=Walks.tuple (prog:=X.prog) (w:=X.w) hh s.heap.objs.size p (R8 GV) us.toArray
   simpa using W) ⟨⟨_,Heap.get?_push_size _ rfl,rfl,rfl⟩,M9.at fun o e=>Heap.get?_push_of_some _ e⟩ (fun b hb=>?_) rfl)
  rw [T7]
  rcases RT.mp hb with rfl | hb
  ·exact T6 _
  ·rw [R4] at hb
   rw [hb]
   exact U4 GV
theorem dW {pins:List (Addr×Obj)} {s:Shared} {σ:L2.St} {H:Hp} {o:Obj} {h':Heap} {tk:Nat} (I:Inv X pins σ H s) (kk:∀ b ob,b∉[s.heap.objs.size]->(s.heap.push o).get? b=some ob->h'.get? b=some ob) :
  Inv X pins σ H { s with heap:=h',toks:=tk }:=I.kept fun b ob e=>kk b ob (fun z=>R8 (RS e) (by simpa using z)) (Heap.get?_push_of_some _ e)
theorem bz {α:Type} (l:List α) (i:Nat) (d:α) (h:i < l.length):l.getD i d=l[i]:=by
 rw [List.getD_eq_getElem?_getD,List.getElem?_eq_getElem h]
 rfl
def yp:V->Bool
 | .bl b=>b
 | _=>false
def DE:V->Bool
 | .bl _=>true
 | _=>false
theorem q5 {xs:List V} {us:List Value} (r:Vals xs us) (hb:xs.all DE=true):TruthOf X.prog X.w X.A.in1 (fun i v=>us[i]?=some v) (fun i=>yp (xs.getD i .non)):=by
 intro i v s Q E hv q
 have hl:=r.length
 obtain ⟨hi,_⟩:=List.getElem?_eq_some_iff.mp hv
 have e1:xs[i]?=some (xs[i]'(by lia)):=List.getElem?_eq_getElem _
 obtain ⟨u,hu,ru⟩:=r.get e1
 rw [hv] at hu
 cases hu
 have q:Q (yp (xs.getD i .non)) s:=q
 rw [getD_of e1] at q
 have bl:=R3.mp hb _ (RW e1)
 generalize xs[i]'(by lia)=x at ru q bl
 cases x <;> first | (exact absurd (show false=true from bl) RK) | skip
 cases ru
 exact S5 q
theorem uW {xs:List V} (f:V->Bool):(List.range xs.length).all (fun i=>f (xs.getD i .non))=xs.all f:=by
 rw [Sh,R3,R3]
 constructor
 ·intro h x hx
  obtain ⟨i,hi,rfl⟩:=US hx
  have:=h i (Sg.mpr hi)
  rwa [bz _ _ _ hi] at this
 ·intro h i hi
  have hi:=Sg.mp hi
  rw [bz _ _ _ hi]
  exact h _ (S4 hi)
theorem uX {xs:List V} (f:V->Bool):(List.range xs.length).any (fun i=>f (xs.getD i .non))=xs.any f:=by
 rw [Sh,SG,SG]
 constructor
 ·rintro ⟨i,hi,h⟩
  have hi:=Sg.mp hi
  rw [bz _ _ _ hi] at h
  exact ⟨_,S4 hi,h⟩
 ·rintro ⟨x,hx,h⟩
  obtain ⟨i,hi,rfl⟩:=US hx
  refine ⟨i,Sg.mpr hi,?_⟩
  rw [bz _ _ _ hi]
  exact h
theorem xl (hc:X.calm=true):dI X (.builtin "all") (fun vs H Q=>∃ p xs,vs=[.ref p]/\(SqL X.K H p xs\/SqT X.K H p xs)/\xs.all DE=true/\Q (.bl (xs.all yp)) H):=by
 intro pins s σ H vs us Q I r h
 obtain ⟨p,xs,rfl,hp,hb,q⟩:=h
 obtain ⟨u,rfl,r1⟩:=e7 r
 cases r1
 refine call_all_walk (gA hc I hp fun it fp o ws Sx rv W st hf hit=>⟨it,fp,[it],_,_,Sx,_,rfl,W,st,q5 rv hb,fun h' tk kk=>?_⟩)
 subst hit
 refine ⟨.bl (xs.all yp),H,dW (s:=s) I kk,?_,q⟩
 rw [<-rv.length,uW]
 rfl
theorem xm (hc:X.calm=true):dI X (.builtin "any") (fun vs H Q=>∃ p xs,vs=[.ref p]/\(SqL X.K H p xs\/SqT X.K H p xs)/\xs.all DE=true/\Q (.bl (xs.any yp)) H):=by
 intro pins s σ H vs us Q I r h
 obtain ⟨p,xs,rfl,hp,hb,q⟩:=h
 obtain ⟨u,rfl,r1⟩:=e7 r
 cases r1
 refine call_any_walk (gA hc I hp fun it fp o ws Sx rv W st hf hit=>⟨it,fp,[it],_,_,Sx,_,rfl,W,st,q5 rv hb,fun h' tk kk=>?_⟩)
 subst hit
 refine ⟨.bl (xs.any yp),H,dW (s:=s) I kk,?_,q⟩
 rw [<-rv.length,uX]
 rfl
theorem eK {ns:List Int} {us:List Value} (r:Vals (ns.map V.int) us) {i:Nat} {v:Value} (h:us[i]?=some v):∃ t,v=.int (ns.getD i 0) t:=by
 have hl:=r.length
 rw [RJ] at hl
 obtain ⟨hi,_⟩:=List.getElem?_eq_some_iff.mp h
 have e1:(ns.map V.int)[i]?=some (.int (ns.getD i 0)):=by
  rw [List.getElem?_map,List.getElem?_eq_getElem (by lia),bz _ _ _ (by lia)]
  rfl
 obtain ⟨u,hu,t,rfl⟩:=r.get e1
 rw [h] at hu
 exact ⟨t,Sj hu⟩
theorem rg {ns:List Int} {us:List Value} (r:Vals (ns.map V.int) us) (A:Around):CmpOf X.prog X.w A .Gt (fun i v=>us[i]?=some v) (fun i j=>decide (ns.getD j 0 < ns.getD i 0)):=by
 intro i j vi vj s Q E hi hj q
 obtain ⟨t,rfl⟩:=eK r hi
 obtain ⟨t',rfl⟩:=eK r hj
 exact gt_int q
theorem o7 {ns:List Int} {us:List Value} (r:Vals (ns.map V.int) us) (A:Around):CmpOf X.prog X.w A .Lt (fun i v=>us[i]?=some v) (fun i j=>decide (ns.getD i 0 < ns.getD j 0)):=by
 intro i j vi vj s Q E hi hj q
 obtain ⟨t,rfl⟩:=eK r hi
 obtain ⟨t',rfl⟩:=eK r hj
 exact lt_int q
def eL (ns:List Int):Int:=ns.foldl max (ns.headD 0)
def c5 (ns:List Int):Int:=ns.foldl min (ns.headD 0)
theorem nH (ns:List Int):∀ k,k < ns.length->argBest (fun i j=>decide (ns.getD j 0 < ns.getD i 0)) k < ns.length/\ns.getD (argBest (fun i j=>decide (ns.getD j 0 < ns.getD i 0)) k) 0=(ns.take (k + 1)).foldl max (ns.headD 0)
 | 0,h=>by
  refine ⟨h,?_⟩
  cases ns with
  | nil=>cases h
  | cons a l=>show a=max a a;lia
 | k + 1,h=>by
  obtain ⟨Qb,Qc⟩:=nH ns k (by lia)
  have et:ns.take (k + 1 + 1)=ns.take (k + 1)++[ns.getD (k + 1) 0]:=by
   rw [SH,List.getElem?_eq_getElem h,bz _ _ _ h]
   rfl
  rw [et,U5,<-Qc]
  show (if decide (ns.getD (argBest (fun i j=>decide (ns.getD j 0 < ns.getD i 0)) k) 0 < ns.getD (k + 1) 0)=true then k + 1 else argBest (fun i j=>decide (ns.getD j 0 < ns.getD i 0)) k) < ns.length/\
   ns.getD (if decide (ns.getD (argBest (fun i j=>decide (ns.getD j 0 < ns.getD i 0)) k) 0 < ns.getD (k + 1) 0)=true then k + 1 else argBest (fun i j=>decide (ns.getD j 0 < ns.getD i 0)) k) 0=max _ _
  split
  ·rename_i hd
   have:=Ud hd
   exact ⟨h,by lia⟩
  ·rename_i hd
   rw [R0] at hd
   exact ⟨Qb,by lia⟩
theorem nI (ns:List Int):∀ k,k < ns.length->argBest (fun i j=>decide (ns.getD i 0 < ns.getD j 0)) k < ns.length/\ns.getD (argBest (fun i j=>decide (ns.getD i 0 < ns.getD j 0)) k) 0=(ns.take (k + 1)).foldl min (ns.headD 0)
 | 0,h=>by
  refine ⟨h,?_⟩
  cases ns with
  | nil=>cases h
  | cons a l=>show a=min a a;lia
 | k + 1,h=>by
  obtain ⟨Qb,Qc⟩:=nI ns k (by lia)
  have et:ns.take (k + 1 + 1)=ns.take (k + 1)++[ns.getD (k + 1) 0]:=by
   rw [SH,List.getElem?_eq_getElem h,bz _ _ _ h]
   rfl
  rw [et,U5,<-Qc]
  show (if decide (ns.getD (k + 1) 0 < ns.getD (argBest (fun i j=>decide (ns.getD i 0 < ns.getD j 0)) k) 0)=true then k + 1 else argBest (fun i j=>decide (ns.getD i 0 < ns.getD j 0)) k) < ns.length/\
   ns.getD (if decide (ns.getD (k + 1) 0 < ns.getD (argBest (fun i j=>decide (ns.getD i 0 < ns.getD j 0)) k) 0)=true then k + 1 else argBest (fun i j=>decide (ns.getD i 0 < ns.getD j 0)) k) 0=min _ _
  split
  ·rename_i hd
   have:=Ud hd
   exact ⟨h,by lia⟩
  ·rename_i hd
   rw [R0] at hd
   exact ⟨Qb,by lia⟩
theorem uY (hc:X.calm=true):dI X (.builtin "max") (fun vs H Q=>∃ (p:Addr) (ns:List Int),vs=[.ref p]/\(SqL X.K H p (ns.map V.int)\/SqT X.K H p (ns.map V.int))/\ns≠[]/\Q (.int (eL ns)) H):=by
 intro pins s σ H vs us Q I r h
 obtain ⟨p,ns,rfl,hp,hne,q⟩:=h
 obtain ⟨u,rfl,r1⟩:=e7 r
 cases r1
 have hn:0 < ns.length:=by cases ns with | nil=>exact absurd rfl hne | cons _ _=>simp
 refine call_max_walk (gA hc I hp fun it fp o ws Sx rv W st hf hit=>?_)
 have hl:=rv.length
 rw [RJ] at hl
 refine ⟨it,fp,[it],_,_,Sx,_,rfl,W,st,hf,by lia,rg rv _,fun v h' tk hv kk=>?_⟩
 subst hit
 obtain ⟨b1,b2⟩:=nH ns (ns.length - 1) (by lia)
 rw [<-hl] at hv
 obtain ⟨t,rfl⟩:=eK rv hv
 refine ⟨.int (eL ns),H,dW (s:=s) I kk,⟨t,?_⟩,q⟩
 rw [b2,show ns.length - 1 + 1=ns.length by lia,SQ]
 rfl
theorem u0 (hc:X.calm=true):dI X (.builtin "min") (fun vs H Q=>∃ (p:Addr) (ns:List Int),vs=[.ref p]/\(SqL X.K H p (ns.map V.int)\/SqT X.K H p (ns.map V.int))/\ns≠[]/\Q (.int (c5 ns)) H):=by
 intro pins s σ H vs us Q I r h
 obtain ⟨p,ns,rfl,hp,hne,q⟩:=h
 obtain ⟨u,rfl,r1⟩:=e7 r
 cases r1
 have hn:0 < ns.length:=by cases ns with | nil=>exact absurd rfl hne | cons _ _=>simp
 refine call_min_walk (gA hc I hp fun it fp o ws Sx rv W st hf hit=>?_)
 have hl:=rv.length
 rw [RJ] at hl
 refine ⟨it,fp,[it],_,_,Sx,_,rfl,W,st,hf,by lia,o7 rv _,fun v h' tk hv kk=>?_⟩
 subst hit
 obtain ⟨b1,b2⟩:=nI ns (ns.length - 1) (by lia)
 rw [<-hl] at hv
 obtain ⟨t,rfl⟩:=eK rv hv
 refine ⟨.int (c5 ns),H,dW (s:=s) I kk,⟨t,?_⟩,q⟩
 rw [b2,show ns.length - 1 + 1=ns.length by lia,SQ]
 rfl
theorem o8 (ns:List Int):∀ k,k<=ns.length->preSum (fun i=>ns.getD i 0) k=(ns.take k).sum
 | 0,_=>by simp [preSum]
 | k + 1,h=>by
  have et:ns.take (k + 1)=ns.take k++[ns.getD k 0]:=by
   rw [SH,List.getElem?_eq_getElem (by lia),bz _ _ _ (by lia)]
   rfl
  rw [et,List.sum_append,<-o8 ns k (by lia)]
  simp [preSum]
theorem u9 (hc:X.calm=true):dI X (.builtin "sum") (fun vs H Q=>∃ (p:Addr) (ns:List Int),vs=[.ref p]/\(SqL X.K H p (ns.map V.int)\/SqT X.K H p (ns.map V.int))/\Q (.int ns.sum) H):=by
 intro pins s σ H vs us Q I r h
 obtain ⟨p,ns,rfl,hp,q⟩:=h
 obtain ⟨u,rfl,r1⟩:=e7 r
 cases r1
 refine call_sum_walkG (gA hc I hp fun it fp o ws Sx rv W st hf hit=>?_)
 have hl:=rv.length
 rw [RJ] at hl
 refine ⟨it,fp,[it],_,_,Sx,fun i=>ns.getD i 0,rfl,W,st,hf,fun i v hv=>eK rv hv,fun h' tk t' kk=>?_⟩
 subst hit
 refine ⟨.int ns.sum,H,dW (s:=s) I kk,⟨t',?_⟩,q⟩
 rw [<-hl,o8 ns _ (RL _),SQ]
end
section
variable {prog:Program} {w:World} {A:Around} {R:Result->Shared->Prop} {it:Addr} {fp wr:List Addr} {n:Nat} {Pv:Nat->Value->Prop} {Sx:Nat->Heap->Prop} {kw:List (Str×Value)}
theorem nJ:(toString "max"++toString ".loop" : String) = "max.loop":=by decide
theorem Ec (Wk:Walks prog w A.in1 it fp wr n Pv Sx) (bt:Nat->Nat->Bool) (cm:CmpOf prog w A.in1 .Gt Pv bt) (T:Addr) (nT:T∉fp):∀ (k j:Nat) (s:Shared) (vb:Value) (c:Nat),n - (j + 1)=k->j + 1<=n->Sx (j + 1) s.heap->Pv (argBest bt j) vb->
   s.heap.get? T=some { cls:=.type "list",dict:=none,data:=.seq #[vb,vb] c,slots:=#[] }->
   (∀ v h' tk,Pv (argBest bt (n - 1)) v->(∀ b o,b∉wr->b≠T->s.heap.get? b=some o->h'.get? b=some o)->R (.ok (.ret v)) { s with heap:=h',toks:=tk })->codeAny (model prog w) A (.builtin "max.loop" ⟨[.ref it,.none,.ref T],kw⟩) R s:=by
 have L6:T∉wr:=fun z=>nT (Wk.sub _ z)
 intro k
 induction k with
 | zero=>
  intro j s vb c hk hj st hp hT fin
  have ej:j + 1=n:=by lia
  refine Ub Vi ?_
  rw [To TC _]
  show wpAny _ A.in1 (seqItems? (.ref T) >>= _) _ _ s
  refine RG (SI hT rfl ?_)
  show wpAny _ A.in1 (tryCatch (pyNext (.ref it)) _ >>= _) _ _ s
  refine RG (Tf (Wk.done s _ _ (ej▸st) fun h' tk kk=>?_))
  have JN:=kk T _ L6 hT
  show wpAny _ A.in1 (updateSeq T (fun _=>#[]) >>= _) _ _ _
  refine RG (Uc JN rfl (RG (Tu (RH ?_))))
  exact fin vb _ tk (by rw [<-ej];exact hp) fun b o bw bT e=>(Heap.get?_update_other _ _ (Tj bT)).trans (kk b o bw e)
 | succ k ih=>
  intro j s vb c hk hj st hp hT fin
  have jn:j + 1 < n:=by lia
  refine Ub Vi ?_
  rw [To TC _]
  show wpAny _ A.in1 (seqItems? (.ref T) >>= _) _ _ s
  refine RG (SI hT rfl ?_)
  show wpAny _ A.in1 (tryCatch (pyNext (.ref it)) _ >>= _) _ _ s
  refine RG (Tf (Wk.item (j + 1) s _ _ jn st fun v h' tk pv IA kk=>?_))
  have JN:=kk T _ L6 hT
  show wpAny _ A.in1 (tryCatch (holding [v,v] (richCompare .Gt v vb >>= _)) _ >>= _) _ _ _
  refine RG (Tf (Te (RG (cm (j + 1) (argBest bt j) v vb _ _ _ pv hp (RG (Te (S5 (RG (Tu (RH ?_))))))))))
  cases eb:bt (j + 1) (argBest bt j) with
  | true=>
   rw [RO rfl]
   refine RG (Uc JN rfl (RG (Tu ?_)))
   rw [nJ]
   refine RH ⟨TZ TC _,ih (j + 1) _ v _ (by lia) jn (Wk.frame _ _ _ IA fun b bf o e=>?_) (by simp only [argBest,eb,Us];exact pv) (Heap.get?_update_self _ JN rfl) fun v2 h2 t2 p2 k2=>?_⟩
   ·exact (Heap.get?_update_other _ _ (fun z:T=b=>nT (by rw [z];exact bf))).trans e
   ·exact fin v2 h2 t2 p2 fun b o bw bT e=>k2 b o bw bT ((Heap.get?_update_other _ _ (Tj bT)).trans (kk b o bw e))
  | false=>
   rw [RY RK]
   refine RG (Tu ?_)
   rw [nJ]
   refine RH ⟨TZ TC _,ih (j + 1) _ vb c (by lia) jn IA (by simp only [argBest,eb,S8,UH];exact hp) JN fun v2 h2 t2 p2 k2=>?_⟩
   exact fin v2 h2 t2 p2 fun b o bw bT e=>k2 b o bw bT (kk b o bw e)
theorem xn (Wk:Walks prog w A.in1 it fp wr n Pv Sx) (bt:Nat->Nat->Bool) (cm:CmpOf prog w A.in1 .Gt Pv bt) (T:Addr) (nT:T∉fp) {s:Shared} {c:Nat} {d:Value} (Qd:kw=[(Str.ofString "default",d)]) (st:Sx 0 s.heap)
  (hT:s.heap.get? T=some { cls:=.type "list",dict:=none,data:=.seq #[] c,slots:=#[] }) (fin:∀ v h' tk,(if n=0 then v=d else Pv (argBest bt (n - 1)) v)->(∀ b o,b∉wr->b≠T->s.heap.get? b=some o->h'.get? b=some o)->R (.ok (.ret v)) { s with heap:=h',toks:=tk }) :
  codeAny (model prog w) A (.builtin "max.loop" ⟨[.ref it,.none,.ref T],kw⟩) R s:=by
 have L6:T∉wr:=fun z=>nT (Wk.sub _ z)
 refine Ub Vi ?_
 rw [To TC _]
 show wpAny _ A.in1 (seqItems? (.ref T) >>= _) _ _ s
 refine RG (SI hT rfl ?_)
 show wpAny _ A.in1 (tryCatch (pyNext (.ref it)) _ >>= _) _ _ s
 by_cases hn:n=0
 ·refine RG (Tf (Wk.done s _ _ (by rw [hn];exact st) fun h' tk kk=>?_))
  subst Qd
  refine RG (U6 (RH ?_))
  exact fin d _ tk (by rw [RO hn]) fun b o bw bT e=>kk b o bw e
 ·refine RG (Tf (Wk.item 0 s _ _ (by lia) st fun v h' tk pv IA kk=>?_))
  have JN:=kk T _ L6 hT
  show wpAny _ A.in1 (updateSeq T (fun _=>#[v,v]) >>= _) _ _ _
  refine RG (Uc JN rfl ?_)
  rw [nJ]
  refine RH ⟨TZ TC _,Ec Wk bt cm T nT _ 0 _ v _ rfl (by lia) (Wk.frame _ _ _ IA fun b bf o e=>?_) pv (Heap.get?_update_self _ JN rfl) fun v2 h2 t2 p2 k2=>?_⟩
  ·exact (Heap.get?_update_other _ _ (fun z:T=b=>nT (by rw [z];exact bf))).trans e
  ·exact fin v2 h2 t2 (by rw [RY hn];exact p2) fun b o bw bT e=>k2 b o bw bT ((Heap.get?_update_other _ _ (Tj bT)).trans (kk b o bw e))
end
theorem tree_kw {prog:Program} {w:World} {A:Around} {E:Value->Shared->Prop} {s:Shared} {id:String} {bf:Builtin} {args:List Value} {kw:List (Str×Value)} {Q:Value->Shared->Prop} (hk:builtinKind id=none) (hp:plainId id=true)
  (hb:entryFor table id=some bf) (ha:argsOk id ⟨args,kw⟩)
  (hc:wpAny (model prog w) A.in1 (bf ⟨args,kw⟩) (fun fin s'=>match fin with
   | .done f=>(match (Except.ok f:Result) with | .ok (.ret v)=>Q v s' | .ok _=>False | .error e=>E e s')
   | .again c'=>c'.quiet=true/\codeAny (model prog w) A c' (fun r s'=>match r with | .ok (.ret v)=>Q v s' | .ok _=>False | .error e=>E e s') s') E s):wpAny (model prog w) A (call (.builtin id) args kw) Q E s:=by
 refine wpAny_call (codeAny_call_builtin hp hb ?_)
 simp only [checkBuiltinCall,hk]
 cases hsig:Manifest.signature? id with
 | none=>exact RH hc
 | some sig=>
  have Oy:Bind.checkArgs id sig ⟨args,kw⟩=pure ():=by simpa only [argsOk,hsig] using ha
  simp only [Oy]
  exact RH hc
theorem ve (a d:Value):argsOk "max" ⟨[a],[(Str.ofString "default",d)]⟩:=by unfold argsOk;kernel_rfl
section
variable {X:Cx} {e k:Expr} {te tk:TE} {p pos Jy:Pos}
def maxD (ns:List Int) (d:Int):Int:=if ns=[] then d else eL ns
def Ed (K:W.Frag) (te tk:TE):TE:=fun σ H Q=>tq te Bc σ H fun vs H1=>tq tk Bc σ H1 fun ks H2=>∃ (a:Addr) (ns:List Int) (d:Int),vs=[.ref a]/\ks=[.int d]/\(SqL K H2 a (ns.map V.int)\/SqT K H2 a (ns.map V.int))/\Q (.int (maxD ns d)) H2
theorem zr (hc:X.calm=true) (hg:Gl X "max") (hm:X.mg "max" = none) (he:PE X e te) (hk:PE X k tk) (hs:starEach [e] X.env=[(false,eval e X.env)]:=by rfl) :
  PE X (.Call (.Name "max" p) [e] [⟨some "default",k,Jy⟩] pos) (Ed X.K te tk):=by
 intro pins s σ H Q I h
 refine TK (ku I hg hm (by decide +kernel:bootBuiltins "max" = some (.builtin "max")) ?_ (by decide) (by decide))
 refine callWith_kw (Gs (gy he mV (hs:=hs) pos pins s σ H _ I h) fun us s1 ⟨vs,H1,I1,r1,q1⟩=>?_) (by rw [hs];rfl) (by rw [hs];rfl)
 refine Gs (uJ hk yf pos pins s1 σ H1 _ I1 q1) fun ws s2 Gu=>?_
 obtain ⟨ks,H2,I2,r2,a,ns,d,e1,e2,hp,q⟩:=Gu
 subst e1 e2
 obtain ⟨u,rfl,ru⟩:=e7 r1
 obtain ⟨w',rfl,t,rfl⟩:=e7 r2
 cases ru
 show wpAny _ _ (call (.builtin "max") [.ref a] [(Str.ofString "default",.int d t)]) _ _ s2
 refine tree_kw F.kind_max F.plain_max F.entry_max (ve _ _) ?_
 show wpAny _ X.A.in1 (Builtin.Builtins.bindParams "max" ["key","default"] 0 ⟨[],[(Str.ofString "default",.int d t)]⟩ >>= _) _ _ s2
 refine RG (VD (show Builtin.Builtins.bindParams "max" ["key","default"] 0 ⟨[],[(Str.ofString "default",.int d t)]⟩=pure [none,some (.int d t)] from rfl) ?_)
 refine RG (RH ?_)
 refine RG (gA hc I2 hp fun it fp o ws Sx rv Wk st hf hit=>?_)
 have hl:=rv.length
 rw [RJ] at hl
 refine RG (Sz ?_)
 have nT:(s2.heap.push o).objs.size∉fp:=fun z=>TH _ (hf _ z)
 rw [nJ]
 refine RH ⟨TZ TC _,xn Wk _ (rg rv _) (s2.heap.push o).objs.size nT rfl (Wk.frame _ _ _ st fun b _ ob e=>Heap.get?_push_of_some _ e) (Heap.get?_push_size _ rfl) fun v h' Qe hv kk=>?_⟩
 subst hit
 have I3:Inv X pins σ H2 { s2 with heap:=h',toks:=Qe }:=dW (s:=s2) (o:=o) I2 fun b ob nb e=>kk b ob nb (R8 (RS e)) (Heap.get?_push_of_some _ e)
 refine ⟨.int (maxD ns d),H2,I3,?_,q⟩
 unfold maxD
 by_cases hn:ns=[]
 ·rw [RO (by rw [<-hl,hn];rfl)] at hv
  rw [RO hn,hv]
  exact ⟨t,rfl⟩
 ·have h0:0 < ns.length:=T3.mpr hn
  rw [RY (by lia)] at hv
  rw [RY hn]
  obtain ⟨b1,b2⟩:=nH ns (ns.length - 1) (by lia)
  rw [<-hl] at hv
  obtain ⟨t2,rfl⟩:=eK rv hv
  refine ⟨t2,?_⟩
  rw [b2,show ns.length - 1 + 1=ns.length by lia,SQ]
  rfl
end
section
variable {prog:Program} {w:World} {A:Around} {E:Value->Shared->Prop} {s:Shared}
theorem xo {it t:Addr} {i:Nat} {items:Array Value} {x:Value} {Q:Value->Shared->Prop} (hi:s.heap.IsTupleIter it t i) (ht:s.heap.IsTuple t items) (hx:items[i]?=some x)
  (k:∀ h',h'.IsTupleIter it t (i + 1)->Heap.SameBut it s.heap h'->Q x { s with heap:=h' }):wpAny (model prog w) A (Builtin.SmallTypes.nextOf (.ref it)) Q E s:=by
 obtain ⟨o,ho,oc,od⟩:=id hi
 obtain ⟨q,hq,_,n,qd⟩:=ht
 unfold Builtin.SmallTypes.nextOf
 refine RG (wpAny_callSpecial?_slot (name:=Str.ofString "__next__") hi.typeIs TB (SO TB hi.typeIs F.entry_tuple_iterator_next ?_ (F.args_tuple_iterator_next_1 _)))
 show wpAny _ _ (field (.ref it) 0 >>= _) _ _ s
 refine RG (S7 ho od (x:=.ref t) rfl ?_)
 show wpAny _ _ (if (Value.ref t == Value.none)=true then _ else _) _ _ s
 rw [RY (fun z:(Value.ref t == Value.none)=true=>RK z)]
 show wpAny _ _ (field (.ref it) 1 >>= _) _ _ s
 refine RG (S7 ho od (x:=.int i 0) rfl (RG (SI hq qd ?_)))
 simp only [Sk,hx]
 refine RG (U1 ho od (by simp) (RH ⟨x,rfl,RH (k _ ⟨_,Heap.get?_update_self _ ho (Obj.isFreed_of_fields (Ut od _)),(Obj.cls_mapFields ..).trans oc,?_⟩ (Uk ..))⟩))
 rw [Ut od]
 simp [rawInt]
theorem zt {it t:Addr} {i:Nat} {items:Array Value} {Q:Value->Shared->Prop} (hh:A.handled=none) (hi:s.heap.IsTupleIter it t i) (ht:s.heap.IsTuple t items) (hx:items[i]?=none)
  (k:∀ h' e,Heap.ExtBut it s.heap h'->(∃ o,h'.get? e=some o/\o.cls=.type "StopIteration")->E (.ref e) { s with heap:=h' }):wpAny (model prog w) A (Builtin.SmallTypes.nextOf (.ref it)) Q E s:=by
 obtain ⟨o,ho,oc,od⟩:=id hi
 obtain ⟨q,hq,_,n,qd⟩:=ht
 unfold Builtin.SmallTypes.nextOf
 refine RG (wpAny_callSpecial?_slot (name:=Str.ofString "__next__") hi.typeIs TB (SO TB hi.typeIs F.entry_tuple_iterator_next ?_ (F.args_tuple_iterator_next_1 _)))
 show wpAny _ _ (field (.ref it) 0 >>= _) _ _ s
 refine RG (S7 ho od (x:=.ref t) rfl ?_)
 show wpAny _ _ (if (Value.ref t == Value.none)=true then _ else _) _ _ s
 rw [RY (fun z:(Value.ref t == Value.none)=true=>RK z)]
 show wpAny _ _ (field (.ref it) 1 >>= _) _ _ s
 refine RG (S7 ho od (x:=.int i 0) rfl (RG (SI hq qd ?_)))
 simp only [Sk,hx]
 refine RG (U6 (RG (U1 ho od (by simp) ?_)))
 show wpAny _ _ (newExc (.type "StopIteration") [] >>= _) _ _ _
 refine RG ?_
 simp only [newExc,newTuple]
 refine RG (Sz (RG (m:=firstArgMember _ _) (VD (a:=Value.none) (by first | rfl | (simp only [firstArgMember];rfl)) (Sz ?_ (by size_fits)))) (by size_fits))
 simp only [raiseNew]
 refine RG (wpAny_handled ?_)
 first
  | rw [show A.in1.handled=none from hh]
  | rw [hh]
 exact RG (RH (wpAny_throw (k _ _ (((Uk ..).extBut.push _).push _) ⟨_,Heap.get?_push_size _ rfl,rfl⟩)))
def IsIt (k:Bool) (h:Heap) (it l:Addr) (i:Nat):Prop:=match k with
 | true=>h.IsListIter it l i
 | false=>h.IsTupleIter it l i
def IsSq (k:Bool) (h:Heap) (l:Addr) (xs:Array Value):Prop:=match k with
 | true=>h.IsList l xs
 | false=>h.IsTuple l xs
theorem IsIt.at {k:Bool} {h h':Heap} {it l:Addr} {i:Nat} (x:IsIt k h it l i) (e:∀ o,h.get? it=some o->h'.get? it=some o):IsIt k h' it l i:=by
 cases k with
 | true=>obtain ⟨o,ho,r⟩:=(show h.IsListIter it l i from x);exact (show h'.IsListIter it l i from ⟨o,e o ho,r⟩)
 | false=>obtain ⟨o,ho,r⟩:=(show h.IsTupleIter it l i from x);exact (show h'.IsTupleIter it l i from ⟨o,e o ho,r⟩)
theorem IsSq.at {k:Bool} {h h':Heap} {l:Addr} {xs:Array Value} (x:IsSq k h l xs) (e:∀ o,h.get? l=some o->h'.get? l=some o):IsSq k h' l xs:=by
 cases k with
 | true=>obtain ⟨o,ho,r⟩:=(show h.IsList l xs from x);exact (show h'.IsList l xs from ⟨o,e o ho,r⟩)
 | false=>obtain ⟨o,ho,r⟩:=(show h.IsTuple l xs from x);exact (show h'.IsTuple l xs from ⟨o,e o ho,r⟩)
theorem IsIt.obj {k:Bool} {h:Heap} {it l:Addr} {i:Nat} (x:IsIt k h it l i):∃ o,h.get? it=some o/\∀ v,o.data≠.cell v:=by
 cases k with
 | true=>obtain ⟨o,ho,_,d⟩:=(show h.IsListIter it l i from x);exact ⟨o,ho,fun v z=>by rw [d] at z;cases z⟩
 | false=>obtain ⟨o,ho,_,d⟩:=(show h.IsTupleIter it l i from x);exact ⟨o,ho,fun v z=>by rw [d] at z;cases z⟩
theorem qj {k:Bool} {it l:Addr} {i:Nat} {xs:Array Value} {x:Value} {Q:Value->Shared->Prop} (hi:IsIt k s.heap it l i) (hl:IsSq k s.heap l xs) (hx:xs[i]?=some x)
  (q:∀ h',IsIt k h' it l (i + 1)->Heap.SameBut it s.heap h'->Q x { s with heap:=h' }):wpAny (model prog w) A (Builtin.SmallTypes.nextOf (.ref it)) Q E s:=by
 cases k with
 | true=>exact wpAny_nextOf_list_item hi hl hx q
 | false=>exact xo hi hl hx q
theorem yq {k:Bool} {it l:Addr} {i:Nat} {xs:Array Value} {Q:Value->Shared->Prop} (hh:A.handled=none) (hi:IsIt k s.heap it l i) (hl:IsSq k s.heap l xs) (hx:xs[i]?=none)
  (q:∀ h' e,Heap.ExtBut it s.heap h'->(∃ o,h'.get? e=some o/\o.cls=.type "StopIteration")->E (.ref e) { s with heap:=h' }):wpAny (model prog w) A (Builtin.SmallTypes.nextOf (.ref it)) Q E s:=by
 cases k with
 | true=>exact wpAny_nextOf_list_end hh hi hl hx q
 | false=>exact zt hh hi hl hx q
theorem zu {k1 k2:Bool} {z TI TO i1 i2 l1 l2:Addr} {i:Nat} {xs ys:Array Value} {x y a b:Value} {Q:Value->Shared->Prop} (D:ZipApart z TI TO i1 i2 l1 l2) (hz:IsZip s.heap z TI TO .none) (Kf:IsPair s.heap TI (.ref i1) (.ref i2)) (KR:IsPair s.heap TO a b)
  (h1:IsIt k1 s.heap i1 l1 i) (h2:IsIt k2 s.heap i2 l2 i) (g1:IsSq k1 s.heap l1 xs) (g2:IsSq k2 s.heap l2 ys) (hx:xs[i]?=some x) (hy:ys[i]?=some y)
  (q:∀ h',IsZip h' z TI TO (rawInt s.heap.objs.size)->IsPair h' TO x y->IsIt k1 h' i1 l1 (i + 1)->IsIt k2 h' i2 l2 (i + 1)->IsPair h' s.heap.objs.size x y->
   (∀ c o,c≠z->c≠TO->c≠i1->c≠i2->s.heap.get? c=some o->h'.get? c=some o)->Q (.ref s.heap.objs.size) { s with heap:=h' }) :
  wpAny (model prog w) A (Builtin.«zip.__next__» ⟨[.ref z],[]⟩) (fun fin s'=>∃ v,fin=.done (.ret v)/\Q v s') E s:=by
 show wpAny _ _ (field (.ref z) 2 >>= _) _ _ _
 refine RG (S7 hz rfl (x:=.bool false) rfl ?_)
 show wpAny _ _ (field (.ref z) 3 >>= _) _ _ _
 refine RG (S7 hz rfl (x:=.ref TI) rfl (RG (SI Kf rfl ?_)))
 show wpAny _ _ (Builtin.SmallTypes.ownedTupleIsFree (.ref z) >>= _) _ _ _
 refine RG ?_
 unfold Builtin.SmallTypes.ownedTupleIsFree
 refine RG (S7 hz rfl (x:=.none) rfl (RH ?_))
 rw [RO (by rfl)]
 refine RG (U6 (RG (S7 hz rfl (x:=.ref TO) rfl (RG (TL hz (by simp) fun hA zA sA=>?_)))))
 have zA:IsZip hA z TI TO .ellipsis:=zA
 refine RG ?_
 simp only [List.zipIdx_cons,List.zipIdx_nil,Vr,List.forIn_nil]
 refine RG (RG (Vb ?_))
 show wpAny _ _ (Builtin.SmallTypes.nextOf (.ref i1) >>= _) _ _ _
 refine RG (qj (h1.at fun o e=>sA.extBut _ _ D.i1z e) (g1.at fun o e=>sA.extBut _ _ D.l1z e) hx fun hB iB sB=>RH ?_)
 have tB:IsPair hB TO a b:=sB.extBut _ _ D.TOi1 (sA.extBut _ _ D.TOz KR)
 refine RG (SI tB rfl (RG (UK tB fun hC tC sC=>RG (Tu (RH ?_)))))
 have tC:IsPair hC TO x b:=tC
 refine RG (RG (Vb ?_))
 show wpAny _ _ (Builtin.SmallTypes.nextOf (.ref i2) >>= _) _ _ _
 refine RG (qj (h2.at fun o e=>sC.extBut _ _ D.TOi2.symm (sB.extBut _ _ D.i12.symm (sA.extBut _ _ D.i2z e))) (g2.at fun o e=>sC.extBut _ _ D.l2TO (sB.extBut _ _ D.l2i1 (sA.extBut _ _ D.l2z e))) hy fun hD iD sD=>RH ?_)
 have tD:IsPair hD TO x b:=sD.extBut _ _ D.TOi2 tC
 refine RG (SI tD rfl (RG (UK tD fun hE tE sE=>RG (Tu (RH (RH ?_))))))
 have tE:IsPair hE TO x y:=tE
 refine RG (SI tE rfl (RG (wpAny_newTuple ?_)))
 have ez:hE.objs.size=s.heap.objs.size:=by rw [sE.1,sD.1,sC.1,sB.1,sA.1]
 have zE:IsZip hE z TI TO .ellipsis:=sE.extBut _ _ D.TOz.symm (sD.extBut _ _ D.i2z.symm (sC.extBut _ _ D.TOz.symm (sB.extBut _ _ D.i1z.symm zA)))
 have kE:∀ c o,c≠z->c≠TO->c≠i1->c≠i2->s.heap.get? c=some o->hE.get? c=some o:=fun c o c1 c2 c3 c4 e=>sE.extBut _ _ c2 (sD.extBut _ _ c4 (sC.extBut _ _ c2 (sB.extBut _ _ c3 (sA.extBut _ _ c1 e))))
 have i1E:IsIt k1 hE i1 l1 (i + 1):=iB.at fun o e=>sE.extBut _ _ D.TOi1.symm (sD.extBut _ _ D.i12 (sC.extBut _ _ D.TOi1.symm e))
 have i2E:IsIt k2 hE i2 l2 (i + 1):=iD.at fun o e=>sE.extBut _ _ D.TOi2.symm e
 show wpAny _ _ (Builtin.SmallTypes.ownedTupleHandOut (.ref z) (.ref hE.objs.size) >>= _) _ _ _
 refine RG ?_
 unfold Builtin.SmallTypes.ownedTupleHandOut
 have zF:IsZip (hE.push { cls:=.type "tuple",data:=.seq #[x,y] }) z TI TO .ellipsis:=Heap.get?_push_of_some _ zE
 refine RG (TL zF (by simp) fun hG zG sG=>?_)
 have zG:IsZip hG z TI TO (rawInt hE.objs.size):=zG
 refine TL zG (by simp) fun hK zK sK=>?_
 have zK:IsZip hK z TI TO (rawInt hE.objs.size):=zK
 have up:∀ c o,c≠z->hE.get? c=some o->hK.get? c=some o:=fun c o c1 e=>sK.extBut _ _ c1 (sG.extBut _ _ c1 (Heap.get?_push_of_some _ e))
 have nz:hE.objs.size≠z:=VN (RS zE)
 have tK:IsPair hK hE.objs.size x y:=sK.extBut _ _ nz (sG.extBut _ _ nz (Heap.get?_push_size _ rfl))
 rw [ez] at zK tK
 refine RH ⟨_,rfl,?_⟩
 show Q (.ref hE.objs.size) _
 rw [ez]
 exact q hK zK (up _ _ D.TOz tE) (i1E.at fun o e=>up _ o D.i1z e) (i2E.at fun o e=>up _ o D.i2z e) tK fun c o c1 c2 c3 c4 e=>up c o c1 (kE c o c1 c2 c3 c4 e)
theorem B0 {k1 k2:Bool} {z TI TO i1 i2 l1 l2:Addr} {i:Nat} {xs ys:Array Value} {a b:Value} {Q:Fin->Shared->Prop} (hh:A.handled=none) (D:ZipApart z TI TO i1 i2 l1 l2) (hz:IsZip s.heap z TI TO .none) (Kf:IsPair s.heap TI (.ref i1) (.ref i2)) (KR:IsPair s.heap TO a b)
  (h1:IsIt k1 s.heap i1 l1 i) (h2:IsIt k2 s.heap i2 l2 i) (g1:IsSq k1 s.heap l1 xs) (g2:IsSq k2 s.heap l2 ys) (he:xs[i]?=none\/ys[i]?=none)
  (q:∀ h' e,(∀ c o,c≠z->c≠TO->c≠i1->c≠i2->s.heap.get? c=some o->h'.get? c=some o)->(∃ o,h'.get? e=some o/\o.cls=.type "StopIteration")->E (.ref e) { s with heap:=h' }) :
  wpAny (model prog w) A (Builtin.«zip.__next__» ⟨[.ref z],[]⟩) Q E s:=by
 show wpAny _ _ (field (.ref z) 2 >>= _) _ _ _
 refine RG (S7 hz rfl (x:=.bool false) rfl ?_)
 show wpAny _ _ (field (.ref z) 3 >>= _) _ _ _
 refine RG (S7 hz rfl (x:=.ref TI) rfl (RG (SI Kf rfl ?_)))
 show wpAny _ _ (Builtin.SmallTypes.ownedTupleIsFree (.ref z) >>= _) _ _ _
 refine RG ?_
 unfold Builtin.SmallTypes.ownedTupleIsFree
 refine RG (S7 hz rfl (x:=.none) rfl (RH ?_))
 rw [RO (by rfl)]
 refine RG (U6 (RG (S7 hz rfl (x:=.ref TO) rfl (RG (TL hz (by simp) fun hA zA sA=>?_)))))
 have zA:IsZip hA z TI TO .ellipsis:=zA
 refine RG ?_
 simp only [List.zipIdx_cons,List.zipIdx_nil,Vr,List.forIn_nil]
 refine RG (RG (Vb ?_))
 show wpAny _ _ (Builtin.SmallTypes.nextOf (.ref i1) >>= _) _ _ _
 cases hx:xs[i]? with
 | none=>
  refine RG (yq hh (h1.at fun o e=>sA.extBut _ _ D.i1z e) (g1.at fun o e=>sA.extBut _ _ D.l1z e) hx fun hB e sB Gu=>?_)
  obtain ⟨oe,ge,ce⟩:=Gu
  have zB:IsZip hB z TI TO .ellipsis:=sB _ _ D.i1z.symm zA
  have ne:e≠z:=fun x=>by subst x;rw [zB] at ge;cases ge;simp at ce
  exact TL zB (by simp) fun hC _ sC=>q hC e (fun c o c1 _ c3 _ x=>sC.extBut _ _ c1 (sB _ _ c3 (sA.extBut _ _ c1 x))) ⟨oe,sC.extBut _ _ ne ge,ce⟩
 | some x=>
  have hy:ys[i]?=none:=by
   rcases he with z | z
   ·rw [hx] at z;cases z
   ·exact z
  refine RG (qj (h1.at fun o e=>sA.extBut _ _ D.i1z e) (g1.at fun o e=>sA.extBut _ _ D.l1z e) hx fun hB iB sB=>RH ?_)
  have tB:IsPair hB TO a b:=sB.extBut _ _ D.TOi1 (sA.extBut _ _ D.TOz KR)
  refine RG (SI tB rfl (RG (UK tB fun hC tC sC=>RG (Tu (RH ?_)))))
  refine RG (RG (Vb ?_))
  show wpAny _ _ (Builtin.SmallTypes.nextOf (.ref i2) >>= _) _ _ _
  refine RG (yq hh (h2.at fun o e=>sC.extBut _ _ D.TOi2.symm (sB.extBut _ _ D.i12.symm (sA.extBut _ _ D.i2z e))) (g2.at fun o e=>sC.extBut _ _ D.l2TO (sB.extBut _ _ D.l2i1 (sA.extBut _ _ D.l2z e))) hy fun hD e sD Gu=>?_)
  obtain ⟨oe,ge,ce⟩:=Gu
  have zD:IsZip hD z TI TO .ellipsis:=sD _ _ D.i2z.symm (sC.extBut _ _ D.TOz.symm (sB.extBut _ _ D.i1z.symm zA))
  have ne:e≠z:=fun x=>by subst x;rw [zD] at ge;cases ge;simp at ce
  exact TL zD (by simp) fun hF _ sF=>q hF e (fun c o c1 c2 c3 c4 x=>sF.extBut _ _ c1 (sD _ _ c4 (sC.extBut _ _ c2 (sB.extBut _ _ c3 (sA.extBut _ _ c1 x))))) ⟨oe,sF.extBut _ _ ne ge,ce⟩
end
def itObj (k:Bool) (l:Addr):Obj:=match k with
 | true=>{ cls:=.type "list_iterator",data:=.fields #[.ref l,.int 0 0] }
 | false=>{ cls:=.type "tuple_iterator",data:=.fields #[.ref l,.int 0 0] }
theorem rh (k:Bool) (h:Heap) (l:Addr):IsIt k (h.push (itObj k l)) h.objs.size l 0:=by
 cases k with
 | true=>exact ⟨_,Heap.get?_push_size _ rfl,rfl,rfl⟩
 | false=>exact ⟨_,Heap.get?_push_size _ rfl,rfl,rfl⟩
abbrev zA (h:Heap) (k1:Bool) (l1:Addr):Heap:=h.push (itObj k1 l1)
abbrev zB (h:Heap) (k1 k2:Bool) (l1 l2:Addr):Heap:=(zA h k1 l1).push (itObj k2 l2)
abbrev zC (h:Heap) (k1 k2:Bool) (l1 l2:Addr):Heap:=(zB h k1 k2 l1 l2).push { cls:=.type "tuple",data:=.seq #[.ref h.objs.size,.ref (zA h k1 l1).objs.size] }
abbrev zD (h:Heap) (k1 k2:Bool) (l1 l2:Addr):Heap:=(zC h k1 k2 l1 l2).push { cls:=.type "tuple",data:=.seq #[.none,.none] }
abbrev zE (h:Heap) (k1 k2:Bool) (l1 l2:Addr):Heap:=(zD h k1 k2 l1 l2).push { cls:=.type "zip",data:=.fields #[.none,.bool false,.bool false,.ref (zB h k1 k2 l1 l2).objs.size,.ref (zC h k1 k2 l1 l2).objs.size] }
set_option maxHeartbeats 8000000 in
theorem B1 (k1 k2:Bool) (l1 l2:Addr) (xs ys:Array Value) :
  Meets (Builtin.«zip.__new__» ⟨[.type "zip",.ref l1,.ref l2],[]⟩) (fun _ R s=>IsSq k1 s.heap l1 xs/\IsSq k2 s.heap l2 ys/\R (.ok (.ret (.ref (zD s.heap k1 k2 l1 l2).objs.size))) { s with heap:=zE s.heap k1 k2 l1 l2 }):=
 .of_wp fun prog w A R s h=>by
  obtain ⟨hp,g,d,tk,os⟩:=s
  obtain ⟨g1,g2,q⟩:=h
  have JO:=sub_zip
  cases k1 with
  | true=>
   have e1:Heap.IsList (Shared.heap ⟨hp,g,d,tk,os⟩) l1 xs:=g1
   cases k2 with
   | true=>
    have e2:Heap.IsList (Shared.heap ⟨hp.push { cls:=.type "list_iterator",data:=.fields #[.ref l1,.int 0 0] },g,d,tk,os⟩) l2 ys:=Heap.IsList.push g2 _
    wp_walk using TQ e1,TQ e2
    exact ⟨_,rfl,q⟩
   | false=>
    have e2:Heap.IsTuple (Shared.heap ⟨hp.push { cls:=.type "list_iterator",data:=.fields #[.ref l1,.int 0 0] },g,d,tk,os⟩) l2 ys:=Heap.IsTuple.push g2 _
    wp_walk using TQ e1,TJ e2
    exact ⟨_,rfl,q⟩
  | false=>
   have e1:Heap.IsTuple (Shared.heap ⟨hp,g,d,tk,os⟩) l1 xs:=g1
   cases k2 with
   | true=>
    have e2:Heap.IsList (Shared.heap ⟨hp.push { cls:=.type "tuple_iterator",data:=.fields #[.ref l1,.int 0 0] },g,d,tk,os⟩) l2 ys:=Heap.IsList.push g2 _
    wp_walk using TJ e1,TQ e2
    exact ⟨_,rfl,q⟩
   | false=>
    have e2:Heap.IsTuple (Shared.heap ⟨hp.push { cls:=.type "tuple_iterator",data:=.fields #[.ref l1,.int 0 0] },g,d,tk,os⟩) l2 ys:=Heap.IsTuple.push g2 _
    wp_walk using TJ e1,TJ e2
    exact ⟨_,rfl,q⟩
def ZS (k1 k2:Bool) (z TI TO i1 i2 l1 l2:Addr) (i:Nat) (h:Heap):Prop:=IsZip h z TI TO .none/\IsPair h TI (.ref i1) (.ref i2)/\(∃ a b,IsPair h TO a b)/\IsIt k1 h i1 l1 i/\IsIt k2 h i2 l2 i
theorem zv {prog:Program} {w:World} {A:Around} {E:Value->Shared->Prop} {s:Shared} {k1 k2:Bool} {l1 l2:Addr} {xs ys:Array Value} {Q:Value->Shared->Prop} (g1:IsSq k1 s.heap l1 xs) (g2:IsSq k2 s.heap l2 ys)
  (q:∀ h',ZS k1 k2 (s.heap.objs.size + 4) (s.heap.objs.size + 2) (s.heap.objs.size + 3) s.heap.objs.size (s.heap.objs.size + 1) l1 l2 0 h'->(∀ c o,s.heap.get? c=some o->h'.get? c=some o)->Q (.ref (s.heap.objs.size + 4)) { s with heap:=h' }) :
  wpAny (model prog w) A (call (.type "zip") [.ref l1,.ref l2]) Q E s:=by
 refine callType_new F.called_zip (by decide) (F.typeCall_zip_2 _ _) (F.newCall_zip_2 _ _) (fun obj=>F.args_object_init_3 obj _ _) F.entry_zip_new (B1 k1 k2 l1 l2 xs ys) ⟨g1,g2,?_⟩
 have nA:(zA s.heap k1 l1).objs.size=s.heap.objs.size + 1:=T7 ..
 have nB:(zB s.heap k1 k2 l1 l2).objs.size=s.heap.objs.size + 2:=by rw [T7,nA]
 have nC:(zC s.heap k1 k2 l1 l2).objs.size=s.heap.objs.size + 3:=by rw [T7,nB]
 have nD:(zD s.heap k1 k2 l1 l2).objs.size=s.heap.objs.size + 4:=by rw [T7,nC]
 have pu:∀ {h:Heap} {o:Obj} {c:Addr} {v:Obj},h.get? c=some v->(h.push o).get? c=some v:=fun e=>Heap.get?_push_of_some _ e
 have gz:(zE s.heap k1 k2 l1 l2).get? (zD s.heap k1 k2 l1 l2).objs.size=some _:=Heap.get?_push_size _ rfl
 have go:(zE s.heap k1 k2 l1 l2).get? (zC s.heap k1 k2 l1 l2).objs.size=some _:=pu (Heap.get?_push_size _ rfl)
 have gi:(zE s.heap k1 k2 l1 l2).get? (zB s.heap k1 k2 l1 l2).objs.size=some _:=pu (pu (Heap.get?_push_size _ rfl))
 have j2:IsIt k2 (zE s.heap k1 k2 l1 l2) (zA s.heap k1 l1).objs.size l2 0:=(rh k2 (zA s.heap k1 l1) l2).at fun o e=>pu (pu (pu e))
 have j1:IsIt k1 (zE s.heap k1 k2 l1 l2) s.heap.objs.size l1 0:=(rh k1 s.heap l1).at fun o e=>pu (pu (pu (pu e)))
 show _/\_
 rw [nB,nC,nD] at gz
 rw [nA,nB] at gi
 rw [nC] at go
 rw [nA] at j2
 rw [nD]
 exact ⟨⟨_,gz,rfl⟩,q _ ⟨gz,gi,⟨_,_,go⟩,j1,j2⟩ fun c o x=>pu (pu (pu (pu (pu x))))⟩
def Qf (K:W.Frag) (k1 k2:Bool) (a b:Addr):It:=
 ⟨fun i H=>∃ xs ys x y,(if k1 then SqL K H a xs else SqT K H a xs)/\(if k2 then SqL K H b ys else SqT K H b ys)/\xs[i]?=some x/\ys[i]?=some y,
  fun i H v H'=>∃ T,H T=none/\v=.ref T/\∀ xs ys x y,(if k1 then SqL K H a xs else SqT K H a xs)->(if k2 then SqL K H b ys else SqT K H b ys)->xs[i]?=some x->ys[i]?=some y->H'=upd H T (.tup [x,y]),
  fun i H=>∃ xs ys,(if k1 then SqL K H a xs else SqT K H a xs)/\(if k2 then SqL K H b ys else SqT K H b ys)/\i=min xs.length ys.length⟩
section
variable {X:Cx} {pins:List (Addr×Obj)} {σ:L2.St} {H:Hp} {s:Shared}
theorem tH (I:Inv X pins σ H s) {k:Bool} {a:Addr} {xs:List V} (h:if k then SqL X.K H a xs else SqT X.K H a xs):∃ us:List Value,Vals xs us/\IsSq k s.heap a us.toArray:=by
 cases k with
 | true=>
  obtain ⟨us,r,p,_⟩:=I.list (show SqL X.K H a xs from h)
  exact ⟨us,r,p.isList⟩
 | false=>
  obtain ⟨us,r,p,_⟩:=I.tuple (show SqT X.K H a xs from h)
  exact ⟨us,r,(show s.heap.IsTuple a us.toArray from p)⟩
theorem yr (I:Inv X pins σ H s) {k:Bool} {a:Addr} {xs ys:List V} (h:if k then SqL X.K H a xs else SqT X.K H a xs) (h':if k then SqL X.K H a ys else SqT X.K H a ys):xs=ys:=by
 cases k with
 | true=>exact I.list_inj (show SqL X.K H a xs from h) (show SqL X.K H a ys from h')
 | false=>exact I.tuple_inj (show SqT X.K H a xs from h) (show SqT X.K H a ys from h')
theorem iS (I:Inv X pins σ H s) {k:Bool} {a b:Addr} {xs:List V} (h:if k then SqL X.K H a xs else SqT X.K H a xs) (f:uk X pins H b):a≠b:=by
 rintro rfl
 obtain ⟨f0,_,_,f3,_⟩:=f
 have nb:∀ o,X.K.lookup a=some o->False:=fun o hk=>by
  have e:=I.ok.mod.kin a o hk
  rcases f3 with z | z
  ·exact I.ok.noex a o e z
  ·exact absurd (RZ (RS e) (SJ I.ok.bsz z)) (TH _)
 cases k with
 | true=>
  rcases (show SqL X.K H a xs from h) with (h | ⟨o,h⟩) | ⟨o,F9,n,hk,_⟩
  ·rw [f0] at h;cases h
  ·rw [f0] at h;cases h
  ·exact nb o hk
 | false=>
  rcases (show SqT X.K H a xs from h) with (h | ⟨o,h⟩) | ⟨o,F9,n,hk,_⟩
  ·rw [f0] at h;cases h
  ·rw [f0] at h;cases h
  ·exact nb o hk
end
theorem nx_zip_item {prog:Program} {w:World} {A:Around} {E:Value->Shared->Prop} {s:Shared} {k1 k2:Bool} {z TI TO i1 i2 l1 l2:Addr} {i:Nat} {xs ys:Array Value} {x y:Value} {Q:Option Value->Shared->Prop} (D:ZipApart z TI TO i1 i2 l1 l2) (st:ZS k1 k2 z TI TO i1 i2 l1 l2 i s.heap)
  (g1:IsSq k1 s.heap l1 xs) (g2:IsSq k2 s.heap l2 ys) (hx:xs[i]?=some x) (hy:ys[i]?=some y)
  (q:∀ h',IsZip h' z TI TO (rawInt s.heap.objs.size)->IsPair h' TO x y->IsIt k1 h' i1 l1 (i + 1)->IsIt k2 h' i2 l2 (i + 1)->IsPair h' s.heap.objs.size x y->
   (∀ c o,c≠z->c≠TO->c≠i1->c≠i2->s.heap.get? c=some o->h'.get? c=some o)->Q (some (.ref s.heap.objs.size)) { s with heap:=h' }):wpAny (model prog w) A (pyNext (.ref z)) Q E s:=by
 obtain ⟨hz,Kf,⟨a,b,KR⟩,h1,h2⟩:=st
 have ty:s.TypeIs (.ref z) "zip":=⟨_,hz,rfl⟩
 unfold pyNext
 exact RG (Vc (wpAny_callSpecial?_slot (name:=Str.ofString "__next__") ty UT (SO UT ty F.entry_zip_next (zu D hz Kf KR h1 h2 g1 g2 hx hy fun h' a1 a2 a3 a4 a5 a6=>RH (q h' a1 a2 a3 a4 a5 a6)) (F.args_zip_next_1 _))))
theorem tI {prog:Program} {w:World} {A:Around} {E:Value->Shared->Prop} {s:Shared} {k1 k2:Bool} {z TI TO i1 i2 l1 l2:Addr} {i:Nat} {xs ys:Array Value} {Q:Option Value->Shared->Prop} (hh:A.handled=none) (D:ZipApart z TI TO i1 i2 l1 l2) (st:ZS k1 k2 z TI TO i1 i2 l1 l2 i s.heap)
  (g1:IsSq k1 s.heap l1 xs) (g2:IsSq k2 s.heap l2 ys) (he:xs[i]?=none\/ys[i]?=none) (q:∀ h',(∀ c o,c≠z->c≠TO->c≠i1->c≠i2->s.heap.get? c=some o->h'.get? c=some o)->Q none { s with heap:=h' }):wpAny (model prog w) A (pyNext (.ref z)) Q E s:=by
 obtain ⟨hz,Kf,⟨a,b,KR⟩,h1,h2⟩:=st
 have ty:s.TypeIs (.ref z) "zip":=⟨_,hz,rfl⟩
 unfold pyNext
 refine RG (Vc (wpAny_callSpecial?_slot (name:=Str.ofString "__next__") ty UT (SO UT ty F.entry_zip_next (B0 hh D hz Kf KR h1 h2 g1 g2 he fun h' e kk ⟨o,ho,oc⟩=>?_) (F.args_zip_next_1 _))))
 exact RG (wpAny_isInstance (T:="StopIteration") (b:=true) ⟨o,ho,oc⟩ isSubtype_stop (RH (q _ kk)))
theorem xp {P:Program} {w:World} {K:W.Frag} {es:List Expr} {kt:Nat} {pt:Pos} (k1 k2:Bool) (a b z TI TO i1 i2:Addr) (ne:z≠TI/\z≠TO/\z≠i1/\z≠i2/\TI≠TO/\TI≠i1/\TI≠i2/\TO≠i1/\TO≠i2/\i1≠i2) :
  Turn P w K (.Tuple es kt pt) (Qf K k1 k2 a b) [z,TI,TO,i1,i2] z (ZS k1 k2 z TI TO i1 i2 a b) where
 mem:=by simp
 obj:=fun i h st c hc=>by
  obtain ⟨hz,Kf,⟨x,y,KR⟩,h1,h2⟩:=st
  simp only [RT,Sy,VU] at hc
  rcases hc with rfl | rfl | rfl | rfl | rfl
  ·exact ⟨_,hz,fun v q=>by cases q⟩
  ·exact ⟨_,Kf,fun v q=>by cases q⟩
  ·exact ⟨_,KR,fun v q=>by cases q⟩
  ·exact h1.obj
  ·exact h2.obj
 keep:=fun i h h' st k=>by
  obtain ⟨hz,Kf,⟨x,y,KR⟩,h1,h2⟩:=st
  exact ⟨k z (by simp) _ hz,k TI (by simp) _ Kf,⟨x,y,k TO (by simp) _ KR⟩,h1.at fun o e=>k i1 (by simp) o e,h2.at fun o e=>k i2 (by simp) o e⟩
 item:=by
  intro X hP hw hK hc i pins s σ H E I hf st hg
  subst hP hw hK
  obtain ⟨xs,ys,x,y,s1,s2,hx,hy⟩:=hg
  obtain ⟨us,r1,q1⟩:=tH I s1
  obtain ⟨ws,r2,q2⟩:=tH I s2
  obtain ⟨u,hu,ru⟩:=r1.get hx
  obtain ⟨v,hv,rv⟩:=r2.get hy
  obtain ⟨n1,n2,n3,n4,n5,n6,n7,n8,n9,Qg⟩:=ne
  have f:=fun c hc=>hf c hc
  have D:ZipApart z TI TO i1 i2 a b:=⟨n1.symm,n2.symm,n3.symm,n4.symm,n5,n6,n7,n8,n9,Qg,iS I s1 (f z (by simp)),iS I s1 (f TO (by simp)),iS I s1 (f i1 (by simp)),iS I s1 (f i2 (by simp)),
   iS I s2 (f z (by simp)),iS I s2 (f TO (by simp)),iS I s2 (f i1 (by simp)),iS I s2 (f i2 (by simp))⟩
  have Kf:=st.2.1
  refine nx_zip_item D st q1 q2 (by simpa using hu) (by simpa using hv) fun h' z1 t1 j1 j2 tp kk=>⟨_,rfl,?_⟩
  refine wpAny_letOwnedTupleGo_zip z1 fun h2 z2 sb=>?_
  have nT:H s.heap.objs.size=none:=I.hok.fresh (RL _)
  have tT:s.heap.objs.size≠z:=VN (RS st.1)
  have all:∀ c o,c≠z->c≠TO->c≠i1->c≠i2->s.heap.get? c=some o->h2.get? c=some o:=fun c o c1 c2 c3 c4 e=>(sb.2 c c1).trans (kk c o c1 c2 c3 c4 e)
  have fz:=f z (by simp)
  have fo:=f TO (by simp)
  have f1:=f i1 (by simp)
  have f2:=f i2 (by simp)
  have Nb:∀ c ob,H c=some ob->c≠z/\c≠TO/\c≠i1/\c≠i2:=fun c ob e=>⟨(fun q=>by rw [q,fz.1] at e;cases e),(fun q=>by rw [q,fo.1] at e;cases e),(fun q=>by rw [q,f1.1] at e;cases e),(fun q=>by rw [q,f2.1] at e;cases e)⟩
  refine ⟨.ref s.heap.objs.size,upd H s.heap.objs.size (.tup [x,y]),?_,rfl,⟨_,nT,rfl,fun Hk ys' x' y' a1 a2 a3 a4=>?_⟩,⟨z2,?_,⟨u,v,(sb.2 TO n2.symm).trans t1⟩,j1.at fun o e=>(sb.2 i1 n3.symm).trans e,j2.at fun o e=>(sb.2 i2 n4.symm).trans e⟩,fun c hc=>?_⟩
  ·have tup2:h2.get? s.heap.objs.size=some { cls:=.type "tuple",data:=.seq #[u,v] }:=(sb.2 _ tT).trans tp
   have S0:Inv X pins σ (upd H s.heap.objs.size (.tup [x,y])) { s with heap:=h2,gens:=s.gens,drawn:=s.drawn,toks:=s.toks }:=by
    refine I.step (ch:=[z,TO,i1,i2]) (fun c hc=>?_) (fun c o _ _ nc e _=>all c o (fun q=>nc (by simp [q])) (fun q=>nc (by simp [q])) (fun q=>nc (by simp [q])) (fun q=>nc (by simp [q])) e)
     (fun c o _ _ nc e _=>⟨o.slots,all c o (fun q=>nc (by simp [q])) (fun q=>nc (by simp [q])) (fun q=>nc (by simp [q])) (fun q=>nc (by simp [q])) e⟩) (fun c o _ e n=>by rw [aS (R8 (RS e))];exact n)
     (fun c o nc e=>⟨o,all c o (fun q=>nc (by simp [q])) (fun q=>nc (by simp [q])) (fun q=>nc (by simp [q])) (fun q=>nc (by simp [q])) e⟩) (fun c l e=>by rw [aS (bx e nT)];exact e) (fun c o u' e=>by rw [aS (bx e nT)];exact e)
     (fun c ps e=>⟨#[],by rw [aS (bx e nT),e];simp⟩) (fun m hm=>?_) (fun c ob e=>?_) I.bare
    ·simp only [RT,Sy,VU] at hc
     rcases hc with rfl | rfl | rfl | rfl
     ·exact ⟨fz.2.2.2.1,fz.2.1,fz.2.2.2.2.1,fz.2.2.2.2.2⟩
     ·exact ⟨fo.2.2.2.1,fo.2.1,fo.2.2.2.2.1,fo.2.2.2.2.2⟩
     ·exact ⟨f1.2.2.2.1,f1.2.1,f1.2.2.2.2.1,f1.2.2.2.2.2⟩
     ·exact ⟨f2.2.2.2.1,f2.2.1,f2.2.2.2.2.1,f2.2.2.2.2.2⟩
    ·obtain ⟨o,es,ep,ho,r⟩:=hm
     exact ⟨o,es,ep,all _ o (Tj fz.2.1) (Tj fo.2.1) (Tj f1.2.1) (Tj f2.2.1) ho,r⟩
    ·by_cases ec:c=s.heap.objs.size
     ·subst ec
      rw [bQ] at e
      cases e
      exact ⟨by simp only [Sb,SA];rw [SU];decide,[u,v],.cons ru (.cons rv .nil),⟨_,tup2,rfl,⟨0,rfl⟩,rfl⟩⟩
     ·rw [aS ec] at e
      refine (I.hok c ob e).stay (fun d w' hd q=>?_) (fun d q=>by rw [aS (bx q nT)];exact q) fun d l q=>by rw [aS (bx q nT)];exact q
      have MZ:∃ oo,H d=some oo:=by
       rcases hd with rfl | hd
       ·exact ⟨_,e⟩
       ·exact ⟨_,hd⟩
      obtain ⟨oo,Qh⟩:=MZ
      obtain ⟨m1,m2,m3,m4⟩:=Nb d oo Qh
      exact all d w' m1 m2 m3 m4 q
   exact S0
  ·have e1:=yr I a1 s1
   have e2:=yr I a2 s2
   subst e1 e2
   rw [hx] at a3
   rw [hy] at a4
   cases a3
   cases a4
   rfl
  ·exact (sb.2 TI n1.symm).trans (kk TI _ n1.symm n5 n6 n7 Kf)
  ·have hc0:=(f c hc).1
   have cs:c≠s.heap.objs.size:=by
    have:=(fun i h st=>by
     exact (by
      obtain ⟨hz,Kf,⟨x,y,KR⟩,h1,h2⟩:=st
      simp only [RT,Sy,VU] at hc
      rcases hc with rfl | rfl | rfl | rfl | rfl
      ·exact ⟨_,hz⟩
      ·exact ⟨_,Kf⟩
      ·exact ⟨_,KR⟩
      ·obtain ⟨o,e,_⟩:=h1.obj;exact ⟨o,e⟩
      ·obtain ⟨o,e,_⟩:=h2.obj;exact ⟨o,e⟩:∃ o,h.get? c=some o):∀ i h,ZS k1 k2 z TI TO i1 i2 a b i h->∃ o,h.get? c=some o) i s.heap st
    obtain ⟨o,e⟩:=this
    exact R8 (RS e)
   rw [aS cs]
   exact hc0
 done:=by
  intro X hP hw hK hc i pins s σ H E I hf st hg
  subst hP hw hK
  obtain ⟨xs,ys,s1,s2,hi⟩:=hg
  obtain ⟨us,r1,q1⟩:=tH I s1
  obtain ⟨ws,r2,q2⟩:=tH I s2
  have l1:=r1.length
  have l2:=r2.length
  obtain ⟨n1,n2,n3,n4,n5,n6,n7,n8,n9,Qg⟩:=ne
  have f:=fun c hc=>hf c hc
  have D:ZipApart z TI TO i1 i2 a b:=⟨n1.symm,n2.symm,n3.symm,n4.symm,n5,n6,n7,n8,n9,Qg,iS I s1 (f z (by simp)),iS I s1 (f TO (by simp)),iS I s1 (f i1 (by simp)),iS I s1 (f i2 (by simp)),
   iS I s2 (f z (by simp)),iS I s2 (f TO (by simp)),iS I s2 (f i1 (by simp)),iS I s2 (f i2 (by simp))⟩
  have fz:=f z (by simp)
  have fo:=f TO (by simp)
  have f1:=f i1 (by simp)
  have f2:=f i2 (by simp)
  refine tI (I.ok.hd hc) D st q1 q2 (by
   rcases Nat.le_total us.length ws.length with q | q
   ·exact .inl (by simp;lia)
   ·exact .inr (by simp;lia)) fun h' kk=>⟨rfl,?_⟩
  have Nb:∀ c ob,H c=some ob->c≠z/\c≠TO/\c≠i1/\c≠i2:=fun c ob e=>⟨(fun q=>by rw [q,fz.1] at e;cases e),(fun q=>by rw [q,fo.1] at e;cases e),(fun q=>by rw [q,f1.1] at e;cases e),(fun q=>by rw [q,f2.1] at e;cases e)⟩
  have S0:Inv X pins σ H { s with heap:=h',gens:=s.gens,drawn:=s.drawn,toks:=s.toks }:=by
   refine I.step (ch:=[z,TO,i1,i2]) (fun c hc=>?_) (fun c o _ _ nc e _=>kk c o (fun q=>nc (by simp [q])) (fun q=>nc (by simp [q])) (fun q=>nc (by simp [q])) (fun q=>nc (by simp [q])) e)
    (fun c o _ _ nc e _=>⟨o.slots,kk c o (fun q=>nc (by simp [q])) (fun q=>nc (by simp [q])) (fun q=>nc (by simp [q])) (fun q=>nc (by simp [q])) e⟩) (fun c o _ e n=>n)
    (fun c o nc e=>⟨o,kk c o (fun q=>nc (by simp [q])) (fun q=>nc (by simp [q])) (fun q=>nc (by simp [q])) (fun q=>nc (by simp [q])) e⟩) (fun c l e=>e) (fun c o u' e=>e)
    (fun c ps e=>⟨#[],by rw [e];simp⟩) (fun m hm=>?_) (fun c ob e=>?_) I.bare
   ·simp only [RT,Sy,VU] at hc
    rcases hc with rfl | rfl | rfl | rfl
    ·exact ⟨fz.2.2.2.1,fz.2.1,fz.2.2.2.2.1,fz.2.2.2.2.2⟩
    ·exact ⟨fo.2.2.2.1,fo.2.1,fo.2.2.2.2.1,fo.2.2.2.2.2⟩
    ·exact ⟨f1.2.2.2.1,f1.2.1,f1.2.2.2.2.1,f1.2.2.2.2.2⟩
    ·exact ⟨f2.2.2.2.1,f2.2.1,f2.2.2.2.2.1,f2.2.2.2.2.2⟩
   ·obtain ⟨o,es,ep,ho,r⟩:=hm
    exact ⟨o,es,ep,kk _ o (Tj fz.2.1) (Tj fo.2.1) (Tj f1.2.1) (Tj f2.2.1) ho,r⟩
   ·refine (I.hok c ob e).stay (fun d w' hd q=>?_) (fun d q=>q) fun d l q=>q
    have MZ:∃ oo,H d=some oo:=by
     rcases hd with rfl | hd
     ·exact ⟨_,e⟩
     ·exact ⟨_,hd⟩
    obtain ⟨oo,Qh⟩:=MZ
    obtain ⟨m1,m2,m3,m4⟩:=Nb d oo Qh
    exact kk d w' m1 m2 m3 m4 q
  exact S0
 self:=fun _ _ _ _ _ st h=>wpAny_pyIter_zip st.1 h
section
variable {X:Cx} {es:List Expr} {kt:Nat} {pt:Pos}
def FH (K:W.Frag) (k1 k2:Bool) (ta:TA):TI:=fun σ H R=>ta σ H fun vs H1=>∃ a b xs ys,vs=[.ref a,.ref b]/\(if k1 then SqL K H1 a xs else SqT K H1 a xs)/\(if k2 then SqL K H1 b ys else SqT K H1 b ys)/\R (Qf K k1 k2 a b) H1
theorem B2 (k1 k2:Bool) {e1 e2:Expr} {ta:TA} {p pos:Pos} (hg:Gl X "zip") (hm:X.mg "zip" = none) (ha:PA X [e1,e2] ta) (he:starEach [e1,e2] X.env=(false,eval e1 X.env) :: starEach [e2] X.env:=by rfl) (Iq:(backTo pos (starEach [e2] X.env)).any (·.1)=false:=by rfl) :
  PI X (.Tuple es kt pt) (.Call (.Name "zip" p) [e1,e2] [] pos) (FH X.K k1 k2 ta):=by
 intro pins s σ H R I h
 refine TK (ku I hg hm (by decide +kernel:bootBuiltins "zip" = some (.type "zip")) ?_ (by decide) (by decide))
 refine Ts (Gs (ha pos pins s σ H _ I h) fun us s1 ⟨vs,H1,I1,r1,a,b,xs,ys,e,s1',s2',q⟩=>?_) he Iq
 subst e
 obtain ⟨u,w',rfl,ra,rb⟩:=xa r1
 cases ra
 cases rb
 obtain ⟨us,v1,q1⟩:=tH I1 s1'
 obtain ⟨ws,v2,q2⟩:=tH I1 s2'
 refine zv q1 q2 fun h' st kk=>?_
 refine wpAny_pyIter_zip st.1 ?_
 have fr:∀ j,uk X pins H1 (s1.heap.objs.size + j):=fun j=>I1.fpOk (Nat.le_add_right _ _) (I1.hok.fresh (Nat.le_add_right _ _))
 have nn:∀ i j:Nat,i≠j->s1.heap.objs.size + i≠s1.heap.objs.size + j:=fun i j h z=>h (Nat.add_left_cancel z)
 refine ⟨_,_,_,_,H1,rfl,I1.kept (t':=s1.toks) kk,xp k1 k2 a b (s1.heap.objs.size + 4) (s1.heap.objs.size + 2) (s1.heap.objs.size + 3) (s1.heap.objs.size + 0) (s1.heap.objs.size + 1)
  ⟨nn 4 2 (by decide),nn 4 3 (by decide),nn 4 0 (by decide),nn 4 1 (by decide),nn 2 3 (by decide),nn 2 0 (by decide),nn 2 1 (by decide),nn 3 0 (by decide),nn 3 1 (by decide),nn 0 1 (by decide)⟩,st,fun c hc=>?_,q⟩
 simp only [RT,Sy,VU] at hc
 rcases hc with rfl | rfl | rfl | rfl | rfl
 ·exact fr 4
 ·exact fr 2
 ·exact fr 3
 ·exact fr 0
 ·exact fr 1
end
end NX
namespace NX
open PySem PySem.W PyProof.Rows
section
variable {n:Nat} {O:KeyOrd} {κ:Nat->O.α} {cmp:Nat->Nat->(Bool->Shared->Prop)->Shared->Prop} {Good:Shared->Prop}
def kk (κ:Nat->O.α) (p:Array Nat) (i:Nat):O.α:=κ (p.getD i 0)
structure POk (n:Nat) (p:Array Nat):Prop where
 perm:p.toList.Perm (List.range n)
theorem POk.size {p:Array Nat} (h:POk n p):p.size=n:=by
 have:=h.perm.length_eq
 simpa using this
theorem POk.lt {p:Array Nat} (h:POk n p) {i:Nat} (hi:i < n):p.getD i 0 < n:=by
 have hs:=h.size
 have LP:i < p.size:=by lia
 have e:p.getD i 0=p[i]:=by simp [Array.getD,LP]
 rw [e]
 exact Sg.mp (h.perm.mem_iff.mp (Array.getElem_mem_toList LP))
theorem POk.of {p q:Array Nat} (h:POk n p) (hq:q.Perm p):POk n q:=⟨(Array.perm_iff_toList_perm.mp hq).trans h.perm⟩
def bE (κ:Nat->O.α) (p:Array Nat) (m:Nat):Prop:=∀ i j,i<=j->j < m->O.kle (kk κ p i) (kk κ p j)
def gB (κ:Nat->O.α) (p:Array Nat) (m:Nat):Prop:=∀ i j,i<=j->j < m->O.kle (kk κ p j) (kk κ p i)
theorem fY {p q:Array Nat} {i j:Nat} (h:p[i]?=q[j]?):p.getD i 0=q.getD j 0:=by
 rw [Array.getD_eq_getD_getElem?,Array.getD_eq_getD_getElem?,h]
theorem rj {p:Array Nat} {i j:Nat} (hj:j<=p.size) (k:Nat):kk κ (kas_rev p i j) k=if i<=k/\k < j then kk κ p (i + j - 1 - k) else kk κ p k:=by
 have e:=getElem?_mirror_all (i:=i) hj k
 unfold kk kas_rev
 split
 ·rename_i h
  rw [RO h] at e
  rw [fY e]
 ·rename_i h
  rw [RY h] at e
  rw [fY e]
theorem yt {p:Array Nat} {src d:Nat} (hs:src < p.size) (hd:d<=src) (k:Nat):kk κ (bubble p src d) k=if k=src - d then kk κ p src else if src - d < k/\k<=src then kk κ p (k - 1) else kk κ p k:=by
 have e:=getElem?_bubble hs d hd k
 by_cases h:k=src - d
 ·rw [RO h] at e ⊢
  exact SY κ (fY e)
 ·rw [RY h] at e ⊢
  by_cases h2:src - d < k/\k<=src
  ·rw [RO h2] at e ⊢
   exact SY κ (fY e)
  ·rw [RY h2] at e ⊢
   exact SY κ (fY e)
theorem POk.rev {p:Array Nat} (h:POk n p) (i j:Nat):POk n (kas_rev p i j):=h.of (mirror_perm _ _ _ _)
theorem POk.bub {p:Array Nat} (h:POk n p) (i j:Nat):POk n (bubble p i j):=h.of (bubble_perm _ _ _)
theorem tJ (p:Array Nat):bE κ p 1:=fun i j a b=>by
 have e:i=j:=by lia
 rw [e]
 exact Tv _
theorem qk {p:Array Nat} {m:Nat} (h1:1<=m) (h:bE κ p m) (hm:O.kle (kk κ p (m - 1)) (kk κ p m)):bE κ p (m + 1):=by
 intro i j LQ hj
 by_cases e:j=m
 ·subst e
  by_cases e2:i=j
  ·subst e2
   exact Tv _
  ·exact UJ (h i (j - 1) (by lia) (by lia)) hm
 ·exact h i j LQ (by lia)
theorem fZ {p:Array Nat} {m:Nat} (h1:1<=m) (h:gB κ p m) (hm:O.kle (kk κ p m) (kk κ p (m - 1))):gB κ p (m + 1):=by
 intro i j LQ hj
 by_cases e:j=m
 ·subst e
  by_cases e2:i=j
  ·subst e2
   exact Tv _
  ·exact UJ hm (h i (j - 1) (by lia) (by lia))
 ·exact h i j LQ (by lia)
variable (hc:∀ i j,i < n->j < n->∀ (Q:Bool->Shared->Prop) s,Good s->(∀ s',Good s'->Q (O.blt (κ i) (κ j)) s')->cmp i j Q s)
include hc
theorem vf {p:Array Nat} (hp:POk n p) {GP:Nat} (hn:GP<=n) {Q:Nat->Shared->Prop}:∀ (f m:Nat) (s:Shared),Good s->1<=m->m + f=GP->bE κ p m->
  (∀ r s',Good s'->m<=r->r<=GP->bE κ p r->(r < GP->O.klt (kk κ p r) (kk κ p (r - 1)))->Q r s')->(kas_asc p f m).kasWp cmp Q s
 | 0,m,s,g,h1,hf,hs,k=>k m s g (RL _) (by lia) hs (fun z=>by lia)
 | f + 1,m,s,g,h1,hf,hs,k=>by
  show cmp (p.getD m 0) (p.getD (m - 1) 0) _ s
  refine hc _ _ (hp.lt (by lia)) (hp.lt (by lia)) _ s g fun s' g'=>?_
  cases e:O.blt (κ (p.getD m 0)) (κ (p.getD (m - 1) 0)) with
  | true=>
   (try dsimp only)
   rw [RO rfl]
   exact k m s' g' (RL _) (by lia) hs fun _=>e
  | false=>
   (try dsimp only)
   rw [RY RK]
   exact vf hp hn f (m + 1) s' g' (by lia) (by lia) (qk h1 hs e) fun r s2 g2 a b c d=>k r s2 g2 (by lia) b c d
def zw (κ:Nat->O.α) (p:Array Nat) (m q:Nat):Prop:=∀ k,m - (q + 1)<=k->k < m->kk κ p k=kk κ p (m - 1)
omit hc in
theorem o9 {p:Array Nat} {m q:Nat} (hm:m<=p.size) (h:zw κ p m q) (k:Nat):kk κ (kas_rev p (m - (q + 1)) m) k=kk κ p k:=by
 rw [rj hm]
 split
 ·rename_i hk
  rw [h _ (by lia) (by lia),h k hk.1 hk.2]
 ·rfl
omit hc in
theorem j4 {p p':Array Nat} {m:Nat} (e:∀ k,kk κ p' k=kk κ p k) (h:gB κ p m):gB κ p' m:=fun i j a b=>by rw [e,e];exact h i j a b
theorem nK {GP:Nat} (hn:GP<=n) {Q:Array Nat×Nat×Nat->Shared->Prop}:∀ (f:Nat) (p:Array Nat) (m q:Nat) (s:Shared),POk n p->Good s->1<=m->q + 1<=m->m + f=GP->gB κ p m->zw κ p m q->
  (∀ p' m' q' s',POk n p'->Good s'->m<=m'->m'<=GP->q' + 1<=m'->gB κ p' m'->zw κ p' m' q'->Q (p',m',q') s')->(kas_desc f p m q).kasWp cmp Q s
 | 0,p,m,q,s,hp,g,h1,hq,hf,hs,ha,k=>k p m q s hp g (RL _) (by lia) hq hs ha
 | f + 1,p,m,q,s,hp,g,h1,hq,hf,hs,ha,k=>by
  show cmp (p.getD m 0) (p.getD (m - 1) 0) _ s
  refine hc _ _ (hp.lt (by lia)) (hp.lt (by lia)) _ s g fun s' g'=>?_
  have hsz:=hp.size
  cases e:O.blt (κ (p.getD m 0)) (κ (p.getD (m - 1) 0)) with
  | true=>
   (try dsimp only)
   rw [RO rfl]
   have le:O.kle (kk κ p m) (kk κ p (m - 1)):=UC e
   by_cases h0:q > 0
   ·rw [RO h0]
    have same:=o9 (κ:=κ) (p:=p) (m:=m) (q:=q) (by lia) ha
    refine nK hn f _ (m + 1) 0 s' (hp.rev _ _) g' (by lia) (by lia) (by lia) (fZ h1 (j4 same hs) (by rw [same,same];exact le)) ?_ fun p' m' q' s2 a b c d e' f' g2=>k p' m' q' s2 a b (by lia) d e' f' g2
    intro k' a b
    have:k'=m:=by lia
    rw [this]
    rfl
   ·rw [RY h0]
    refine nK hn f p (m + 1) 0 s' hp g' (by lia) (by lia) (by lia) (fZ h1 hs le) ?_ fun p' m' q' s2 a b c d e' f' g2=>k p' m' q' s2 a b (by lia) d e' f' g2
    intro k' a b
    have:k'=m:=by lia
    rw [this]
    rfl
  | false=>
   (try dsimp only)
   rw [RY RK]
   show cmp (p.getD (m - 1) 0) (p.getD m 0) _ s'
   refine hc _ _ (hp.lt (by lia)) (hp.lt (by lia)) _ s' g' fun s2 g2=>?_
   cases e2:O.blt (κ (p.getD (m - 1) 0)) (κ (p.getD m 0)) with
   | true=>
    (try dsimp only)
    rw [RO rfl]
    exact k p m q s2 hp g2 (RL _) (by lia) hq hs ha
   | false=>
    (try dsimp only)
    rw [RY RK]
    have eq:kk κ p (m - 1)=kk κ p m:=KeyOrd.kle_antisymm (O:=O) e e2
    refine nK hn f p (m + 1) (q + 1) s2 hp g2 (by lia) (by lia) (by lia) (fZ h1 hs (by rw [eq];exact Tv _)) ?_ fun p' m' q' s3 a b c d e' f' g3=>k p' m' q' s3 a b (by lia) d e' f' g3
    intro k' a b
    show kk κ p k'=kk κ p m
    by_cases z:k'=m
    ·rw [z]
    ·rw [ha k' (by lia) (by lia),eq]
omit hc in
theorem tL {p:Array Nat} {m:Nat} (hm:m<=p.size) (h:gB κ p m):bE κ (kas_rev p 0 m) m:=by
 intro i j a b
 rw [rj hm,rj hm,RO (by lia),RO (by lia)]
 exact h _ _ (by lia) (by lia)
theorem vg {p:Array Nat} (hp:POk n p) {m GP:Nat} (hn:GP<=n) (h1:1<=m) (hm:m<=GP) (hs:gB κ p m) {Q:Nat×Array Nat->Shared->Prop} {s:Shared} (g:Good s)
  (k:∀ r p' s',POk n p'->Good s'->1<=r->r<=GP->bE κ p' r->Q (r,p') s'):(kas_tail3 m GP p).kasWp cmp Q s:=by
 unfold kas_tail3
 rw [KasT.kasWp_bind]
 have hsz:=hp.size
 refine vf hc (hp.rev 0 m) hn (GP - m) m s g h1 (by lia) (tL (by lia) hs) fun r s' g' a b c _=>?_
 exact k r _ s' (hp.rev 0 m) g' (by lia) b c
theorem lB {p:Array Nat} (hp:POk n p) {m GP:Nat} (hn:GP<=n) (h1:1<=m) (hm:m + 1<=GP) (hs:gB κ p (m + 1)) {Q:Nat×Array Nat->Shared->Prop} {s:Shared} (g:Good s)
  (k:∀ r p' s',POk n p'->Good s'->1<=r->r<=GP->bE κ p' r->Q (r,p') s'):(kas_descPart m GP p).kasWp cmp Q s:=by
 unfold kas_descPart
 rw [KasT.kasWp_bind]
 refine nK hc hn (GP - (m + 1)) p (m + 1) 0 s hp g (by lia) (by lia) (by lia) hs ?_ fun p' m' q' s' a b c d e f g2=>?_
 ·intro k' a b
  have:k'=m:=by lia
  rw [this]
  rfl
 ·have hsz:=a.size
  dsimp only
  split
  ·have same:=o9 (κ:=κ) (p:=p') (m:=m') (q:=q') (by lia) g2
   exact vg hc (a.rev _ _) hn (by lia) d (j4 same f) b k
  ·exact vg hc a hn (by lia) d f b k
theorem xq {p:Array Nat} (hp:POk n p) {GP:Nat} (hn:GP<=n) (h1:1<=GP) {Q:Nat×Array Nat->Shared->Prop} {s:Shared} (g:Good s)
  (k:∀ r p' s',POk n p'->Good s'->1<=r->r<=GP->bE κ p' r->Q (r,p') s'):(kas_count GP p).kasWp cmp Q s:=by
 unfold kas_count
 rw [KasT.kasWp_bind]
 have hsz:=hp.size
 refine vf hc hp hn (GP - 1) 1 s g (RL _) (by lia) (tJ p) fun m s' g' a b c d=>?_
 by_cases e:m=GP
 ·rw [RO (by simpa using e)]
  exact k m p s' hp g' (by lia) (by lia) c
 ·rw [RY (by simpa using e)]
  have dd:=d (by lia)
  by_cases h2:m > 1
  ·rw [RO h2]
   show cmp (p.getD 0 0) (p.getD (m - 1) 0) _ s'
   refine hc _ _ (hp.lt (by lia)) (hp.lt (by lia)) _ s' g' fun s2 g2=>?_
   cases e2:O.blt (κ (p.getD 0 0)) (κ (p.getD (m - 1) 0)) with
   | true=>
    (try dsimp only)
    rw [RO rfl]
    exact k m p s2 hp g2 (by lia) b c
   | false=>
    (try dsimp only)
    rw [RY RK]
    have eq:∀ i,i < m->kk κ p i=kk κ p 0:=fun i hi=>by
     have x1:=c 0 i (by lia) hi
     have x2:=c i (m - 1) (by lia) (by lia)
     exact KeyOrd.kle_antisymm (O:=O) (UJ x2 e2) x1
    have same:∀ i,kk κ (kas_rev p 0 m) i=kk κ p i:=fun i=>by
     rw [rj (by lia)]
     split
     ·rw [eq _ (by lia),eq i (by lia)]
     ·rfl
    refine lB hc (hp.rev 0 m) hn (by lia) (by lia) ?_ g2 k
    refine j4 same (fZ (by lia) (fun i j x y=>?_) (UC dd))
    rw [eq i (by lia),eq j y]
    exact Tv _
  ·rw [RY h2]
   refine lB hc hp hn (by lia) (by lia) (fZ (by lia) (fun i j x y=>?_) (UC dd)) g' k
   have:i=j:=by lia
   rw [this]
   exact Tv _
theorem nL {p:Array Nat} (hp:POk n p) {t:Nat} (ht:t < n) (hs:bE κ p t) {Q:Nat->Shared->Prop}:∀ (f l r:Nat) (s:Shared),Good s->l<=r->r<=t->r - l<=f->(∀ i,i < l->O.kle (kk κ p i) (kk κ p t))->(∀ i,r<=i->i < t->O.klt (kk κ p t) (kk κ p i))->
  (∀ x s',Good s'->x<=t->(∀ i,i < x->O.kle (kk κ p i) (kk κ p t))->(∀ i,x<=i->i < t->O.klt (kk κ p t) (kk κ p i))->Q x s')->(kas_place p t f l r).kasWp cmp Q s
 | 0,l,r,s,g,h1,h2,h3,lo,hi,k=>k l s g (by lia) lo fun i a b=>hi i (by lia) b
 | f + 1,l,r,s,g,h1,h2,h3,lo,hi,k=>by
  unfold kas_place
  by_cases e:l >= r
  ·rw [RO e]
   exact k l s g (by lia) lo fun i a b=>hi i (by lia) b
  ·rw [RY e]
   show cmp (p.getD t 0) (p.getD ((l + r) / 2) 0) _ s
   refine hc _ _ (hp.lt ht) (hp.lt (by lia)) _ s g fun s' g'=>?_
   cases e2:O.blt (κ (p.getD t 0)) (κ (p.getD ((l + r) / 2) 0)) with
   | true=>
    (try dsimp only)
    rw [RO rfl]
    refine nL hp ht hs f l ((l + r) / 2) s' g' (by lia) (by lia) (by lia) lo (fun i a b=>?_) k
    exact KeyOrd.klt_of_klt_of_kle (O:=O) e2 (hs _ i a b)
   | false=>
    (try dsimp only)
    rw [RY RK]
    refine nL hp ht hs f ((l + r) / 2 + 1) r s' g' (by lia) (by lia) (by lia) (fun i a=>?_) hi k
    exact UJ (O:=O) (hs i ((l + r) / 2) (by lia) (by lia)) e2
theorem yu {Q:Array Nat->Shared->Prop}:∀ (f:Nat) (p:Array Nat) (t:Nat) (s:Shared),POk n p->Good s->t + f=n->bE κ p t->(∀ p' s',POk n p'->Good s'->bE κ p' n->Q p' s')->(kas_bin f p t).kasWp cmp Q s
 | 0,p,t,s,hp,g,hf,hs,k=>k p s hp g (by rw [show n=t by lia];exact hs)
 | f + 1,p,t,s,hp,g,hf,hs,k=>by
  unfold kas_bin
  rw [KasT.kasWp_bind]
  have hsz:=hp.size
  refine nL hc hp (by lia) hs t 0 t s g (So _) (RL _) (by lia) (fun i a=>by lia) (fun i a b=>by lia) fun x s' g' hx lo hi=>?_
  refine yu f _ (t + 1) s' (hp.bub _ _) g' (by lia) ?_ k
  have ex:t - (t - x)=x:=by lia
  intro i j a b
  rw [yt (by lia) (by lia),yt (by lia) (by lia),ex]
  have lo':=lo
  by_cases i1:i=x
  ·by_cases j1:j=x
   ·rw [RO i1,RO j1]
    exact Tv _
   ·rw [RO i1,RY j1,RO (by lia)]
    exact UC (hi (j - 1) (by lia) (by lia))
  ·rw [RY i1]
   by_cases i2:x < i/\i<=t
   ·rw [RO i2,RY (by lia),RO (by lia)]
    exact hs (i - 1) (j - 1) (by lia) (by lia)
   ·rw [RY i2]
    by_cases j1:j=x
    ·rw [RO j1]
     exact lo i (by lia)
    ·rw [RY j1]
     by_cases j2:x < j/\j<=t
     ·rw [RO j2]
      exact hs i (j - 1) (by lia) (by lia)
     ·rw [RY j2]
      exact hs i j a (by lia)
theorem zx (h1:1<=n) {Q:Array Nat->Shared->Prop} {s:Shared} (g:Good s) (k:∀ p s',POk n p->Good s'->bE κ p n->Q p s'):(kas_sort n).kasWp cmp Q s:=by
 unfold kas_sort
 rw [KasT.kasWp_bind]
 refine xq hc (p:=List.toArray (List.range n)) ⟨by simp⟩ (RL _) h1 g fun r p' s' hp g' a b c=>?_
 dsimp only
 split
 ·have e:max r 1=r:=by lia
  rw [e]
  exact yu hc (n - r) p' r s' hp g' (by lia) c k
 ·exact k p' s' hp g' (by rw [show n=r by lia];exact c)
end
end NX
namespace NX
open PySem PySem.W PySem.Spec PyProof.Rows L2
section
variable {prog:Program} {w:World} {A:Around} {E:Value->Shared->Prop} {s:Shared}
theorem rl (n:Nat):POk n (List.toArray (List.range n)):=⟨by simp⟩
theorem jv {O:KeyOrd} {key:Nat->O.α} {kd:SortKind} {a:Addr} {vs:List Value} {n:Nat} {P:PySem.Fin->Shared->Prop} (ho:s.heap.get? a=some (seqObj "list" vs.toArray n)) (KS:vs.length < 64)
  (IX:2<=vs.length->∀ (h':Heap),(∀ b o,b≠a->s.heap.get? b=some o->h'.get? b=some o)->∀ Q:SortKind->Shared->Prop,Q kd { s with heap:=h' }->wpAny (model prog w) A (keyKind' vs.toArray) Q E { s with heap:=h' })
  (Ll:∀ i j,i < vs.length->j < vs.length->∀ (h':Heap),(∀ b o,b≠a->s.heap.get? b=some o->h'.get? b=some o)->∀ C:Bool->Shared->Prop,C (O.blt (key i) (key j)) { s with heap:=h' }->kas_ask prog w A kd vs i j C { s with heap:=h' })
  (h:∀ p h',POk vs.length p->bE key p vs.length->(∃ e,h'.get? a=some (seqObj "list" (List.toArray (p.toList.map fun i=>vs.getD i .none)) e))->(∀ b o,b≠a->s.heap.get? b=some o->h'.get? b=some o)->P (.done (.ret .none)) { s with heap:=h' }) :
  wpAny (model prog w) A (Builtin.«list.sort» ⟨[.ref a],[]⟩) P E s:=by
 rw [list_sort_plain]
 have la:a < s.heap.objs.size:=RS ho
 have zs:vs.toArray.size=vs.length:=by simp
 refine RG (listItems_at ho rfl (RG (listUpdate_at ho rfl ?_ (by rw [zs,SU];lia) (So _))))
 obtain ⟨e1,h1⟩:∃ e1,(s.heap.update a (Obj.mapSeq fun _=>#[])).get? a=some (seqObj "list" #[] e1):=⟨_,get?_update_seq ho (fun _=>#[])⟩
 refine RG (seqEpoch_at h1 rfl (RG (wpAny_newTuple (RG (VI (Te ?_))) (by simp only [Uj];rw [SU];lia))))
 generalize e6:((s.heap.update a (Obj.mapSeq fun _=>#[])).push { cls:=.type "tuple",data:=.seq vs.toArray.toList.toArray }).push { cls:=.type "list",data:=.seq ([]:List Value).toArray }=h6
 have k6:∀ b o,b≠a->s.heap.get? b=some o->h6.get? b=some o:=fun b o nb e=>by
  rw [<-e6]
  exact Heap.get?_push_of_some _ (Heap.get?_push_of_some _ ((Heap.get?_update_other _ _ (Tj nb)).trans e))
 have Oz:h6.get? a=some (seqObj "list" #[] e1):=by
  rw [<-e6]
  exact Heap.get?_push_of_some _ (Heap.get?_push_of_some _ h1)
 dsimp only
 have fin:∀ (p:Array Nat),POk vs.length p->bE key p vs.length->∀ out:Array Value,out=List.toArray (p.toList.map fun i=>vs.getD i .none)->
   P (.done (.ret .none)) { s with heap:=h6.update a (Obj.mapSeq fun _=>out) }:=fun p hp hs out eo=>by
  subst eo
  exact h p _ hp hs ⟨_,get?_update_seq Oz _⟩ fun b o nb e=>(Heap.get?_update_other _ _ (Tj nb)).trans (k6 b o nb e)
 have fits:∀ {out:Array Value} {p:Array Nat},POk vs.length p->out=List.toArray (p.toList.map fun i=>vs.getD i .none)->out.size<=sizeLine + 1:=fun {out p} hp e=>by
  rw [e,RI,RJ,hp.perm.length_eq,RX,SU]
  lia
 by_cases h2:vs.toArray.size < 2
 ·rw [RO h2,RO h2]
  refine RG (RH ?_)
  rw [StateT.run_pure]
  refine RG (RH ?_)
  dsimp only
  have eo:(arrOf (SortSt.mk' general' (vs.toArray.zip vs.toArray) #[] 7 none)).map (·.2)=List.toArray ((List.toArray (List.range vs.length)).toList.map fun i=>vs.getD i .none):=by
   show (vs.toArray.zip vs.toArray).map (·.2)=_
   apply Array.toList_inj.mp
   simp only [Array.toList_map,Array.toList_zip,Uj]
   have a1:(vs.zip vs).map (·.2)=vs:=by
    rw [List.map_snd_zip]
    exact RL _
   rw [a1]
   apply Tr
   intro i
   by_cases hi:i < vs.length
   ·simp [hi]
   ·simp [hi]
  refine RG (seqEpoch_at Oz rfl (RG (listUpdate_at Oz rfl ?_ (So _) (fits (rl _) eo))))
  simp only [U3,S8,UH]
  refine RH (fin _ (rl _) ?_ _ eo)
  intro i j x y
  have:i=j:=by lia
  rw [this]
  exact Tv _
 ·rw [RY h2,RY h2]
  have Pn:2<=vs.length:=by lia
  refine RG (IX Pn h6 k6 _ ?_)
  refine RG (Ul (kat_run (ks:=vs) (vs:=vs) (Q:=fun IA s'=>∃ p,POk vs.length p/\bE key p vs.length/\arrOf IA=p.map (kas_item (vs.toArray.zip vs.toArray))/\failedOf IA=none/\s'={ s with heap:=h6 })
   (G:=fun p s'=>POk vs.length p/\bE key p vs.length/\s'={ s with heap:=h6 }) rfl Pn KS (fun p IA s' hz Nc hf hg=>⟨p,hg.1,hg.2.1,Nc,hf,hg.2.2⟩)
   (zx (n:=vs.length) (O:=O) (κ:=key) (Good:=fun s'=>s'={ s with heap:=h6 }) (fun i j hi hj Q s' g k=>?_) (by lia) rfl fun p s' hp g hs=>⟨hp,hs,g⟩)) (fun r s' hq=>?_) fun _ _ e=>e)
  ·subst g
   exact Ll i j hi hj h6 k6 Q (k _ rfl)
  ·obtain ⟨p,hp,hs,Nc,hf,rfl⟩:=hq
   have eo:=kat_snds (ks:=vs) (vs:=vs) rfl Nc
   refine RG (seqEpoch_at Oz rfl (RG (listUpdate_at Oz rfl ?_ (So _) (fits hp eo))))
   rw [hf]
   simp only [U3,S8,UH]
   exact RH (fin p hp hs _ eo)
theorem j5 {O:KeyOrd} {key:Nat->O.α} {kd:SortKind} {l:Addr} {vs:List Value} {Q:Value->Shared->Prop} (hl:s.heap.IsList l vs.toArray) (KS:vs.length < 64)
  (IX:2<=vs.length->∀ (A':Around) (E':Value->Shared->Prop) (h':Heap),(∀ b o,s.heap.get? b=some o->h'.get? b=some o)->∀ Q:SortKind->Shared->Prop,Q kd { s with heap:=h' }->wpAny (model prog w) A' (keyKind' vs.toArray) Q E' { s with heap:=h' })
  (Ll:∀ i j,i < vs.length->j < vs.length->∀ (h':Heap),(∀ b o,s.heap.get? b=some o->h'.get? b=some o)->∀ C:Bool->Shared->Prop,C (O.blt (key i) (key j)) { s with heap:=h' }->kas_ask prog w A.in1.in1 kd vs i j C { s with heap:=h' })
  (h:∀ p h' e,POk vs.length p->bE key p vs.length->h'.get? (s.heap.objs.size + 1)=some (seqObj "list" (List.toArray (p.toList.map fun i=>vs.getD i .none)) e)->(∀ b o,s.heap.get? b=some o->h'.get? b=some o)->Q (.ref (s.heap.objs.size + 1)) { s with heap:=h' }) :
  wpAny (model prog w) A (call (.builtin "sorted") [.ref l]) Q E s:=by
 refine Ui kind_sorted plain_sorted entry_sorted (args_sorted1 _) ?_
 unfold Builtin.«sorted»
 refine RG (m:=checkCount "sorted" 1 1 _) (RH (RG (collect_list hl (RG (VI ?_ (by rw [SU];lia))) (by rw [SU];lia))))
 have zz:((s.heap.push (seqObj "list" #[] 0)).update s.heap.objs.size (Obj.mapSeq (·++vs.toArray))).objs.size=s.heap.objs.size + 1:=by rw [Heap.size_update,size_push']
 generalize e5:(s.heap.push (seqObj "list" #[] 0)).update s.heap.objs.size (Obj.mapSeq (·++vs.toArray))=h5 at zz ⊢
 have k5:∀ b o,s.heap.get? b=some o->(h5.push (seqObj "list" vs.toArray 0)).get? b=some o:=fun b o e=>by
  rw [<-e5]
  exact Heap.get?_push_of_some _ ((Heap.get?_update_other _ _ (Tj (R8 (RS e)))).trans (Heap.get?_push_of_some _ e))
 have hL:(h5.push (seqObj "list" vs.toArray 0)).get? (s.heap.objs.size + 1)=some (seqObj "list" vs.toArray 0):=by
  rw [<-zz]
  exact Heap.get?_push_size _ rfl
 have ne:∀ b o,s.heap.get? b=some o->b≠s.heap.objs.size + 1:=fun b o e=>R8 (U4 (RS e))
 show wpAny _ _ _ _ _ { s with heap:=h5.push (seqObj "list" vs.toArray 0) }
 rw [zz]
 refine RG (Te (SO slot_list_sort ⟨_,hL,rfl⟩ entry_list_sort (jv (key:=key) (kd:=kd) hL KS (fun h2 h' kk Q' q=>IX h2 _ _ h' (fun b o e=>kk b o (ne b o e) (k5 b o e)) Q' q)
  (fun i j hi hj h' kk C q=>Ll i j hi hj h' (fun b o e=>kk b o (ne b o e) (k5 b o e)) C q) fun p h' hp hs ⟨e,he⟩ kk=>⟨_,rfl,?_⟩) (args_list_sort _)))
 exact RH ⟨_,rfl,h p h' e hp hs he fun b o q=>kk b o (ne b o q) (k5 b o q)⟩
end
def intO:KeyOrd where
 α:=Int
 blt a b:=decide (a < b)
 irrefl a:=by simp
 trans a b c h1 h2:=by simp only [R0] at *;lia
 negTrans a b c h:=by simp only [R0] at *;lia
 total a b h1 h2:=by simp only [SS] at *;lia
abbrev E2:KeyOrd:=strKind.toKeyOrd
def rp:KeyOrd where
 α:=Key
 blt a b:=match a,b with
  | .inl i,.inl j=>decide (i < j)
  | .inr x,.inr y=>decide (x.cps.toList < y.cps.toList)
  | .inl _,.inr _=>true
  | .inr _,.inl _=>false
 irrefl a:=by
  cases a with
  | inl i=>simp
  | inr x=>simpa using List.lt_irrefl x.cps.toList
 trans a b c h1 h2:=by
  cases a <;> cases b <;> cases c <;> simp_all
  ·lia
  ·exact List.lt_trans h1 h2
 negTrans a b c h:=by
  cases a <;> cases b <;> cases c <;> simp_all
  ·lia
  ·rename_i x y z
   by_cases q:x.cps.toList < y.cps.toList
   ·exact .inl q
   ·exact .inr (List.lt_of_le_of_lt (Vd.mp q) h)
 total a b h1 h2:=by
  cases a <;> cases b <;> simp_all
  ·lia
  ·rename_i x y
   have e:x.cps.toList=y.cps.toList:=List.le_antisymm (by first | exact h2 | exact Vd.mp h2) (by first | exact h1 | exact Vd.mp h1)
   rw [<-o4 x,<-o4 y,e]
def fK:List Key->List Key->Bool
 | [],[]=>false
 | [],_ :: _=>true
 | _ :: _,[]=>false
 | a :: r,b :: t=>if a=b then fK r t else rp.blt a b
theorem i8:∀ a:List Key,fK a a=false
 | []=>rfl
 | a :: r=>by
  show (if a=a then fK r r else _)=false
  rw [RO rfl]
  exact i8 r
theorem zy {a b:Key} (h:rp.blt a b=true):a≠b:=by
 rintro rfl
 have:=rp.irrefl a
 rw [h] at this
 cases this
theorem iM:∀ a b c:List Key,fK a b=true->fK b c=true->fK a c=true
 | [],[],_,h,_=>by cases h
 | [],_ :: _,[],_,h=>by cases h
 | [],_ :: _,_ :: _,_,_=>rfl
 | _ :: _,[],_,h,_=>by cases h
 | _ :: _,_ :: _,[],_,h=>by cases h
 | a :: r,b :: t,c :: u,h1,h2=>by
  have h1:(if a=b then fK r t else rp.blt a b)=true:=h1
  have h2:(if b=c then fK t u else rp.blt b c)=true:=h2
  show (if a=c then fK r u else rp.blt a c)=true
  by_cases e1:a=b
  ·by_cases e2:b=c
   ·rw [RO e1] at h1
    rw [RO e2] at h2
    rw [RO (e1.trans e2)]
    exact iM r t u h1 h2
   ·rw [RY e2] at h2
    rw [e1,RY e2]
    exact h2
  ·rw [RY e1] at h1
   by_cases e2:b=c
   ·rw [<-e2,RY e1]
    exact h1
   ·rw [RY e2] at h2
    have h3:=rp.trans a b c h1 h2
    rw [RY (zy h3)]
    exact h3
theorem iN:∀ a b:List Key,fK a b=false->fK b a=false->a=b
 | [],[],_,_=>rfl
 | [],_ :: _,h,_=>by cases h
 | _ :: _,[],_,h=>by cases h
 | a :: r,b :: t,h1,h2=>by
  have h1:(if a=b then fK r t else rp.blt a b)=false:=h1
  have h2:(if b=a then fK t r else rp.blt b a)=false:=h2
  by_cases e:a=b
  ·rw [RO e] at h1
   rw [RO e.symm] at h2
   rw [e,iN r t h1 h2]
  ·rw [RY e] at h1
   rw [RY (Tj e)] at h2
   exact absurd (rp.total a b h1 h2) e
theorem xr (a b c:List Key) (h:fK a c=true):fK a b=true\/fK b c=true:=by
 cases e:fK a b with
 | true=>exact .inl rfl
 | false=>
  refine .inr ?_
  cases e2:fK b a with
  | true=>exact iM b a c e2 h
  | false=>
   rw [<-iN a b e e2]
   exact h
def DF:KeyOrd where
 α:=List Key
 blt:=fK
 irrefl:=i8
 trans:=iM
 negTrans:=xr
 total:=iN
section
variable {O:KeyOrd}
def tM (p:Array Nat) (xs:List V):List V:=p.toList.map fun i=>xs.getD i .non
theorem mK {α:Type} (xs:List α) (d:α):((List.range xs.length).map fun i=>xs.getD i d)=xs:=by
 apply Tr
 intro i
 by_cases hi:i < xs.length
 ·simp [hi]
 ·simp [hi]
theorem k8 {α:Type} {p:Array Nat} {xs:List α} (d:α) (hp:POk xs.length p):(p.toList.map fun i=>xs.getD i d).Perm xs:=by
 have:=hp.perm.map (fun i=>xs.getD i d)
 rwa [mK] at this
theorem iO {α:Type} {p:Array Nat} {xs:List α} (d:α) (key:α->O.α) (hp:POk xs.length p) (hs:bE (O:=O) (fun i=>key (xs.getD i d)) p xs.length):(p.toList.map fun i=>xs.getD i d).Pairwise fun a b=>O.kle (key a) (key b):=by
 rw [List.pairwise_iff_getElem]
 intro i j hi hj LQ
 have hsz:=hp.size
 have LP:i < p.size:=by simpa using hi
 have Nf:j < p.size:=by simpa using hj
 have h:=hs i j (Vn LQ) (by lia)
 unfold kk at h
 simp only [List.getElem_map,Array.getElem_toList]
 have e1:p.getD i 0=p[i]:=by simp [Array.getD,LP]
 have e2:p.getD j 0=p[j]:=by simp [Array.getD,Nf]
 rw [e1,e2] at h
 exact h
theorem vals_pick {xs:List V} {us:List Value} (r:Vals xs us):∀ l:List Nat,(∀ i∈l,i < xs.length)->Vals (l.map fun i=>xs.getD i .non) (l.map fun i=>us.getD i .none)
 | [],_=>.nil
 | i :: l,h=>by
  refine .cons ?_ (vals_pick r l fun j hj=>h j (RU _ hj))
  have hi:=h i RM
  have e1:xs[i]?=some (xs.getD i .non):=by rw [bz _ _ _ hi];exact List.getElem?_eq_getElem hi
  obtain ⟨u,hu,ru⟩:=r.get e1
  have e2:us.getD i .none=u:=by rw [List.getD_eq_getElem?_getD,hu];rfl
  show L2.RelV (xs.getD i .non) (us.getD i .none)
  rw [e2]
  exact ru
theorem k9 {xs:List V} {us:List Value} {p:Array Nat} (r:Vals xs us) (hp:POk xs.length p):Vals (tM p xs) (p.toList.map fun i=>us.getD i .none):=
 vals_pick r _ fun i hi=>Sg.mp (hp.perm.mem_iff.mp hi)
end
section
variable {X:Cx}
theorem jw {pins:List (Addr×Obj)} {s:Shared} {σ:L2.St} {H:Hp} {h':Heap} {ys:List V} {us:List Value} {e:Nat} {D:Addr} (I:Inv X pins σ H s) (kk:∀ b o,s.heap.get? b=some o->h'.get? b=some o) (hD:s.heap.objs.size<=D)
  (ho:h'.get? D=some (seqObj "list" (List.toArray us) e)) (r:Vals ys us) (hz:ys.length<=sizeLine):Inv X pins σ (upd H D (.lst ys)) { s with heap:=h' }:=
 I.laid (t':=s.toks) kk hD ⟨hz,us,e,r,ho⟩
theorem kS (hc:X.calm=true):dI X (.builtin "sorted") (fun vs H Q=>∃ (p:Addr) (ns:List Int),vs=[.ref p]/\SqL X.K H p (ns.map V.int)/\ns.length < 64/\∀ (D:Addr) (ms:List Int),H D=none->ms.Perm ns->ms.Pairwise (·<=·)->Q (.ref D) (upd H D (.lst (ms.map V.int)))):=by
 intro pins s σ H vs us Q I r h
 obtain ⟨p,ns,rfl,hp,KS,q⟩:=h
 obtain ⟨u,rfl,r1⟩:=e7 r
 cases r1
 obtain ⟨ws,rv,pl,hz⟩:=I.list hp
 have hl:=rv.length
 rw [RJ] at hl
 have isI:∀ v∈ws,∃ n t,v=.int n t:=fun v hv=>by
  obtain ⟨i,hi⟩:=Sr.mp hv
  obtain ⟨t,e⟩:=eK rv hi
  exact ⟨_,t,e⟩
 refine j5 (O:=intO) (key:=fun i=>ns.getD i 0) (kd:=oneType') pl.isList (by lia) (fun h2 A' E' h' kk Q' q'=>?_) (fun i j hi hj h' kk C q'=>?_) fun pp h' e IB hs he kk=>?_
 ·refine kas_kind h2 (T:=.type "int") (fun v hv=>?_) (by decide) (by decide) q'
  obtain ⟨n,t,rfl⟩:=isI v hv
  exact fun A Q E s _ q=>Uo (Vz s n t) q
 ·unfold kas_ask
  have e1:ws[i]?=some (ws.getD i .none):=by rw [bz _ _ _ hi];exact List.getElem?_eq_getElem hi
  have e2:ws[j]?=some (ws.getD j .none):=by rw [bz _ _ _ hj];exact List.getElem?_eq_getElem hj
  obtain ⟨t,Qi⟩:=eK rv e1
  obtain ⟨t',Qj⟩:=eK rv e2
  rw [Qi,Qj]
  exact kat_lt_int q'
 ·rw [<-hl] at IB hs
  have Ng:POk (ns.map V.int).length pp:=by rw [RJ];exact IB
  have eo:tM pp (ns.map V.int)=(pp.toList.map fun i=>ns.getD i 0).map V.int:=by
   unfold tM
   rw [RQ]
   refine SK fun i hi=>?_
   have hi:=Sg.mp (IB.perm.mem_iff.mp hi)
   show (ns.map V.int).getD i .non=V.int (ns.getD i 0)
   rw [bz _ _ _ (by rw [RJ];exact hi),bz _ _ _ hi]
   simp
  have hn:H (s.heap.objs.size + 1)=none:=I.hok.fresh (Ua _)
  refine ⟨.ref (s.heap.objs.size + 1),_,jw I kk (Ua _) he (k9 rv Ng) ?_,rfl,?_⟩
  ·show (tM pp (ns.map V.int)).length<=sizeLine
   rw [eo,RJ,RJ,IB.perm.length_eq,RX,SU]
   lia
  ·rw [eo]
   refine q _ _ hn (k8 0 IB) ?_
   have:=iO (O:=intO) 0 (fun i:Int=>i) IB hs
   refine this.imp fun {a b} Nh=>?_
   have Nh:decide (b < a)=false:=Nh
   have:=of_decide_eq_false Nh
   lia
theorem ql {ls:List (List Nat)} {us:List Value} (r:Vals (ls.map fun l=>V.str (S l)) us) {i:Nat} {v:Value} (h:us[i]?=some v):∃ t,v=.str (S (ls.getD i [])) t:=by
 have hl:=r.length
 rw [RJ] at hl
 obtain ⟨hi,_⟩:=List.getElem?_eq_some_iff.mp h
 have e1:(ls.map fun l=>V.str (S l))[i]?=some (.str (S (ls.getD i []))):=by
  rw [List.getElem?_map,List.getElem?_eq_getElem (by lia),bz _ _ _ (by lia)]
  rfl
 obtain ⟨u,hu,t,rfl⟩:=r.get e1
 rw [h] at hu
 exact ⟨t,Sj hu⟩
theorem kU (hc:X.calm=true):dI X (.builtin "sorted") (fun vs H Q=>∃ (p:Addr) (ls:List (List Nat)),vs=[.ref p]/\SqL X.K H p (ls.map fun l=>V.str (S l))/\ls.length < 64/\∀ (D:Addr) (ms:List (List Nat)),H D=none->ms.Perm ls->ms.Pairwise (fun a b=>¬ b < a)->Q (.ref D) (upd H D (.lst (ms.map fun l=>V.str (S l))))):=by
 intro pins s σ H vs us Q I r h
 obtain ⟨p,ls,rfl,hp,KS,q⟩:=h
 obtain ⟨u,rfl,r1⟩:=e7 r
 cases r1
 obtain ⟨ws,rv,pl,hz⟩:=I.list hp
 have hl:=rv.length
 rw [RJ] at hl
 refine j5 (O:=E2) (key:=fun i=>ls.getD i []) (kd:=oneType') pl.isList (by lia) (fun h2 A' E' h' kk Q' q'=>?_) (fun i j hi hj h' kk C q'=>?_) fun pp h' e IB hs he kk=>?_
 ·refine kas_kind h2 (T:=.type "str") (fun v hv=>?_) (by decide) (by decide) q'
  obtain ⟨i,hi⟩:=Sr.mp hv
  obtain ⟨t,rfl⟩:=ql rv hi
  exact fun A Q E s _ q=>Uo (Vy s _ t) q
 ·unfold kas_ask
  have e1:ws[i]?=some (ws.getD i .none):=by rw [bz _ _ _ hi];exact List.getElem?_eq_getElem hi
  have e2:ws[j]?=some (ws.getD j .none):=by rw [bz _ _ _ hj];exact List.getElem?_eq_getElem hj
  obtain ⟨t,Qi⟩:=ql rv e1
  obtain ⟨t',Qj⟩:=ql rv e2
  rw [Qi,Qj]
  refine kas_lt_str ?_
  rw [fu,fu]
  exact q'
 ·rw [<-hl] at IB hs
  have Ng:POk (ls.map fun l=>V.str (S l)).length pp:=by rw [RJ];exact IB
  have eo:tM pp (ls.map fun l=>V.str (S l))=(pp.toList.map fun i=>ls.getD i []).map fun l=>V.str (S l):=by
   unfold tM
   rw [RQ]
   refine SK fun i hi=>?_
   have hi:=Sg.mp (IB.perm.mem_iff.mp hi)
   show (ls.map fun l=>V.str (S l)).getD i .non=V.str (S (ls.getD i []))
   rw [bz _ _ _ (by rw [RJ];exact hi),bz _ _ _ hi]
   simp
  have hn:H (s.heap.objs.size + 1)=none:=I.hok.fresh (Ua _)
  refine ⟨.ref (s.heap.objs.size + 1),_,jw I kk (Ua _) he (k9 rv Ng) ?_,rfl,?_⟩
  ·show (tM pp (ls.map fun l=>V.str (S l))).length<=sizeLine
   rw [eo,RJ,RJ,IB.perm.length_eq,RX,SU]
   lia
  ·rw [eo]
   refine q _ _ hn (k8 [] IB) ?_
   have:=iO (O:=E2) [] (fun l:List Nat=>l) IB hs
   refine this.imp fun {a b} Nh=>?_
   have Nh:decide (b < a)=false:=Nh
   exact of_decide_eq_false Nh
end
def kinds (k:List Key):List Bool:=k.map fun x=>x.isLeft
section
variable {prog:Program} {w:World} {A:Around} {s:Shared}
theorem vh (a b:Key):P5 (kV a) (kV b)=decide (a=b):=by
 cases a <;> cases b <;> (rw [Sh];simp [kV,P5])
theorem lg (a:Key):xg (kV a)=true:=by cases a <;> rfl
theorem B3 {a b:Key} {u v:Value} {top:Bool} {Q:Bool->Shared->Prop} (ra:L2.RelV (kV a) u) (rb:L2.RelV (kV b) v) (hk:a.isLeft=b.isLeft) (q:Q (rp.blt a b) s):wpAny (model prog w) A (oneLt' top u v) Q (fun _ _=>False) s:=by
 cases a with
 | inl i=>
  cases b with
  | inr _=>cases hk
  | inl j=>
   obtain ⟨t,rfl⟩:=ra
   obtain ⟨t',rfl⟩:=rb
   cases top with
   | true=>exact kat_lt_int (E:=fun _ _=>False) q
   | false=>exact kat_one _ _ (lt_int q)
 | inr x=>
  cases b with
  | inl _=>cases hk
  | inr y=>
   obtain ⟨t,rfl⟩:=ra
   obtain ⟨t',rfl⟩:=rb
   cases top with
   | true=>exact oneLt_str q
   | false=>exact kat_one _ _ (lt_str q)
theorem lC {Q:Bool->Shared->Prop}:∀ (k1 k2:List Key) (us ws:List Value) (i:Nat),Vals (k1.map kV) us->Vals (k2.map kV) ws->kinds k1=kinds k2->Q (fK k1 k2) s->KatLex prog w A true false Q (us.zip ws) i s
 | [],[],_,_,_,.nil,.nil,_,q=>q
 | [],_ :: _,_,_,_,_,_,h,_=>by cases h
 | _ :: _,[],_,_,_,_,_,h,_=>by cases h
 | a :: r,b :: t,u :: us,v :: ws,i,.cons ru rus,.cons rv rvs,h,q=>by
  have h1:a.isLeft=b.isLeft:=(Uu h).1
  have h2:kinds r=kinds t:=(Uu h).2
  have q:Q (if a=b then fK r t else rp.blt a b) s:=q
  refine kat_cons (yi (A:=A) (s:=s) ru rv (lg a) (lg b) prog w _ _ ?_)
  rw [vh]
  by_cases e:a=b
  ·rw [RO e] at q
   rw [Sm e]
   exact kat_yes (lC r t us ws (i + 1) rus rvs h2 q)
  ·rw [RY e] at q
   rw [Sf e]
   exact kat_no (B3 ru rv h1 q)
end
section
variable {X:Cx} {pins:List (Addr×Obj)} {σ:L2.St} {H:Hp} {s:Shared}
theorem pb (I:Inv X pins σ H s) {a:Addr} {xs:List V} (h:SqT X.K H a xs):∃ (us:List Value) (o:Obj) (n:Nat),Vals xs us/\s.heap.get? a=some o/\o.cls=.type "tuple"/\o.data=.seq us.toArray n:=by
 obtain ⟨us,r,pl,_⟩:=I.tuple h
 obtain ⟨o,ho,oc,n,od⟩:=pl
 exact ⟨us,o,n,r,ho,oc,od⟩
theorem nM {al:List (Addr×List Key)} {us:List Value} (r:Vals (al.map fun a=>V.ref a.1) us) {i:Nat} (h:i < al.length):us.getD i .none=.ref (al.getD i (0,[])).1:=by
 have e1:(al.map fun a=>V.ref a.1)[i]?=some (.ref (al.getD i (0,[])).1):=by
  rw [List.getElem?_map,List.getElem?_eq_getElem h,bz _ _ _ h]
  rfl
 obtain ⟨u,hu,ru⟩:=r.get e1
 rw [List.getD_eq_getElem?_getD,hu]
 exact ru
theorem rq {al:List (Addr×List Key)} {us:List Value} {h':Heap} (I:Inv X pins σ H s) (kk:∀ b o,s.heap.get? b=some o->h'.get? b=some o) (top:Bool) :
  (r:Vals (al.map fun a=>V.ref a.1) us)->(∀ a∈al,SqT X.K H a.1 (a.2.map kV)/\∃ t,kinds a.2=top :: t)->∃ fs:List Value,KatTups h' us fs/\fs.length=al.length/\∀ v∈fs,∀ M:Model,Looks M h' (typeOf v) (.type (if top then "int" else "str")):=by
 induction al generalizing us with
 | nil=>
  intro r _
  cases r
  exact ⟨[],trivial,rfl,fun v hv=>by cases hv⟩
 | cons a al ih=>
  intro r h
  cases r with
  | cons ra rs=>
   cases ra
   obtain ⟨fs,t1,t2,t3⟩:=ih rs fun b hb=>h b (RU _ hb)
   obtain ⟨ha,kt,hk⟩:=h a RM
   obtain ⟨ws,o,n,rv,ho,oc,od⟩:=pb I ha
   cases e2:a.2 with
   | nil=>rw [e2] at hk;cases hk
   | cons k ks=>
    rw [e2] at rv hk
    have Q7:k.isLeft=top:=(Uu hk).1
    cases rv with
    | @cons _ f _ fr rf rfs=>
     refine ⟨f :: fs,KatTups.cons (kk _ _ ho) oc od (by simp) t1,by simp [t2],fun v hv M=>?_⟩
     rcases RT.mp hv with rfl | hv
     ·cases k with
      | inl i=>
       obtain ⟨t,rfl⟩:=rf
       have:top=true:=Q7.symm
       subst this
       exact fun A Q E s _ q=>Uo (Vz s _ t) q
      | inr x=>
       obtain ⟨t,rfl⟩:=rf
       have:top=false:=Q7.symm
       subst this
       exact fun A Q E s _ q=>Uo (Vy s _ t) q
     ·exact t3 v hv M
end
section
variable {X:Cx}
theorem kW (hc:X.calm=true):dI X (.builtin "sorted") (fun vs H Q=>∃ (p:Addr) (al:List (Addr×List Key)) (top:Bool) (t:List Bool),vs=[.ref p]/\SqL X.K H p (al.map fun a=>V.ref a.1)/\(∀ a∈al,SqT X.K H a.1 (a.2.map kV)/\kinds a.2=top :: t)/\al.length < 64/\
  ∀ (D:Addr) (ms:List (Addr×List Key)),H D=none->ms.Perm al->ms.Pairwise (fun a b=>fK b.2 a.2=false)->Q (.ref D) (upd H D (.lst (ms.map fun a=>V.ref a.1)))):=by
 intro pins s σ H vs us Q I r h
 obtain ⟨p,al,top,kt,rfl,hp,IQ,KS,q⟩:=h
 obtain ⟨u,rfl,r1⟩:=e7 r
 cases r1
 obtain ⟨ws,rv,pl,hz⟩:=I.list hp
 have hl:=rv.length
 rw [RJ] at hl
 refine j5 (O:=DF) (key:=fun i=>(al.getD i (0,[])).2) (kd:=tuples' true) pl.isList (by lia) (fun h2 A' E' h' kk Q' q'=>?_) (fun i j hi hj h' kk C q'=>?_) fun pp h' e IB hs he kk=>?_
 ·obtain ⟨fs,t1,t2,t3⟩:=rq I kk top rv fun a ha=>⟨(IQ a ha).1,kt,(IQ a ha).2⟩
  refine kat_kind (T:=.type (if top then "int" else "str")) t1 (by lia) (fun v hv=>t3 v hv _) (by simp) ?_
  have:((Value.type (if top then "int" else "str")) != Value.type "tuple")=true:=by cases top <;> decide
  rw [this]
  exact q'
 ·unfold kas_ask
  have LP:i < al.length:=by lia
  have Nf:j < al.length:=by lia
  rw [nM rv LP,nM rv Nf]
  have mi:al.getD i (0,[])∈al:=by rw [bz _ _ _ LP];exact S4 _
  have mj:al.getD j (0,[])∈al:=by rw [bz _ _ _ Nf];exact S4 _
  obtain ⟨u1,o1,n1,r1,g1,_,d1⟩:=pb I (IQ _ mi).1
  obtain ⟨u2,o2,n2,r2,g2,_,d2⟩:=pb I (IQ _ mj).1
  have ek:kinds (al.getD i (0,[])).2=kinds (al.getD j (0,[])).2:=by rw [(IQ _ mi).2,(IQ _ mj).2]
  have el:u1.length=u2.length:=by
   have a1:=r1.length
   have a2:=r2.length
   have a3:=SY List.length ek
   simp only [kinds,RJ] at a1 a2 a3
   lia
  refine kat_lt (kk _ _ g1) d1 (kk _ _ g2) d2 ?_
  have ef:decide (u1.toArray.size < u2.toArray.size)=false:=by simp [el]
  rw [ef]
  exact lC _ _ _ _ 0 r1 r2 ek q'
 ·rw [<-hl] at IB hs
  have Ng:POk (al.map fun a=>V.ref a.1).length pp:=by rw [RJ];exact IB
  have eo:tM pp (al.map fun a=>V.ref a.1)=(pp.toList.map fun i=>al.getD i (0,[])).map fun a=>V.ref a.1:=by
   unfold tM
   rw [RQ]
   refine SK fun i hi=>?_
   have hi:=Sg.mp (IB.perm.mem_iff.mp hi)
   show (al.map fun a=>V.ref a.1).getD i .non=V.ref (al.getD i (0,[])).1
   rw [bz _ _ _ (by rw [RJ];exact hi),bz _ _ _ hi]
   simp
  have hn:H (s.heap.objs.size + 1)=none:=I.hok.fresh (Ua _)
  refine ⟨.ref (s.heap.objs.size + 1),_,jw I kk (Ua _) he (k9 rv Ng) ?_,rfl,?_⟩
  ·show (tM pp (al.map fun a=>V.ref a.1)).length<=sizeLine
   rw [eo,RJ,RJ,IB.perm.length_eq,RX,SU]
   lia
  ·rw [eo]
   refine q _ _ hn (k8 (0,[]) IB) ?_
   exact iO (O:=DF) (0,[]) (fun a:Addr×List Key=>a.2) IB hs
end
end NX
namespace L2
open PySem PySem.Spec PyProof.Rows
section
variable {κ:Type} [DecidableEq κ]
def pd (Gb:List (κ×V)) (k:κ):Option V:=(Gb.find? fun kv=>decide (kv.1=k)).map (·.2)
def kX (Gb:List (κ×V)) (k:κ) (v:V):List (κ×V):=
 if (Gb.any fun kv=>decide (kv.1=k))=true then Gb.map (fun kv=>if kv.1=k then (kv.1,v) else kv) else Gb++[(k,v)]
theorem nN {p:κ×V} {r:List (κ×V)} {k:κ} (e:p.1=k):pd (p :: r) k=some p.2:=by simp [pd,List.find?_cons,e]
theorem nO {p:κ×V} {r:List (κ×V)} {k:κ} (e:¬ p.1=k):pd (p :: r) k=pd r k:=by simp [pd,List.find?_cons,e]
theorem rA (k:κ):∀ Gb:List (κ×V),(Gb.any fun kv=>decide (kv.1=k))=(pd Gb k).isSome
 | []=>rfl
 | p :: r=>by
  rw [VJ]
  by_cases e:p.1=k
  ·simp only [nN e,Sm e,VQ,Option.isSome_some]
  ·rw [nO e,Sf e,Va];exact rA k r
theorem i9 (Gb:List (κ×V)) (k:κ) (v:V):(kX Gb k v).length<=Gb.length + 1:=by
 unfold kX
 split
 ·rw [RJ];lia
 ·rw [SD,Sb,SA];lia
theorem RelO.isSome_eq {o:Option V} {u:Option Value} (r:RelO o u):o.isSome=u.isSome:=by
 cases o with
 | none=>cases u with
  | none=>rfl
  | some _=>exact (show False from r).elim
 | some _=>cases u with
  | none=>exact (show False from r).elim
  | some _=>rfl
theorem KV.val {Gb:List (κ×V)} {vs:List (κ×Value)} (r:KV Gb vs) (k:κ):RelO (pd Gb k) (valueAt vs k):=by
 unfold KV at r
 induction r with
 | nil=>exact True.intro
 | @cons p q ps qs h t ih=>
  obtain ⟨h1,h2⟩:=h
  by_cases e:p.1=k
  ·have e':q.1=k:=h1.symm.trans e
   have b:valueAt (q :: qs) k=some q.2:=by simp [valueAt,List.find?_cons,e']
   rw [nN e,b];exact h2
  ·have e':¬ q.1=k:=fun z=>e (h1.trans z)
   have b:valueAt (q :: qs) k=valueAt qs k:=by simp [valueAt,List.find?_cons,e']
   rw [nO e,b];exact ih
theorem KV.any {Gb:List (κ×V)} {vs:List (κ×Value)} (r:KV Gb vs) (k:κ):(Gb.any fun kv=>decide (kv.1=k))=vs.any fun kv=>decide (kv.1=k):=by
 unfold KV at r
 induction r with
 | nil=>rfl
 | cons h t ih=>rw [VJ,VJ,ih,h.1]
theorem KV.repl {Gb:List (κ×V)} {vs:List (κ×Value)} (r:KV Gb vs) (k:κ) {y:V} {u:Value} (ry:RelV y u) :
  KV (Gb.map fun kv=>if kv.1=k then (kv.1,y) else kv) (vs.map fun kv=>if kv.1=k then (kv.1,u) else kv):=by
 unfold KV at r ⊢
 induction r with
 | nil=>exact .nil
 | @cons p q ps qs h t ih=>
  rw [R6,R6]
  refine .cons ?_ ih
  obtain ⟨h1,h2⟩:=h
  by_cases e:p.1=k
  ·rw [RO e,RO (h1.symm.trans e)];exact ⟨h1,ry⟩
  ·rw [RY e,RY (fun z=>e (h1.trans z))];exact ⟨h1,h2⟩
theorem KV.put {Gb:List (κ×V)} {vs:List (κ×Value)} (r:KV Gb vs) (k:κ) {y:V} {u:Value} (ry:RelV y u):KV (kX Gb k y) (stored vs k u):=by
 unfold kX stored
 rw [r.any k]
 by_cases e:(vs.any fun kv=>decide (kv.1=k))=true
 ·rw [RO e,RO e];exact r.repl k ry
 ·rw [RY e,RY e];exact Paired.snoc r ⟨rfl,ry⟩
theorem KV.length {Gb:List (κ×V)} {vs:List (κ×Value)} (r:KV Gb vs):Gb.length=vs.length:=UN r
end
theorem kV_is {P:Program} {w:World} {k:Key} {u:Value} (r:RelV (kV k) u):(mixKind P w).is k u=true:=by
 cases k with
 | inl i=>obtain ⟨t,e⟩:=(show ∃ t,u=Value.int i t from r);subst e;exact qg P w i t
 | inr x=>obtain ⟨t,e⟩:=(show ∃ t,u=Value.str x t from r);subst e;exact qh P w x t
theorem pe {P:Program} {w:World}:∀ {ks:List Key} {us:List Value},Vals (ks.map kV) us->ItemsAre (mixKind P w) ks us
 | [],_,r=>by rw [Sd] at r;cases r;exact .nil
 | k :: ks,_,r=>by
  rw [R6] at r
  cases r with
  | cons h t=>exact .cons (kV_is h) (pe t)
abbrev KT (H:Hp):List (List Key×V)->List (List Key×Addr×Value)->Prop:=Paired fun p q=>p.1=q.1/\H q.2.1=some (.tup (p.1.map kV))/\RelV p.2 q.2.2
theorem KT.val {H:Hp} {Gb:List (List Key×V)} {xs:List (List Key×Addr×Value)} (r:KT H Gb xs) (k:List Key):RelO (pd Gb k) ((atKey xs k).map (·.2)):=by
 induction r with
 | nil=>exact True.intro
 | @cons p q ps qs h t ih=>
  obtain ⟨h1,_,h2⟩:=h
  by_cases e:p.1=k
  ·have e':q.1=k:=h1.symm.trans e
   have b:atKey (q :: qs) k=some q.2:=by simp [atKey,List.find?_cons,e']
   rw [nN e,b];exact h2
  ·have e':¬ q.1=k:=fun z=>e (h1.trans z)
   have b:atKey (q :: qs) k=atKey qs k:=by simp [atKey,List.find?_cons,e']
   rw [nO e,b];exact ih
theorem KT.repl {H:Hp} {Gb:List (List Key×V)} {xs:List (List Key×Addr×Value)} (r:KT H Gb xs) (k:List Key) {y:V} {u:Value} (ry:RelV y u) :
  KT H (Gb.map fun kv=>if kv.1=k then (kv.1,y) else kv) (xs.map (putAt k u)):=by
 induction r with
 | nil=>exact .nil
 | @cons p q ps qs h t ih=>
  rw [R6,R6]
  refine .cons ?_ ih
  obtain ⟨h1,h2,h3⟩:=h
  unfold putAt
  by_cases e:p.1=k
  ·rw [RO e,RO (h1.symm.trans e)];exact ⟨h1,h2,ry⟩
  ·rw [RY e,RY (fun z=>e (h1.trans z))];exact ⟨h1,h2,h3⟩
theorem KT.put {H:Hp} {Gb:List (List Key×V)} {xs:List (List Key×Addr×Value)} (r:KT H Gb xs) (k:List Key) {b:Addr} {y:V} {u:Value} (hb:H b=some (.tup (k.map kV))) (ry:RelV y u) :
  KT H (kX Gb k y) (storedH xs k b u):=by
 have e:(Gb.any fun kv=>decide (kv.1=k))=(atKey xs k).isSome:=by
  rw [rA,(r.val k).isSome_eq,U7]
 unfold kX storedH
 rw [e]
 by_cases q:(atKey xs k).isSome=true
 ·rw [RO q,RO q];exact r.repl k ry
 ·rw [RY q,RY q];exact Paired.snoc r ⟨rfl,hb,ry⟩
theorem KT.keeps {H H':Hp} {Gb:List (List Key×V)} {xs:List (List Key×Addr×Value)} (r:KT H Gb xs) (ht:∀ b ys,H b=some (.tup ys)->H' b=some (.tup ys)):KT H' Gb xs:=
 Paired.mapP r fun _ _ z=>⟨z.1,ht _ _ z.2.1,z.2.2⟩
section
variable {P:Program} {w:World} {H:Hp} {h:Heap} {a:Addr}
theorem B4 {u:HO} (ok:HOk P w H h) (e:Rd H a u):ObjOk P w H h a u:=e.ok ok
theorem vk {Gb:List (Key×V)} (ok:HOk P w H h) (e:Rd H a (.dK Gb)):Gb.length<=sizeLine/\(a == sysModules)=false/\∃ vs,KV Gb vs/\h.DictOf (mixKind P w) a vs:=
 show ObjOk P w H h a (.dK Gb) from B4 ok e
theorem B5 {Gb:List (Key×V)} (ok:HOk P w H h) (e:H a=some (.dK Gb)):Gb.length<=sizeLine/\(a == sysModules)=false/\∃ vs,KV Gb vs/\h.DictOf (mixKind P w) a vs:=vk ok (.inl e)
theorem pf {ks:List Key} (ok:HOk P w H h) (e:H a=some (.tup (ks.map kV))):(tupleKind (mixKind P w)).is h ks a:=by
 obtain ⟨_,F9,r,o,h1,h2,⟨n,h3⟩,_⟩:=(show ObjOk P w H h a (.tup (ks.map kV)) from ok a _ e)
 exact ⟨o,F9.toArray,n,h1,h2,h3,by simpa using pe r⟩
theorem vm {Gb:List (List Key×V)} (ok:HOk P w H h) (e:Rd H a (.dT Gb)):Gb.length<=sizeLine/\(a == sysModules)=false/\
  ∃ xs,KT H Gb xs/\h.DictOfH (tupleKind (mixKind P w)) a xs:=by
 obtain ⟨z,y,xs,r,o,es,ep,h1,h2,h3,h4,h5⟩:=(show ObjOk P w H h a (.dT Gb) from B4 ok e)
 refine ⟨z,y,xs,r,o,es,ep,h1,h2,h3,h4,fun x hx=>?_,h5⟩
 have all:∀ {l:List (List Key×V)} {m:List (List Key×Addr×Value)},KT H l m->∀ x∈m,(tupleKind (mixKind P w)).is h x.1 x.2.1:=by
  intro l m q
  induction q with
  | nil=>intro x hx;exact nomatch hx
  | @cons p q ps qs hq t ih=>
   intro x hx
   rcases RT.mp hx with e | hx
   ·subst e
    exact pf ok (by rw [<-hq.1];exact hq.2.1)
   ·exact ih x hx
 exact all r x hx
theorem Ee {Gb:List (List Key×V)} (ok:HOk P w H h) (e:H a=some (.dT Gb)):Gb.length<=sizeLine/\(a == sysModules)=false/\
  ∃ xs,KT H Gb xs/\h.DictOfH (tupleKind (mixKind P w)) a xs:=vm ok (.inl e)
end
def DGet (H:Hp) (a:Addr) (y:V) (r:Option V):Prop:=
 (∃ Gb k,Rd H a (.dK Gb)/\y=kV k/\r=pd Gb k)\/∃ Gb k b,Rd H a (.dT Gb)/\y=.ref b/\H b=some (.tup (k.map kV))/\r=pd Gb k
def DPut (H:Hp) (a:Addr) (y v:V) (H':Hp):Prop:=
 (∃ Gb k,H a=some (.dK Gb)/\y=kV k/\Gb.length < sizeLine/\H'=upd H a (.dK (kX Gb k v)))\/
 ∃ Gb k b,H a=some (.dT Gb)/\y=.ref b/\H b=some (.tup (k.map kV))/\Gb.length < sizeLine/\H'=upd H a (.dT (kX Gb k v))
theorem DGet.k {H:Hp} {a:Addr} {Gb:List (Key×V)} {k:Key} (e:H a=some (.dK Gb)):DGet H a (kV k) (pd Gb k):=.inl ⟨Gb,k,.inl e,rfl,rfl⟩
theorem DGet.t {H:Hp} {a b:Addr} {Gb:List (List Key×V)} {k:List Key} (e:H a=some (.dT Gb)) (eb:H b=some (.tup (k.map kV))):DGet H a (.ref b) (pd Gb k):=.inr ⟨Gb,k,b,.inl e,rfl,eb,rfl⟩
theorem DPut.k {H:Hp} {a:Addr} {Gb:List (Key×V)} {k:Key} {v:V} (e:H a=some (.dK Gb)) (hl:Gb.length < sizeLine):DPut H a (kV k) v (upd H a (.dK (kX Gb k v))):=.inl ⟨Gb,k,e,rfl,hl,rfl⟩
theorem DPut.t {H:Hp} {a b:Addr} {Gb:List (List Key×V)} {k:List Key} {v:V} (e:H a=some (.dT Gb)) (eb:H b=some (.tup (k.map kV))) (hl:Gb.length < sizeLine) :
  DPut H a (.ref b) v (upd H a (.dT (kX Gb k v))):=.inr ⟨Gb,k,b,e,rfl,eb,hl,rfl⟩
section
variable {X:Cx} {pins:List (Addr×Obj)} {σ:St} {H:Hp} {s:Shared} {a:Addr} {y v:V} {u r:Value} {o:Option V} {A:Around} {E:Value->Shared->Prop}
theorem Inv.big (I:Inv X pins σ H s):sysModules < s.heap.objs.size:=by
 have h:mainGlobals < s.heap.objs.size:=(I.mod.glob.keeps I.bk).lt
 exact Nat.lt_trans (by decide) h
theorem vn {Q:Value->Shared->Prop} (hu:A.units + 1 < cLine) (I:Inv X pins σ H s) (g:DGet H a y (some v)) (ry:RelV y u) (h:∀ w' s',Inv X pins σ H s'->RelV v w'->Q w' s') :
  wpAny (model X.prog X.w) A (getItem (.ref a) u) Q E s:=by
 rcases g with ⟨Gb,k,e,ey,l⟩ | ⟨Gb,k,b,e,ey,eb,l⟩
 ·subst ey
  obtain ⟨z,hd,vs,rel,dd⟩:=vk I.hok e
  obtain ⟨w',hw,KP⟩:=RelO.some_of (v:=v) (o:=valueAt vs k) (by rw [l];exact rel.val k)
  exact wpAny_getItem_of (kV_is ry) dd.mapOf hw (h w' _ (I.tok _) KP)
 ·subst ey
  cases (show u=Value.ref b from ry)
  obtain ⟨z,hd,xs,rel,dd⟩:=vm I.hok e
  obtain ⟨w',hw,KP⟩:=RelO.some_of (v:=v) (o:=(atKey xs k).map (·.2)) (by rw [l];exact rel.val k)
  obtain ⟨p,hp,OA⟩:=Sn.mp hw
  refine wpAny_getItem_heap (Uv hu) (pf I.hok eb) dd hp ?_
  rw [OA]
  exact h w' _ (I.tok _) KP
theorem FJ {Q:Value->Shared->Prop} (hu:A.units + 1 < cLine) (I:Inv X pins σ H s) (g:DGet H a y o) (ry:RelV y u) (h:∀ s',Inv X pins σ H s'->Q (.bool o.isSome) s') :
  wpAny (model X.prog X.w) A (compareOp .In u (.ref a)) Q E s:=by
 rcases g with ⟨Gb,k,e,ey,l⟩ | ⟨Gb,k,b,e,ey,eb,l⟩
 ·subst ey
  obtain ⟨z,hd,vs,rel,dd⟩:=vk I.hok e
  refine wpAny_in_of (kV_is ry) hd dd.mapOf ?_
  rw [<-(rel.val k).isSome_eq,<-l]
  exact h _ (I.tok _)
 ·subst ey
  cases (show u=Value.ref b from ry)
  obtain ⟨z,hd,xs,rel,dd⟩:=vm I.hok e
  refine wpAny_in_heap (Uv hu) (pf I.hok eb) hd dd ?_
  have q:=(rel.val k).isSome_eq
  rw [U7] at q
  rw [<-q,<-l]
  exact h _ (I.tok _)
theorem zH {Q:Value->Shared->Prop} (hu:A.units + 1 < cLine) (I:Inv X pins σ H s) (g:DGet H a y o) (ry:RelV y u) (h:∀ s',Inv X pins σ H s'->Q (.bool (!o.isSome)) s') :
  wpAny (model X.prog X.w) A (compareOp .NotIn u (.ref a)) Q E s:=by
 rcases g with ⟨Gb,k,e,ey,l⟩ | ⟨Gb,k,b,e,ey,eb,l⟩
 ·subst ey
  obtain ⟨z,hd,vs,rel,dd⟩:=vk I.hok e
  refine wpAny_notIn_of (kV_is ry) hd dd.mapOf ?_
  rw [<-(rel.val k).isSome_eq,<-l]
  exact h _ (I.tok _)
 ·subst ey
  cases (show u=Value.ref b from ry)
  obtain ⟨z,hd,xs,rel,dd⟩:=vm I.hok e
  refine wpAny_notIn_heap (Uv hu) (pf I.hok eb) hd dd ?_
  have q:=(rel.val k).isSome_eq
  rw [U7] at q
  rw [<-q,<-l]
  exact h _ (I.tok _)
theorem qm {h':Heap} {t':Nat} {ob:HO} (I:Inv X pins σ H s) (mu:Of (H a)) (hs:Heap.SameBut a s.heap h') (he:∃ q,h'.get? a=some q) (new:ObjOk X.prog X.w (upd H a ob) h' a ob) :
  Inv X pins σ (upd H a ob) { s with heap:=h',toks:=t' }:=
 I.write (x:=a) (e:=a) mu (.inl rfl) (fun b q hb z=>(hs.2 b hb).trans z) he new
theorem yv {P:Program} {w:World} {H':Hp} {h':Heap} {Gb:List (Key×V)} {vs:List (Key×Value)} (z:Gb.length<=sizeLine) (hd:(a == sysModules)=false) (rel:KV Gb vs) (dd:h'.DictOf (mixKind P w) a vs) :
  ObjOk P w H' h' a (.dK Gb):=⟨z,hd,vs,rel,dd⟩
theorem vo {H':Hp} {Q:Unit->Shared->Prop} (hu:A.units + 1 < cLine) (I:Inv X pins σ H s) (g:DPut H a y v H') (ry:RelV y u) (rv:RelV v r) (h:∀ s',Inv X pins σ H' s'->Q () s') :
  wpAny (model X.prog X.w) A (setItem (.ref a) u r) Q E s:=by
 rcases g with ⟨Gb,k,e,ey,l,eH⟩ | ⟨Gb,k,b,e,ey,eb,l,eH⟩
 ·subst ey eH
  obtain ⟨z,hd,vs,rel,dd⟩:=B5 I.hok e
  have hz:vs.length<=sizeLine:=by rw [<-rel.length];exact z
  have hl:(kX Gb k v).length<=sizeLine:=by have:=i9 Gb k v;lia
  refine wpAny_setItem_pairs (hsz:=hz) (kV_is ry) dd fun h' L7 hs=>h _ ?_
  have he:∃ q,h'.get? a=some q:=let ⟨q,_,_,hq,_⟩:=L7;⟨q,hq⟩
  exact qm I (by rw [e];exact True.intro) hs he (yv hl hd (rel.put k rv) L7)
 ·subst ey eH
  cases (show u=Value.ref b from ry)
  obtain ⟨z,hd,xs,rel,dd⟩:=Ee I.hok e
  have hz:xs.length<=sizeLine:=by rw [<-UN rel];exact z
  have hl:(kX Gb k v).length<=sizeLine:=by have:=i9 Gb k v;lia
  refine wpAny_setItem_heap (hsz:=hz) (Uv hu) (pf I.hok eb) dd fun h' L7 hs=>h _ ?_
  obtain ⟨q,es,ep,hq,h2,h3,h4,_,h5⟩:=L7
  refine qm I (by rw [e];exact True.intro) hs ⟨q,hq⟩ ⟨hl,hd,_,(rel.put k eb rv).keeps fun c ys ec=>?_,q,es,ep,hq,h2,h3,h4,h5⟩
  rw [aS (DL ec e (fun z=>nomatch z))]
  exact ec
end
section
variable {X:Cx} {pins:List (Addr×Obj)} {σ:St} {H:Hp} {s:Shared} {a:Addr} {Gb:List (Key×V)} {k:Key} {u:Value} {A:Around} {E:Value->Shared->Prop}
end
def NoSl (i:Expr):Prop:=∀ ov iv,subscripted i false ov iv=operate [ov,iv] (getItem ov iv)
theorem zI {prog:Program} {w:World} {A:Around} {E:Value->Shared->Prop} {s:Shared} {env:Env} {value slice:Expr} {pos:Pos} {T id:String} {Q:Value->Shared->Prop}
  (hl:typeLookup (.type T) "__getitem__" = pure (some (.builtin id))) (hs:NoSl slice)
  (h:wpAny (model prog w) A (eval value env) (fun o s₁=>wpAny (model prog w) A (eval slice env) (fun i s₂=>s₂.TypeIs o T/\wpAny (model prog w) A (getItem o i) Q E s₂) E s₁) E s) :
  wpAny (model prog w) A (eval (.Subscript value slice pos) env) Q E s:=by
 refine Subscript_ (Ul h (fun o s₁ h₁=>Ul h₁ (fun i s₂ h₂=>?_) fun _ _ x=>x) fun _ _ x=>x)
 obtain ⟨hT,h₂⟩:=h₂
 unfold subscriptTail
 refine RG ?_
 rw [getitemInPython_of_ne hT.not_modules]
 refine RG (wpAny_specialOf hT hl ?_)
 have fin:wpAny (model prog w) A (subscripted slice false o i) (fun r s₃=>wpAny (model prog w) A (letTemporaryGo value o r >>= fun _=>pure r) Q E s₃) E s₂:=by
  rw [hs o i]
  exact wpAny_operating (Ul h₂ (fun r s₃ h₃=>RG (wpAny_letTemporaryGo (RH h₃))) fun _ _ x=>x)
 first
  | exact RH (RG fin)
  | exact RG (RH (RG fin))
  | exact RG fin
theorem qo {X:Cx} {pins:List (Addr×Obj)} {σ:St} {H:Hp} {s:Shared} {a:Addr} {y:V} {o:Option V} (I:Inv X pins σ H s) (g:DGet H a y o):s.TypeIs (.ref a) "dict":=by
 rcases g with ⟨Gb,k,e,_,_⟩ | ⟨Gb,k,b,e,_,_,_⟩
 ·obtain ⟨_,_,vs,_,dd⟩:=vk I.hok e
  exact dd.typeIs
 ·obtain ⟨_,_,xs,_,dd⟩:=vm I.hok e
  exact dd.typeIs
def Ef (td ty:TE):TE:=fun σ H Q=>td σ H fun x H1=>ty σ H1 fun y H2=>∃ a v,x=.ref a/\DGet H2 a y (some v)/\Q v H2
def Eg (td ty tv:TE):TS:=fun D σ H=>tv σ H fun v H1=>td σ H1 fun x H2=>ty σ H2 fun y H3=>∃ a H4,x=.ref a/\DPut H3 a y v H4/\D.nx σ H4
section
variable {X:Cx} {o i e value:Expr} {pos pos' tpos:Pos} {td ty tv:TE}
theorem zJ (hu:X.A.units + 1 < cLine) (ho:PE X o td) (hi:PE X i ty) (hs:NoSl i):PE X (.Subscript o i pos) (Ef td ty):=by
 intro pins s σ H Q I h
 refine zI PySem.F.slot_dict_getitem.lookup hs (Gs (ho pins s σ H _ I h) fun u s1 ⟨x,H1,I1,rx,q1⟩=>Gs (hi pins s1 σ H1 _ I1 q1) fun iv s2 Gu=>?_)
 obtain ⟨y,H2,I2,ry,a,v,ex,g,q2⟩:=Gu
 subst ex
 obtain rfl:u=Value.ref a:=rx
 exact ⟨qo I2 g,vn hu I2 g ry fun w' s3 I3 KP=>⟨v,H2,I3,KP,q2⟩⟩
theorem zL (hu:X.A.units + 1 < cLine) (ho:PE X o td) (hi:PE X i ty) (hv:PE X value tv) (hs:swapsWith value (some (.Subscript o i pos')) pos.line X.env=pure false) :
  PS X (.Assign [.Subscript o i pos'] value pos) (Eg td ty tv):=by
 intro pins s σ H D I h
 refine wpAny_Assign_Subscript (Gs (hv pins s σ H _ I h) fun r s1 ⟨v,H1,I1,rv,q1⟩=>Gs (ho pins s1 σ H1 _ I1 q1) fun u s2 ⟨x,H2,I2,rx,q2⟩=>Gs (hi pins s2 σ H2 _ I2 q2) fun iv s3 ⟨y,H3,I3,ry,a,H4,ex,g,q3⟩=>?_) hs
 subst ex
 obtain rfl:u=Value.ref a:=rx
 exact vo hu I3 g ry rv fun s4 I4=>⟨σ,H4,I4,q3⟩
end
theorem dk_empty {P:Program} {w:World} {H:Hp} (h:Heap) (hb:sysModules < h.objs.size):ObjOk P w H (h.push { cls:=.type "dict",data:=.dict #[] }) h.objs.size (.dK []):=
 ⟨So _,Sw.mpr (Tj (R8 hb)),[],.nil,Heap.DictOf.new h⟩
section
variable {X:Cx} {pos:Pos}
end
def tPairs:List (TE×TE)->St->Hp->(List (V×V)->Hp->Prop)->Prop
 | [],_,H,Q=>Q [] H
 | (tk,tv) :: r,σ,H,Q=>tk σ H fun x H1=>tv σ H1 fun y H2=>tPairs r σ H2 fun ps H3=>Q ((x,y) :: ps) H3
abbrev VV:List (V×V)->List (Value×Value)->Prop:=Paired fun p q=>RelV p.1 q.1/\RelV p.2 q.2
def Po (X:Cx) (pos:Pos) (keys:List (Option Expr)) (values:List Expr) (L8:List (TE×TE)):Prop:=
 ∀ (pins:List (Addr×Obj)) (s:Shared) (σ:St) (H:Hp) (Q:List (V×V)->Hp->Prop),Inv X pins σ H s->tPairs L8 σ H Q->
  wpAny (model X.prog X.w) X.A (evalPairs (pairTrees keys values X.env pos)) (fun vs s'=>∃ ps H',Inv X pins σ H' s'/\VV ps vs/\Q ps H') X.xe s
theorem zM {X:Cx} {pos:Pos}:Po X pos [] [] []:=fun pins s σ H Q I h=>pairTrees_nil_walk ⟨[],H,I,.nil,h⟩
theorem xt {X:Cx} {pos:Pos} {k v:Expr} {ks:List (Option Expr)} {vs:List Expr} {tk tv:TE} {L8:List (TE×TE)} (hk:PE X k tk) (hv:PE X v tv) (hr:Po X pos ks vs L8) :
  Po X pos (some k :: ks) (v :: vs) ((tk,tv) :: L8):=fun pins s σ H Q I h=>
 pairTrees_cons_walk (Gs (hk pins s σ H _ I h) fun u s1 ⟨x,H1,I1,rx,q1⟩=>Gs (hv pins s1 σ H1 _ I1 q1) fun w2 s2 ⟨y,H2,I2,ry,q2⟩=>
  Gs (hr pins s2 σ H2 _ I2 q2) fun ws s3 ⟨ps,H3,I3,rel,q3⟩=>⟨(x,y) :: ps,H3,I3,.cons ⟨rx,ry⟩ rel,q3⟩)
def pg (Gb more:List (Key×V)):List (Key×V):=more.foldl (fun acc kv=>kX acc kv.1 kv.2) Gb
theorem KV.merge:∀ {more:List (Key×V)} {rs:List (Key×Value)} {Gb:List (Key×V)} {vs:List (Key×Value)},KV more rs->KV Gb vs->KV (pg Gb more) (merged vs rs):=by
 intro more rs Gb vs r
 unfold KV at r
 induction r generalizing Gb vs with
 | nil=>intro q;exact q
 | @cons p q ps qs h t ih=>
  intro r0
  have e:KV (kX Gb p.1 p.2) (stored vs q.1 q.2):=by
   have:=r0.put p.1 h.2
   rw [<-h.1];exact this
  exact ih e
theorem jx:∀ (more Gb:List (Key×V)),(pg Gb more).length<=Gb.length + more.length
 | [],Gb=>by show Gb.length<=Gb.length + 0;lia
 | p :: r,Gb=>by
  have h1:=jx r (kX Gb p.1 p.2)
  have h2:=i9 Gb p.1 p.2
  show (pg (kX Gb p.1 p.2) r).length<=_
  rw [Sb];lia
theorem mZ {P:Program} {w:World}:∀ {Gb:List (Key×V)} {ws:List (Value×Value)},VV (Gb.map fun kv=>(kV kv.1,kv.2)) ws->∃ rs,Carries (mixKind P w) ws rs/\KV Gb rs
 | [],_,r=>by rw [Sd] at r;cases r;exact ⟨[],True.intro,.nil⟩
 | p :: Gb,_,r=>by
  rw [R6] at r
  cases r with
  | @cons a b as bs h t=>
   obtain ⟨rs,c,q⟩:=mZ (P:=P) (w:=w) t
   obtain ⟨b1,b2⟩:=b
   exact ⟨(p.1,b2) :: rs,⟨kV_is h.1,rfl,c⟩,.cons ⟨rfl,h.2⟩ q⟩
def Eh (L8:List (TE×TE)):TE:=fun σ H Q=>∀ p,H p=none->tPairs L8 σ (upd H p (.dK [])) fun ps H2=>H2 p=some (.dK [])/\∃ Gb:List (Key×V),ps=Gb.map (fun kv=>(kV kv.1,kv.2))/\Gb.length<=15/\Q (.ref p) (upd H2 p (.dK (pg [] Gb)))
theorem zN {X:Cx} {pos:Pos} {keys:List (Option Expr)} {values:List Expr} {L8:List (TE×TE)} (h:Po X pos keys values L8) (Hu:keys.all (·.isSome)=true) (hl:keys.length=values.length) (h0:keys≠[])
  (h15:keys.length<=15):PE X (.Dict keys values pos) (Eh L8):=by
 intro pins s σ H Q I q
 have hn:=I.hok.fresh (RL s.heap.objs.size)
 have I1:=I.laid (a:=s.heap.objs.size) (o:=.dK []) (h':=s.heap.push { cls:=.type "dict",data:=.dict #[] }) (t':=s.toks) (fun _ _ q=>Heap.get?_push_of_some _ q) (RL _) (dk_empty s.heap I.big)
 refine wpAny_Dict_walk (knd:=mixKind X.prog X.w) Hu hl h0 h15 (Gs (h pins _ σ _ _ I1 (q _ hn)) fun ws s2 Gu=>?_)
 obtain ⟨ps,H2,I2,rel,e,Gb,ep,lk,q2⟩:=Gu
 subst ep
 obtain ⟨rs,c,rk⟩:=mZ (P:=X.prog) (w:=X.w) rel
 obtain ⟨z,hd,vs0,r0,dd⟩:=B5 I2.hok e
 cases r0
 refine ⟨rs,c,dd,fun h' L7 hs=>⟨.ref s.heap.objs.size,_,?_,rfl,q2⟩⟩
 have hz:(pg [] Gb).length<=sizeLine:=by
  have h1:=jx Gb []
  rw [SA] at h1
  rw [SU];lia
 have he:∃ q,h'.get? s.heap.objs.size=some q:=let ⟨q,_,_,hq,_⟩:=L7;⟨q,hq⟩
 exact qm I2 (by rw [e];exact True.intro) hs he (yv hz hd (rk.merge .nil) L7)
section
variable {X:Cx} {pins:List (Addr×Obj)} {σ:St} {H:Hp} {s:Shared} {a:Addr} {y d:V} {u r:Value} {o:Option V} {A:Around} {E:Value->Shared->Prop}
end
section
variable {X:Cx} {o e f:Expr} {apos Gv:Pos} {td ty tx:TE}
end
section
variable {X:Cx} {pins:List (Addr×Obj)} {σ:St} {H:Hp} {s:Shared} {a:Addr} {Gb:List (Key×V)} {A:Around} {E:Value->Shared->Prop}
end
section
variable {X:Cx} {pins:List (Addr×Obj)} {σ:St} {H:Hp} {s:Shared} {a:Addr} {y:V} {u:Value} {A:Around} {E:Value->Shared->Prop}
end
section
variable {κ:Type} [DecidableEq κ]
end
end L2
namespace NX
open PySem PySem.Spec PyProof.Rows L2
def RawD (h:Heap) (d:Addr) (es:Array DictEntry) (ep:Nat):Prop:=∃ o,h.get? d=some o/\o.ExactDict/\o.data=.dict es ep
theorem RawD.at {h h':Heap} {d:Addr} {es:Array DictEntry} {ep:Nat} (x:RawD h d es ep) (e:∀ o,h.get? d=some o->h'.get? d=some o):RawD h' d es ep:=by
 obtain ⟨o,g,r⟩:=x
 exact ⟨o,e o g,r⟩
section
variable {prog:Program} {w:World} {A:Around} {E:Value->Shared->Prop} {s:Shared} {d it:Addr} {es:Array DictEntry} {ep i:Nat}
theorem lh (x:RawD s.heap d es ep):s.TypeIs (.ref d) "dict":=by
 obtain ⟨o,g,ex,_⟩:=x
 exact ⟨o,g,ex.1⟩
theorem xu {Q:Value->Shared->Prop} (nm:(d == sysModules)=false) (x:RawD s.heap d es ep)
  (q:Q (.ref s.heap.objs.size) { s with heap:=s.heap.push { cls:=.type "dict_keyiterator",data:=.fields #[.ref d,.int 0 0,.int es.size 0,.int ep 0] } }):wpAny (model prog w) A (pyIter (.ref d)) Q E s:=by
 have ty:=lh x
 obtain ⟨o,g,ex,dat⟩:=x
 refine wpAny_pyIter_slot ty F.slot_dict_iter (SO F.slot_dict_iter ty F.entry_dict_iter (RG ?_) (F.args_dict_iter_1 _))
 refine RG (wpAny_notOrdered_dict ty (RH ?_))
 show wpAny _ _ (Builtin.Dict.showsAll d >>= fun _=>_) _ _ s
 have ns:Builtin.Dict.showsAll d=pure ():=by
  unfold Builtin.Dict.showsAll
  rw [nm]
  rfl
 rw [ns]
 refine RG (RH (RG (UD g dat (RG (Vt g dat (RG (Sz (RH ⟨_,rfl,"dict_keyiterator",_,⟨_,Heap.get?_push_size _ rfl,rfl⟩,F.slot_dict_keyiterator_next.lookup,?_⟩))))))))
 exact q
theorem xv {Q:Option Value->Shared->Prop} {e:DictEntry} (hit:s.heap.IsKeyIter it d i es.size ep) (x:RawD s.heap d es ep) (hx:es[i]?=some e)
  (q:∀ h',h'.IsKeyIter it d (i + 1) es.size ep->Heap.SameBut it s.heap h'->Q (some e.key) { s with heap:=h' }):wpAny (model prog w) A (pyNext (.ref it)) Q E s:=by
 have ti:=hit.typeIs
 obtain ⟨o,g,oc,od⟩:=hit
 obtain ⟨ob,gd,_,dat⟩:=x
 have GV:i < es.size:=(Array.getElem?_eq_some_iff.mp hx).1
 unfold pyNext
 refine RG (Vc (wpAny_callSpecial?_slot (name:=Str.ofString "__next__") ti Tp (SO Tp ti F.entry_dict_keyiterator_next
  (RG (RH (RG (RG ?_)))) (F.args_dict_keyiterator_next_1 _))))
 refine RG (Tn ti (RH (RG (wpAny_fieldsOf g od ?_))))
 have KN:Builtin.Dict_items.ownsTuple "dict_keyiterator" = false:=by decide
 simp only [KN,S8,UH]
 show wpAny _ _ (if (Value.ref d == Value.none)=true then _ else _) _ _ s
 have nz:¬ ((Value.ref d == Value.none)=true):=RK
 rw [RY nz]
 refine RG (RH (RG (UD gd dat ?_)))
 rw [RY (by simp)]
 refine RG (RH (RG (Vt gd dat ?_)))
 rw [RY (by simp)]
 refine RH ?_
 simp only [RY (show ¬ ((i:Int) < 0) by lia),Sk,hx]
 refine RG (RG (Tn ti (RH (RG (wpAny_isOneOf_keyiter ti ?_)))))
 show wpAny _ _ (setField (.ref it) 1 (rawInt ((i:Int) + 1)) >>= fun _=>_) _ _ s
 refine RG (U1 g od (by simp) ?_)
 have nx:(s.heap.update it (Obj.mapFields fun y=>y.setIfInBounds 1 (rawInt ((i:Int) + 1)))).IsKeyIter it d (i + 1) es.size ep:=
  ⟨_,Heap.get?_update_self _ g (Obj.isFreed_of_fields (Ut od _)),(Obj.cls_mapFields ..).trans oc,(Ut od _).trans (by simp [rawInt])⟩
 refine RG (Te (RG (wpAny_isOneOf_keyiter (s:={ s with heap:=s.heap.update it (Obj.mapFields fun y=>y.setIfInBounds 1 (rawInt ((i:Int) + 1))) }) nx.typeIs ?_)))
 show wpAny _ _ (pure e.key) _ _ _
 exact RH (RH ⟨_,rfl,RH (q _ nx (Uk ..))⟩)
theorem zO {Q:Option Value->Shared->Prop} (hh:A.handled=none) (hit:s.heap.IsKeyIter it d i es.size ep) (x:RawD s.heap d es ep) (hx:es[i]?=none)
  (q:∀ h',Heap.ExtBut it s.heap h'->Q none { s with heap:=h' }):wpAny (model prog w) A (pyNext (.ref it)) Q E s:=by
 have ti:=hit.typeIs
 obtain ⟨o,g,oc,od⟩:=hit
 obtain ⟨ob,gd,_,dat⟩:=x
 unfold pyNext
 refine RG (Vc (wpAny_callSpecial?_slot (name:=Str.ofString "__next__") ti Tp (SO Tp ti F.entry_dict_keyiterator_next
  (RG (RH (RG (RG ?_)))) (F.args_dict_keyiterator_next_1 _))))
 refine RG (Tn ti (RH (RG (wpAny_fieldsOf g od ?_))))
 have KN:Builtin.Dict_items.ownsTuple "dict_keyiterator" = false:=by decide
 simp only [KN,S8,UH]
 show wpAny _ _ (if (Value.ref d == Value.none)=true then _ else _) _ _ s
 have nz:¬ ((Value.ref d == Value.none)=true):=RK
 rw [RY nz]
 refine RG (RH (RG (UD gd dat ?_)))
 rw [RY (by simp)]
 refine RG (RH (RG (Vt gd dat ?_)))
 rw [RY (by simp)]
 refine RH ?_
 simp only [RY (show ¬ ((i:Int) < 0) by lia),Sk,hx]
 refine RG (RG (Tn ti (RH ?_)))
 show wpAny _ _ (setField (.ref it) 0 .none >>= fun _=>_) _ _ s
 refine RG (U1 g od (by simp) ?_)
 show wpAny _ _ (newExc (.type "StopIteration") [] >>= fun _=>_) _ _ _
 refine RG ?_
 simp only [newExc,newTuple]
 refine RG (Sz (RG (m:=firstArgMember _ _) (VD (a:=Value.none) (by first | rfl | (simp only [firstArgMember];rfl)) (Sz ?_ (by size_fits)))) (by size_fits))
 simp only [raiseNew]
 refine RG (wpAny_handled ?_)
 rw [show A.in1.handled=none from hh]
 refine RG (RH (wpAny_throw ?_))
 refine RG (wpAny_isInstance (b:=true) (T:="StopIteration") ⟨_,Heap.get?_push_size _ rfl,rfl⟩ isSubtype_stop ?_)
 exact RH (q _ (((Uk ..).extBut.push _).push _))
theorem vp (hh:A.handled=none) (I:Addr) (ne:d≠I):Walks prog w A I [I,d] [I] es.size (fun i v=>∃ e,es[i]?=some e/\v=e.key) (fun i h=>h.IsKeyIter I d i es.size ep/\RawD h d es ep) where
 sub:=fun b hb=>by
  rw [R4] at hb
  rw [hb]
  exact RM
 frame:=fun _ _ _ st hk=>⟨st.1.at fun o e=>hk I RM o e,st.2.at fun o e=>hk d (RU _ RM) o e⟩
 item:=fun i s Q E hi st hQ=>by
  refine xv st.1 st.2 (Array.getElem?_eq_getElem hi) fun h' it' sb=>?_
  exact hQ _ h' s.toks ⟨_,Array.getElem?_eq_getElem hi,rfl⟩ ⟨it',st.2.at fun o e=>sb.extBut d o ne e⟩ fun b o hb e=>sb.extBut b o (fun z=>hb (by rw [z];exact RM)) e
 done:=fun s Q E st hQ=>zO hh st.1 st.2 (Array.getElem?_eq_none (RL _)) fun h' ext=>hQ h' s.toks fun b o hb e=>ext b o (fun z=>hb (by rw [z];exact RM)) e
 self:=fun _ _ _ _ st hQ=>wpAny_pyIter_keyiter st.1 hQ
theorem zP (nm:(d == sysModules)=false):PySem.W.KdlSrc prog w "dict" d d es.size (fun i v=>∃ e,es[i]?=some e/\v=e.key) (fun h=>RawD h d es ep) where
 type:=fun _ x=>lh x
 there:=fun _ x=>by
  obtain ⟨o,g,_⟩:=x
  exact ⟨RS g,RS g⟩
 keep:=fun _ _ x hk=>x.at fun o e=>hk d (.inl rfl) o e
 notList:=by decide
 notTuple:=by decide
 hint:=fun _ _ _ _ x q=>PySem.W.kdl_hint_dict (lh x) q
 iter:=fun _ s hh x=>⟨_,_,(fun _ _ q=>xu nm x q),vp hh _ (by obtain ⟨o,g,_⟩:=x;exact R8 (RS g)),⟨⟨_,Heap.get?_push_size _ rfl,rfl,rfl⟩,x.at fun o e=>Heap.get?_push_of_some _ e⟩⟩
end
end NX
namespace NX
open PySem PySem.W PySem.Spec PyProof.Rows L2
section
variable {prog:Program} {w:World} {A:Around} {E:Value->Shared->Prop} {s:Shared}
theorem tN {O:KeyOrd} {key:Nat->O.α} {kd:SortKind} {l:Addr} {vs:List Value} {Q:Value->Shared->Prop}
  (hcol:∀ Q':List Value->Shared->Prop,(∀ h' tk,(∀ b o,s.heap.get? b=some o->h'.get? b=some o)->Q' vs { s with heap:=h',toks:=tk })->wpAny (model prog w) A.in1 (collect (.ref l)) Q' E s) (KS:vs.length < 64)
  (IX:2<=vs.length->∀ (A':Around) (E':Value->Shared->Prop) (s':Shared),(∀ b o,s.heap.get? b=some o->s'.heap.get? b=some o)->∀ Q:SortKind->Shared->Prop,Q kd s'->wpAny (model prog w) A' (keyKind' vs.toArray) Q E' s')
  (Ll:∀ i j,i < vs.length->j < vs.length->∀ s':Shared,(∀ b o,s.heap.get? b=some o->s'.heap.get? b=some o)->∀ C:Bool->Shared->Prop,C (O.blt (key i) (key j)) s'->kas_ask prog w A.in1.in1 kd vs i j C s')
  (h:∀ (p:Array Nat) (h5 h':Heap) (tk e:Nat),POk vs.length p->bE key p vs.length->(∀ b o,s.heap.get? b=some o->h5.get? b=some o)->(∀ b o,h5.get? b=some o->h'.get? b=some o)->h'.get? h5.objs.size=some (seqObj "list" (List.toArray (p.toList.map fun i=>vs.getD i .none)) e)->Q (.ref h5.objs.size) { s with heap:=h',toks:=tk }) :
  wpAny (model prog w) A (call (.builtin "sorted") [.ref l]) Q E s:=by
 refine Ui kind_sorted plain_sorted entry_sorted (args_sorted1 _) ?_
 unfold Builtin.«sorted»
 refine RG (m:=checkCount "sorted" 1 1 _) (RH (RG (hcol _ fun h5 tk k5=>?_)))
 refine RG (VI ?_ (by rw [SU];lia))
 have k6:∀ b o,s.heap.get? b=some o->(h5.push (seqObj "list" vs.toArray 0)).get? b=some o:=fun b o e=>Heap.get?_push_of_some _ (k5 b o e)
 have hL:(h5.push (seqObj "list" vs.toArray 0)).get? h5.objs.size=some (seqObj "list" vs.toArray 0):=Heap.get?_push_size _ rfl
 have Q8:∀ b o,s.heap.get? b=some o->b < h5.objs.size:=fun b o e=>RS (k5 b o e)
 show wpAny _ _ _ _ _ { s with heap:=h5.push (seqObj "list" vs.toArray 0),toks:=tk }
 refine RG (Te (SO slot_list_sort ⟨_,hL,rfl⟩ entry_list_sort (jv (key:=key) (kd:=kd) hL KS (fun h2 h' kk Q' q=>IX h2 _ _ _ (fun b o e=>kk b o (R8 (Q8 b o e)) (k6 b o e)) Q' q)
  (fun i j hi hj h' kk C q=>Ll i j hi hj _ (fun b o e=>kk b o (R8 (Q8 b o e)) (k6 b o e)) C q) fun p h' hp hs ⟨e,he⟩ kk=>⟨_,rfl,?_⟩) (args_list_sort _)))
 exact RH ⟨_,rfl,h p h5 h' tk e hp hs k5 (fun b o q=>kk b o (R8 (RS q)) (Heap.get?_push_of_some _ q)) he⟩
end
section
variable {X:Cx} {pins:List (Addr×Obj)} {σ:L2.St} {H:Hp} {s:Shared}
theorem zQ {H:Hp} {Gb:List (List Key×V)} {xs:List (List Key×Addr×Value)} (r:KT H Gb xs):xs.map (·.1)=Gb.map (·.1):=by
 induction r with
 | nil=>rfl
 | cons hq _ ih=>rw [R6,R6,ih,hq.1]
theorem Ei {H:Hp} {Gb:List (List Key×V)} {xs:List (List Key×Addr×Value)} (r:KT H Gb xs):∀ y∈xs,H y.2.1=some (.tup (y.1.map kV)):=by
 induction r with
 | nil=>exact fun y hy=>nomatch hy
 | cons hq _ ih=>
  intro y hy
  rcases RT.mp hy with rfl | hy
  ·rw [<-hq.1]
   exact hq.2.1
  ·exact ih y hy
theorem zR (I:Inv X pins σ H s) {a:Addr} {Gb:List (List Key×V)} (h:Rd H a (.dT Gb)):(a == sysModules)=false/\∃ (al:List (Addr×List Key)) (es:Array DictEntry) (ep:Nat),
  RawD s.heap a es ep/\es.toList.map (·.key)=al.map (fun x=>Value.ref x.1)/\al.map (·.2)=Gb.map (·.1)/\∀ x∈al,H x.1=some (.tup (x.2.map kV)):=by
 obtain ⟨_,nm,xs,r,o,es,ep,h1,h2,h3,h4,_⟩:=h.ok I.hok
 refine ⟨nm,xs.map fun x=>(x.2.1,x.1),es,ep,⟨o,h1,h2,h3⟩,?_,?_,?_⟩
 ·rw [h4,RQ,RQ]
  rfl
 ·rw [RQ]
  exact zQ r
 ·intro x hx
  obtain ⟨y,hy,rfl⟩:=Sq.mp hx
  exact Ei r y hy
theorem mL (hc:X.calm=true):dI X (.builtin "sorted") (fun vs H Q=>∃ (p:Addr) (Gb:List (List Key×V)) (top:Bool) (t:List Bool),vs=[.ref p]/\Rd H p (.dT Gb)/\(∀ kv∈Gb,kinds kv.1=top :: t)/\Gb.length < 64/\
  ∀ (D:Addr) (ms:List (Addr×List Key)),H D=none->(∀ a∈ms,H a.1=some (.tup (a.2.map kV)))->(ms.map (·.2)).Perm (Gb.map (·.1))->ms.Pairwise (fun a b=>fK b.2 a.2=false)->Q (.ref D) (upd H D (.lst (ms.map fun a=>V.ref a.1)))):=by
 intro pins s σ H vs us Q I r h
 obtain ⟨p,Gb,top,kt,rfl,hp,hk,KS,q⟩:=h
 obtain ⟨u,rfl,r1⟩:=e7 r
 cases r1
 obtain ⟨nm,al,es,ep,raw,Lm,Pp,Ni⟩:=zR I hp
 have Hu:al.length=Gb.length:=by
  have:=SY List.length Pp
  simpa using this
 have IQ:∀ a∈al,SqT X.K H a.1 (a.2.map kV)/\kinds a.2=top :: kt:=fun a ha=>by
  refine ⟨SqT.of (Ni a ha),?_⟩
  have:a.2∈Gb.map (·.1):=by rw [<-Pp];exact Sq.mpr ⟨a,ha,rfl⟩
  obtain ⟨kv,JP,e⟩:=Sq.mp this
  rw [<-e]
  exact hk kv JP
 have rv:Vals (al.map fun a=>V.ref a.1) (al.map fun a=>Value.ref a.1):=by
  clear Lm Pp Ni Hu IQ
  induction al with
  | nil=>exact .nil
  | cons a al ih=>exact .cons rfl ih
 have hl:(al.map fun a=>Value.ref a.1).length=al.length:=RJ ..
 refine tN (O:=DF) (key:=fun i=>(al.getD i (0,[])).2) (kd:=tuples' true) (vs:=al.map fun a=>Value.ref a.1) (fun Q' hq=>?_) (by lia) (fun h2 A' E' s' kk Q' q'=>?_) (fun i j hi hj s' kk C q'=>?_) fun pp h5 h' tk e IB hs k5 k' he=>?_
 ·refine kdu_collect (zP nm) (I.ok.hd hc) raw (by have:=SY List.length Lm;simp only [RJ,Tb] at this;rw [SU];lia) fun h' tk acc kk L5=>?_
  have ea:acc.toList=al.map fun a=>Value.ref a.1:=by
   rw [<-Lm]
   apply Tr
   intro j
   rw [List.getElem?_map,Array.getElem?_toList,Array.getElem?_toList]
   cases hj:acc[j]? with
   | none=>
    have:es[j]?=none:=by
     rw [Array.getElem?_eq_none_iff] at hj ⊢
     rw [<-L5.1]
     exact hj
    rw [this]
    rfl
   | some v=>
    obtain ⟨en,h1,h2⟩:=L5.2 j v hj
    rw [h1,h2]
    rfl
  have:=hq h' tk kk
  rw [<-ea] at this
  exact this
 ·obtain ⟨fs,t1,t2,t3⟩:=rq (h':=s'.heap) I kk top rv fun a ha=>⟨(IQ a ha).1,kt,(IQ a ha).2⟩
  refine kat_kind (T:=.type (if top then "int" else "str")) t1 (by lia) (fun v hv=>t3 v hv _) (by simp) ?_
  have:((Value.type (if top then "int" else "str")) != Value.type "tuple")=true:=by cases top <;> decide
  rw [this]
  exact q'
 ·unfold kas_ask
  have LP:i < al.length:=by lia
  have Nf:j < al.length:=by lia
  rw [nM rv LP,nM rv Nf]
  have mi:al.getD i (0,[])∈al:=by rw [bz _ _ _ LP];exact S4 _
  have mj:al.getD j (0,[])∈al:=by rw [bz _ _ _ Nf];exact S4 _
  obtain ⟨u1,o1,n1,r1,g1,_,d1⟩:=pb I (IQ _ mi).1
  obtain ⟨u2,o2,n2,r2,g2,_,d2⟩:=pb I (IQ _ mj).1
  have ek:kinds (al.getD i (0,[])).2=kinds (al.getD j (0,[])).2:=by rw [(IQ _ mi).2,(IQ _ mj).2]
  have el:u1.length=u2.length:=by
   have a1:=r1.length
   have a2:=r2.length
   have a3:=SY List.length ek
   simp only [kinds,RJ] at a1 a2 a3
   lia
  refine kat_lt (kk _ _ g1) d1 (kk _ _ g2) d2 ?_
  have ef:decide (u1.toArray.size < u2.toArray.size)=false:=by simp [el]
  rw [ef]
  exact lC _ _ _ _ 0 r1 r2 ek q'
 ·rw [hl] at IB hs
  have Ng:POk (al.map fun a=>V.ref a.1).length pp:=by rw [RJ];exact IB
  have eo:tM pp (al.map fun a=>V.ref a.1)=(pp.toList.map fun i=>al.getD i (0,[])).map fun a=>V.ref a.1:=by
   unfold tM
   rw [RQ]
   refine SK fun i hi=>?_
   have hi:=Sg.mp (IB.perm.mem_iff.mp hi)
   show (al.map fun a=>V.ref a.1).getD i .non=V.ref (al.getD i (0,[])).1
   rw [bz _ _ _ (by rw [RJ];exact hi),bz _ _ _ hi]
   simp
  have I5:Inv X pins σ H { s with heap:=h5,toks:=tk }:=I.kept k5
  have hn:H h5.objs.size=none:=I5.hok.fresh (RL _)
  refine ⟨.ref h5.objs.size,_,jw (s:={ s with heap:=h5,toks:=tk }) I5 k' (RL _) he (k9 rv Ng) ?_,rfl,?_⟩
  ·show (tM pp (al.map fun a=>V.ref a.1)).length<=sizeLine
   rw [eo,RJ,RJ,IB.perm.length_eq,RX,SU]
   lia
  ·rw [eo]
   have pm:=k8 (0,[]) IB
   refine q _ _ hn (fun a ha=>Ni a (pm.mem_iff.mp ha)) ?_ ?_
   ·rw [<-Pp]
    exact pm.map _
   ·exact iO (O:=DF) (0,[]) (fun a:Addr×List Key=>a.2) IB hs
end
end NX
namespace NX
open PySem PySem.Spec PyProof.Rows L2
section
open PySem.SeqAt
open PySem.AutoSeq1 (wpAny_loadPart')
open PySem.MeetsSeq PySem.MeetsSeq2 PySem.MeetsSeq3
theorem xw {A:Around} {s:Shared} {a c:Key} {u v:Value} (ra:RelV (kV a) u) (rc:RelV (kV c) v):EqAt A s u v (decide (a=c)):=by
 have h:=yi (A:=A) (s:=s) ra rc (lg a) (lg c)
 rw [vh] at h
 exact h
theorem xx {prog:Program} {w:World} {A:Around} {E:Value->Shared->Prop} {s:Shared} {Q:Value->Shared->Prop} {a c:Key} {u v:Value} (ra:RelV (kV a) u) (rc:RelV (kV c) v) (hk:a.isLeft=c.isLeft) (h:Q (.bool (rp.blt a c)) s) :
  wpAny (model prog w) A (richCompare .Lt u v) Q E s:=by
 cases a with
 | inl i=>
  cases c with
  | inr _=>cases hk
  | inl j=>
   obtain ⟨t,rfl⟩:=ra
   obtain ⟨t',rfl⟩:=rc
   exact (PyProof.Rows.lt_int h:wpAny (model prog w) A (compareOp .Lt (.int i t) (.int j t')) Q E s)
 | inr x=>
  cases c with
  | inl _=>cases hk
  | inr y=>
   obtain ⟨t,rfl⟩:=ra
   obtain ⟨t',rfl⟩:=rc
   exact (PyProof.Rows.lt_str h:wpAny (model prog w) A (compareOp .Lt (.str x t) (.str y t')) Q E s)
theorem vq (a c:Key) (r t:List Key):fK (a :: r) (c :: t)=if a=c then fK r t else rp.blt a c:=rfl
theorem nP (l b:Addr) (items IZ:Array Value) (n n2:Nat) (dd LM:Option Addr) (sl LN:Array (Option Value)) (ks js:List Key) (hi:Vals (ks.map kV) items.toList) (hj:Vals (js.map kV) IZ.toList) (hk:kinds ks=kinds js) :
  Meets (Builtin.«tuple.__lt__» ⟨[.ref l,.ref b],[]⟩)
   (fun _ R s=>s.heap.get? l=some { cls:=.type "tuple",dict:=dd,data:=.seq items n,slots:=sl }/\s.heap.get? b=some { cls:=.type "tuple",dict:=LM,data:=.seq IZ n2,slots:=LN }/\R (.ok (.ret (.bool (fK ks js)))) s):=
 .of_wp fun prog w A R s h=>by
  obtain ⟨hp,g,d,tk,os⟩:=s;obtain ⟨hl,hb,h⟩:=h
  have f2:=AutoSeq1.sub_tuple_tuple
  have z1:items.size=ks.length:=by have:=hi.length;simp at this;lia
  have z2:IZ.size=js.length:=by have:=hj.length;simp at this;lia
  have z3:ks.length=js.length:=by have:=SY List.length hk;simpa [kinds] using this
  wp_walk using wpAny_loadPart' hl,wpAny_loadPart' hb,wpAny_forIn_list _ (fun eD b s'=>b.1=none/\s'=⟨hp,g,d,tk,os⟩/\∃ (vs ws:List Value) (Kb KU:List Key),eD=vs.zip ws/\
   Vals (Kb.map kV) vs/\Vals (KU.map kV) ws/\kinds Kb=kinds KU/\R (.ok (.ret (.bool (fK Kb KU)))) ⟨hp,g,d,tk,os⟩) _
  case turn=>
   rintro ⟨y,x⟩ eD b s' ⟨Qk,rfl,vs,ws,Kb,KU,hz,Pq,Ql,MQ,hR⟩
   cases Kb with
   | nil=>
    cases Pq
    rw [List.zip_nil_left] at hz;cases hz
   | cons a Kb=>
    cases KU with
    | nil=>cases MQ
    | cons c KU=>
     cases Pq with
     | @cons _ va _ OB ra hvi'=>
      cases Ql with
      | @cons _ vc _ OC rc hwi'=>
       rw [SV] at hz
       injection hz with hyx hrest
       injection hyx with hy hx
       subst hy hx
       have hk1:a.isLeft=c.isLeft:=(Uu MQ).1
       have Pr:kinds Kb=kinds KU:=(Uu MQ).2
       rw [vq] at hR
       have he:=xw (A:=A.in1) (s:=⟨hp,g,d,tk,os⟩) ra rc
       refine RG (he prog w _ _ ?_)
       by_cases hac:a=c
       ·rw [RO hac] at hR
        rw [Sm hac]
        wp_walk
        exact ⟨rfl,rfl,_,_,_,_,hrest,hvi',hwi',Pr,hR⟩
       ·rw [RY hac] at hR
        rw [Sf hac]
        have Qm:=fun E Q=>xx (prog:=prog) (w:=w) (A:=A.in1) (E:=E) (s:=⟨hp,g,d,tk,os⟩) (Q:=Q) ra rc hk1
        wp_walk using Qm
        exact ⟨_,rfl,by simpa using hR⟩
  case fin=>
   rintro ⟨b1,b2⟩ s' ⟨Qk,rfl,vs,ws,Kb,KU,hz,Pq,Ql,MQ,hR⟩
   simp only at Qk
   subst Qk
   have hv:fK Kb KU=decide (items.size < IZ.size):=by
    cases Kb with
    | nil=>
     cases KU with
     | nil=>exact (Sf (by lia)).symm
     | cons c KU=>cases MQ
    | cons a Kb=>
     cases KU with
     | nil=>cases MQ
     | cons c KU=>
      cases Pq
      cases Ql
      rw [SV] at hz
      cases hz
   rw [hv] at hR
   wp_walk
   exact ⟨_,rfl,by simpa [Builtin.Tuple.tupleCompareSizes] using hR⟩
  case h=>
   exact ⟨rfl,rfl,items.toList,IZ.toList,ks,js,rfl,hi,hj,hk,h⟩
end
section
variable {X:Cx}
def FK (K:W.Frag) (neg:Bool):R2:=fun x y H Q=>∃ a b ks js,x=.ref a/\y=.ref b/\SqT K H a (ks.map kV)/\SqT K H b (js.map kV)/\kinds ks=kinds js/\Q (.bl (if neg then !fK ks js else fK ks js)) H
theorem B6 (hu:X.A.units < cLine):Hf X (compareOp .Lt) (FK X.K false):=by
 intro pins s σ H x y v u Q I rx ry h
 obtain ⟨a,b,ks,js,rfl,rfl,ha,hb,hk,q⟩:=h
 cases rx
 cases ry
 obtain ⟨F9,r1,p1,_⟩:=I.tuple ha
 obtain ⟨KO,r2,p2,_⟩:=I.tuple hb
 obtain ⟨⟨cls,dd,data,sl⟩,ho,hc,n,hd⟩:=id p1
 obtain ⟨⟨M4,LM,data2,LN⟩,Ir,HU,n2,hd2⟩:=id p2
 simp only at hc hd HU hd2
 subst hc hd HU hd2
 exact richCompare_meets_room (op:=.Lt) ⟨_,ho,rfl⟩ ⟨_,Ir,rfl⟩ PySem.F.slot_tuple_lt PySem.F.entry_tuple_lt (PySem.F.args_tuple_lt_2 _ _) (nP a b _ _ n n2 dd LM sl LN ks js (by simpa using r1) (by simpa using r2) hk)
  ⟨ho,Ir,show Value.bool (fK ks js)≠Value.notImplemented/\EP X pins σ Q (.bool (fK ks js)) s from ⟨(fun x=>nomatch x),⟨.bl (fK ks js),H,I,rfl,q⟩⟩⟩ hu
end
end NX
namespace PV
open PySem L2 NX
inductive D where
 | non | bl (b:Bool) | int (i:Int) | str (l:List Nat) | tup (ds:List D) | lst (ds:List D) | dct (tk:Bool) (ks vs:List D)
inductive O where
 | f | l (c:O) | t (cs:List O) | d | pin (p:Addr) (c:O)
abbrev R:=O×D
abbrev Env:=List (Option R)
inductive Res (α:Type) where
 | ok (a:α) | exc (c:List Nat) | bad
def kD:Key->D
 | .inl i=>.int i
 | .inr x=>.str x.cps.toList
def isM:HO->Bool
 | .lst _=>true
 | .dK _=>true
 | .dT _=>true
 | _=>false
def isT:HO->Bool
 | .tup _=>true
 | .frz _ (.tup _)=>true
 | _=>false
def yw:Key->Prop
 | .inl _=>True
 | .inr x=>x.cps.toList.length<=sizeLine
def DictO (o:HO) (tk:Bool) (ks:List D) (xs:List V):Prop:=match tk with
 | true=>∃ Gb:List (List Key×V),o=.dT Gb/\ks=Gb.map (fun kv=>D.tup (kv.1.map kD))/\xs=Gb.map (·.2)/\∀ kv∈Gb,∀ k∈kv.1,yw k
 | false=>∃ Gb:List (Key×V),o=.dK Gb/\ks=Gb.map (fun kv=>kD kv.1)/\xs=Gb.map (·.2)/\∀ kv∈Gb,yw kv.1
mutual
def Rep (K:W.Frag) (G:Hp):D->V->Prop
 | .non,v=>v=.non
 | .bl b,v=>v=.bl b
 | .int i,v=>v=.int i
 | .str l,v=>v=.str (S l)/\l.length<=sizeLine
 | .tup ds,v=>∃ p xs,v=.ref p/\G p=some (.tup xs)/\Reps K G ds xs
 | .lst ds,v=>∃ p xs,v=.ref p/\SqL K G p xs/\Reps K G ds xs
 | .dct tk ks vs,v=>∃ p xs o,v=.ref p/\Rd G p o/\DictO o tk ks xs/\Reps K G vs xs
def Reps (K:W.Frag) (G:Hp):List D->List V->Prop
 | [],xs=>xs=[]
 | d :: ds,xs=>∃ y ys,xs=y :: ys/\Rep K G d y/\Reps K G ds ys
end
def AllO (P:D->V->List Addr->Prop):List D->List V->List Addr->Prop
 | [],xs,fp=>xs=[]/\fp=[]
 | d :: ds,xs,fp=>∃ y ys a b,xs=y :: ys/\fp=a++b/\P d y a/\AllO P ds ys b
mutual
def RepO (K:W.Frag) (G H:Hp):O->D->V->List Addr->Prop
 | .f,d,v,fp=>Rep K G d v/\fp=[]
 | .l c,.lst ds,v,fp=>∃ p xs Gj,v=.ref p/\H p=some (.lst xs)/\fp=p :: Gj/\AllO (RepO K G H c) ds xs Gj
 | .t cs,.tup ds,v,fp=>∃ p xs,v=.ref p/\G p=some (.tup xs)/\RepT K G H cs ds xs fp
 | .d,.dct tk ks vs,v,fp=>∃ p xs o,v=.ref p/\H p=some o/\DictO o tk ks xs/\fp=[p]/\Reps K G vs xs
 | .pin p c,d,v,fp=>v=.ref p/\RepO K G H c d v fp
 | _,_,_,_=>False
def RepT (K:W.Frag) (G H:Hp):List O->List D->List V->List Addr->Prop
 | [],[],xs,fp=>xs=[]/\fp=[]
 | c :: cs,d :: ds,xs,fp=>∃ y ys a b,xs=y :: ys/\fp=a++b/\RepO K G H c d y a/\RepT K G H cs ds ys b
 | _,_,_,_=>False
end
section
variable {K:W.Frag} {G G' H H':Hp}
theorem Rd.mono {p:Addr} {u:HO} (h:Same G G') (r:Rd G p u):Rd G' p u:=by
 rcases r with r | ⟨o,r⟩
 ·exact .inl (h _ _ r)
 ·exact .inr ⟨o,h _ _ r⟩
theorem iP {p:Addr} {xs:List V} (h:Same G G') (r:SqL K G p xs):SqL K G' p xs:=r.elim (fun r=>.inl (Rd.mono h r)) .inr
theorem cb {p:Addr} {xs:List V} (h:Same G G') (r:SqT K G p xs):SqT K G' p xs:=r.elim (fun r=>.inl (Rd.mono h r)) .inr
mutual
theorem Rep.mono (h:Same G G'):∀ {d:D} {v:V},Rep K G d v->Rep K G' d v
 | .non,_,r=>by simpa only [Rep] using r
 | .bl _,_,r=>by simpa only [Rep] using r
 | .int _,_,r=>by simpa only [Rep] using r
 | .str _,_,r=>by simpa only [Rep] using r
 | .tup ds,_,r=>by
  simp only [Rep] at r ⊢
  obtain ⟨p,xs,e,q,rs⟩:=r
  exact ⟨p,xs,e,h _ _ q,Reps.mono h rs⟩
 | .lst ds,_,r=>by
  simp only [Rep] at r ⊢
  obtain ⟨p,xs,e,q,rs⟩:=r
  exact ⟨p,xs,e,iP h q,Reps.mono h rs⟩
 | .dct tk ks vs,_,r=>by
  simp only [Rep] at r ⊢
  obtain ⟨p,xs,o,e,q,dd,rs⟩:=r
  exact ⟨p,xs,o,e,Rd.mono h q,dd,Reps.mono h rs⟩
theorem Reps.mono (h:Same G G'):∀ {ds:List D} {xs:List V},Reps K G ds xs->Reps K G' ds xs
 | [],_,r=>by simpa only [Reps] using r
 | d :: ds,_,r=>by
  simp only [Reps] at r ⊢
  obtain ⟨y,ys,e,r1,r2⟩:=r
  exact ⟨y,ys,e,Rep.mono h r1,Reps.mono h r2⟩
end
theorem AllO.imp {P P':D->V->List Addr->Prop}:∀ {ds:List D} {xs:List V} {fp:List Addr},(∀ d v a,(∀ p∈a,p∈fp)->P d v a->P' d v a)->AllO P ds xs fp->AllO P' ds xs fp
 | [],_,_,_,r=>r
 | d :: ds,xs,fp,h,r=>by
  obtain ⟨y,ys,a,b,e1,e2,p,q⟩:=r
  subst e2
  exact ⟨y,ys,a,b,e1,rfl,h _ _ _ (fun p hp=>RV _ hp) p,AllO.imp (fun d v c hc=>h d v c fun p hp=>RN _ (hc p hp)) q⟩
mutual
theorem RepO.step (h:Same G G'):∀ {o:O} {d:D} {v:V} {fp:List Addr},(∀ p∈fp,H' p=H p)->RepO K G H o d v fp->RepO K G' H' o d v fp
 | .f,d,v,fp,hk,r=>by
  simp only [RepO] at r ⊢
  exact ⟨Rep.mono h r.1,r.2⟩
 | .pin p c,d,v,fp,hk,r=>by
  simp only [RepO] at r ⊢
  exact ⟨r.1,RepO.step h hk r.2⟩
 | .l c,.lst ds,v,fp,hk,r=>by
  simp only [RepO] at r ⊢
  obtain ⟨p,xs,Gj,e,q,e2,a⟩:=r
  subst e2
  exact ⟨p,xs,Gj,e,(hk p RM).trans q,rfl,AllO.imp (fun d v c hc=>RepO.step h fun z hz=>hk z (RU _ (hc z hz))) a⟩
 | .t cs,.tup ds,v,fp,hk,r=>by
  simp only [RepO] at r ⊢
  obtain ⟨p,xs,e,q,a⟩:=r
  exact ⟨p,xs,e,h _ _ q,RepT.step h hk a⟩
 | .d,.dct tk ks vs,v,fp,hk,r=>by
  simp only [RepO] at r ⊢
  obtain ⟨p,xs,o,e,q,dd,e2,rs⟩:=r
  subst e2
  exact ⟨p,xs,o,e,(hk p RM).trans q,dd,rfl,Reps.mono h rs⟩
 | .l _,.non,_,_,_,r | .l _,.bl _,_,_,_,r | .l _,.int _,_,_,_,r | .l _,.str _,_,_,_,r | .l _,.tup _,_,_,_,r | .l _,.dct _ _ _,_,_,_,r=>by simp only [RepO] at r
 | .t _,.non,_,_,_,r | .t _,.bl _,_,_,_,r | .t _,.int _,_,_,_,r | .t _,.str _,_,_,_,r | .t _,.lst _,_,_,_,r | .t _,.dct _ _ _,_,_,_,r=>by simp only [RepO] at r
 | .d,.non,_,_,_,r | .d,.bl _,_,_,_,r | .d,.int _,_,_,_,r | .d,.str _,_,_,_,r | .d,.tup _,_,_,_,r | .d,.lst _,_,_,_,r=>by simp only [RepO] at r
theorem RepT.step (h:Same G G'):∀ {cs:List O} {ds:List D} {xs:List V} {fp:List Addr},(∀ p∈fp,H' p=H p)->RepT K G H cs ds xs fp->RepT K G' H' cs ds xs fp
 | [],[],_,_,_,r=>by simpa only [RepT] using r
 | c :: cs,d :: ds,xs,fp,hk,r=>by
  simp only [RepT] at r ⊢
  obtain ⟨y,ys,a,b,e1,e2,r1,r2⟩:=r
  subst e2
  exact ⟨y,ys,a,b,e1,rfl,RepO.step h (fun p hp=>hk p (RV _ hp)) r1,RepT.step h (fun p hp=>hk p (RN _ hp)) r2⟩
 | [],_ :: _,_,_,_,r=>by simp only [RepT] at r
 | _ :: _,[],_,_,_,r=>by simp only [RepT] at r
end
theorem AllO.frozen {P:D->V->List Addr->Prop}:∀ {ds:List D} {xs:List V} {fp:List Addr},(∀ d v a,(∀ p∈a,p∈fp)->P d v a->Rep K G' d v)->AllO P ds xs fp->Reps K G' ds xs
 | [],_,_,_,r=>by simp only [Reps];exact r.1
 | d :: ds,xs,fp,h,r=>by
  obtain ⟨y,ys,a,b,e1,e2,p,q⟩:=r
  subst e2
  simp only [Reps]
  exact ⟨y,ys,e1,h _ _ _ (fun p hp=>RV _ hp) p,AllO.frozen (fun d v c hc=>h d v c fun p hp=>RN _ (hc p hp)) q⟩
mutual
theorem RepO.frozen (h:Same G G'):∀ {o:O} {d:D} {v:V} {fp:List Addr},(∀ p∈fp,∀ u,H p=some u->G' p=some u)->RepO K G H o d v fp->Rep K G' d v
 | .f,d,v,fp,hk,r=>by
  simp only [RepO] at r
  exact Rep.mono h r.1
 | .pin p c,d,v,fp,hk,r=>by
  simp only [RepO] at r
  exact RepO.frozen h hk r.2
 | .l c,.lst ds,v,fp,hk,r=>by
  simp only [RepO] at r
  simp only [Rep]
  obtain ⟨p,xs,Gj,e,q,e2,a⟩:=r
  subst e2
  exact ⟨p,xs,e,SqL.of (hk p RM _ q),AllO.frozen (fun d v c hc=>RepO.frozen h fun z hz=>hk z (RU _ (hc z hz))) a⟩
 | .t cs,.tup ds,v,fp,hk,r=>by
  simp only [RepO] at r
  simp only [Rep]
  obtain ⟨p,xs,e,q,a⟩:=r
  exact ⟨p,xs,e,h _ _ q,RepT.frozen h hk a⟩
 | .d,.dct tk ks vs,v,fp,hk,r=>by
  simp only [RepO] at r
  simp only [Rep]
  obtain ⟨p,xs,o,e,q,dd,e2,rs⟩:=r
  subst e2
  exact ⟨p,xs,o,e,.inl (hk p RM _ q),dd,Reps.mono h rs⟩
 | .l _,.non,_,_,_,r | .l _,.bl _,_,_,_,r | .l _,.int _,_,_,_,r | .l _,.str _,_,_,_,r | .l _,.tup _,_,_,_,r | .l _,.dct _ _ _,_,_,_,r=>by simp only [RepO] at r
 | .t _,.non,_,_,_,r | .t _,.bl _,_,_,_,r | .t _,.int _,_,_,_,r | .t _,.str _,_,_,_,r | .t _,.lst _,_,_,_,r | .t _,.dct _ _ _,_,_,_,r=>by simp only [RepO] at r
 | .d,.non,_,_,_,r | .d,.bl _,_,_,_,r | .d,.int _,_,_,_,r | .d,.str _,_,_,_,r | .d,.tup _,_,_,_,r | .d,.lst _,_,_,_,r=>by simp only [RepO] at r
theorem RepT.frozen (h:Same G G'):∀ {cs:List O} {ds:List D} {xs:List V} {fp:List Addr},(∀ p∈fp,∀ u,H p=some u->G' p=some u)->RepT K G H cs ds xs fp->Reps K G' ds xs
 | [],[],_,_,_,r=>by simp only [RepT] at r;simp only [Reps];exact r.1
 | c :: cs,d :: ds,xs,fp,hk,r=>by
  simp only [RepT] at r
  simp only [Reps]
  obtain ⟨y,ys,a,b,e1,e2,r1,r2⟩:=r
  subst e2
  exact ⟨y,ys,e1,RepO.frozen h (fun p hp=>hk p (RV _ hp)) r1,RepT.frozen h (fun p hp=>hk p (RN _ hp)) r2⟩
 | [],_ :: _,_,_,_,r=>by simp only [RepT] at r
 | _ :: _,[],_,_,_,r=>by simp only [RepT] at r
end
theorem AllO.live {P:D->V->List Addr->Prop}:∀ {ds:List D} {xs:List V} {fp:List Addr},(∀ d v a,P d v a->∀ p∈a,∃ u,H p=some u)->AllO P ds xs fp->∀ p∈fp,∃ u,H p=some u
 | [],_,_,_,r=>by rw [r.2];intro p hp;cases hp
 | d :: ds,xs,fp,h,r=>by
  obtain ⟨y,ys,a,b,e1,e2,p,q⟩:=r
  subst e2
  intro z hz
  rcases Sv.mp hz with hz | hz
  ·exact h _ _ _ p z hz
  ·exact AllO.live h q z hz
mutual
theorem RepO.live:∀ {o:O} {d:D} {v:V} {fp:List Addr},RepO K G H o d v fp->∀ p∈fp,∃ u,H p=some u
 | .f,d,v,fp,r=>by
  simp only [RepO] at r
  rw [r.2]
  intro p hp
  cases hp
 | .pin p c,d,v,fp,r=>by
  simp only [RepO] at r
  exact RepO.live r.2
 | .l c,.lst ds,v,fp,r=>by
  simp only [RepO] at r
  obtain ⟨p,xs,Gj,e,q,e2,a⟩:=r
  subst e2
  intro z hz
  rcases RT.mp hz with rfl | hz
  ·exact ⟨_,q⟩
  ·exact AllO.live (fun d v a=>RepO.live) a z hz
 | .t cs,.tup ds,v,fp,r=>by
  simp only [RepO] at r
  obtain ⟨p,xs,e,q,a⟩:=r
  exact RepT.live a
 | .d,.dct tk ks vs,v,fp,r=>by
  simp only [RepO] at r
  obtain ⟨p,xs,o,e,q,dd,e2,rs⟩:=r
  subst e2
  intro z hz
  rw [R4] at hz
  exact ⟨_,hz▸q⟩
 | .l _,.non,_,_,r | .l _,.bl _,_,_,r | .l _,.int _,_,_,r | .l _,.str _,_,_,r | .l _,.tup _,_,_,r | .l _,.dct _ _ _,_,_,r=>by simp only [RepO] at r
 | .t _,.non,_,_,r | .t _,.bl _,_,_,r | .t _,.int _,_,_,r | .t _,.str _,_,_,r | .t _,.lst _,_,_,r | .t _,.dct _ _ _,_,_,r=>by simp only [RepO] at r
 | .d,.non,_,_,r | .d,.bl _,_,_,r | .d,.int _,_,_,r | .d,.str _,_,_,r | .d,.tup _,_,_,r | .d,.lst _,_,_,r=>by simp only [RepO] at r
theorem RepT.live:∀ {cs:List O} {ds:List D} {xs:List V} {fp:List Addr},RepT K G H cs ds xs fp->∀ p∈fp,∃ u,H p=some u
 | [],[],_,_,r=>by
  simp only [RepT] at r
  rw [r.2]
  intro p hp
  cases hp
 | c :: cs,d :: ds,xs,fp,r=>by
  simp only [RepT] at r
  obtain ⟨y,ys,a,b,e1,e2,r1,r2⟩:=r
  subst e2
  intro z hz
  rcases Sv.mp hz with hz | hz
  ·exact RepO.live r1 z hz
  ·exact RepT.live r2 z hz
 | [],_ :: _,_,_,r=>by simp only [RepT] at r
 | _ :: _,[],_,_,r=>by simp only [RepT] at r
end
theorem DictO.isM {o:HO} {tk:Bool} {ks:List D} {xs:List V} (h:DictO o tk ks xs):PV.isM o=true:=by
 cases tk with
 | true=>
  obtain ⟨Gb,e,_⟩:=h
  rw [e];rfl
 | false=>
  obtain ⟨Gb,e,_⟩:=h
  rw [e];rfl
theorem AllO.mut {P:D->V->List Addr->Prop}:∀ {ds:List D} {xs:List V} {fp:List Addr},(∀ d v a,P d v a->∀ p∈a,∃ u,H p=some u/\isM u=true)->AllO P ds xs fp->∀ p∈fp,∃ u,H p=some u/\isM u=true
 | [],_,_,_,r=>by rw [r.2];intro p hp;cases hp
 | d :: ds,xs,fp,h,r=>by
  obtain ⟨y,ys,a,b,e1,e2,p,q⟩:=r
  subst e2
  intro z hz
  rcases Sv.mp hz with hz | hz
  ·exact h _ _ _ p z hz
  ·exact AllO.mut h q z hz
mutual
theorem RepO.mut:∀ {o:O} {d:D} {v:V} {fp:List Addr},RepO K G H o d v fp->∀ p∈fp,∃ u,H p=some u/\isM u=true
 | .f,d,v,fp,r=>by
  simp only [RepO] at r
  rw [r.2]
  intro p hp
  cases hp
 | .pin p c,d,v,fp,r=>by
  simp only [RepO] at r
  exact RepO.mut r.2
 | .l c,.lst ds,v,fp,r=>by
  simp only [RepO] at r
  obtain ⟨p,xs,Gj,e,q,e2,a⟩:=r
  subst e2
  intro z hz
  rcases RT.mp hz with rfl | hz
  ·exact ⟨_,q,rfl⟩
  ·exact AllO.mut (fun d v a=>RepO.mut) a z hz
 | .t cs,.tup ds,v,fp,r=>by
  simp only [RepO] at r
  obtain ⟨p,xs,e,q,a⟩:=r
  exact RepT.mut a
 | .d,.dct tk ks vs,v,fp,r=>by
  simp only [RepO] at r
  obtain ⟨p,xs,o,e,q,dd,e2,rs⟩:=r
  subst e2
  intro z hz
  rw [R4] at hz
  exact ⟨_,hz▸q,dd.isM⟩
 | .l _,.non,_,_,r | .l _,.bl _,_,_,r | .l _,.int _,_,_,r | .l _,.str _,_,_,r | .l _,.tup _,_,_,r | .l _,.dct _ _ _,_,_,r=>by simp only [RepO] at r
 | .t _,.non,_,_,r | .t _,.bl _,_,_,r | .t _,.int _,_,_,r | .t _,.str _,_,_,r | .t _,.lst _,_,_,r | .t _,.dct _ _ _,_,_,r=>by simp only [RepO] at r
 | .d,.non,_,_,r | .d,.bl _,_,_,r | .d,.int _,_,_,r | .d,.str _,_,_,r | .d,.tup _,_,_,r | .d,.lst _,_,_,r=>by simp only [RepO] at r
theorem RepT.mut:∀ {cs:List O} {ds:List D} {xs:List V} {fp:List Addr},RepT K G H cs ds xs fp->∀ p∈fp,∃ u,H p=some u/\isM u=true
 | [],[],_,_,r=>by
  simp only [RepT] at r
  rw [r.2]
  intro p hp
  cases hp
 | c :: cs,d :: ds,xs,fp,r=>by
  simp only [RepT] at r
  obtain ⟨y,ys,a,b,e1,e2,r1,r2⟩:=r
  subst e2
  intro z hz
  rcases Sv.mp hz with hz | hz
  ·exact RepO.mut r1 z hz
  ·exact RepT.mut r2 z hz
 | [],_ :: _,_,_,r=>by simp only [RepT] at r
 | _ :: _,[],_,_,r=>by simp only [RepT] at r
end
def RepE (K:W.Frag) (G H:Hp):Env->List (Option V)->List Addr->Prop
 | [],vs,fp=>vs=[]/\fp=[]
 | e :: es,vs,fp=>∃ y ys,vs=y :: ys/\match e with
  | none=>RepE K G H es ys fp
  | some r=>∃ v a b,y=some v/\fp=a++b/\RepO K G H r.1 r.2 v a/\RepE K G H es ys b
theorem RepE.step (h:Same G G'):∀ {es:Env} {vs:List (Option V)} {fp:List Addr},(∀ p∈fp,H' p=H p)->RepE K G H es vs fp->RepE K G' H' es vs fp
 | [],_,_,_,r=>r
 | none :: es,vs,fp,hk,r=>by
  obtain ⟨y,ys,e,r⟩:=r
  exact ⟨y,ys,e,RepE.step h hk r⟩
 | some r :: es,vs,fp,hk,q=>by
  obtain ⟨y,ys,e,v,a,b,e1,e2,r1,r2⟩:=q
  subst e2
  exact ⟨y,ys,e,v,a,b,e1,rfl,RepO.step h (fun p hp=>hk p (RV _ hp)) r1,RepE.step h (fun p hp=>hk p (RN _ hp)) r2⟩
theorem RepE.live:∀ {es:Env} {vs:List (Option V)} {fp:List Addr},RepE K G H es vs fp->∀ p∈fp,∃ u,H p=some u
 | [],_,_,r=>by
  rw [r.2]
  intro p hp
  cases hp
 | none :: es,vs,fp,r=>by
  obtain ⟨y,ys,e,r⟩:=r
  exact RepE.live r
 | some r :: es,vs,fp,q=>by
  obtain ⟨y,ys,e,v,a,b,e1,e2,r1,r2⟩:=q
  subst e2
  intro z hz
  rcases Sv.mp hz with hz | hz
  ·exact r1.live z hz
  ·exact RepE.live r2 z hz
theorem RepE.mut:∀ {es:Env} {vs:List (Option V)} {fp:List Addr},RepE K G H es vs fp->∀ p∈fp,∃ u,H p=some u/\isM u=true
 | [],_,_,r=>by
  rw [r.2]
  intro p hp
  cases hp
 | none :: es,vs,fp,r=>by
  obtain ⟨y,ys,e,r⟩:=r
  exact RepE.mut r
 | some r :: es,vs,fp,q=>by
  obtain ⟨y,ys,e,v,a,b,e1,e2,r1,r2⟩:=q
  subst e2
  intro z hz
  rcases Sv.mp hz with hz | hz
  ·exact r1.mut z hz
  ·exact RepE.mut r2 z hz
theorem RepE.length:∀ {es:Env} {vs:List (Option V)} {fp:List Addr},RepE K G H es vs fp->vs.length=es.length
 | [],_,_,r=>by rw [r.1];rfl
 | none :: es,vs,fp,r=>by
  obtain ⟨y,ys,e,r⟩:=r
  rw [e,Sb,Sb,RepE.length r]
 | some r :: es,vs,fp,q=>by
  obtain ⟨y,ys,e,v,a,b,e1,e2,r1,r2⟩:=q
  rw [e,Sb,Sb,RepE.length r2]
theorem RepE.take:∀ {es:Env} {vs:List (Option V)} {fp:List Addr} {i:Nat} {r:R},RepE K G H es vs fp->es[i]?=some (some r)->
  ∃ v a b,vs[i]?=some (some v)/\RepO K G H r.1 r.2 v a/\RepE K G H (es.set i none) vs b/\fp.Perm (a++b)
 | [],_,_,_,_,_,e=>by simp at e
 | none :: es,vs,fp,0,r,q,e=>by simp at e
 | some r' :: es,vs,fp,0,r,q,e=>by
  obtain ⟨y,ys,e0,v,a,b,e1,e2,r1,r2⟩:=q
  simp at e
  subst e
  subst e0
  subst e1
  exact ⟨v,a,b,rfl,r1,⟨some v,ys,rfl,r2⟩,by rw [e2]⟩
 | none :: es,vs,fp,i + 1,r,q,e=>by
  obtain ⟨y,ys,e0,q⟩:=q
  obtain ⟨v,a,b,g1,g2,g3,g4⟩:=RepE.take q (i:=i) (r:=r) (by simpa using e)
  subst e0
  exact ⟨v,a,b,by simpa using g1,g2,⟨y,ys,rfl,g3⟩,g4⟩
 | some r' :: es,vs,fp,i + 1,r,q,e=>by
  obtain ⟨y,ys,e0,v',a',b',e1,e2,r1,r2⟩:=q
  obtain ⟨v,a,b,g1,g2,g3,g4⟩:=RepE.take r2 (i:=i) (r:=r) (by simpa using e)
  subst e0
  refine ⟨v,a,a'++b,by simpa using g1,g2,⟨y,ys,rfl,v',a',b,e1,rfl,r1,g3⟩,?_⟩
  rw [e2]
  refine (List.Perm.append_left a' g4).trans ?_
  rw [<-SR,<-SR]
  exact List.Perm.append_right b List.perm_append_comm
theorem RepE.put:∀ {es:Env} {vs:List (Option V)} {b:List Addr} {i:Nat} {r:R} {v:V} {a:List Addr},RepE K G H es vs b->es[i]?=some none->RepO K G H r.1 r.2 v a->
  ∃ fp,RepE K G H (es.set i (some r)) (vs.set i (some v)) fp/\fp.Perm (a++b)
 | [],_,_,_,_,_,_,_,e,_=>by simp at e
 | none :: es,vs,b,0,r,v,a,q,e,ro=>by
  obtain ⟨y,ys,e0,q⟩:=q
  subst e0
  exact ⟨a++b,⟨some v,ys,rfl,v,a,b,rfl,rfl,ro,q⟩,.refl _⟩
 | some r' :: es,vs,b,0,r,v,a,q,e,ro=>by simp at e
 | none :: es,vs,b,i + 1,r,v,a,q,e,ro=>by
  obtain ⟨y,ys,e0,q⟩:=q
  obtain ⟨fp,g1,g2⟩:=RepE.put q (i:=i) (r:=r) (by simpa using e) ro
  subst e0
  exact ⟨fp,⟨y,_,rfl,g1⟩,g2⟩
 | some r' :: es,vs,b,i + 1,r,v,a,q,e,ro=>by
  obtain ⟨y,ys,e0,v',a',b',e1,e2,r1,r2⟩:=q
  obtain ⟨fp,g1,g2⟩:=RepE.put r2 (i:=i) (r:=r) (by simpa using e) ro
  subst e0
  refine ⟨a'++fp,⟨y,_,rfl,v',a',fp,e1,rfl,r1,g1⟩,?_⟩
  rw [e2]
  refine (List.Perm.append_left a' g2).trans ?_
  rw [<-SR,<-SR]
  exact List.Perm.append_right b' List.perm_append_comm
structure Rel (K:W.Frag) (G H:Hp) (es:Env) (vs:List (Option V)) (fp:List Addr):Prop where
 rep:RepE K G H es vs fp
 nd:fp.Nodup
 gn:∀ p∈fp,G p=none
 gh:Same G H
structure Step (G H:Hp) (fp:List Addr) (G' H':Hp) (Gj:List Addr):Prop where
 gg:Same G G'
 keep:∀ q u,H q=some u->q∉fp->H' q=some u
 fpn:∀ q∈Gj,q∈fp\/H q=none
 gnew:∀ q u,G' q=some u->G q=some u\/q∈fp\/H q=none\/isT u=true/\H q=some u
 there:∀ q u,H q=some u->∃ u',H' q=some u'
theorem Step.refl {fp:List Addr}:Step G H fp G H fp:=⟨.refl _,fun _ _ h _=>h,fun _ h=>.inl h,fun _ _ h=>.inl h,fun _ u h=>⟨u,h⟩⟩
theorem Step.trans {G1 H1 G2 H2:Hp} {fp Gx GU:List Addr} (a:Step G H fp G1 H1 Gx) (b:Step G1 H1 Gx G2 H2 GU):Step G H fp G2 H2 GU:=by
 refine ⟨a.gg.trans b.gg,fun q u h n=>?_,fun q hq=>?_,fun q u hq=>?_,fun q u h=>?_⟩
 ·refine b.keep q u (a.keep q u h n) fun hq=>?_
  rcases a.fpn q hq with z | z
  ·exact n z
  ·rw [z] at h;cases h
 ·rcases b.fpn q hq with z | z
  ·exact a.fpn q z
  ·cases e:H q with
   | none=>exact .inr rfl
   | some u=>
    obtain ⟨u',e'⟩:=a.there q u e
    rw [z] at e';cases e'
 ·rcases b.gnew q u hq with z | z | z | ⟨t,z⟩
  ·exact a.gnew q u z
  ·exact .inr ((a.fpn q z).imp_right .inl)
  ·cases e:H q with
   | none=>exact .inr (.inr (.inl rfl))
   | some u=>
    obtain ⟨u',e'⟩:=a.there q u e
    rw [z] at e';cases e'
  ·cases e:H q with
   | none=>exact .inr (.inr (.inl rfl))
   | some u2=>
    by_cases hf:q∈fp
    ·exact .inr (.inl hf)
    ·rw [a.keep q u2 e hf] at z
     cases z
     exact .inr (.inr (.inr ⟨t,rfl⟩))
 ·obtain ⟨u',h'⟩:=a.there q u h
  exact b.there q u' h'
theorem Step.wide {fp fq Gj Q9:List Addr} (a:Step G H fp G' H' Gj) (h:∀ q∈fp,q∈fq) (h':∀ q∈Q9,q∈Gj\/q∈fq):Step G H fq G' H' Q9:=
 ⟨a.gg,fun q u e n=>a.keep q u e fun z=>n (h q z),fun q hq=>(h' q hq).elim (fun z=>(a.fpn q z).imp_left (h q)) .inl,fun q u e=>(a.gnew q u e).imp_right (Or.imp_left (h q)),a.there⟩
theorem Rel.perm {es:Env} {vs:List (Option V)} {fp fq:List Addr} (r:RepE K G H es vs fq) (nd:fp.Nodup) (gn:∀ p∈fp,G p=none) (gh:Same G H) (h:fp.Perm fq):Rel K G H es vs fq:=
 ⟨r,h.nodup_iff.mp nd,fun p hp=>gn p (h.mem_iff.mpr hp),gh⟩
theorem Rel.frame {r:R} {v:V} {es:Env} {vs:List (Option V)} {fp:List Addr} (q:Rel K G H (some r :: es) (some v :: vs) fp) :
  ∃ a b,fp=a++b/\RepO K G H r.1 r.2 v a/\Rel K G H es vs b/\∀ (G' H':Hp) (M0:Env) (OB:List (Option V)) (b':List Addr),Step G H b G' H' b'->Rel K G' H' M0 OB b'->
   Rel K G' H' (some r :: M0) (some v :: OB) (a++b')/\Step G H (a++b) G' H' (a++b'):=by
 obtain ⟨y,ys,e,v',a,b,e1,e2,r1,r2⟩:=q.rep
 cases e
 cases e1
 subst e2
 have nd:=Ss.mp q.nd
 refine ⟨a,b,rfl,r1,⟨r2,nd.2.1,fun p hp=>q.gn p (RN _ hp),q.gh⟩,fun G' H' M0 OB b' st k=>?_⟩
 have nb:∀ p∈a,p∉b:=fun p hp hb=>nd.2.2 p hp p hb rfl
 have same:∀ p∈a,H' p=H p:=fun p hp=>by
  obtain ⟨u,hu⟩:=r1.live p hp
  rw [hu]
  exact st.keep p u hu (nb p hp)
 refine ⟨⟨⟨some v,OB,rfl,v,a,b',rfl,rfl,r1.step st.gg same,k.rep⟩,?_,fun p hp=>?_,k.gh⟩,st.wide (fun p hp=>RN _ hp) fun p hp=>?_⟩
 ·rw [Ss]
  refine ⟨nd.1,k.nd,fun p hp z hz e=>?_⟩
  subst e
  obtain ⟨u,hu⟩:=r1.live p hp
  rcases st.fpn p hz with z | z
  ·exact nb p hp z
  ·rw [z] at hu;cases hu
 ·rcases Sv.mp hp with hp | hp
  ·cases e:G' p with
   | none=>rfl
   | some u=>
    exfalso
    obtain ⟨u',hu⟩:=r1.live p hp
    rcases st.gnew p u e with z | z | z | ⟨t,z⟩
    ·rw [q.gn p (RV _ hp)] at z;cases z
    ·exact nb p hp z
    ·rw [z] at hu;cases hu
    ·obtain ⟨u2,h2,hm⟩:=r1.mut p hp
     rw [z] at h2
     cases h2
     cases u with
     | tup _=>cases hm
     | frz _ _=>cases hm
     | _=>cases t
  ·exact k.gn p hp
 ·rcases Sv.mp hp with hp | hp
  ·exact .inr (RV _ hp)
  ·exact .inl hp
theorem Rel.freeze {r:R} {v:V} {es:Env} {vs:List (Option V)} {fp:List Addr} (q:Rel K G H (some r :: es) (some v :: vs) fp) :
  ∃ G' b,Rep K G' r.2 v/\Rel K G' H es vs b/\Step G H fp G' H b:=by
 obtain ⟨y,ys,e,v',a,b,e1,e2,r1,r2⟩:=q.rep
 cases e
 cases e1
 subst e2
 have nd:=Ss.mp q.nd
 have nb:∀ p∈a,p∉b:=fun p hp hb=>nd.2.2 p hp p hb rfl
 have hg:Same G (fun p=>if p∈a then H p else G p):=fun p u e=>by
  show (if p∈a then H p else G p)=some u
  by_cases hp:p∈a
  ·rw [RO hp]
   exact q.gh p u e
  ·rw [RY hp]
   exact e
 refine ⟨fun p=>if p∈a then H p else G p,b,r1.frozen hg fun p hp u e=>?_,⟨r2.step hg fun _ _=>rfl,nd.2.1,fun p hp=>?_,fun p u e=>?_⟩,⟨hg,fun _ _ e _=>e,fun p hp=>.inl (RN _ hp),fun p u e=>?_,fun _ u e=>⟨u,e⟩⟩⟩
 ·show (if p∈a then H p else G p)=some u
  rw [RO hp]
  exact e
 ·show (if p∈a then H p else G p)=none
  rw [RY (fun z=>nb p z hp)]
  exact q.gn p (RN _ hp)
 ·have e:(if p∈a then H p else G p)=some u:=e
  by_cases hp:p∈a
  ·rw [RO hp] at e
   exact e
  ·rw [RY hp] at e
   exact q.gh p u e
 ·have e:(if p∈a then H p else G p)=some u:=e
  by_cases hp:p∈a
  ·exact .inr (.inl (RV _ hp))
  ·rw [RY hp] at e
   exact .inl e
end
section
variable {K:W.Frag} {G G' H H':Hp} {es:Env} {vs:List (Option V)} {fp:List Addr}
theorem rB:∀ {ds:List D} {xs:List V} {fp:List Addr},AllO (RepO K G H .f) ds xs fp<->Reps K G ds xs/\fp=[]
 | [],xs,fp=>by simp only [AllO,Reps]
 | d :: ds,xs,fp=>by
  simp only [AllO,Reps,RepO]
  constructor
  ·rintro ⟨y,ys,a,b,e1,e2,⟨r,e3⟩,q⟩
   obtain ⟨q1,q2⟩:=rB.mp q
   subst e3
   subst q2
   exact ⟨⟨y,ys,e1,r,q1⟩,e2⟩
  ·rintro ⟨⟨y,ys,e1,r,q1⟩,e⟩
   exact ⟨y,ys,[],[],e1,e,⟨r,rfl⟩,rB.mpr ⟨q1,rfl⟩⟩
theorem kz {d:D} {v:V} {a:List Addr}:RepO K G H .f d v a<->Rep K G d v/\a=[]:=by simp only [RepO]
theorem g6 {ds:List D} {v:V} {a:List Addr}:RepO K G H (.l .f) (.lst ds) v a<->∃ p xs,v=.ref p/\H p=some (.lst xs)/\a=[p]/\Reps K G ds xs:=by
 rw [RepO]
 constructor
 ·rintro ⟨p,xs,b,e,q,e2,r⟩
  obtain ⟨r',eb⟩:=rB.mp r
  subst eb
  exact ⟨p,xs,e,q,e2,r'⟩
 ·rintro ⟨p,xs,e,q,e2,r⟩
  exact ⟨p,xs,[],e,q,e2,rB.mpr ⟨r,rfl⟩⟩
theorem Reps.length:∀ {ds:List D} {xs:List V},Reps K G ds xs->xs.length=ds.length
 | [],xs,r=>by simp only [Reps] at r;rw [r];rfl
 | d :: ds,xs,r=>by
  simp only [Reps] at r
  obtain ⟨y,ys,e,_,q⟩:=r
  rw [e,Sb,Sb,Reps.length q]
theorem Reps.get:∀ {ds:List D} {xs:List V} {i:Nat} {d:D},Reps K G ds xs->ds[i]?=some d->∃ v,xs[i]?=some v/\Rep K G d v
 | [],_,_,_,_,e=>by simp at e
 | d' :: ds,xs,0,d,r,e=>by
  simp only [Reps] at r
  obtain ⟨y,ys,e1,q,_⟩:=r
  simp at e
  subst e
  exact ⟨y,by rw [e1];rfl,q⟩
 | d' :: ds,xs,i + 1,d,r,e=>by
  simp only [Reps] at r
  obtain ⟨y,ys,e1,_,q⟩:=r
  obtain ⟨v,a,b⟩:=Reps.get q (i:=i) (d:=d) (by simpa using e)
  exact ⟨v,by rw [e1];simpa using a,b⟩
theorem Reps.app:∀ {ds es:List D} {xs ys:List V},Reps K G ds xs->Reps K G es ys->Reps K G (ds++es) (xs++ys)
 | [],_,_,_,r,q=>by simp only [Reps] at r;rw [r];exact q
 | d :: ds,es,xs,ys,r,q=>by
  simp only [Reps] at r
  obtain ⟨z,zs,e,r1,r2⟩:=r
  rw [e]
  simp only [Vj,Reps]
  exact ⟨z,_,rfl,r1,r2.app q⟩
theorem Reps.one {d:D} {v:V} (r:Rep K G d v):Reps K G [d] [v]:=by
 simp only [Reps]
 exact ⟨v,[],rfl,r,rfl⟩
theorem Reps.nil:Reps K G [] []:=by simp only [Reps]
theorem Reps.cons {d:D} {v:V} {ds:List D} {xs:List V} (r:Rep K G d v) (q:Reps K G ds xs):Reps K G (d :: ds) (v :: xs):=by
 simp only [Reps]
 exact ⟨v,xs,rfl,r,q⟩
theorem Reps.cons_iff {d:D} {v:V} {ds:List D} {xs:List V}:Reps K G (d :: ds) (v :: xs)<->Rep K G d v/\Reps K G ds xs:=by
 simp only [Reps]
 constructor
 ·rintro ⟨y,ys,e,r,q⟩
  cases e
  exact ⟨r,q⟩
 ·rintro ⟨r,q⟩
  exact ⟨v,xs,rfl,r,q⟩
theorem Reps.take:∀ {ds:List D} {xs:List V} (n:Nat),Reps K G ds xs->Reps K G (ds.take n) (xs.take n)
 | _,_,0,_=>by rw [T8,T8];exact Reps.nil
 | [],xs,n + 1,r=>by simp only [Reps] at r;rw [r];exact Reps.nil
 | d :: ds,xs,n + 1,r=>by
  simp only [Reps] at r
  obtain ⟨y,ys,e,r1,r2⟩:=r
  rw [e,List.take_succ_cons,List.take_succ_cons]
  exact .cons r1 (r2.take n)
theorem Reps.drop:∀ {ds:List D} {xs:List V} (n:Nat),Reps K G ds xs->Reps K G (ds.drop n) (xs.drop n)
 | _,_,0,r=>r
 | [],xs,n + 1,r=>by simp only [Reps] at r;rw [r];exact Reps.nil
 | d :: ds,xs,n + 1,r=>by
  simp only [Reps] at r
  obtain ⟨y,ys,e,r1,r2⟩:=r
  rw [e,List.drop_succ_cons,List.drop_succ_cons]
  exact r2.drop n
theorem Reps.set:∀ {ds:List D} {xs:List V} (n:Nat) {d:D} {v:V},Reps K G ds xs->Rep K G d v->Reps K G (ds.set n d) (xs.set n v)
 | [],xs,n,d,v,r,q=>by simp only [Reps] at r;rw [r];exact Reps.nil
 | d' :: ds,xs,0,d,v,r,q=>by
  simp only [Reps] at r
  obtain ⟨y,ys,e,r1,r2⟩:=r
  rw [e]
  exact .cons q r2
 | d' :: ds,xs,n + 1,d,v,r,q=>by
  simp only [Reps] at r
  obtain ⟨y,ys,e,r1,r2⟩:=r
  rw [e]
  exact .cons r1 (r2.set n q)
theorem Reps.eraseIdx:∀ {ds:List D} {xs:List V} (n:Nat),Reps K G ds xs->Reps K G (ds.eraseIdx n) (xs.eraseIdx n)
 | [],xs,n,r=>by simp only [Reps] at r;rw [r];exact Reps.nil
 | d' :: ds,xs,0,r=>by
  simp only [Reps] at r
  obtain ⟨y,ys,e,r1,r2⟩:=r
  rw [e]
  exact r2
 | d' :: ds,xs,n + 1,r=>by
  simp only [Reps] at r
  obtain ⟨y,ys,e,r1,r2⟩:=r
  rw [e]
  exact .cons r1 (r2.eraseIdx n)
theorem Step.cut {fq:List Addr} (h:∀ q∈fq,q∈fp):Step G H fp G H fq:=⟨.refl _,fun _ _ e _=>e,fun q hq=>.inl (h q hq),fun _ _ e=>.inl e,fun _ u e=>⟨u,e⟩⟩
theorem Rel.drop {r:R} {y:Option V} (q:Rel K G H (some r :: es) (y :: vs) fp):∃ b,Rel K G H es vs b/\Step G H fp G H b:=by
 obtain ⟨y,ys,e,v',a,b,e1,e2,r1,r2⟩:=q.rep
 cases e
 cases e1
 subst e2
 have nd:=Ss.mp q.nd
 exact ⟨b,⟨r2,nd.2.1,fun p hp=>q.gn p (RN _ hp),q.gh⟩,Step.cut fun p hp=>RN _ hp⟩
theorem Rel.top {r:R} {v:V} (q:Rel K G H (some r :: es) (some v :: vs) fp):Rep K H r.2 v:=by
 obtain ⟨y,ys,e,v',a,b,e1,e2,r1,r2⟩:=q.rep
 cases e
 cases e1
 exact r1.frozen q.gh fun p hp u e=>e
theorem Rel.out {i:Nat} {r:R} (q:Rel K G H es vs fp) (e:es[i]?=some (some r)):∃ v fq,vs[i]?=some (some v)/\Rel K G H (some r :: es.set i none) (some v :: vs) fq/\Step G H fp G H fq/\Step G H fq G H fp:=by
 obtain ⟨v,a,b,e1,r1,r2,pm⟩:=q.rep.take e
 exact ⟨v,a++b,e1,Rel.perm ⟨some v,vs,rfl,v,a,b,rfl,rfl,r1,r2⟩ q.nd q.gn q.gh pm,Step.cut fun p hp=>pm.mem_iff.mpr hp,Step.cut fun p hp=>pm.mem_iff.mp hp⟩
theorem Rel.view {i:Nat} {r:R} (q:Rel K G H es vs fp) (e:es[i]?=some (some r)):∃ v,vs[i]?=some (some v)/\Rep K H r.2 v:=by
 obtain ⟨v,fq,e1,r1,_⟩:=q.out e
 exact ⟨v,e1,r1.top⟩
theorem nQ {α:Type} {l:List α} {i:Nat} {x:α} (h:l[i]?=some x):l.set i x=l:=by
 apply Tr
 intro j
 by_cases e:i=j
 ·subst e
  rw [List.getElem?_set_self (List.getElem?_eq_some_iff.mp h).1,h]
 ·rw [List.getElem?_set_ne e]
theorem Rel.store {i:Nat} {r:R} {v:V} (q:Rel K G H (some r :: es) (some v :: vs) fp) (hi:i < es.length):∃ fq,Rel K G H (es.set i (some r)) (vs.set i (some v)) fq/\Step G H fp G H fq:=by
 obtain ⟨y,ys,e,v',a,b,e1,e2,r1,r2⟩:=q.rep
 cases e
 cases e1
 subst e2
 obtain ⟨c,hc⟩:∃ c,es[i]?=some c:=⟨_,List.getElem?_eq_getElem hi⟩
 have nd:=Ss.mp q.nd
 have key:∃ b',RepE K G H (es.set i none) vs b'/\(∀ p∈b',p∈b)/\b'.Nodup:=by
  cases c with
  | none=>exact ⟨b,by rw [nQ hc];exact r2,fun _ h=>h,nd.2.1⟩
  | some r'=>
   obtain ⟨v2,a2,b2,_,_,g,pm⟩:=r2.take hc
   refine ⟨b2,g,fun p hp=>pm.mem_iff.mpr (RN _ hp),?_⟩
   exact (Ss.mp (pm.nodup_iff.mp nd.2.1)).2.1
 obtain ⟨b',g,sub,ndb⟩:=key
 obtain ⟨fq,g2,pm⟩:=g.put (i:=i) (r:=r) (v:=v) (by rw [List.getElem?_set_self hi]) r1
 rw [UY] at g2
 have Nj:(a++b').Nodup:=by
  rw [Ss]
  exact ⟨nd.1,ndb,fun p hp z hz=>nd.2.2 p hp z (sub z hz)⟩
 refine ⟨fq,Rel.perm g2 Nj (fun p hp=>?_) q.gh pm.symm,Step.cut fun p hp=>?_⟩
 ·refine q.gn p ?_
  rcases Sv.mp hp with hp | hp
  ·exact RV _ hp
  ·exact RN _ (sub p hp)
 ·rcases Sv.mp (pm.mem_iff.mp hp) with hp | hp
  ·exact RV _ hp
  ·exact RN _ (sub p hp)
theorem Rel.back {i:Nat} {r:R} {v:V} (q:Rel K G H (some r :: es) (some v :: vs) fp) (hi:i < es.length) (hv:vs[i]?=some (some v)):∃ fq,Rel K G H (es.set i (some r)) vs fq/\Step G H fp G H fq:=by
 obtain ⟨fq,g,st⟩:=q.store hi
 rw [nQ hv] at g
 exact ⟨fq,g,st⟩
theorem Rel.freezeAt {i:Nat} {r:R} (q:Rel K G H es vs fp) (e:es[i]?=some (some r)):∃ v G' fq,vs[i]?=some (some v)/\Rep K G' r.2 v/\Rel K G' H (es.set i (some (.f,r.2))) vs fq/\Step G H fp G' H fq:=by
 obtain ⟨v,fq,ev,g,st,_⟩:=q.out e
 obtain ⟨G',b,rv,g2,Gk⟩:=g.freeze
 have g3:Rel K G' H (some (.f,r.2) :: es.set i none) (some v :: vs) b:=by
  refine ⟨⟨some v,vs,rfl,v,[],b,rfl,rfl,?_,g2.rep⟩,g2.nd,g2.gn,g2.gh⟩
  exact kz.mpr ⟨rv,rfl⟩
 obtain ⟨fz,g4,HV⟩:=g3.back (i:=i) (by rw [TR];exact (List.getElem?_eq_some_iff.mp e).1) ev
 rw [UY] at g4
 exact ⟨v,G',fz,ev,rv,g4,st.trans (Gk.trans HV)⟩
theorem Rel.push {d:D} {v:V} (q:Rel K G H es vs fp) (r:Rep K G d v):Rel K G H (some (.f,d) :: es) (some v :: vs) fp:=by
 refine ⟨⟨some v,vs,rfl,v,[],fp,rfl,rfl,?_,q.rep⟩,q.nd,q.gn,q.gh⟩
 exact kz.mpr ⟨r,rfl⟩
theorem Rel.newF {p:Addr} {u:HO} (q:Rel K G H es vs fp) (hp:H p=none):Rel K (upd G p u) (upd H p u) es vs fp/\Step G H fp (upd G p u) (upd H p u) fp:=by
 have gp:G p=none:=by
  cases e:G p with
  | none=>rfl
  | some o=>rw [q.gh p o e] at hp;cases hp
 have np:p∉fp:=fun z=>by
  obtain ⟨u,e⟩:=q.rep.live p z
  rw [hp] at e;cases e
 have sg:Same G (upd G p u):=fun b o e=>by rw [aS (bx e gp)];exact e
 have sh:Same H (upd H p u):=fun b o e=>by rw [aS (bx e hp)];exact e
 refine ⟨⟨q.rep.step sg fun z hz=>aS fun e=>np (e▸hz),q.nd,fun z hz=>?_,fun b o e=>?_⟩,⟨sg,fun b o e _=>sh b o e,fun _ h=>.inl h,fun b o e=>?_,fun b o e=>⟨o,sh b o e⟩⟩⟩
 ·have:z≠p:=fun e=>np (e▸hz)
  rw [aS this]
  exact q.gn z hz
 ·by_cases hb:b=p
  ·subst hb
   rw [bQ] at e ⊢
   exact e
  ·rw [aS hb] at e ⊢
   exact q.gh b o e
 ·by_cases hb:b=p
  ·subst hb
   exact .inr (.inr (.inl hp))
  ·rw [aS hb] at e
   exact .inl e
theorem Rel.newL {p:Addr} {ds:List D} {xs:List V} (q:Rel K G H es vs fp) (hp:H p=none) (r:Reps K G ds xs) :
  Rel K G (upd H p (.lst xs)) (some (.l .f,.lst ds) :: es) (some (.ref p) :: vs) (p :: fp)/\Step G H fp G (upd H p (.lst xs)) (p :: fp):=by
 have gp:G p=none:=by
  cases e:G p with
  | none=>rfl
  | some o=>rw [q.gh p o e] at hp;cases hp
 have np:p∉fp:=fun z=>by
  obtain ⟨u,e⟩:=q.rep.live p z
  rw [hp] at e;cases e
 have sh:Same H (upd H p (.lst xs)):=fun b o e=>by rw [aS (bx e hp)];exact e
 refine ⟨⟨⟨some (.ref p),vs,rfl,.ref p,[p],fp,rfl,rfl,g6.mpr ⟨p,xs,rfl,bQ,rfl,r⟩,q.rep.step (.refl _) fun z hz=>aS fun e=>np (e▸hz)⟩,Se.mpr ⟨np,q.nd⟩,fun z hz=>?_,fun b o e=>?_⟩,
  ⟨.refl _,fun b o e _=>sh b o e,fun b hb=>?_,fun b o e=>.inl e,fun b o e=>⟨o,sh b o e⟩⟩⟩
 ·rcases RT.mp hz with rfl | hz
  ·exact gp
  ·exact q.gn z hz
 ·exact sh b o (q.gh b o e)
 ·rcases RT.mp hb with rfl | hb
  ·exact .inr hp
  ·exact .inl hb
theorem Rel.chg {i:Nat} {ds ds':List D} (q:Rel K G H es vs fp) (e:es[i]?=some (some (.l .f,.lst ds))):∃ p xs,vs[i]?=some (some (.ref p))/\H p=some (.lst xs)/\Reps K G ds xs/\
  ∀ Hk,Reps K G ds' Hk->∃ fq,Rel K G (upd H p (.lst Hk)) (es.set i (some (.l .f,.lst ds'))) vs fq/\Step G H fp G (upd H p (.lst Hk)) fq:=by
 obtain ⟨v,fq,ev,g,st,IA⟩:=q.out e
 obtain ⟨y,ys,e0,v',a,b,e1,e2,r1,r2⟩:=g.rep
 cases e0
 cases e1
 obtain ⟨p,xs,e3,hp,e4,rs⟩:=g6.mp r1
 subst e3
 subst e4
 subst e2
 have nd:=Se.mp (show (p :: b).Nodup from g.nd)
 refine ⟨p,xs,ev,hp,rs,fun Hk HD=>?_⟩
 have g2:Rel K G (upd H p (.lst Hk)) (some (.l .f,.lst ds') :: es.set i none) (some (.ref p) :: vs) (p :: b):=by
  refine ⟨⟨some (.ref p),vs,rfl,.ref p,[p],b,rfl,rfl,g6.mpr ⟨p,Hk,rfl,bQ,rfl,HD⟩,r2.step (.refl _) fun z hz=>aS fun e=>nd.1 (e▸hz)⟩,g.nd,g.gn,fun z o ez=>?_⟩
  have:z≠p:=fun w=>by
   subst w
   rw [g.gn z RM] at ez;cases ez
  rw [aS this]
  exact g.gh z o ez
 have OD:Step G H (p :: b) G (upd H p (.lst Hk)) (p :: b):=by
  refine ⟨.refl _,fun z o ez nz=>?_,fun z hz=>.inl hz,fun z o ez=>.inl ez,fun z o ez=>?_⟩
  ·have:z≠p:=fun w=>nz (by rw [w];exact RM)
   rw [aS this]
   exact ez
  ·by_cases w:z=p
   ·subst w
    exact ⟨_,bQ⟩
   ·exact ⟨o,by rw [aS w];exact ez⟩
 obtain ⟨fz,g3,GO⟩:=g2.back (i:=i) (by rw [TR];exact (List.getElem?_eq_some_iff.mp e).1) ev
 rw [UY] at g3
 exact ⟨fz,g3,st.trans (OD.trans GO)⟩
end
mutual
def c9:D->Bool
 | .tup ds=>flatDs ds
 | .lst _=>false
 | .dct _ _ _=>false
 | _=>true
def flatDs:List D->Bool
 | []=>true
 | d :: ds=>c9 d && flatDs ds
end
mutual
def cx:O->D->Bool
 | .f,d=>c9 d
 | .l c,.lst ds=>ds.all (cx c)
 | .t cs,.tup ds=>ph cs ds
 | .d,.dct _ _ vs=>flatDs vs
 | .pin _ c,d=>cx c d
 | _,_=>false
def ph:List O->List D->Bool
 | [],[]=>true
 | c :: cs,d :: ds=>cx c d && ph cs ds
 | _,_=>false
end
def frz:Option R->Option R:=Option.map fun r=>(.f,r.2)
theorem bG:∀ ds,flatDs ds=ds.all c9
 | []=>rfl
 | d :: ds=>by rw [flatDs,UO,bG ds]
section
variable {K:W.Frag} {G G' G2 G3 H H' H2:Hp} {es:Env} {vs:List (Option V)} {fp:List Addr}
mutual
theorem Rep.flat (h:∀ p u,isT u=true->G2 p=some u->G3 p=some u):∀ {d:D} {v:V},c9 d=true->Rep K G2 d v->Rep K G3 d v
 | .non,_,_,r=>by simpa only [Rep] using r
 | .bl _,_,_,r=>by simpa only [Rep] using r
 | .int _,_,_,r=>by simpa only [Rep] using r
 | .str _,_,_,r=>by simpa only [Rep] using r
 | .tup ds,_,e,r=>by
  simp only [Rep] at r ⊢
  simp only [c9] at e
  obtain ⟨p,xs,ev,q,rs⟩:=r
  exact ⟨p,xs,ev,h _ _ rfl q,Reps.flat h e rs⟩
 | .lst ds,_,e,r=>by simp only [c9] at e;cases e
 | .dct _ _ _,_,e,r=>by simp only [c9] at e;cases e
theorem Reps.flat (h:∀ p u,isT u=true->G2 p=some u->G3 p=some u):∀ {ds:List D} {xs:List V},flatDs ds=true->Reps K G2 ds xs->Reps K G3 ds xs
 | [],_,_,r=>by simpa only [Reps] using r
 | d :: ds,_,e,r=>by
  simp only [Reps] at r ⊢
  simp only [flatDs,R9] at e
  obtain ⟨y,ys,ev,r1,r2⟩:=r
  exact ⟨y,ys,ev,Rep.flat h e.1 r1,Reps.flat h e.2 r2⟩
end
theorem AllO.clean {P P':D->V->List Addr->Prop} {c:D->Bool}:∀ {ds:List D} {xs:List V} {fp:List Addr},(∀ d v a,c d=true->P d v a->P' d v a)->ds.all c=true->AllO P ds xs fp->AllO P' ds xs fp
 | [],_,_,_,_,r=>r
 | d :: ds,xs,fp,h,e,r=>by
  obtain ⟨y,ys,a,b,e1,e2,p,q⟩:=r
  rw [UO,R9] at e
  exact ⟨y,ys,a,b,e1,e2,h _ _ _ e.1 p,AllO.clean h e.2 q⟩
mutual
theorem RepO.clean (h:∀ p u,isT u=true->G2 p=some u->G3 p=some u):∀ {o:O} {d:D} {v:V} {fp:List Addr},cx o d=true->RepO K G2 H o d v fp->RepO K G3 H o d v fp
 | .f,d,v,fp,e,r=>by
  simp only [RepO] at r ⊢
  simp only [cx] at e
  exact ⟨r.1.flat h e,r.2⟩
 | .pin p c,d,v,fp,e,r=>by
  simp only [RepO] at r ⊢
  simp only [cx] at e
  exact ⟨r.1,RepO.clean h e r.2⟩
 | .l c,.lst ds,v,fp,e,r=>by
  rw [RepO] at r ⊢
  rw [cx] at e
  obtain ⟨p,xs,Gj,ev,q,e2,a⟩:=r
  exact ⟨p,xs,Gj,ev,q,e2,AllO.clean (fun d v a=>RepO.clean h) e a⟩
 | .t cs,.tup ds,v,fp,e,r=>by
  rw [RepO] at r ⊢
  rw [cx] at e
  obtain ⟨p,xs,ev,q,a⟩:=r
  exact ⟨p,xs,ev,h _ _ rfl q,RepT.clean h e a⟩
 | .d,.dct tk ks vs,v,fp,e,r=>by
  rw [RepO] at r ⊢
  rw [cx] at e
  obtain ⟨p,xs,o,ev,q,dd,e2,rs⟩:=r
  exact ⟨p,xs,o,ev,q,dd,e2,rs.flat h e⟩
 | .l _,.non,_,_,_,r | .l _,.bl _,_,_,_,r | .l _,.int _,_,_,_,r | .l _,.str _,_,_,_,r | .l _,.tup _,_,_,_,r | .l _,.dct _ _ _,_,_,_,r=>by simp only [RepO] at r
 | .t _,.non,_,_,_,r | .t _,.bl _,_,_,_,r | .t _,.int _,_,_,_,r | .t _,.str _,_,_,_,r | .t _,.lst _,_,_,_,r | .t _,.dct _ _ _,_,_,_,r=>by simp only [RepO] at r
 | .d,.non,_,_,_,r | .d,.bl _,_,_,_,r | .d,.int _,_,_,_,r | .d,.str _,_,_,_,r | .d,.tup _,_,_,_,r | .d,.lst _,_,_,_,r=>by simp only [RepO] at r
theorem RepT.clean (h:∀ p u,isT u=true->G2 p=some u->G3 p=some u):∀ {cs:List O} {ds:List D} {xs:List V} {fp:List Addr},ph cs ds=true->RepT K G2 H cs ds xs fp->RepT K G3 H cs ds xs fp
 | [],[],_,_,_,r=>by simpa only [RepT] using r
 | c :: cs,d :: ds,xs,fp,e,r=>by
  rw [RepT] at r ⊢
  rw [ph,R9] at e
  obtain ⟨y,ys,a,b,e1,e2,r1,r2⟩:=r
  exact ⟨y,ys,a,b,e1,e2,RepO.clean h e.1 r1,RepT.clean h e.2 r2⟩
 | [],_ :: _,_,_,_,r=>by simp only [RepT] at r
 | _ :: _,[],_,_,_,r=>by simp only [RepT] at r
end
theorem RepE.frz (h:Same G G'):∀ {es:Env} {vs:List (Option V)} {fp:List Addr},(∀ p∈fp,∀ u,H p=some u->G' p=some u)->RepE K G H es vs fp->RepE K G' H' (es.map PV.frz) vs []
 | [],_,_,_,r=>⟨r.1,rfl⟩
 | none :: es,vs,fp,hk,r=>by
  obtain ⟨y,ys,e,r⟩:=r
  exact ⟨y,ys,e,RepE.frz h hk r⟩
 | some r :: es,vs,fp,hk,q=>by
  obtain ⟨y,ys,e,v,a,b,e1,e2,r1,r2⟩:=q
  subst e2
  exact ⟨y,ys,e,v,[],[],e1,rfl,kz.mpr ⟨r1.frozen h (fun p hp=>hk p (RV _ hp)),rfl⟩,RepE.frz h (fun p hp=>hk p (RN _ hp)) r2⟩
theorem RepE.rep (h:Same G G'):∀ {es:Env} {vs:List (Option V)} {fp:List Addr} {i:Nat} {r:R} {v:V},(∀ p∈fp,∀ u,H p=some u->G' p=some u)->RepE K G H es vs fp->es[i]?=some (some r)->vs[i]?=some (some v)->Rep K G' r.2 v:=fun {es vs fp i r v} hk q e ev=>by
 obtain ⟨v',a,b,e1,r1,_,pm⟩:=q.take e
 rw [ev] at e1
 cases e1
 exact r1.frozen h fun p hp=>hk p (pm.mem_iff.mpr (RV _ hp))
theorem Rel.lend (q:Rel K G H es vs fp):∃ G1,Same G G1/\Same G1 H/\(∀ (i:Nat) (r:R) (v:V),es[i]?=some (some r)->vs[i]?=some (some v)->Rep K G1 r.2 v)/\
  RepE K G1 H (es.map PV.frz) vs []/\
  ∀ (H2 G2:Hp) (GU:List Addr) (r:R) (v:V),Step G1 H [] G2 H2 GU->Rel K G2 H2 [some r] [some v] GU->
   (cx r.1 r.2=true->∃ G3 Jj,Step G H fp G3 H2 Jj/\Rel K G3 H2 (some r :: es) (some v :: vs) Jj)/\
   ∃ G3 Jj,Step G H fp G3 H2 Jj/\Rel K G3 H2 (some r :: es.map PV.frz) (some v :: vs) Jj:=by
 have hg:Same G (fun p=>if p∈fp then H p else G p):=fun p u e=>by
  show (if p∈fp then H p else G p)=some u
  by_cases hp:p∈fp
  ·rw [RO hp]
   exact q.gh p u e
  ·rw [RY hp]
   exact e
 have hh:Same (fun p=>if p∈fp then H p else G p) H:=fun p u e=>by
  have e:(if p∈fp then H p else G p)=some u:=e
  by_cases hp:p∈fp
  ·rw [RO hp] at e
   exact e
  ·rw [RY hp] at e
   exact q.gh p u e
 have hk:∀ p∈fp,∀ u,H p=some u->(fun p=>if p∈fp then H p else G p) p=some u:=fun p hp u e=>by
  show (if p∈fp then H p else G p)=some u
  rw [RO hp]
  exact e
 refine ⟨fun p=>if p∈fp then H p else G p,hg,hh,fun i r v e ev=>q.rep.rep hg hk e ev,q.rep.frz hg hk,fun H2 G2 GU r v st k=>?_⟩
 obtain ⟨y,ys,e0,v',a,b,e1,e2,r1,r2⟩:=k.rep
 cases e0
 cases e1
 obtain ⟨_,e3⟩:=r2
 subst e3
 rw [SW] at e2
 subst e2
 have fresh:∀ p∈GU,H p=none:=fun p hp=>by
  rcases st.fpn p hp with z | z
  ·cases z
  ·exact z
 have kept:∀ p∈fp,H2 p=H p:=fun p hp=>by
  obtain ⟨u,hu⟩:=q.rep.live p hp
  rw [hu]
  exact st.keep p u hu (by simp)
 refine ⟨fun cl=>?_,⟨G2,GU,⟨hg.trans st.gg,fun p u e n=>st.keep p u e (by simp),fun p hp=>.inr (fresh p hp),fun p u e=>?_,st.there⟩,?_⟩⟩
 ·have apart:∀ p∈GU,p∉fp:=fun p hp hf=>by
   obtain ⟨u,hu⟩:=q.rep.live p hf
   rw [fresh p hp] at hu;cases hu
  have g3:Same G (fun p=>if p∈fp then none else G2 p):=fun p u e=>by
   show (if p∈fp then none else G2 p)=some u
   rw [RY (fun z=>by rw [q.gn p z] at e;cases e)]
   exact st.gg p u (hg p u e)
  refine ⟨fun p=>if p∈fp then none else G2 p,GU++fp,⟨g3,fun p u e n=>st.keep p u e (by simp),fun p hp=>?_,fun p u e=>?_,st.there⟩,⟨⟨some v,vs,rfl,v,GU,fp,rfl,rfl,r1.clean (fun p u t e=>?_) cl,q.rep.step g3 kept⟩,?_,fun p hp=>?_,fun p u e=>?_⟩⟩
  ·rcases Sv.mp hp with hp | hp
   ·exact .inr (fresh p hp)
   ·exact .inl hp
  ·have e:(if p∈fp then none else G2 p)=some u:=e
   by_cases hp:p∈fp
   ·rw [RO hp] at e;cases e
   ·rw [RY hp] at e
    rcases st.gnew p u e with z | z | z
    ·have z:(if p∈fp then H p else G p)=some u:=z
     rw [RY hp] at z
     exact .inl z
    ·cases z
    ·exact .inr (.inr z)
  ·show (if p∈fp then none else G2 p)=some u
   by_cases hp:p∈fp
   ·exfalso
    obtain ⟨u',hu,hm⟩:=q.rep.mut p hp
    have:=st.gg p u' (hk p hp u' hu)
    rw [e] at this
    cases this
    cases u with
    | lst _=>cases t
    | dK _=>cases t
    | dT _=>cases t
    | _=>cases hm
   ·rw [RY hp]
    exact e
  ·rw [Ss]
   exact ⟨k.nd,q.nd,fun p hp z hz e=>apart p hp (e▸hz)⟩
  ·show (if p∈fp then none else G2 p)=none
   by_cases hf:p∈fp
   ·rw [RO hf]
   ·rw [RY hf]
    rcases Sv.mp hp with hp | hp
    ·exact k.gn p hp
    ·exact absurd hp hf
  ·have e:(if p∈fp then none else G2 p)=some u:=e
   by_cases hp:p∈fp
   ·rw [RO hp] at e;cases e
   ·rw [RY hp] at e
    exact k.gh p u e
 ·rcases st.gnew p u e with z | z | z
  ·have z:(if p∈fp then H p else G p)=some u:=z
   by_cases hp:p∈fp
   ·exact .inr (.inl hp)
   ·rw [RY hp] at z
    exact .inl z
  ·cases z
  ·exact .inr (.inr z)
 ·refine ⟨⟨some v,vs,rfl,v,GU,[],rfl,(SW _).symm,r1,q.rep.frz (hg.trans st.gg) fun p hp u e=>st.gg p u (hk p hp u e)⟩,k.nd,k.gn,k.gh⟩
end
end PV
namespace PV
open PySem PySem.Spec PyProof.Rows L2 NX
def Res.bind {α β:Type}:Res α->(α->Res β)->Res β
 | .ok a,f=>f a
 | .exc c,_=>.exc c
 | .bad,_=>.bad
inductive BindOk {α β:Type} (x:Res α) (f:α->Res β) (b:β):Prop
 | mk (a:α) (h:x=.ok a) (k:f a=.ok b):BindOk x f b
theorem ar {α β:Type} {x:Res α} {f:α->Res β} {b:β} (h:x.bind f=.ok b):BindOk x f b:=by
 cases x with
 | ok a=>exact ⟨a,rfl,h⟩
 | exc c=>cases h
 | bad=>cases h
inductive Opd where
 | val (d:D) | var (i:Nat)
def OpdOk (K:W.Frag) (G:Hp) (σ:L2.St):Opd->V->Prop
 | .val d,v=>Rep K G d v
 | .var i,v=>σ[i]?=some (some v)
theorem OpdOk.mono {K:W.Frag} {G G':Hp} {σ:L2.St} {o:Opd} {v:V} (h:Same G G') (r:OpdOk K G σ o v):OpdOk K G' σ o v:=by
 cases o with
 | val d=>exact Rep.mono h r
 | var i=>exact r
def rD (K:W.Frag) (G:Hp) (σ:L2.St):List Opd->List V->Prop
 | [],vs=>vs=[]
 | o :: os,vs=>∃ y ys,vs=y :: ys/\OpdOk K G σ o y/\rD K G σ os ys
def xy:O->Bool
 | .f=>true
 | .l .f=>true
 | .d=>true
 | .pin _ .f=>true
 | .pin _ (.l .f)=>true
 | .pin _ .d=>true
 | _=>false
def HW (env:PV.Env):Opd->Res D
 | .val d=>.ok d
 | .var i=>match env[i]? with
  | some (some r)=>if xy r.1 then .ok r.2 else .bad
  | _=>.bad
def tP (env:PV.Env):Opd->Res D
 | .val d=>.ok d
 | .var i=>match env[i]? with
  | some (some r)=>.ok r.2
  | _=>.bad
def pj (env:PV.Env):List Opd->Res (List D)
 | []=>.ok []
 | o :: os=>(HW env o).bind fun d=>(pj env os).bind fun ds=>.ok (d :: ds)
def mM (env:PV.Env):List Opd->Res (List D)
 | []=>.ok []
 | o :: os=>(tP env o).bind fun d=>(mM env os).bind fun ds=>.ok (d :: ds)
def Vw (K:W.Frag) (G H:Hp):D->V->Prop
 | .lst ds,v=>∃ p xs,v=.ref p/\SqL K H p xs/\Reps K G ds xs
 | .dct tk ks vs,v=>∃ p xs o,v=.ref p/\Rd H p o/\DictO o tk ks xs/\Reps K G vs xs
 | d,v=>Rep K G d v
def MR (K:W.Frag) (G H:Hp):List D->List V->Prop
 | [],vs=>vs=[]
 | d :: ds,vs=>∃ y ys,vs=y :: ys/\Vw K G H d y/\MR K G H ds ys
section
variable {K:W.Frag} {G G' H H':Hp} {es:PV.Env} {σ:L2.St} {fp:List Addr}
theorem Vw.of {d:D} {v:V} (gh:Same G H) (r:Rep K G d v):Vw K G H d v:=by
 cases d with
 | lst ds=>
  rw [Rep] at r
  obtain ⟨p,xs,e,q,rs⟩:=r
  exact ⟨p,xs,e,iP gh q,rs⟩
 | dct tk ks vs=>
  rw [Rep] at r
  obtain ⟨p,xs,o,e,q,dd,rs⟩:=r
  exact ⟨p,xs,o,e,PV.Rd.mono gh q,dd,rs⟩
 | _=>exact r
theorem Vw.rep {d:D} {v:V} (gh:Same G H) (r:Vw K G H d v):Rep K H d v:=by
 cases d with
 | lst ds=>
  obtain ⟨p,xs,e,q,rs⟩:=r
  rw [Rep]
  exact ⟨p,xs,e,q,rs.mono gh⟩
 | dct tk ks vs=>
  obtain ⟨p,xs,o,e,q,dd,rs⟩:=r
  rw [Rep]
  exact ⟨p,xs,o,e,q,dd,rs.mono gh⟩
 | non=>exact Rep.mono gh r
 | bl b=>exact Rep.mono gh r
 | int i=>exact Rep.mono gh r
 | str l=>exact Rep.mono gh r
 | tup ds=>exact Rep.mono gh r
theorem RepO.vw0 {o:O} {d:D} {v:V} {a:List Addr} (gh:Same G H) (hs:o=.f\/o=.l .f\/o=.d) (r:RepO K G H o d v a):Vw K G H d v:=by
 rcases hs with rfl | rfl | rfl
 ·exact Vw.of gh (kz.mp r).1
 ·cases d with
  | lst ds=>
   obtain ⟨p,xs,e,q,_,rs⟩:=g6.mp r
   exact ⟨p,xs,e,SqL.of q,rs⟩
  | _=>simp only [RepO] at r
 ·cases d with
  | dct tk ks vs=>
   rw [RepO] at r
   obtain ⟨p,xs,o,e,q,dd,_,rs⟩:=r
   exact ⟨p,xs,o,e,.inl q,dd,rs⟩
  | _=>simp only [RepO] at r
theorem RepO.vw {o:O} {d:D} {v:V} {a:List Addr} (gh:Same G H) (hs:xy o=true) (r:RepO K G H o d v a):Vw K G H d v:=by
 unfold xy at hs
 split at hs
 ·exact r.vw0 gh (.inl rfl)
 ·exact r.vw0 gh (.inr (.inl rfl))
 ·exact r.vw0 gh (.inr (.inr rfl))
 ·rw [RepO] at r;exact r.2.vw0 gh (.inl rfl)
 ·rw [RepO] at r;exact r.2.vw0 gh (.inr (.inl rfl))
 ·rw [RepO] at r;exact r.2.vw0 gh (.inr (.inr rfl))
 ·cases hs
theorem Rel.vw {o:Opd} {v:V} {d:D} (q:Rel K G H es σ fp) (k:OpdOk K G σ o v) (e:HW es o=.ok d):Vw K G H d v:=by
 cases o with
 | val d'=>
  cases e
  exact Vw.of q.gh k
 | var i=>
  unfold HW at e
  dsimp only at e
  split at e
  ·rename_i r hr
   split at e
   ·rename_i hs
    cases e
    obtain ⟨v',a,b,ev,r1,_⟩:=q.rep.take hr
    have k:σ[i]?=some (some v):=k
    rw [k] at ev
    cases ev
    exact r1.vw q.gh hs
   ·cases e
  ·cases e
theorem Rel.vwA {o:Opd} {v:V} {d:D} (q:Rel K G H es σ fp) (k:OpdOk K G σ o v) (e:tP es o=.ok d):Rep K H d v:=by
 cases o with
 | val d'=>
  cases e
  exact Rep.mono q.gh k
 | var i=>
  unfold tP at e
  dsimp only at e
  split at e
  ·rename_i r hr
   cases e
   obtain ⟨v',ev,r1⟩:=q.view hr
   have k:σ[i]?=some (some v):=k
   rw [k] at ev
   cases ev
   exact r1
  ·cases e
theorem Rel.vws (q:Rel K G H es σ fp):∀ {os:List Opd} {vs:List V} {ds:List D},rD K G σ os vs->pj es os=.ok ds->MR K G H ds vs
 | [],_,_,k,e=>by
  cases e
  exact k
 | o :: os,_,_,⟨y,ys,e0,k1,k2⟩,e=>by
  unfold pj at e
  obtain ⟨d,e1,e⟩:=ar e
  obtain ⟨ds,e2,e⟩:=ar e
  cases e
  exact ⟨y,ys,e0,q.vw k1 e1,Rel.vws q k2 e2⟩
theorem pk {G1:Hp} (gg:Same G G1) (ht:∀ (i:Nat) (r:R) (v:V),es[i]?=some (some r)->σ[i]?=some (some v)->Rep K G1 r.2 v):∀ {os:List Opd} {vs:List V} {ds:List D},rD K G σ os vs->mM es os=.ok ds->Reps K G1 ds vs
 | [],_,_,k,e=>by
  cases e
  have k:_=_:=k
  rw [k]
  exact Reps.nil
 | o :: os,_,_,⟨y,ys,e0,k1,k2⟩,e=>by
  unfold mM at e
  obtain ⟨d,e1,e⟩:=ar e
  obtain ⟨ds,e2,e⟩:=ar e
  cases e
  rw [e0]
  refine .cons ?_ (pk gg ht k2 e2)
  cases o with
  | val d'=>
   cases e1
   exact Rep.mono gg k1
  | var i=>
   unfold tP at e1
   dsimp only at e1
   split at e1
   ·rename_i r hr
    cases e1
    exact ht i r y hr k1
   ·cases e1
end
abbrev FX:=PV.Env->Res (R×PV.Env)
abbrev FO:=PV.Env->Res (Opd×PV.Env)
abbrev FOs:=PV.Env->Res (List Opd×PV.Env)
abbrev FT:=PV.Env->Res (Bool×PV.Env)
inductive Out where
 | nx (env:PV.Env) | rt (r:R) | bk (env:PV.Env) | ct (env:PV.Env)
abbrev FS:=PV.Env->Res Out
inductive tQ (K:W.Frag) (f:FX) (σ:L2.St) (H:Hp) (Q:VK):Prop
 | mk:∀ G env fp r env',Rel K G H env σ fp->f env=.ok (r,env')->(∀ v H' G' Gj,Step G H fp G' H' Gj->Rel K G' H' (some r :: env') (some v :: σ) Gj->Q v H')->tQ K f σ H Q
inductive tO (K:W.Frag) (f:FO) (σ:L2.St) (H:Hp) (Q:VK):Prop
 | mk:∀ G env fp o env',Rel K G H env σ fp->f env=.ok (o,env')->(∀ v H' G' Gj,Step G H fp G' H' Gj->Rel K G' H' env' σ Gj->OpdOk K G' σ o v->Q v H')->tO K f σ H Q
inductive tOs (K:W.Frag) (f:FOs) (σ:L2.St) (H:Hp) (Q:List V->Hp->Prop):Prop
 | mk:∀ G env fp o env',Rel K G H env σ fp->f env=.ok (o,env')->(∀ v H' G' Gj,Step G H fp G' H' Gj->Rel K G' H' env' σ Gj->rD K G' σ o v->Q v H')->tOs K f σ H Q
inductive tQT (K:W.Frag) (f:FT) (σ:L2.St) (H:Hp) (Q:Bool->Hp->Prop):Prop
 | mk:∀ G env fp b env',Rel K G H env σ fp->f env=.ok (b,env')->(∀ H' G' Gj,Step G H fp G' H' Gj->Rel K G' H' env' σ Gj->Q b H')->tQT K f σ H Q
inductive Mode where
 | plain | mut
def FL (md:Mode) (K:W.Frag) (G H:Hp) (r:R) (v:V) (fp:List Addr):Prop:=match md with
 | .plain=>Rel K G H [some r] [some v] fp
 | .mut=>∃ o d p c d0,r=(.t [o,.pin p c],.tup [d,d0])/\Rel K G H [some (o,d),some (.pin p c,d0)] [some v,some (.ref p)] fp
def OutOk {md:Mode} (K:W.Frag) (G H:Hp) (fp:List Addr) (Dd:Ends):Res Out->Prop
 | .ok (.nx env')=>∀ σ' H' G' Gj,Step G H fp G' H' Gj->Rel K G' H' env' σ' Gj->Dd.nx σ' H'
 | .ok (.bk env')=>∀ σ' H' G' Gj,Step G H fp G' H' Gj->Rel K G' H' env' σ' Gj->Dd.bk σ' H'
 | .ok (.ct env')=>∀ σ' H' G' Gj,Step G H fp G' H' Gj->Rel K G' H' env' σ' Gj->Dd.ct σ' H'
 | .ok (.rt r)=>∀ v H' G' Gj,Step G H fp G' H' Gj->FL md K G' H' r v Gj->Dd.rt v H'
 | _=>False
inductive tQS {md:Mode} (K:W.Frag) (g:FS) (Dd:Ends) (σ:L2.St) (H:Hp):Prop
 | mk:∀ G env fp,Rel K G H env σ fp->OutOk (md:=md) K G H fp Dd (g env)->tQS (md:=md) K g Dd σ H
def QE (X:Cx) (e:Expr) (f:FX):Prop:=PE X e (tQ X.K f)
def QO (X:Cx) (e:Expr) (f:FO):Prop:=PE X e (tO X.K f)
def K6 (X:Cx) (es:List Expr) (f:FOs):Prop:=PA X es (tOs X.K f)
def QT (X:Cx) (e:Expr) (f:FT):Prop:=PT X e (tQT X.K f)
def QW (X:Cx) (e:Expr) (f:FT):Prop:=PW X e (tQT X.K f)
def QS {md:Mode} (X:Cx) (st:Stmt) (g:FS):Prop:=PS X st (tQS (md:=md) X.K g)
def LR {md:Mode} (X:Cx) (st:List Stmt) (g:FS):Prop:=PSs X st (tQS (md:=md) X.K g)
theorem bX {X:Cx} {e:Expr} {t t':TE} (h:PE X e t) (k:∀ σ H Q,t' σ H Q->t σ H Q):PE X e t':=fun pins s σ H Q I w=>h pins s σ H Q I (k σ H Q w)
theorem rE {X:Cx} {e:Expr} {t t':TT} (h:PT X e t) (k:∀ σ H Q,t' σ H Q->t σ H Q):PT X e t':=fun pins s σ H Q I w=>h pins s σ H Q I (k σ H Q w)
theorem yx {X:Cx} {e:Expr} {t t':TT} (h:PW X e t) (k:∀ σ H Q,t' σ H Q->t σ H Q):PW X e t':=fun wh pins s σ H Q I w=>h wh pins s σ H Q I (k σ H Q w)
theorem rF {X:Cx} {e:List Expr} {t t':TA} (h:PA X e t) (k:∀ σ H Q,t' σ H Q->t σ H Q):PA X e t':=fun pos pins s σ H Q I w=>h pos pins s σ H Q I (k σ H Q w)
theorem g7 {X:Cx} {e:Stmt} {t t':TS} (h:PS X e t) (k:∀ D σ H,t' D σ H->t D σ H):PS X e t':=fun pins s σ H D I w=>h pins s σ H D I (k D σ H w)
theorem vy {X:Cx} {e:List Stmt} {t t':TS} (h:PSs X e t) (k:∀ D σ H,t' D σ H->t D σ H):PSs X e t':=fun pins s σ H D I w=>h pins s σ H D I (k D σ H w)
theorem OutOk.imp {md:Mode} {K:W.Frag} {G H G1 H1:Hp} {fp Gx:List Addr} {Dd OE:Ends} {r:Res Out} (st:Step G H fp G1 H1 Gx) (h:OutOk (md:=md) K G H fp Dd r) (n:∀ σ H,Dd.nx σ H->OE.nx σ H) (b:∀ σ H,Dd.bk σ H->OE.bk σ H) (c:∀ σ H,Dd.ct σ H->OE.ct σ H) (t:∀ v H,Dd.rt v H->OE.rt v H):OutOk (md:=md) K G1 H1 Gx OE r:=by
 match r,h with
 | .ok (.nx env'),h=>exact fun σ' H' G' Gj s q=>n _ _ (h σ' H' G' Gj (st.trans s) q)
 | .ok (.bk env'),h=>exact fun σ' H' G' Gj s q=>b _ _ (h σ' H' G' Gj (st.trans s) q)
 | .ok (.ct env'),h=>exact fun σ' H' G' Gj s q=>c _ _ (h σ' H' G' Gj (st.trans s) q)
 | .ok (.rt r),h=>exact fun v H' G' Gj s q=>t _ _ (h v H' G' Gj (st.trans s) q)
theorem OutOk.after {md:Mode} {K:W.Frag} {G H G1 H1:Hp} {fp Gx:List Addr} {Dd:Ends} {r:Res Out} (st:Step G H fp G1 H1 Gx) (h:OutOk (md:=md) K G H fp Dd r):OutOk (md:=md) K G1 H1 Gx Dd r:=h.imp st (fun _ _ z=>z) (fun _ _ z=>z) (fun _ _ z=>z) fun _ _ z=>z
def aJ (d:D):FX:=fun env=>.ok ((.f,d),env)
def fz:O->O
 | .pin p .f=>.pin p .f
 | _=>.f
def aO (i:Nat):FX:=fun env=>match env[i]? with
 | some (some r)=>.ok ((.f,r.2),env.set i (some (fz r.1,r.2)))
 | _=>.bad
def mN (i:Nat):FX:=fun env=>match env[i]? with
 | some (some r)=>.ok (r,env.set i none)
 | _=>.bad
def aq (f:FX):FO:=fun env=>(f env).bind fun p=>.ok (.val p.1.2,p.2)
def ai (i:Nat):FO:=fun env=>match env[i]? with
 | some (some _)=>.ok (.var i,env)
 | _=>.bad
def aB:FOs:=fun env=>.ok ([],env)
def ag (f:FO) (g:FOs):FOs:=fun env=>(f env).bind fun p=>(g p.2).bind fun q=>.ok (p.1 :: q.1,q.2)
section
variable {X:Cx}
theorem rH {e:Expr} {v:V} {d:D} (h:PE X e (tC v)) (r:∀ G,Rep X.K G d v):QE X e (aJ d):=bX h fun σ H Q Gp=>by
 obtain ⟨G,env,fp,rr,env',rel,e,k⟩:=Gp
 cases e
 exact k v H G fp .refl (rel.push (r G))
theorem aj {i j pos}:QE X (.Constant (.int i) j pos) (aJ (.int i)):=rH Bn fun G=>by rw [Rep]
theorem jy {i j pos}:QE X (.Constant (.bool i) j pos) (aJ (.bl i)):=rH DM fun G=>by rw [Rep]
theorem lD {j pos}:QE X (.Constant .none j pos) (aJ .non):=rH Bo fun G=>by rw [Rep]
theorem rJ {x j pos} {l:List Nat} (h:x=S l) (hl:l.length<=1000):QE X (.Constant (.str x) j pos) (aJ (.str l)):=rH Bp fun G=>by
 rw [Rep,h]
 exact ⟨rfl,by rw [line_eq];lia⟩
theorem aD {i:Nat} {e:Expr} (h:PE X e (wR i)):QE X e (aO i):=bX h fun σ H Q Gp=>by
 obtain ⟨G,env,fp,rr,env',rel,e,k⟩:=Gp
 unfold aO at e
 split at e
 ·rename_i r hr
  cases e
  by_cases hf:fz r.1=.f
  ·obtain ⟨v,G',fq,ev,rv,GD,st⟩:=rel.freezeAt hr
   rw [hf] at k
   exact ⟨v,ev,k v H G' fq st (GD.push rv)⟩
  ·have hp:∃ p,r.1=.pin p .f:=by
    unfold fz at hf
    split at hf
    ·rename_i p hp
     exact ⟨p,hp⟩
    ·exact absurd rfl hf
   obtain ⟨p,hp⟩:=hp
   obtain ⟨v,a,b,ev,r1,_,_⟩:=rel.rep.take hr
   rw [hp,RepO] at r1
   have es:env.set i (some (fz r.1,r.2))=env:=by
    refine nQ ?_
    rw [hr,hp]
    show some (some r)=some (some (.pin p .f,r.2))
    rw [<-hp]
   rw [es] at k
   exact ⟨v,ev,k v H G fp .refl (rel.push (kz.mp r1.2).1)⟩
 ·cases e
theorem ja {i:Nat} {e:Expr} (h:PE X e (wR i)):QE X e (mN i):=bX h fun σ H Q Gp=>by
 obtain ⟨G,env,fp,rr,env',rel,e,k⟩:=Gp
 unfold mN at e
 split at e
 ·rename_i r hr
  cases e
  obtain ⟨v,fq,ev,GD,st,_⟩:=rel.out hr
  exact ⟨v,ev,k v H G fq st GD⟩
 ·cases e
theorem aa {e:Expr} {f:FX} (h:QE X e f):QO X e (aq f):=bX h fun σ H Q Gp=>by
 obtain ⟨G,env,fp,o,env',rel,e,k⟩:=Gp
 obtain ⟨⟨r,F7⟩,e1,e⟩:=ar e
 cases e
 refine ⟨G,env,fp,r,F7,rel,e1,fun v H' G' Gj st GD=>?_⟩
 obtain ⟨G2,b,rv,F8,Gk⟩:=GD.freeze
 exact k v H' G2 b (st.trans Gk) F8 rv
theorem ae {i:Nat} {e:Expr} (h:PE X e (wR i)):QO X e (ai i):=bX h fun σ H Q Gp=>by
 obtain ⟨G,env,fp,o,env',rel,e,k⟩:=Gp
 unfold ai at e
 split at e
 ·rename_i r hr
  cases e
  obtain ⟨v,ev,_⟩:=rel.view hr
  exact ⟨v,ev,k v H G fp .refl rel ev⟩
 ·cases e
theorem ao:K6 X [] aB:=rF mV fun σ H Q Gp=>by
 obtain ⟨G,env,fp,o,env',rel,e,k⟩:=Gp
 cases e
 exact k [] H G fp .refl rel rfl
theorem af {e:Expr} {es:List Expr} {f:FO} {g:FOs} (h:QO X e f) (hs:K6 X es g) (KD:starEach (e :: es) X.env=(false,eval e X.env) :: starEach es X.env:=by rfl):K6 X (e :: es) (ag f g):=
 rF (gy h hs KD) fun σ H Q Gp=>by
  obtain ⟨G,env,fp,o,env',rel,e,k⟩:=Gp
  obtain ⟨⟨o1,F7⟩,e1,e⟩:=ar e
  obtain ⟨⟨os,Gh⟩,e2,e⟩:=ar e
  cases e
  exact ⟨G,env,fp,o1,F7,rel,e1,fun v H1 G1 Gx Gr Gd Ib=>⟨G1,F7,Gx,os,Gh,Gd,e2,fun vs H2 G2 GU Gk F8 KW=>k _ H2 G2 GU (Gr.trans Gk) F8 ⟨v,vs,rfl,Ib.mono Gk.gg,KW⟩⟩⟩
def az (g:D->D->Res R) (fa fb:FO):FX:=fun env=>(fa env).bind fun p=>(fb p.2).bind fun q=>(HW q.2 p.1).bind fun a=>(HW q.2 q.1).bind fun b=>(g a b).bind fun r=>.ok (r,q.2)
def bq (g:D->D->Res R) (fa fb:FO):FX:=fun env=>(fa env).bind fun p=>(fb p.2).bind fun q=>(tP q.2 p.1).bind fun a=>(tP q.2 q.1).bind fun b=>(g a b).bind fun r=>.ok (r,q.2)
structure Goes (K:W.Frag) (H:Hp) (G:Hp) (fp:List Addr) (es:PV.Env) (vs:L2.St) (r:R) (Q:VK):Prop where
 rel:Rel K G H es vs fp
 goes:∀ v H' G' Gj,Step G H fp G' H' Gj->Rel K G' H' (some r :: es) (some v :: vs) Gj->Q v H'
inductive rG (K:W.Frag) (g:D->D->Res R) (x:V) (y:V) (H:Hp) (Q:VK):Prop
 | mk:∀ G fp es vs a b r,Goes K H G fp es vs r Q->Vw K G H a x->Vw K G H b y->g a b=.ok r->rG K g x y H Q
inductive rGA (K:W.Frag) (g:D->D->Res R) (x:V) (y:V) (H:Hp) (Q:VK):Prop
 | mk:∀ G fp es vs a b r,Goes K H G fp es vs r Q->Rep K H a x->Rep K H b y->g a b=.ok r->rGA K g x y H Q
variable {a b c:Expr} {fa fb fc:FO} {pos:Pos} {g g':D->D->Res R}
theorem vz {σ:L2.St} {H:Hp} {Q:VK} (h:tQ X.K (az g fa fb) σ H Q):N3 (rG X.K g) (tO X.K fa) (tO X.K fb) σ H Q:=by
 obtain ⟨G,env,fp,r,env',rel,e,k⟩:=h
 obtain ⟨⟨oa,e1⟩,ha,e⟩:=ar e
 obtain ⟨⟨ob,e2⟩,hb,e⟩:=ar e
 obtain ⟨da,L9,e⟩:=ar e
 obtain ⟨db,Jk,e⟩:=ar e
 obtain ⟨r',hr,e⟩:=ar e
 cases e
 exact ⟨G,env,fp,oa,e1,rel,ha,fun x H1 G1 Gx Gr Gd Ib=>⟨G1,e1,Gx,ob,e2,Gd,hb,fun y H2 G2 GU Gk F8 KW=>
  ⟨G2,GU,e2,σ,da,db,r,⟨F8,fun v H' G' Gj st GD=>k v H' G' Gj (Gr.trans (Gk.trans st)) GD⟩,F8.vw (Ib.mono Gk.gg) L9,F8.vw KW Jk,hr⟩⟩⟩
theorem vA {σ:L2.St} {H:Hp} {Q:VK} (h:tQ X.K (bq g fa fb) σ H Q):N3 (rGA X.K g) (tO X.K fa) (tO X.K fb) σ H Q:=by
 obtain ⟨G,env,fp,r,env',rel,e,k⟩:=h
 obtain ⟨⟨oa,e1⟩,ha,e⟩:=ar e
 obtain ⟨⟨ob,e2⟩,hb,e⟩:=ar e
 obtain ⟨da,L9,e⟩:=ar e
 obtain ⟨db,Jk,e⟩:=ar e
 obtain ⟨r',hr,e⟩:=ar e
 cases e
 exact ⟨G,env,fp,oa,e1,rel,ha,fun x H1 G1 Gx Gr Gd Ib=>⟨G1,e1,Gx,ob,e2,Gd,hb,fun y H2 G2 GU Gk F8 KW=>
  ⟨G2,GU,e2,σ,da,db,r,⟨F8,fun v H' G' Gj st GD=>k v H' G' Gj (Gr.trans (Gk.trans st)) GD⟩,F8.vwA (Ib.mono Gk.gg) L9,F8.vwA KW Jk,hr⟩⟩⟩
theorem aG {op:Operator} (ho:Hf X (binaryOp op) (rG X.K g)) (ha:QO X a fa) (hb:QO X b fb):QE X (.BinOp a op b pos) (az g fa fb):=bX (DZ ho ha hb) fun _ _ _=>vz
theorem j6 {op:CmpOp} (ho:Hf X (compareOp op) (rGA X.K g)) (ha:QO X a fa) (hb:QO X b fb) (hm:behindInMarks op b=false):QE X (.Compare a [op] [b] pos) (bq g fa fb):=bX (y8 ho ha hb hm) fun _ _ _=>vA
def GC (f:FX):FT:=fun env=>(f env).bind fun p=>match p.1.2 with
 | .bl k=>.ok (k,p.2)
 | _=>.bad
theorem zS {f:FX} {σ:L2.St} {H:Hp} {Q:Bool->Hp->Prop} (h:tQT X.K (GC f) σ H Q):tQ X.K f σ H fun x H'=>∃ k,x=.bl k/\Q k H':=by
 obtain ⟨G,env,fp,k,env',rel,e,q⟩:=h
 obtain ⟨⟨⟨o,d⟩,F7⟩,e1,e⟩:=ar e
 dsimp only at e
 split at e
 ·cases e
  refine ⟨G,env,fp,_,_,rel,e1,fun v H' G' Gj st GD=>?_⟩
  have hv:=GD.top
  rw [show ((o,D.bl k):R).2=D.bl k from rfl,Rep] at hv
  obtain ⟨b,F8,Gk⟩:=GD.drop
  exact ⟨k,hv,q H' G' b (st.trans Gk) F8⟩
 ·cases e
theorem f6 {e:Expr} {f:FX} (h:QE X e f) (he:∀ whole,isTrue e X.env whole=(do let v <-whole;standAt e.pos;holding [v] (truthy v)):=by intro _;rfl):QT X e (GC f):=rE (Bq h he) fun _ _ _=>zS
theorem m6 {op:CmpOp} (ho:Hf X (compareOp op) (rG X.K g)) (ha:QO X a fa) (hb:QO X b fb) (hm:behindInMarks op b=false):QT X (.Compare a [op] [b] pos) (GC (az g fa fb)):=
 rE (uG ho ha hb hm) fun _ _ _ h=>vz (zS h)
theorem ba {op:CmpOp} (ho:Hf X (compareOp op) (rGA X.K g)) (ha:QO X a fa) (hb:QO X b fb) (hm:behindInMarks op b=false):QT X (.Compare a [op] [b] pos) (GC (bq g fa fb)):=
 rE (uG ho ha hb hm) fun _ _ _ h=>vA (zS h)
def Be (f g:FT):FT:=fun env=>(f env).bind fun p=>if p.1 then g p.2 else .ok (false,p.2)
def LS (f g:FT):FT:=fun env=>(f env).bind fun p=>if p.1 then .ok (true,p.2) else g p.2
def um (f:FT):FT:=fun env=>(f env).bind fun p=>.ok (!p.1,p.2)
variable {ga gb:FT} {eD:List Expr}
theorem nR (h:QT X a ga):QW X (.BoolOp .And [a] pos) ga:=y0 h
theorem lE (h:QT X a ga):QW X (.BoolOp .Or [a] pos) ga:=Br h
theorem rK (h:QT X a ga) (h2:QW X (.BoolOp .And (b :: eD) pos) gb):QW X (.BoolOp .And (a :: b :: eD) pos) (Be ga gb):=yx (Bs h h2) fun σ H Q Gp=>by
 obtain ⟨G,env,fp,k,env',rel,e,q⟩:=Gp
 obtain ⟨⟨k1,F7⟩,e1,e⟩:=ar e
 refine ⟨G,env,fp,k1,F7,rel,e1,fun H1 G1 Gx Gr Gd=>?_⟩
 dsimp only at e
 cases k1 with
 | true=>exact ⟨G1,F7,Gx,k,env',Gd,e,fun H2 G2 GU Gk F8=>q H2 G2 GU (Gr.trans Gk) F8⟩
 | false=>
  cases e
  exact q H1 G1 Gx Gr Gd
theorem pq (h:QT X a ga) (h2:QW X (.BoolOp .Or (b :: eD) pos) gb):QW X (.BoolOp .Or (a :: b :: eD) pos) (LS ga gb):=yx (DN h h2) fun σ H Q Gp=>by
 obtain ⟨G,env,fp,k,env',rel,e,q⟩:=Gp
 obtain ⟨⟨k1,F7⟩,e1,e⟩:=ar e
 refine ⟨G,env,fp,k1,F7,rel,e1,fun H1 G1 Gx Gr Gd=>?_⟩
 dsimp only at e
 cases k1 with
 | false=>exact ⟨G1,F7,Gx,k,env',Gd,e,fun H2 G2 GU Gk F8=>q H2 G2 GU (Gr.trans Gk) F8⟩
 | true=>
  cases e
  exact q H1 G1 Gx Gr Gd
theorem QW.qt {e:Expr} {f:FT} (h:QW X e f):QT X e f:=h.pt
theorem iW (h:QT X a ga):QT X (.UnaryOp .Not a pos) (um ga):=rE (Bt h) fun σ H Q Gp=>by
 obtain ⟨G,env,fp,k,env',rel,e,q⟩:=Gp
 obtain ⟨⟨k1,F7⟩,e1,e⟩:=ar e
 cases e
 exact ⟨G,env,fp,k1,F7,rel,e1,fun H1 G1 Gx Gr Gd=>q H1 G1 Gx Gr Gd⟩
def Ej (f g:FX):FX:=fun env=>(f env).bind fun p=>match p.1.2 with
 | .bl true=>g p.2
 | .bl false=>.ok ((.f,.bl false),p.2)
 | _=>.bad
def OF (f g:FX):FX:=fun env=>(f env).bind fun p=>match p.1.2 with
 | .bl true=>.ok ((.f,.bl true),p.2)
 | .bl false=>g p.2
 | _=>.bad
def Ek (f:FX):FX:=fun env=>(f env).bind fun p=>match p.1.2 with
 | .bl k=>.ok ((.f,.bl (!k)),p.2)
 | _=>.bad
def eIf (c:FT) (f g:FX):FX:=fun env=>(c env).bind fun p=>if p.1 then f p.2 else g p.2
variable {ea eb:FX}
theorem yy {op} (h:QE X a ea):QE X (.BoolOp op [a] pos) ea:=Bu h
theorem de {K:W.Frag} {G:Hp} (k:Bool):Rep K G (.bl k) (.bl k):=by rw [Rep]
theorem bo {K:W.Frag} {G:Hp} (k:Int):Rep K G (.int k) (.int k):=by rw [Rep]
theorem qp {K:W.Frag} {G:Hp}:Rep K G .non .non:=by rw [Rep]
theorem jb {K:W.Frag} {G:Hp} {l:List Nat} (h:l.length<=sizeLine):Rep K G (.str l) (.str (S l)):=by
 rw [Rep]
 exact ⟨rfl,h⟩
theorem c6 {K:W.Frag} {G:Hp} {k:Bool} {v:V} (h:Rep K G (.bl k) v):v=.bl k:=by rw [Rep] at h;exact h
theorem bU {K:W.Frag} {G:Hp} {k:Int} {v:V} (h:Rep K G (.int k) v):v=.int k:=by rw [Rep] at h;exact h
theorem cQ {K:W.Frag} {G:Hp} {v:V} (h:Rep K G .non v):v=.non:=by rw [Rep] at h;exact h
theorem bN {K:W.Frag} {G:Hp} {l:List Nat} {v:V} (h:Rep K G (.str l) v):v=.str (S l)/\l.length<=sizeLine:=by rw [Rep] at h;exact h
inductive OfT (K:W.Frag) (G:Hp) (l:List D) (v:V):Prop
 | mk (p:Addr) (xs:List V) (e:v=.ref p) (q:SqT K G p xs) (r:Reps K G l xs):OfT K G l v
inductive OfL (K:W.Frag) (G:Hp) (l:List D) (v:V):Prop
 | mk (p:Addr) (xs:List V) (e:v=.ref p) (q:SqL K G p xs) (r:Reps K G l xs):OfL K G l v
theorem bH {K:W.Frag} {G:Hp} {l:List D} {v:V} (h:Rep K G (.tup l) v):OfT K G l v:=by
 rw [Rep] at h
 obtain ⟨p,xs,e,q,r⟩:=h
 exact ⟨p,xs,e,SqT.of q,r⟩
theorem vB {K:W.Frag} {G:Hp} {l:List D} {v:V} (h:Rep K G (.tup l) v):∃ p xs,v=.ref p/\G p=some (.tup xs)/\Reps K G l xs:=by rw [Rep] at h;exact h
theorem bV {K:W.Frag} {G:Hp} {l:List D} {v:V} (h:Rep K G (.lst l) v):OfL K G l v:=by
 rw [Rep] at h
 obtain ⟨p,xs,e,q,r⟩:=h
 exact ⟨p,xs,e,q,r⟩
theorem El {K:W.Frag} {G H:Hp} {k:Bool} {v:V} (h:Vw K G H (.bl k) v):v=.bl k:=c6 (K:=K) (G:=G) h
theorem bW {K:W.Frag} {G H:Hp} {k:Int} {v:V} (h:Vw K G H (.int k) v):v=.int k:=bU (K:=K) (G:=G) h
theorem g8 {K:W.Frag} {G H:Hp} {l:List Nat} {v:V} (h:Vw K G H (.str l) v):v=.str (S l)/\l.length<=sizeLine:=bN (K:=K) (G:=G) h
theorem iX {K:W.Frag} {G H:Hp} {l:List D} {v:V} (h:Vw K G H (.tup l) v):OfT K G l v:=bH (K:=K) (G:=G) h
theorem B7 (h:QE X a ea) (h2:QE X (.BoolOp .And (b :: eD) pos) eb):QE X (.BoolOp .And (a :: b :: eD) pos) (Ej ea eb):=bX (Bv h h2) fun σ H Q Gp=>by
 obtain ⟨G,env,fp,r,env',rel,e,q⟩:=Gp
 obtain ⟨⟨⟨o,d⟩,F7⟩,e1,e⟩:=ar e
 refine ⟨G,env,fp,_,F7,rel,e1,fun v H1 G1 Gx Gr Gd=>?_⟩
 have hv:=Gd.top
 obtain ⟨b',F8,Gk⟩:=Gd.drop
 dsimp only at e hv
 split at e
 ·exact ⟨true,c6 hv,BV ⟨G1,F7,b',r,env',F8,e,fun v H2 G2 GU GO Gz=>q v H2 G2 GU (Gr.trans (Gk.trans GO)) Gz⟩⟩
 ·cases e
  exact ⟨false,c6 hv,iteF (q _ H1 G1 b' (Gr.trans Gk) (F8.push (de _)))⟩
 ·cases e
theorem Em (h:QE X a ea) (h2:QE X (.BoolOp .Or (b :: eD) pos) eb):QE X (.BoolOp .Or (a :: b :: eD) pos) (OF ea eb):=bX (DQ h h2) fun σ H Q Gp=>by
 obtain ⟨G,env,fp,r,env',rel,e,q⟩:=Gp
 obtain ⟨⟨⟨o,d⟩,F7⟩,e1,e⟩:=ar e
 refine ⟨G,env,fp,_,F7,rel,e1,fun v H1 G1 Gx Gr Gd=>?_⟩
 have hv:=Gd.top
 obtain ⟨b',F8,Gk⟩:=Gd.drop
 dsimp only at e hv
 split at e
 ·cases e
  exact ⟨true,c6 hv,BV (q _ H1 G1 b' (Gr.trans Gk) (F8.push (de _)))⟩
 ·exact ⟨false,c6 hv,iteF ⟨G1,F7,b',r,env',F8,e,fun v H2 G2 GU GO Gz=>q v H2 G2 GU (Gr.trans (Gk.trans GO)) Gz⟩⟩
 ·cases e
theorem B8 (h:QE X a ea):QE X (.UnaryOp .Not a pos) (Ek ea):=bX (Bw h) fun σ H Q Gp=>by
 obtain ⟨G,env,fp,r,env',rel,e,q⟩:=Gp
 obtain ⟨⟨⟨o,d⟩,F7⟩,e1,e⟩:=ar e
 refine ⟨G,env,fp,_,F7,rel,e1,fun v H1 G1 Gx Gr Gd=>?_⟩
 have hv:=Gd.top
 obtain ⟨b',F8,Gk⟩:=Gd.drop
 dsimp only at e hv
 split at e
 ·cases e
  exact ⟨_,c6 hv,q _ H1 G1 b' (Gr.trans Gk) (F8.push (de _))⟩
 ·cases e
def E3 (g g':D->D->Res R) (fa fb fc:FO):FX:=fun env=>(fa env).bind fun p=>(fb p.2).bind fun q=>(HW q.2 p.1).bind fun a=>(HW q.2 q.1).bind fun b=>(g a b).bind fun r=>match r with
 | (.f,.bl true)=>(fc q.2).bind fun t=>(HW t.2 q.1).bind fun b=>(HW t.2 t.1).bind fun c=>(g' b c).bind fun r=>.ok (r,t.2)
 | (.f,.bl false)=>.ok ((.f,.bl false),q.2)
 | _=>.bad
inductive rC (K:W.Frag) (g:List D->Res R) (xs:List V) (H:Hp) (Q:VK):Prop
 | mk:∀ G fp es vs ds r,Goes K H G fp es vs r Q->MR K G H ds xs->g ds=.ok r->rC K g xs H Q
def aZ (g:List D->Res R) (fs:FOs):FX:=fun env=>(fs env).bind fun p=>(pj p.2 p.1).bind fun ds=>(g ds).bind fun r=>.ok (r,p.2)
theorem vC {gg:List D->Res R} {fs:FOs} {σ:L2.St} {H:Hp} {Q:VK} (h:tQ X.K (aZ gg fs) σ H Q):P2 (rC X.K gg) (tOs X.K fs) σ H Q:=by
 obtain ⟨G,env,fp,r,env',rel,e,k⟩:=h
 obtain ⟨⟨os,e1⟩,ha,e⟩:=ar e
 obtain ⟨ds,hd,e⟩:=ar e
 obtain ⟨r',hr,e⟩:=ar e
 cases e
 exact ⟨G,env,fp,os,e1,rel,ha,fun vs H1 G1 Gx Gr Gd Ib=>⟨G1,Gx,e1,σ,ds,r,⟨Gd,fun v H' G' Gj st GD=>k v H' G' Gj (Gr.trans st) GD⟩,Gd.vws Ib hd,hr⟩⟩
variable {x:Str} {p:Pos} {e:Expr} {es:List Expr} {gg:List D->Res R} {fs:FOs} {id T:String}
theorem aR (hc:dI X (.builtin id) (rC X.K gg)) (hg:Gl X x) (hm:X.mg x=none) (hv:bootBuiltins x=some (.builtin id)) (ha:K6 X (e :: es) fs) (hn:x≠"__name__":=by decide) (Jk:(x == ("__debug__" : Str))=false:=by decide)
  (he:starEach (e :: es) X.env=(false,eval e X.env) :: starEach es X.env:=by rfl) (Iq:(backTo pos (starEach es X.env)).any (·.1)=false:=by rfl):QE X (.Call (.Name x p) (e :: es) [] pos) (aZ gg fs):=
 bX (qY hc hg hm hv ha hn Jk he Iq) fun _ _ _=>vC
theorem br (hc:dI X (.type T) (rC X.K gg)) (hg:Gl X x) (hm:X.mg x=none) (hv:bootBuiltins x=some (.type T)) (ha:K6 X (e :: es) fs) (hn:x≠"__name__":=by decide) (Jk:(x == ("__debug__" : Str))=false:=by decide)
  (he:starEach (e :: es) X.env=(false,eval e X.env) :: starEach es X.env:=by rfl) (Iq:(backTo pos (starEach es X.env)).any (·.1)=false:=by rfl):QE X (.Call (.Name x p) (e :: es) [] pos) (aZ gg fs):=
 bX (uL hc hg hm hv ha hn Jk he Iq) fun _ _ _=>vC
inductive spF (K:W.Frag) (F:List D->Res R) (vs:List V) (H:Hp) (Q:VK) (zz:XK):Prop
 | mk:∀ G ds r,Same G H->Reps K G ds vs->F ds=.ok r->(∀ v H' G' Gj,Step G H [] G' H' Gj->Rel K G' H' [some r] [some v] Gj->Q v H')->spF K F vs H Q zz
def cw (F:List D->Res R) (fs:FOs):FX:=fun env=>(fs env).bind fun p=>(mM p.2 p.1).bind fun ds=>(F ds).bind fun r=>.ok (r,if cx r.1 r.2 then p.2 else p.2.map frz)
theorem aP {F:List D->Res R} {k:Nat} (C:Ct X.prog X.w X.K X.mg X.base x k (spF X.K F)) (hr:Room k X.A) (hg:Gl X x) (ha:K6 X (e :: es) fs) (Jk:(x == ("__debug__" : Str))=false:=by decide)
  (he:starEach (e :: es) X.env=(false,eval e X.env) :: starEach es X.env:=by rfl) (Iq:(backTo pos (starEach es X.env)).any (·.1)=false:=by rfl):QE X (.Call (.Name x p) (e :: es) [] pos) (cw F fs):=
 bX (Eb C hr hg ha Jk he Iq) fun σ H Q Gp=>by
  obtain ⟨G,env,fp,r,env',rel,e,k⟩:=Gp
  obtain ⟨⟨os,e1⟩,ha,e⟩:=ar e
  obtain ⟨ds,hd,e⟩:=ar e
  obtain ⟨r',hr,e⟩:=ar e
  refine ⟨G,env,fp,os,e1,rel,ha,fun vs H1 G1 Gx Gr Gd Ib=>?_⟩
  show spF X.K F (vs++[]) H1 Q _
  rw [SW]
  obtain ⟨G2,Qn,Qo,JQ,_,Ln⟩:=Gd.lend
  refine ⟨G2,ds,r',Qo,pk Qn JQ Ib hd,hr,fun v H' G' Gj st GD=>?_⟩
  obtain ⟨k1,k2⟩:=Ln H' G' Gj r' v st GD
  by_cases hc:cx r'.1 r'.2=true
  ·rw [RO hc] at e
   cases e
   obtain ⟨G3,Jj,GO,Gz⟩:=k1 hc
   exact k v H' G3 Jj (Gr.trans GO) Gz
  ·rw [RY hc] at e
   cases e
   obtain ⟨G3,Jj,GO,Gz⟩:=k2
   exact k v H' G3 Jj (Gr.trans GO) Gz
end
def sSeq (g1 g2:FS):FS:=fun env=>(g1 env).bind fun o=>match o with
 | .nx e=>g2 e
 | o=>.ok o
def cP:FS:=fun env=>.ok (.nx env)
def yz:FS:=fun _=>.bad
def bM (i:Nat) (f:FX):FS:=fun env=>(f env).bind fun p=>if i < p.2.length then .ok (.nx (p.2.set i (some p.1))) else .bad
def f7 (f:FX):FS:=fun env=>(f env).bind fun p=>.ok (.nx p.2)
def dJ (f:FX):FS:=fun env=>(f env).bind fun p=>.ok (.rt p.1)
def HE (c:FT) (g h:FS):FS:=fun env=>(c env).bind fun p=>if p.1 then g p.2 else h p.2
section
variable {md:Mode} {X:Cx} {st:Stmt} {Rb:List Stmt} {g h:FS} {f:FX} {c:FT} {pos:Pos} {e:Expr}
theorem a9:LR (md:=md) X [] cP:=vy y1 fun D σ H ⟨G,env,fp,rel,k⟩=>k σ H G fp .refl rel
theorem av (a:QS (md:=md) X st g):LR (md:=md) X [st] g:=y2 a
theorem ah (a:QS (md:=md) X st g) (b:LR (md:=md) X Rb h):LR (md:=md) X (st :: Rb) (sSeq g h):=vy (wZ a b) fun D σ H Gp=>by
 obtain ⟨G,env,fp,rel,k⟩:=Gp
 refine ⟨G,env,fp,rel,?_⟩
 have k:OutOk X.K G H fp D ((g env).bind fun o=>match o with | .nx e=>h e | o=>.ok o):=k
 match q:g env,k with
 | .ok (.nx F7),k=>exact fun σ1 H1 G1 Gx Gr Gd=>⟨G1,F7,Gx,Gd,OutOk.after Gr k⟩
 | .ok (.bk F7),k=>exact k
 | .ok (.ct F7),k=>exact k
 | .ok (.rt r),k=>exact k
theorem xA:QS (md:=md) X st yz:=g7 w4 fun D σ H ⟨G,env,fp,rel,k⟩=>k
theorem vD {K:W.Frag} {G H:Hp} {fp:List Addr} {D:Ends} {i:Nat} {env:PV.Env} {σ:L2.St} (rel:Rel K G H env σ fp) (k:OutOk (md:=md) K G H fp D (bM i f env)):tQ K f σ H fun v H'=>D.nx (σ.set i (some v)) H':=by
 unfold bM at k
 match q:f env,k with
 | .ok (r,F7),k=>
  have k:OutOk K G H fp D (if i < F7.length then .ok (.nx (F7.set i (some r))) else .bad):=k
  by_cases hi:i < F7.length
  ·rw [RO hi] at k
   refine ⟨G,env,fp,r,F7,rel,q,fun v H1 G1 Gx Gr Gd=>?_⟩
   obtain ⟨fq,F8,Gk⟩:=Gd.store hi
   exact k _ H1 G1 fq (Gr.trans Gk) F8
  ·rw [RY hi] at k
   exact k.elim
theorem aH {i:Nat} {x:Str} {pos':Pos} (hN:X.N.Nodup) (hi:X.N[i]?=some x) (hx:Loc X.env.scope x) (he:QE X e f) (hs:swapsWith e (some (.Name x pos')) pos.line X.env=pure false:=by rfl) (hf:X.fn x=true\/X.env.scope.names.lookup x=some .local:=by first | exact .inl rfl | exact .inr rfl | assumption) :
  QS (md:=md) X (.Assign [.Name x pos'] e pos) (bM i f):=g7 (BD (i:=i) hN hi hx he hs hf) fun D σ H ⟨G,env,fp,rel,k⟩=>vD rel k
theorem cT (he:QE X e f) (hs:swapsWith e none pos.line X.env=pure false:=by rfl):QS (md:=md) X (.Expr e pos) (f7 f):=g7 (y3 he hs) fun D σ H Gp=>by
 obtain ⟨G,env,fp,rel,k⟩:=Gp
 unfold f7 at k
 match q:f env,k with
 | .ok (r,F7),k=>
  refine ⟨G,env,fp,r,F7,rel,q,fun v H1 G1 Gx Gr Gd=>?_⟩
  obtain ⟨b,F8,Gk⟩:=Gd.drop
  exact k _ H1 G1 b (Gr.trans Gk) F8
theorem Rel.only {K:W.Frag} {G H:Hp} {r:R} {v:V} {es:PV.Env} {vs:L2.St} {fp:List Addr} (q:Rel K G H (some r :: es) (some v :: vs) fp):∃ a,Rel K G H [some r] [some v] a/\Step G H fp G H a:=by
 obtain ⟨y,ys,e,v',a,b,e1,e2,r1,r2⟩:=q.rep
 cases e
 cases e1
 subst e2
 have nd:=Ss.mp q.nd
 exact ⟨a,⟨⟨some v,[],rfl,v,a,[],rfl,(SW _).symm,r1,rfl,rfl⟩,nd.1,fun p hp=>q.gn p (RV _ hp),q.gh⟩,Step.cut fun p hp=>RV _ hp⟩
theorem aT (he:QE X e f):QS (md:=.plain) X (.Return (some e) pos) (dJ f):=g7 (Bx he) fun D σ H Gp=>by
 obtain ⟨G,env,fp,rel,k⟩:=Gp
 unfold dJ at k
 match q:f env,k with
 | .ok (r,F7),k=>
  refine ⟨G,env,fp,r,F7,rel,q,fun v H1 G1 Gx Gr Gd=>?_⟩
  obtain ⟨b,F8,Gk⟩:=Gd.only
  exact k _ H1 G1 b (Gr.trans Gk) F8
theorem Rel.nilF {K:W.Frag} {G H:Hp} {es:PV.Env} {vs:L2.St} {fp:List Addr} (q:Rel K G H es vs fp):Rel K G H [] [] []:=⟨⟨rfl,rfl⟩,SX,(fun _ h=>nomatch h),q.gh⟩
theorem cW {a b:List Stmt} {ct:Expr} (hc:QT X ct c) (ha:LR (md:=md) X a g) (hb:LR (md:=md) X b h):QS (md:=md) X (.If ct a b pos) (HE c g h):=g7 (DT hc ha hb) fun D σ H Gp=>by
 obtain ⟨G,env,fp,rel,k⟩:=Gp
 unfold HE at k
 match q:c env,k with
 | .ok (true,F7),k=>exact ⟨G,env,fp,true,F7,rel,q,fun H1 G1 Gx Gr Gd=>BV ⟨G1,F7,Gx,Gd,OutOk.after Gr k⟩⟩
 | .ok (false,F7),k=>exact ⟨G,env,fp,false,F7,rel,q,fun H1 G1 Gx Gr Gd=>iteF ⟨G1,F7,Gx,Gd,OutOk.after Gr k⟩⟩
def df (c:FT) (g:FS):Nat->FS
 | 0,_=>.bad
 | n + 1,env=>(c env).bind fun p=>if p.1 then (g p.2).bind fun o=>match o with
  | .nx e=>df c g n e
  | .ct e=>df c g n e
  | .bk e=>.ok (.nx e)
  | .rt r=>.ok (.rt r)
  else .ok (.nx p.2)
theorem lj {ct:Expr} {body:List Stmt} (n:Nat) (hp:PassesOwn (model X.prog X.w) X.A X.env X.xe) (hc:QT X ct c) (hb:LR (md:=md) X body g):QS (md:=md) X (.While ct body [] pos) (df c g n):=
 g7 (w6 hp hc hb) fun D σ H Gp=>by
  obtain ⟨G,env,fp,rel,k⟩:=Gp
  refine ⟨fun m σ' H'=>∃ G' env' Gj,Rel X.K G' H' env' σ' Gj/\OutOk X.K G' H' Gj D (df c g m env'),⟨n,G,env,fp,rel,k⟩,?_⟩
  rintro m σ1 H1 ⟨G1,F7,Gx,Gd,k1⟩
  cases m with
  | zero=>exact k1.elim
  | succ m=>
   unfold df at k1
   match q:c F7,k1 with
   | .ok (false,Gh),k1=>exact ⟨G1,F7,Gx,false,Gh,Gd,q,fun H2 G2 GU Gk F8=>iteF (k1 _ H2 G2 GU Gk F8)⟩
   | .ok (true,Gh),k1=>
    refine ⟨G1,F7,Gx,true,Gh,Gd,q,fun H2 G2 GU Gk F8=>BV ?_⟩
    refine ⟨fun σ' H'=>∃ G' env' Gj,Rel X.K G' H' env' σ' Gj/\OutOk X.K G' H' Gj D (df c g m env'),fun σ' H' z=>⟨m,T6 _,z⟩,G2,Gh,GU,F8,?_⟩
    have k2:OutOk X.K G1 H1 Gx D ((g Gh).bind fun o=>match o with | .nx e=>df c g m e | .ct e=>df c g m e | .bk e=>.ok (.nx e) | .rt r=>.ok (.rt r)):=k1
    match q2:g Gh,k2 with
    | .ok (.nx e),k2=>exact fun σ' H' G' Gj st rel=>⟨G',e,Gj,rel,OutOk.after (Gk.trans st) k2⟩
    | .ok (.ct e),k2=>exact fun σ' H' G' Gj st rel=>⟨G',e,Gj,rel,OutOk.after (Gk.trans st) k2⟩
    | .ok (.bk e),k2=>exact fun σ' H' G' Gj st rel=>k2 σ' H' G' Gj (Gk.trans st) rel
    | .ok (.rt r),k2=>exact fun v H' G' Gj st rel=>k2 v H' G' Gj (Gk.trans st) rel
def Walk (K:W.Frag) (G:Hp) (J:It) (ds:List D):Prop:=∀ G' H' es vs fp,Same G G'->Rel K G' H' es vs fp->∀ i:Nat,
 (∀ d,ds[i]?=some d->J.go i H'/\∀ x H2,J.yld i H' x H2->∃ G2,Rep K G2 d x/\Rel K G2 H2 es vs fp/\Step G' H' fp G2 H2 fp)/\(i=ds.length->J.stop i H')
abbrev FI:=PV.Env->Res (List D×PV.Env)
inductive tQI (K:W.Frag) (f:FI) (σ:L2.St) (H:Hp) (R:It->Hp->Prop):Prop
 | mk:∀ G env fp ds env',Rel K G H env σ fp->f env=.ok (ds,env')->(∀ J H' G' Gj,Step G H fp G' H' Gj->Rel K G' H' env' σ Gj->Walk K G' J ds->R J H')->tQI K f σ H R
def QI (X:Cx) (tg e:Expr) (f:FI):Prop:=PI X tg e (tQI X.K f)
theorem kA {X:Cx} {tg e:Expr} {t t':TI} (h:PI X tg e t) (k:∀ σ H R,t' σ H R->t σ H R):PI X tg e t':=fun pins s σ H R I w=>h pins s σ H R I (k σ H R w)
abbrev FG:=D->PV.Env->Res PV.Env
inductive tQG (K:W.Frag) (a:FG) (v:V) (σ:L2.St) (H:Hp) (Q:L2.St->Hp->Prop):Prop
 | mk:∀ G env fp d env',Rel K G H env σ fp->Rep K G d v->a d env=.ok env'->(∀ σ' G' Gj,Step G H fp G' H Gj->Rel K G' H env' σ' Gj->Q σ' H)->tQG K a v σ H Q
def QG (X:Cx) (tg:Expr) (a:FG):Prop:=PG X tg (tQG X.K a)
def aw (i:Nat):FG:=fun d env=>if i < env.length then .ok (env.set i (some (.f,d))) else .bad
theorem yA {X:Cx} {tg:Expr} {t t':TG} (h:PG X tg t) (k:∀ v σ H Q,t' v σ H Q->t v σ H Q):PG X tg t':=fun pins s σ H v u Q I r w=>h pins s σ H v u Q I r (k v σ H Q w)
theorem vE {X:Cx} {tg:List Expr} {t t':MM} (h:M1 X tg t) (k:∀ v σ H Q,t' v σ H Q->t v σ H Q):M1 X tg t':=fun pins s σ H v u Q I r w=>h pins s σ H v u Q I r (k v σ H Q w)
theorem ay {i:Nat} {x:Str} (hN:X.N.Nodup) (hi:X.N[i]?=some x) (hx:Loc X.env.scope x) (hf:X.fn x=true\/X.env.scope.names.lookup x=some .local:=by first | exact .inl rfl | exact .inr rfl | assumption):QG X (.Name x pos) (aw i):=
 yA (y4 (i:=i) hN hi hx hf) fun v σ H Q Gp=>by
  obtain ⟨G,env,fp,d,env',rel,r,e,k⟩:=Gp
  unfold aw at e
  split at e
  ·rename_i hl
   cases e
   obtain ⟨fq,F8,Gk⟩:=(rel.push r).store hl
   exact k _ G fq Gk F8
  ·cases e
abbrev Ma:=List D->PV.Env->Res PV.Env
inductive tQGs (K:W.Frag) (a:Ma) (vs:List V) (σ:L2.St) (H:Hp) (Q:L2.St->Hp->Prop):Prop
 | mk:∀ G env fp ds env',Rel K G H env σ fp->Reps K G ds vs->a ds env=.ok env'->(∀ σ' G' Gj,Step G H fp G' H Gj->Rel K G' H env' σ' Gj->Q σ' H)->tQGs K a vs σ H Q
def Pt (X:Cx) (tg:List Expr) (a:Ma):Prop:=M1 X tg (tQGs X.K a)
def b8:Ma:=fun ds env=>match ds with
 | []=>.ok env
 | _=>.bad
def aA (a:FG) (b:Ma):Ma:=fun ds env=>match ds with
 | d :: ds=>(a d env).bind fun e=>b ds e
 | _=>.bad
theorem cp:Pt X [] b8:=vE y6 fun vs σ H Q Gp=>by
 obtain ⟨G,env,fp,ds,env',rel,r,e,k⟩:=Gp
 cases ds with
 | nil=>
  cases e
  rw [Reps] at r
  exact ⟨r,k σ G fp .refl rel⟩
 | cons d ds=>cases e
theorem aF {tg:Expr} {KY:List Expr} {a:FG} {b:Ma} (h1:QG X tg a) (h2:Pt X KY b) (hs:(assignEach (tg :: KY) X.env).map (·.2)=assign tg X.env :: (assignEach KY X.env).map (·.2):=by rfl):Pt X (tg :: KY) (aA a b):=
 vE (w5 h1 h2 hs) fun vs σ H Q Gp=>by
  obtain ⟨G,env,fp,ds,env',rel,r,e,k⟩:=Gp
  cases ds with
  | nil=>cases e
  | cons d ds=>
   rw [Reps] at r
   obtain ⟨y,ys,ev,r1,r2⟩:=r
   obtain ⟨F7,e1,e2⟩:=ar e
   exact ⟨y,ys,ev,G,env,fp,d,F7,rel,r1,e1,fun σ1 G1 Gx Gr Gd=>⟨G1,F7,Gx,ds,env',Gd,r2.mono Gr.gg,e2,fun σ2 G2 GU Gk F8=>k σ2 G2 GU (Gr.trans Gk) F8⟩⟩
def fO (n:Nat) (a:Ma):FG:=fun d env=>match d with
 | .tup ds=>if ds.length=n then a ds env else .bad
 | _=>.bad
theorem dB {KY:List Expr} {k n:Nat} {a:Ma} (hc:X.calm=true) (h:Pt X KY a) (hn:(assignEach KY X.env).length=n:=by rfl) (KD:(assignEach KY X.env).findIdx? (·.1)=none:=by rfl):QG X (.Tuple KY k pos) (fO n a):=
 yA (BA hc h hn KD) fun v σ H Q Gp=>by
  obtain ⟨G,env,fp,d,env',rel,r,e,k⟩:=Gp
  unfold fO at e
  split at e
  ·rename_i ds
   split at e
   ·rename_i hl
    obtain ⟨p,xs,ev,sq,rs⟩:=bH r
    exact ⟨p,xs,ev,cb rel.gh sq,rs.length.trans hl,G,env,fp,ds,env',rel,rs,e,k⟩
   ·cases e
  ·cases e
def kB (a:FG) (g:FS):List D->FS
 | [],env=>.ok (.nx env)
 | d :: ds,env=>(a d env).bind fun e=>(g e).bind fun o=>match o with
  | .nx e=>kB a g ds e
  | .ct e=>kB a g ds e
  | .bk e=>.ok (.nx e)
  | .rt r=>.ok (.rt r)
def lF (f:FI) (a:FG) (g:FS):FS:=fun env=>(f env).bind fun p=>kB a g p.1 p.2
theorem dC {tg iter:Expr} {body:List Stmt} {fi:FI} {a:FG} (hp:PassesOwn (model X.prog X.w) X.A X.env X.xe) (hc:X.calm=true) (hi:QI X tg iter fi) (hg:QG X tg a) (hb:LR (md:=md) X body g) (hs:∀ x,foldedSetIterable iter X.env x=pure x:=by intro _;rfl):QS (md:=md) X (.For tg iter body [] pos) (lF fi a g):=
 g7 (BG hp hc hi hg hb hs) fun D σ H Gp=>by
  obtain ⟨G,env,fp,rel,k⟩:=Gp
  unfold lF at k
  match q:fi env,k with
  | .ok (ds,F7),k=>
   refine ⟨G,env,fp,ds,F7,rel,q,fun J H1 G1 Gx Gr Gd wk=>?_⟩
   have k:OutOk X.K G H fp D (kB a g ds F7):=k
   refine ⟨fun i m σ' H'=>m=ds.length - i/\i<=ds.length/\∃ G' env' Gj,Same G1 G'/\Rel X.K G' H' env' σ' Gj/\OutOk X.K G' H' Gj D (kB a g (ds.drop i) env'),⟨_,rfl,So _,G1,F7,Gx,.refl _,Gd,OutOk.after Gr k⟩,?_⟩
   rintro i m σ2 H2 ⟨rfl,hi,G2,Gh,GU,gg,F8,k2⟩
   obtain ⟨w1,w2⟩:=wk G2 H2 _ _ _ gg F8 i
   by_cases GV:i < ds.length
   ·have hd:ds[i]?=some ds[i]:=List.getElem?_eq_getElem GV
    obtain ⟨go,yl⟩:=w1 _ hd
    rw [List.drop_eq_getElem_cons GV] at k2
    refine .inr ⟨go,fun σ' H'=>∃ G' env' Gj,Same G1 G'/\Rel X.K G' H' env' σ' Gj/\OutOk X.K G' H' Gj D (kB a g (ds.drop (i + 1)) env'),fun σ' H' z=>⟨ds.length - (i + 1),by lia,rfl,GV,z⟩,fun x H3 y=>?_⟩
    obtain ⟨G3,rx,Gz,GO⟩:=yl x H3 y
    unfold kB at k2
    match q3:a ds[i] Gh,k2 with
    | .ok Hg,k2=>
     refine ⟨G3,Gh,GU,ds[i],Hg,Gz,rx,q3,fun σ4 G4 OG HV GY=>⟨G4,Hg,OG,GY,?_⟩⟩
     have k3:OutOk X.K G2 H2 GU D ((g Hg).bind fun o=>match o with | .nx e=>kB a g (ds.drop (i + 1)) e | .ct e=>kB a g (ds.drop (i + 1)) e | .bk e=>.ok (.nx e) | .rt r=>.ok (.rt r)):=k2
     match q4:g Hg,k3 with
     | .ok (.nx e),k3=>exact fun σ' H' G' Gj st rel=>⟨G',e,Gj,gg.trans (GO.gg.trans (HV.gg.trans st.gg)),rel,OutOk.after (GO.trans (HV.trans st)) k3⟩
     | .ok (.ct e),k3=>exact fun σ' H' G' Gj st rel=>⟨G',e,Gj,gg.trans (GO.gg.trans (HV.gg.trans st.gg)),rel,OutOk.after (GO.trans (HV.trans st)) k3⟩
     | .ok (.bk e),k3=>exact fun σ' H' G' Gj st rel=>k3 σ' H' G' Gj (GO.trans (HV.trans st)) rel
     | .ok (.rt r),k3=>exact fun v H' G' Gj st rel=>k3 v H' G' Gj (GO.trans (HV.trans st)) rel
   ·have e:i=ds.length:=by lia
    subst e
    rw [List.drop_length] at k2
    exact .inl ⟨w2 rfl,k2 σ2 H2 G2 GU .refl F8⟩
def B9 (f:FX):FI:=fun env=>(f env).bind fun p=>match p.1.2 with
 | .lst ds=>.ok (ds,p.2)
 | _=>.bad
def f9 (f:FX):FI:=fun env=>(f env).bind fun p=>match p.1.2 with
 | .tup ds=>.ok (ds,p.2)
 | _=>.bad
variable {tg l:Expr}
theorem pw {K:W.Frag} {G:Hp} {a:Addr} {xs:List V} {ds:List D} (sq:SqL K G a xs) (rs:Reps K G ds xs):Walk K G (N2 K a) ds:=by
 intro G' H' es vs fp gg rel i
 have HR:SqL K H' a xs:=iP rel.gh (iP gg sq)
 refine ⟨fun d hd=>?_,fun e=>⟨xs,HR,by rw [rs.length];lia⟩⟩
 obtain ⟨x,hx,rx⟩:=rs.get hd
 refine ⟨⟨xs,x,HR,hx⟩,fun y H2 ⟨e,hy⟩=>?_⟩
 subst e
 have:=hy xs HR
 rw [hx] at this
 cases this
 exact ⟨G',Rep.mono gg rx,rel,.refl⟩
theorem xB {K:W.Frag} {G:Hp} {a:Addr} {xs:List V} {ds:List D} (sq:SqT K G a xs) (rs:Reps K G ds xs):Walk K G (PY K a) ds:=by
 intro G' H' es vs fp gg rel i
 have HR:SqT K H' a xs:=cb rel.gh (cb gg sq)
 refine ⟨fun d hd=>?_,fun e=>⟨xs,HR,by rw [rs.length];lia⟩⟩
 obtain ⟨x,hx,rx⟩:=rs.get hd
 refine ⟨⟨xs,x,HR,hx⟩,fun y H2 ⟨e,hy⟩=>?_⟩
 subst e
 have:=hy xs HR
 rw [hx] at this
 cases this
 exact ⟨G',Rep.mono gg rx,rel,.refl⟩
theorem zT (h:QE X l f):QI X tg l (B9 f):=kA (uz h) fun σ H R Gp=>by
 obtain ⟨G,env,fp,ds,env',rel,e,k⟩:=Gp
 obtain ⟨⟨⟨o,d⟩,F7⟩,e1,e⟩:=ar e
 dsimp only at e
 split at e
 ·cases e
  refine ⟨G,env,fp,_,_,rel,e1,fun v H1 G1 Gx Gr Gd=>?_⟩
  obtain ⟨G2,b,rv,F8,Gk⟩:=Gd.freeze
  obtain ⟨p,xs,ev,sq,rs⟩:=bV rv
  exact ⟨p,ev,⟨xs,iP F8.gh sq⟩,k _ H1 G2 b (Gr.trans Gk) F8 (pw sq rs)⟩
 ·cases e
theorem gc (h:QE X l f):QI X tg l (f9 f):=kA (BF h) fun σ H R Gp=>by
 obtain ⟨G,env,fp,ds,env',rel,e,k⟩:=Gp
 obtain ⟨⟨⟨o,d⟩,F7⟩,e1,e⟩:=ar e
 dsimp only at e
 split at e
 ·cases e
  refine ⟨G,env,fp,_,_,rel,e1,fun v H1 G1 Gx Gr Gd=>?_⟩
  obtain ⟨G2,b,rv,F8,Gk⟩:=Gd.freeze
  obtain ⟨p,xs,ev,sq,rs⟩:=bH rv
  exact ⟨p,ev,⟨xs,cb F8.gh sq⟩,k _ H1 G2 b (Gr.trans Gk) F8 (xB sq rs)⟩
 ·cases e
def gf (f:FX):FI:=fun env=>(f env).bind fun p=>match p.1.2 with
 | .str l=>.ok (l.map fun c=>.str [c],p.2)
 | _=>.bad
theorem gj (h:QE X l f):QI X tg l (gf f):=kA (BZ h) fun σ H R Gp=>by
 obtain ⟨G,env,fp,ds,env',rel,e,k⟩:=Gp
 obtain ⟨⟨⟨o,d⟩,F7⟩,e1,e⟩:=ar e
 dsimp only at e
 split at e
 ·rename_i cs
  cases e
  refine ⟨G,env,fp,_,_,rel,e1,fun v H1 G1 Gx Gr Gd=>?_⟩
  obtain ⟨G2,b,rv,F8,Gk⟩:=Gd.freeze
  obtain ⟨ev,hl⟩:=bN rv
  refine ⟨cs,ev,k _ H1 G2 b (Gr.trans Gk) F8 fun G' H' es vs Gj gg GD i=>⟨fun d hd=>?_,fun e=>?_⟩⟩
  ·rw [List.getElem?_map] at hd
   cases hc:cs[i]? with
   | none=>rw [hc] at hd;cases hd
   | some c=>
    rw [hc] at hd
    cases hd
    refine ⟨(List.getElem?_eq_some_iff.mp hc).1,fun x H2 ⟨e1,e2⟩=>?_⟩
    subst e1
    refine ⟨G',?_,GD,.refl⟩
    rw [e2]
    show Rep X.K G' (.str [c]) (.str (S [cs.getD i 0]))
    rw [List.getD_eq_getElem?_getD,hc]
    exact jb (by rw [line_eq];simp)
  ·rw [RJ] at e
   exact e
 ·cases e
def dM (f:FO):FI:=fun env=>(f env).bind fun p=>(HW p.2 p.1).bind fun d=>match d with
 | .int j=>if -4611686018427387904<=j/\j < 4611686018427387904 then .ok ((List.range j.toNat).map fun (k:Nat)=>D.int (k:Int),p.2) else .bad
 | _=>.bad
theorem m7 {K:W.Frag} {G:Hp} (lo:Int) (n:Nat):Walk K G (Oi lo n) ((List.range n).map fun (k:Nat)=>D.int (lo + (k:Int))):=by
 intro G' H' es vs fp gg rel i
 refine ⟨fun d hd=>?_,fun e=>?_⟩
 ·rw [List.getElem?_map] at hd
  cases hc:(List.range n)[i]? with
  | none=>rw [hc] at hd;cases hd
  | some c=>
   rw [hc] at hd
   cases hd
   obtain ⟨h1,h2⟩:=List.getElem?_eq_some_iff.mp hc
   rw [RX] at h1
   rw [List.getElem_range] at h2
   subst h2
   refine ⟨h1,fun x H2 ⟨e1,e2⟩=>?_⟩
   subst e1
   exact ⟨G',by rw [e2];exact bo _,rel,.refl⟩
 ·rw [RJ,RX] at e
  exact Vp e.symm
theorem cG {a:Expr} {fa:FO} {p pos:Pos} (hg:Gl X "range") (hm:X.mg "range" = none) (ha:QO X a fa) (hs:starEach [a] X.env=[(false,eval a X.env)]:=by rfl):QI X tg (.Call (.Name "range" p) [a] [] pos) (dM fa):=
 kA (uA hg hm (af ha ao hs) hs) fun σ H R Gp=>by
  obtain ⟨G,env,fp,ds,env',rel,e,k⟩:=Gp
  obtain ⟨⟨o,F7⟩,e1,e⟩:=ar e
  obtain ⟨d,e2,e⟩:=ar e
  dsimp only at e
  split at e
  ·rename_i j
   split at e
   ·rename_i hj
    cases e
    refine ⟨G,env,fp,[o],_,rel,by show (fa env).bind _=_;rw [e1];rfl,fun vs H1 G1 Gx Gr Gd Ib=>?_⟩
    obtain ⟨y,ys,ev,k1,k2⟩:=Ib
    have k2:ys=[]:=k2
    subst k2
    have hv:=bW (Gd.vw k1 e2)
    subst hv
    refine ⟨j,ev,by lia,by lia,k _ H1 G1 Gx Gr Gd ?_⟩
    have w:=m7 (K:=X.K) (G:=G1) 0 j.toNat
    simpa using w
   ·cases e
  ·cases e
def qq (fs:FOs):FI:=fun env=>(fs env).bind fun p=>(pj p.2 p.1).bind fun d=>match d with
 | [.int i,.int j]=>if (-4611686018427387904<=i/\i < 4611686018427387904)/\-4611686018427387904<=j/\j < 4611686018427387904 then .ok ((List.range (j - i).toNat).map fun (k:Nat)=>D.int (i + (k:Int)),p.2) else .bad
 | _=>.bad
theorem vF {a b:Expr} {fs:FOs} {p pos:Pos} (hg:Gl X "range") (hm:X.mg "range" = none) (ha:K6 X [a,b] fs) (hs:starEach [a,b] X.env=[(false,eval a X.env),(false,eval b X.env)]:=by rfl) (MN:starEach [b] X.env=[(false,eval b X.env)]:=by rfl) :
  QI X tg (.Call (.Name "range" p) [a,b] [] pos) (qq fs):=
 kA (uB hg hm ha hs MN) fun σ H R Gp=>by
  obtain ⟨G,env,fp,ds,env',rel,e,k⟩:=Gp
  obtain ⟨⟨o,F7⟩,e1,e⟩:=ar e
  obtain ⟨d,e2,e⟩:=ar e
  dsimp only at e
  split at e
  ·rename_i i j
   split at e
   ·rename_i hj
    cases e
    refine ⟨G,env,fp,o,_,rel,e1,fun vs H1 G1 Gx Gr Gd Ib=>?_⟩
    obtain ⟨y,ys,ev,v1,z,zs,Qp,v2,e3⟩:=Gd.vws Ib e2
    have e3:zs=[]:=e3
    subst e3
    have h1:=bW v1
    have h2:=bW v2
    subst h1
    subst h2
    subst Qp
    exact ⟨i,j,ev,⟨by lia,by lia,by lia,by lia⟩,k _ H1 G1 Gx Gr Gd (m7 i _)⟩
   ·cases e
  ·cases e
def j7 (k:Bool):D->Res (List D)
 | .lst ds=>if k then .ok ds else .bad
 | .tup ds=>if k then .bad else .ok ds
 | _=>.bad
def tR (k1 k2:Bool) (fs:FOs):FI:=fun env=>(fs env).bind fun p=>match p.1 with
 | [.val d1,.val d2]=>(j7 k1 d1).bind fun a=>(j7 k2 d2).bind fun b=>.ok ((a.zip b).map fun z=>D.tup [z.1,z.2],p.2)
 | _=>.bad
theorem rL {K:W.Frag} {G:Hp} {k:Bool} {d:D} {ds:List D} {v:V} (e:j7 k d=.ok ds) (r:Rep K G d v):∃ p xs,v=.ref p/\(if k then SqL K G p xs else SqT K G p xs)/\Reps K G ds xs:=by
 cases d with
 | lst es=>
  cases k with
  | true=>
   cases e
   obtain ⟨p,xs,e1,q,rs⟩:=bV r
   exact ⟨p,xs,e1,q,rs⟩
  | false=>cases e
 | tup es=>
  cases k with
  | true=>cases e
  | false=>
   cases e
   obtain ⟨p,xs,e1,q,rs⟩:=bH r
   exact ⟨p,xs,e1,q,rs⟩
 | _=>cases e
theorem nS {K:W.Frag} {G G':Hp} {k:Bool} {p:Addr} {xs:List V} (h:Same G G') (r:if k then SqL K G p xs else SqT K G p xs):if k then SqL K G' p xs else SqT K G' p xs:=by
 cases k with
 | true=>exact iP h r
 | false=>exact cb h r
theorem xC {K:W.Frag} {G:Hp} {k1 k2:Bool} {p1 p2:Addr} {xs ys:List V} {as bs:List D} (s1:if k1 then SqL K G p1 xs else SqT K G p1 xs) (s2:if k2 then SqL K G p2 ys else SqT K G p2 ys) (r1:Reps K G as xs) (r2:Reps K G bs ys) :
  Walk K G (Qf K k1 k2 p1 p2) ((as.zip bs).map fun z=>D.tup [z.1,z.2]):=by
 intro G' H' es vs fp gg rel i
 have g1:=nS (gg.trans rel.gh) s1
 have g2:=nS (gg.trans rel.gh) s2
 refine ⟨fun d hd=>?_,fun e=>⟨xs,ys,g1,g2,?_⟩⟩
 ·rw [List.getElem?_map] at hd
  cases hz:(as.zip bs)[i]? with
  | none=>rw [hz] at hd;cases hd
  | some z=>
   rw [hz] at hd
   cases hd
   obtain ⟨h1,h2⟩:=List.getElem?_zip_eq_some.mp hz
   obtain ⟨x,hx,rx⟩:=r1.get h1
   obtain ⟨y,hy,ry⟩:=r2.get h2
   refine ⟨⟨xs,ys,x,y,g1,g2,hx,hy⟩,fun v H2 ⟨T,hT,ev,hh⟩=>?_⟩
   have e2:=hh xs ys x y g1 g2 hx hy
   subst e2
   obtain ⟨F8,Gk⟩:=rel.newF (u:=.tup [x,y]) hT
   refine ⟨_,?_,F8,Gk⟩
   rw [Rep]
   exact ⟨T,[x,y],ev,bQ,.cons (Rep.mono (gg.trans Gk.gg) rx) (.one (Rep.mono (gg.trans Gk.gg) ry))⟩
 ·rw [RJ,S9] at e
  rw [r1.length,r2.length]
  exact e
theorem rM (k1 k2:Bool) {KY:List Expr} {kt:Nat} {pt:Pos} {e1 e2:Expr} {fs:FOs} {p pos:Pos} (hg:Gl X "zip") (hm:X.mg "zip" = none) (ha:K6 X [e1,e2] fs) (he:starEach [e1,e2] X.env=(false,eval e1 X.env) :: starEach [e2] X.env:=by rfl) (Iq:(backTo pos (starEach [e2] X.env)).any (·.1)=false:=by rfl) :
  QI X (.Tuple KY kt pt) (.Call (.Name "zip" p) [e1,e2] [] pos) (tR k1 k2 fs):=
 kA (B2 k1 k2 hg hm ha he Iq) fun σ H R Gp=>by
  obtain ⟨G,env,fp,ds,env',rel,e,k⟩:=Gp
  obtain ⟨⟨o,F7⟩,e1,e⟩:=ar e
  dsimp only at e
  split at e
  ·rename_i d1 d2
   obtain ⟨a,ea,e⟩:=ar e
   obtain ⟨b,eb,e⟩:=ar e
   cases e
   refine ⟨G,env,fp,_,_,rel,e1,fun vs H1 G1 Gx Gr Gd Ib=>?_⟩
   obtain ⟨y,ys,ev,v1,z,zs,Qp,v2,e3⟩:=Ib
   have e3:zs=[]:=e3
   subst e3
   obtain ⟨p1,xs1,ep1,q1,r1⟩:=rL ea v1
   obtain ⟨p2,N9,ep2,q2,r2⟩:=rL eb v2
   subst ep1
   subst ep2
   subst Qp
   exact ⟨p1,p2,xs1,N9,ev,nS Gd.gh q1,nS Gd.gh q2,k _ H1 G1 Gx Gr Gd (xC q1 q2 r1 r2)⟩
  ·cases e
end
def fBody (np nn:Nat) (g:FS):List D->Res R:=fun ds=>if ds.length=np then (g (ds.map (fun d=>some (O.f,d))++List.replicate nn none)).bind fun o=>match o with
 | .rt r=>.ok r
 | .nx _=>.ok (.f,.non)
 | _=>.bad
 else .bad
theorem lG {K:W.Frag} {G H:Hp} (n:Nat):∀ {ds:List D} {vs:List V},Reps K G ds vs->RepE K G H (ds.map (fun d=>some (O.f,d))++List.replicate n none) (vs.map some++List.replicate n none) []
 | [],vs,r=>by
  rw [Reps] at r
  subst r
  show RepE K G H (List.replicate n none) (List.replicate n none) []
  induction n with
  | zero=>exact ⟨rfl,rfl⟩
  | succ n ih=>exact ⟨none,_,rfl,ih⟩
 | d :: ds,vs,r=>by
  rw [Reps] at r
  obtain ⟨y,ys,e,r1,r2⟩:=r
  subst e
  exact ⟨some y,_,rfl,y,[],[],rfl,rfl,kz.mpr ⟨r1,rfl⟩,lG n r2⟩
theorem cX {P:Program} {w:World} {K:W.Frag} {mg:Str->Option Value} {base:Heap} {x:Str} {st:Stmt} {N ps:List Str} {k:Nat} {g:FS} (Df:Def K mg x st) (sc:FnScope N ps (defScope st))
  (hb:∀ (kV doc pm:Value) (an:Option Addr) (Gy ct:Value) (us:List Value),us.length=ps.length->bindArgs (PySem.W.fnOf x x (g5 st) (ft st) (defScope st) .none kV doc pm an Gy ct) ⟨us,[]⟩=pure (ps.zip us))
  (body:∀ (f:Addr) (Gy:Value) (A:Around) (outer:List PySem.Env) (s:Shared) (H:Hp) (E:XK),Room k (A.deeper (envOfC x (defScope st) s.heap.objs.size f Gy))->LR (md:=.plain) (yg Li P w K mg base N x (defScope st) f Gy A outer s H E).nox (ft st) g) :
  Ct P w K mg base x (k + 1) (spF K (fBody ps.length (N.length - ps.length) g)):=by
 obtain ⟨f,fd,F,m⟩:=Df
 refine ⟨f,fd,ps,F.ok sc (fun vs H Q E h=>?_) (fun Gy A outer s H vs Q E hr h=>?_),m,F.kp,F.binds hb⟩
 ·obtain ⟨G,ds,r,_,rs,e,_⟩:=h
  unfold fBody at e
  split at e
  ·rename_i hl
   rw [rs.length,hl]
  ·cases e
 ·obtain ⟨G,ds,r,gh,rs,e,q⟩:=h
  unfold fBody at e
  split at e
  ·rename_i hl
   refine ⟨_,body f Gy A outer s H E hr,G,ds.map (fun d=>some (O.f,d))++List.replicate (N.length - ps.length) none,[],⟨?_,SX,(fun _ h=>nomatch h),gh⟩,?_⟩
   ·have:=lG (K:=K) (G:=G) (H:=H) (N.length - ps.length) rs
    unfold L2.start
    rw [rs.length,hl]
    exact this
   ·obtain ⟨o,eo,e⟩:=ar e
    rw [eo]
    cases o with
    | rt r'=>
     cases e
     exact fun v H' G' Gj st rel=>q v H' G' Gj st rel
    | nx env'=>
     cases e
     exact fun σ' H' G' Gj st rel=>q .non H' G' [] (st.trans (Step.cut fun _ h=>nomatch h)) (rel.nilF.push qp)
    | bk env'=>cases e
    | ct env'=>cases e
  ·cases e
def fw (ix:List (Option Nat)) (env:PV.Env):PV.Env:=ix.map fun j=>j.bind fun j=>match env[j]? with
 | some (some r)=>some (O.f,r.2)
 | _=>none
def cZ:FT:=fun env=>.ok (true,env)
def bY (a:FG) (c:FT) (f:FX):List D->PV.Env->Res (List D)
 | [],_=>.ok []
 | d :: ds,env=>(a d env).bind fun e=>(c e).bind fun p=>if p.1 then (f p.2).bind fun q=>(bY a c f ds q.2).bind fun rs=>.ok (q.1.2 :: rs) else bY a c f ds p.2
def cq (fi:FI) (ix:List (Option Nat)) (a:FG) (c:FT) (f:FX):FX:=fun env=>(fi env).bind fun p=>(bY a c f p.1 (fw ix p.2)).bind fun ds=>if ds.length<=sizeLine then .ok ((.l .f,.lst ds),if flatDs ds then p.2 else p.2.map frz) else .bad
theorem nU:∀ ds,ds.all (cx .f)=flatDs ds
 | []=>rfl
 | d :: ds=>by rw [UO,flatDs,nU ds,cx]
theorem g9 {K:W.Frag} {G1 H:Hp} {es:PV.Env} {σ:L2.St} (ht:∀ (i:Nat) (r:R) (v:V),es[i]?=some (some r)->σ[i]?=some (some v)->Rep K G1 r.2 v) (hv:∀ (i:Nat) (r:R),es[i]?=some (some r)->∃ v,σ[i]?=some (some v)) :
  ∀ ix:List (Option Nat),RepE K G1 H (fw ix es) (mX ix σ) []
 | []=>⟨rfl,rfl⟩
 | none :: ix=>⟨none,_,rfl,g9 ht hv ix⟩
 | some j :: ix=>by
  show RepE K G1 H ((match es[j]? with | some (some r)=>some (O.f,r.2) | _=>none) :: fw ix es) ((σ[j]?).bind id :: mX ix σ) []
  cases e:es[j]? with
  | none=>exact ⟨_,_,rfl,g9 ht hv ix⟩
  | some r=>
   cases r with
   | none=>exact ⟨_,_,rfl,g9 ht hv ix⟩
   | some r=>
    obtain ⟨v,ev⟩:=hv j r e
    refine ⟨_,_,rfl,v,[],[],?_,rfl,kz.mpr ⟨ht j r v e ev,rfl⟩,g9 ht hv ix⟩
    rw [ev]
    rfl
section
variable {md:Mode} {X:Cx} {scope:Scope} {N:List Str} {tg iter elt:Expr} {ifs:List Expr} {pos:Pos} {fi:FI} {a:FG} {c:FT} {f:FX}
def Pu (X:Cx) (ifs:List Expr) (c:FT):Prop:=N7 X ifs (tQT X.K c)
theorem bc:Pu X [] cZ:=fun pins s σ H Q I Gp=>by
 obtain ⟨G,env,fp,b,env',rel,e,k⟩:=Gp
 cases e
 exact zm pins s σ H Q I (k H G fp .refl rel)
theorem vG {t:Expr} (h:QT X t c):Pu X [t] c:=zo h
end
section
variable {X:Cx}
inductive rCatS (K:W.Frag) (x:V) (y:V) (H:Hp) (Q:VK):Prop
 | mk:∀ l b xs zs,x=.ref l->y=.ref b->SqL K H l xs->SqL K H b zs->xs.length + zs.length<=sizeLine->(∀ p,H p=none->Q (.ref p) (upd H p (.lst (xs++zs))))->rCatS K x y H Q
theorem zU:Hf X (binaryOp .Add) (rCatS X.K):=by
 intro pins s σ H x y v u Q I rx ry h
 obtain ⟨l,b,xs,zs,rfl,rfl,hH,hB,hz,q⟩:=h
 cases rx
 cases ry
 obtain ⟨F9,r1,p1,_⟩:=I.list hH
 obtain ⟨KO,r2,p2,_⟩:=I.list hB
 have l1:=r1.length
 have l2:=r2.length
 obtain ⟨⟨cls,dd,data,sl⟩,ho,hc,n,hd⟩:=id p1.isList
 obtain ⟨⟨M4,LM,data2,LN⟩,Ir,HU,n2,hd2⟩:=id p2.isList
 simp only at hc hd HU hd2
 subst hc hd HU hd2
 have e:F9.toArray++KO.toArray=(F9++KO).toArray:=by simp
 refine Vo ⟨_,ho,rfl⟩ ⟨_,Ir,rfl⟩ noFill_list_add seq_list_add PySem.F.slot_list_add PySem.F.entry_list_add (PySem.F.args_list_add_2 _ _) (list_addW l b F9.toArray KO.toArray n n2 dd LM sl LN (by rw [RI,RI];lia)) ⟨ho,Ir,?_⟩
 rw [e]
 exact ⟨.ref _,_,I.lnew (t':=s.toks) (r1.append r2) (by rw [SD];lia),rfl,q _ I.fresh⟩
end
def addD:D->D->Res R
 | .int i,.int j=>.ok (.f,.int (i + j))
 | .str a,.str b=>if a.length + b.length<=sizeLine then .ok (.f,.str (a++b)) else .bad
 | .lst a,.lst b=>if a.length + b.length<=sizeLine then .ok (.l .f,.lst (a++b)) else .bad
 | .tup a,.tup b=>if a≠[]/\a.length + b.length<=sizeLine then .ok (.f,.tup (a++b)) else .bad
 | _,_=>.bad
section
variable {X:Cx}
theorem nV {K:W.Frag} {G H:Hp} {fp:List Addr} {es:PV.Env} {vs:L2.St} {ds:List D} {xs:List V} {p:Addr} (rel:Rel K G H es vs fp) (hp:H p=none) (r:Reps K G ds xs) :
  ∃ G',Rel K G' (upd H p (.tup xs)) (some (.f,.tup ds) :: es) (some (.ref p) :: vs) fp/\Step G H fp G' (upd H p (.tup xs)) fp:=by
 obtain ⟨F8,Gk⟩:=rel.newF (u:=.tup xs) hp
 refine ⟨_,F8.push ?_,Gk⟩
 rw [Rep]
 exact ⟨p,xs,rfl,bQ,r.mono Gk.gg⟩
theorem Ca:Hf X (binaryOp .Add) (rG X.K addD):=by
 rintro pins s σ H x y v u Q I rx ry ⟨G,fp,es,vs,a,b,r,⟨rel,k⟩,va,vb,e⟩
 unfold addD at e
 split at e
 ·rename_i i j
  cases e
  cases bW va
  cases bW vb
  exact BH pins s σ H _ _ v u Q I rx ry ⟨i,j,rfl,rfl,k _ H G fp .refl (rel.push (bo _))⟩
 ·rename_i i j
  split at e
  ·rename_i hl
   cases e
   obtain ⟨e1,h1⟩:=g8 va
   obtain ⟨e2,h2⟩:=g8 vb
   subst e1
   subst e2
   refine tm pins s σ H _ _ v u Q I rx ry ⟨_,_,rfl,rfl,by rw [mJ,mJ];exact hl,?_⟩
   rw [Ea]
   exact k _ H G fp .refl (rel.push (jb (by rw [SD];exact hl)))
  ·cases e
 ·rename_i i j
  split at e
  ·rename_i hl
   cases e
   obtain ⟨p,xs,e1,h1,r1⟩:=va
   obtain ⟨p2,N9,e2,h2,r2⟩:=vb
   subst e1
   subst e2
   refine zU pins s σ H _ _ v u Q I rx ry ⟨p,p2,xs,N9,rfl,rfl,h1,h2,by rw [r1.length,r2.length];exact hl,fun q hq=>?_⟩
   obtain ⟨F8,Gk⟩:=rel.newL hq (r1.app r2)
   exact k _ _ G _ Gk F8
  ·cases e
 ·rename_i i j
  split at e
  ·rename_i hl
   cases e
   obtain ⟨p,xs,e1,h1,r1⟩:=iX va
   obtain ⟨p2,N9,e2,h2,r2⟩:=iX vb
   subst e1
   subst e2
   have hx:xs≠[]:=fun z=>hl.1 (S1 (by rw [<-r1.length,z];rfl))
   refine ze pins s σ H _ _ v u Q I rx ry ⟨p,p2,xs,N9,rfl,rfl,cb rel.gh h1,cb rel.gh h2,hx,by rw [r1.length,r2.length];exact hl.2,fun z=>?_,fun z q hq=>?_⟩
   ·have:j=[]:=S1 (by rw [<-r2.length,z];rfl)
    subst this
    rw [SW] at k
    exact k _ H G fp .refl (rel.push va)
   ·obtain ⟨G',F8,Gk⟩:=nV rel hq (r1.app r2)
    exact k _ _ G' _ Gk F8
  ·cases e
 ·cases e
def kY:D->D->Res R
 | .int i,.int j=>.ok (.f,.int (i - j))
 | _,_=>.bad
theorem hJ:Hf X (binaryOp .Sub) (rG X.K kY):=by
 rintro pins s σ H x y v u Q I rx ry ⟨G,fp,es,vs,a,b,r,⟨rel,k⟩,va,vb,e⟩
 unfold kY at e
 split at e
 ·rename_i i j
  cases e
  cases bW va
  cases bW vb
  exact BI pins s σ H _ _ v u Q I rx ry ⟨i,j,rfl,rfl,k _ H G fp .refl (rel.push (bo _))⟩
 ·cases e
def b9 (i:Int):Bool:=decide (-(2 ^ 64) < i/\i < 2 ^ 64)
def En:D->D->Res R
 | .int i,.int j=>if b9 i || b9 j then .ok (.f,.int (i * j)) else .bad
 | _,_=>.bad
theorem Cb:Hf X (binaryOp .Mult) (rG X.K En):=by
 rintro pins s σ H x y v u Q I rx ry ⟨G,fp,es,vs,a,b,r,⟨rel,k⟩,va,vb,e⟩
 unfold En at e
 split at e
 ·rename_i i j
  split at e
  ·rename_i hc
   cases e
   cases bW va
   cases bW vb
   have hc:CMul i j:=by
    rw [Vs] at hc
    exact hc.imp Ud Ud
   exact BJ pins s σ H _ _ v u Q I rx ry ⟨i,j,rfl,rfl,hc,k _ H G fp .refl (rel.push (bo _))⟩
  ·cases e
 ·cases e
def eF:D->D->Res R
 | .int i,.int j=>if 0 < j/\j < 1073741824 then .ok (.f,.int (i / j)) else .bad
 | _,_=>.bad
theorem cA:Hf X (binaryOp .FloorDiv) (rG X.K eF):=by
 rintro pins s σ H x y v u Q I rx ry ⟨G,fp,es,vs,a,b,r,⟨rel,k⟩,va,vb,e⟩
 unfold eF at e
 split at e
 ·rename_i i j
  split at e
  ·rename_i hc
   cases e
   cases bW va
   cases bW vb
   exact y7 pins s σ H _ _ v u Q I rx ry ⟨i,j,rfl,rfl,hc,k _ H G fp .refl (rel.push (bo _))⟩
  ·cases e
 ·cases e
def fL:D->D->Res R
 | .int i,.int j=>if 0 < j then .ok (.f,.int (i % j)) else .bad
 | _,_=>.bad
theorem bO:Hf X (binaryOp .Mod) (rG X.K fL):=by
 rintro pins s σ H x y v u Q I rx ry ⟨G,fp,es,vs,a,b,r,⟨rel,k⟩,va,vb,e⟩
 unfold fL at e
 split at e
 ·rename_i i j
  split at e
  ·rename_i hc
   cases e
   cases bW va
   cases bW vb
   exact BK pins s σ H _ _ v u Q I rx ry ⟨i,j,rfl,rfl,hc,k _ H G fp .refl (rel.push (bo _))⟩
  ·cases e
 ·cases e
def tS:D->D->Res R
 | .int i,.int j=>if 0<=j/\j<=1000000/\i.natAbs < 2 ^ 64 then .ok (.f,.int (i ^ j.toNat)) else .bad
 | _,_=>.bad
theorem vH:Hf X (binaryOp .Pow) (rG X.K tS):=by
 rintro pins s σ H x y v u Q I rx ry ⟨G,fp,es,vs,a,b,r,⟨rel,k⟩,va,vb,e⟩
 unfold tS at e
 split at e
 ·rename_i i j
  split at e
  ·rename_i hc
   cases e
   cases bW va
   cases bW vb
   exact BL pins s σ H _ _ v u Q I rx ry ⟨i,j,rfl,rfl,hc,k _ H G fp .refl (rel.push (bo _))⟩
  ·cases e
 ·cases e
def N8:D->D->Res R
 | .int i,.int j=>.ok (.f,.bl (decide (i < j)))
 | .str a,.str b=>.ok (.f,.bl (decide (a < b)))
 | _,_=>.bad
theorem Eo:Hf X (compareOp .Lt) (rG X.K N8):=by
 rintro pins s σ H x y v u Q I rx ry ⟨G,fp,es,vs,a,b,r,⟨rel,k⟩,va,vb,e⟩
 unfold N8 at e
 split at e
 ·rename_i i j
  cases e
  cases bW va
  cases bW vb
  exact D0 pins s σ H _ _ v u Q I rx ry ⟨i,j,rfl,rfl,k _ H G fp .refl (rel.push (de _))⟩
 ·rename_i i j
  cases e
  obtain ⟨e1,h1⟩:=g8 va
  obtain ⟨e2,h2⟩:=g8 vb
  subst e1
  subst e2
  refine uE pins s σ H _ _ v u Q I rx ry ⟨_,_,rfl,rfl,?_⟩
  rw [fu,fu]
  exact k _ H G fp .refl (rel.push (de _))
 ·cases e
def leD:D->D->Res R
 | .int i,.int j=>.ok (.f,.bl (decide (i<=j)))
 | .str a,.str b=>.ok (.f,.bl (!decide (b < a)))
 | _,_=>.bad
def Pw:D->D->Res R
 | .int i,.int j=>.ok (.f,.bl (decide (j < i)))
 | _,_=>.bad
theorem Ep:Hf X (compareOp .Gt) (rG X.K Pw):=by
 rintro pins s σ H x y v u Q I rx ry ⟨G,fp,es,vs,a,b,r,⟨rel,k⟩,va,vb,e⟩
 unfold Pw at e
 split at e
 ·rename_i i j
  cases e
  cases bW va
  cases bW vb
  exact D1 pins s σ H _ _ v u Q I rx ry ⟨i,j,rfl,rfl,k _ H G fp .refl (rel.push (de _))⟩
 ·cases e
def geD:D->D->Res R
 | .int i,.int j=>.ok (.f,.bl (decide (j<=i)))
 | _,_=>.bad
end
abbrev FDs:=PV.Env->Res (List D×PV.Env)
inductive tDs (K:W.Frag) (f:FDs) (σ:L2.St) (H:Hp) (Q:List V->Hp->Prop):Prop
 | mk:∀ G env fp ds env',Rel K G H env σ fp->f env=.ok (ds,env')->(∀ vs H' G' Gj,Step G H fp G' H' Gj->Rel K G' H' env' σ Gj->Reps K G' ds vs->Q vs H')->tDs K f σ H Q
def OH (X:Cx) (es:List Expr) (f:FDs):Prop:=PA X es (tDs X.K f)
def bu:FDs:=fun env=>.ok ([],env)
def aI (f:FX) (g:FDs):FDs:=fun env=>(f env).bind fun p=>(g p.2).bind fun q=>.ok (p.1.2 :: q.1,q.2)
section
variable {X:Cx}
theorem aN:OH X [] bu:=rF mV fun σ H Q Gp=>by
 obtain ⟨G,env,fp,o,env',rel,e,k⟩:=Gp
 cases e
 exact k [] H G fp .refl rel .nil
theorem ax {e:Expr} {es:List Expr} {f:FX} {g:FDs} (h:QE X e f) (hs:OH X es g) (KD:starEach (e :: es) X.env=(false,eval e X.env) :: starEach es X.env:=by rfl):OH X (e :: es) (aI f g):=
 rF (gy h hs KD) fun σ H Q Gp=>by
  obtain ⟨G,env,fp,o,env',rel,e,k⟩:=Gp
  obtain ⟨⟨r,F7⟩,e1,e⟩:=ar e
  obtain ⟨⟨ds,Gh⟩,e2,e⟩:=ar e
  cases e
  refine ⟨G,env,fp,r,F7,rel,e1,fun v H1 G1 Gx Gr Gd=>?_⟩
  obtain ⟨G2,b,rv,F8,Gk⟩:=Gd.freeze
  exact ⟨G2,F7,b,ds,Gh,F8,e2,fun vs H3 G3 Jj GO Gz rs=>k _ H3 G3 Jj (Gr.trans (Gk.trans GO)) Gz (.cons (Rep.mono GO.gg rv) rs)⟩
def jc (fs:FDs):FX:=fun env=>(fs env).bind fun p=>if p.1.length<=1000 then .ok ((.f,.tup p.1),p.2) else .bad
def j8 (fs:FDs):FX:=fun env=>(fs env).bind fun p=>if p.1.length<=1000 then .ok ((.l .f,.lst p.1),p.2) else .bad
variable {es:List Expr} {fs:FDs} {pos:Pos}
theorem cH {x1} (h:OH X es fs):QE X (.Tuple es x1 pos) (jc fs):=bX (ye h) fun σ H Q Gp=>by
 obtain ⟨G,env,fp,r,env',rel,e,k⟩:=Gp
 obtain ⟨⟨ds,F7⟩,e1,e⟩:=ar e
 dsimp only at e
 split at e
 ·rename_i hl
  cases e
  refine ⟨G,env,fp,ds,env',rel,e1,fun vs H1 G1 Gx Gr Gd rs=>⟨by rw [rs.length,line_eq];lia,fun p hp=>?_⟩⟩
  obtain ⟨G2,F8,Gk⟩:=nV Gd hp rs
  exact k _ _ G2 _ (Gr.trans Gk) F8
 ·cases e
theorem cI (h:OH X es fs):QE X (.List es pos) (j8 fs):=bX (BM h) fun σ H Q Gp=>by
 obtain ⟨G,env,fp,r,env',rel,e,k⟩:=Gp
 obtain ⟨⟨ds,F7⟩,e1,e⟩:=ar e
 dsimp only at e
 split at e
 ·rename_i hl
  cases e
  refine ⟨G,env,fp,ds,env',rel,e1,fun vs H1 G1 Gx Gr Gd rs=>⟨by rw [rs.length,line_eq];lia,fun p hp=>?_⟩⟩
  obtain ⟨F8,Gk⟩:=Gd.newL hp rs
  exact k _ _ G1 _ (Gr.trans Gk) F8
 ·cases e
def Gi:D->D->Res R
 | .lst ds,.int i=>match Ha ds i with
  | some d=>.ok (.f,d)
  | none=>.bad
 | .tup ds,.int i=>match Ha ds i with
  | some d=>.ok (.f,d)
  | none=>.bad
 | .str l,.int i=>match Ha l i with
  | some c=>.ok (.f,.str [c])
  | none=>.bad
 | _,_=>.bad
theorem rN {K:W.Frag} {G:Hp} {ds:List D} {xs:List V} {i:Int} {d:D} (r:Reps K G ds xs) (e:Ha ds i=some d):∃ v,Ha xs i=some v/\Rep K G d v:=by
 unfold Ha at e ⊢
 rw [r.length]
 cases hn:ixN ds.length i with
 | none=>rw [hn] at e;cases e
 | some j=>
  rw [hn] at e
  exact r.get e
theorem Er:Oo X (rG X.K Gi):=by
 rintro value slice pins s σ H x y v u Q I rx ry ⟨G,fp,es,vs,a,b,r,⟨rel,k⟩,va,vb,e⟩ hs
 unfold Gi at e
 split at e
 ·rename_i ds i
  split at e
  ·rename_i d hd
   cases e
   obtain ⟨p,xs,ev,sq,rs⟩:=va
   subst ev
   cases bW vb
   obtain ⟨w',hw,KP⟩:=rN rs hd
   exact zf value slice pins s σ H _ _ v u Q I rx ry ⟨p,xs,i,w',rfl,rfl,sq,hw,k _ H G fp .refl (rel.push KP)⟩ hs
  ·cases e
 ·rename_i ds i
  split at e
  ·rename_i d hd
   cases e
   obtain ⟨p,xs,ev,sq,rs⟩:=iX va
   subst ev
   cases bW vb
   obtain ⟨w',hw,KP⟩:=rN rs hd
   exact BP value slice pins s σ H _ _ v u Q I rx ry ⟨p,xs,i,w',rfl,rfl,cb rel.gh sq,hw,k _ H G fp .refl (rel.push KP)⟩ hs
  ·cases e
 ·rename_i l i
  split at e
  ·rename_i c hc
   cases e
   obtain ⟨ev,hl⟩:=g8 va
   subst ev
   cases bW vb
   refine BQ value slice pins s σ H _ _ v u Q I rx ry ⟨_,i,c,rfl,rfl,by rw [mJ];exact hl,by rw [fu];exact hc,?_⟩ hs
   exact k _ H G fp .refl (rel.push (jb (l:=[c]) (by rw [line_eq];simp)))
  ·cases e
 ·cases e
variable {a b:Expr} {fa fb:FO}
theorem aQ (ha:QO X a fa) (hb:QO X b fb) (hs:uP b:=by exact fun _ _=>rfl):QE X (.Subscript a b pos) (az Gi fa fb):=bX (D7 Er ha hb hs) fun _ _ _=>vz
abbrev FP:=PV.Env->Res (Option Int×PV.Env)
inductive tQP (K:W.Frag) (f:FP) (σ:L2.St) (H:Hp) (Q:Option Int->Hp->Prop):Prop
 | mk:∀ G env fp i env',Rel K G H env σ fp->f env=.ok (i,env')->(∀ H' G' Gj,Step G H fp G' H' Gj->Rel K G' H' env' σ Gj->Q i H')->tQP K f σ H Q
def QP (X:Cx) (e:Option Expr) (f:FP):Prop:=PO X e (tQP X.K f)
def tU:FP:=fun env=>.ok (none,env)
def lH (f:FX):FP:=fun env=>(f env).bind fun p=>match p.1.2 with
 | .int i=>.ok (some i,p.2)
 | _=>.bad
theorem yB {X:Cx} {e:Option Expr} {t t':TO} (h:PO X e t) (k:∀ σ H Q,t' σ H Q->t σ H Q):PO X e t':=fun pins s σ H Q I w=>h pins s σ H Q I (k σ H Q w)
theorem nW:QP X none tU:=yB zc fun σ H Q Gp=>by
 obtain ⟨G,env,fp,i,env',rel,e,k⟩:=Gp
 cases e
 exact k H G fp .refl rel
theorem gC {e:Expr} {f:FX} (h:QE X e f):QP X (some e) (lH f):=yB (zd h) fun σ H Q Gp=>by
 obtain ⟨G,env,fp,i,env',rel,e,k⟩:=Gp
 obtain ⟨⟨⟨o,d⟩,F7⟩,e1,e⟩:=ar e
 dsimp only at e
 split at e
 ·rename_i j
  cases e
  refine ⟨G,env,fp,_,_,rel,e1,fun v H1 G1 Gx Gr Gd=>?_⟩
  have hv:=Gd.top
  obtain ⟨b,F8,Gk⟩:=Gd.drop
  exact ⟨j,bU hv,k H1 G1 b (Gr.trans Gk) F8⟩
 ·cases e
def jz {α:Type} (xs:List α) (lo hi:Option Int):List α:=(xs.drop (HT.sIx xs.length 0 lo)).take (HT.sIx xs.length xs.length hi - HT.sIx xs.length 0 lo)
def OI (k:D) (lo hi:Option Int):Res R:=match k with
 | .lst ds=>.ok (.l .f,.lst (jz ds lo hi))
 | .tup ds=>if ¬ (HT.sIx ds.length 0 lo=0/\HT.sIx ds.length ds.length hi=ds.length) then .ok (.f,.tup (jz ds lo hi)) else .bad
 | .str l=>.ok (.f,.str (jz l lo hi))
 | _=>.bad
def eSl (fa:FO) (lo hi:FP):FX:=fun env=>(fa env).bind fun p=>(lo p.2).bind fun q=>(hi q.2).bind fun t=>(HW t.2 p.1).bind fun d=>(OI d q.1 t.1).bind fun r=>.ok (r,t.2)
theorem rO {K:W.Frag} {G:Hp} {ds:List D} {xs:List V} {lo hi:Option Int} (r:Reps K G ds xs):Reps K G (jz ds lo hi) (yh xs lo hi):=by
 unfold jz yh
 rw [r.length]
 exact (r.drop _).take _
theorem zV {α:Type} (xs:List α) (lo hi:Option Int):(jz xs lo hi).length<=xs.length:=by
 unfold jz
 rw [Su,T5]
 lia
inductive rSl (K:W.Frag) (x:V) (lo:Option Int) (hi:Option Int) (H:Hp) (Q:VK):Prop
 | mk:∀ G fp es vs d r,Goes K H G fp es vs r Q->Vw K G H d x->OI d lo hi=.ok r->rSl K x lo hi H Q
theorem Cc:M6 X (rSl X.K):=by
 rintro pins s σ H x v vl vu lo hi sl Q I rx hs pl pu ⟨G,fp,es,vs,d,r,⟨rel,k⟩,vd,e⟩
 unfold OI at e
 split at e
 ·rename_i ds
  cases e
  obtain ⟨p,xs,ev,sq,rs⟩:=vd
  subst ev
  refine zg pins s σ H _ v vl vu lo hi sl Q I rx hs pl pu ⟨p,xs,rfl,sq,fun q hq=>?_⟩
  obtain ⟨F8,Gk⟩:=rel.newL hq (rO (lo:=lo) (hi:=hi) rs)
  exact k _ _ G _ Gk F8
 ·rename_i ds
  split at e
  ·rename_i hw
   cases e
   obtain ⟨p,xs,ev,sq,rs⟩:=iX vd
   subst ev
   refine BO pins s σ H _ v vl vu lo hi sl Q I rx hs pl pu ⟨p,xs,rfl,cb rel.gh sq,by rw [rs.length];exact hw,fun q hq=>?_⟩
   obtain ⟨G2,F8,Gk⟩:=nV rel hq (rO (lo:=lo) (hi:=hi) rs)
   exact k _ _ G2 _ Gk F8
  ·cases e
 ·rename_i l
  cases e
  obtain ⟨ev,hl⟩:=g8 vd
  subst ev
  exact BY pins s σ H _ v vl vu lo hi sl Q I rx hs pl pu ⟨l,rfl,hl,k _ H G fp .refl (rel.push (jb (l:=BX l lo hi) (SJ (zV l lo hi) hl)))⟩
 ·cases e
def vI (env:PV.Env) (i:Nat):Bool:=match env[i]? with
 | some (some (_,.lst _))=>true
 | _=>false
theorem xD {K:W.Frag} {G H:Hp} {es:PV.Env} {σ:L2.St} {fp:List Addr} {i:Nat} (rel:Rel K G H es σ fp) (h:vI es i=true):∃ v,σ[i]?=some (some v)/\Pj K "list" v H:=by
 unfold vI at h
 split at h
 ·rename_i o ds hr
  obtain ⟨v,ev,rv⟩:=rel.view hr
  obtain ⟨p,xs,e,sq,_⟩:=bV rv
  subst e
  exact ⟨_,ev,.inl ⟨rfl,xs,sq⟩⟩
 ·cases h
def nX (i:Nat) (f:FX):FX:=fun env=>if vI env i then (f env).bind fun p=>match p.2[i]? with
 | some (some (.l .f,.lst ds))=>if ds.length < sizeLine then .ok ((.f,.non),p.2.set i (some (.l .f,.lst (ds++[p.1.2])))) else .bad
 | _=>.bad
 else .bad
theorem bP {i:Nat} {o e:Expr} {f:FX} {apos Gv:Pos} (ho:PE X o (wR i)) (he:QE X e f)
  (Hb:attributeBase o "append" X.env (eval o X.env)=eval o X.env:=by rfl)
  (IY:((backTo Gv (starEach [e] X.env)).all (fun x=>!x.1) && (backToKw Gv (keywordEach [] X.env)).all (fun x=>x.1.isSome) && decide ([e].length + ([]:List Keyword).length + (if ([]:List Keyword).isEmpty then 0 else 1) < 30))=true:=by rfl)
  (Hc:(apos.endLine == Gv.line)=true:=by rfl) (hs:starEach [e] X.env=(false,eval e X.env) :: starEach [] X.env:=by rfl) (Hd:(backTo Gv (starEach [] X.env)).any (·.1)=false:=by rfl) :
  QE X (.Call (.Attribute o "append" apos) [e] [] Gv) (nX i f):=by
 refine bX (zh Uw PySem.F.slot_list_append PySem.F.type_list_append oY ho (ax he aN hs) Hb IY Hc hs Hd) fun σ H Q Gu=>?_
 obtain ⟨G,env,fp,r,env',rel,e,k⟩:=Gu
 unfold nX at e
 split at e
 ·rename_i hil
  obtain ⟨v,ev,ty⟩:=xD rel hil
  obtain ⟨⟨r1,F7⟩,e1,e⟩:=ar e
  dsimp only at e
  split at e
  ·rename_i ds LZ
   split at e
   ·rename_i hl
    cases e
    refine ⟨v,ev,ty,G,env,fp,[r1.2],F7,rel,by show (f env).bind _=_;rw [e1];rfl,fun vs H1 G1 Gx Gr Gd rs=>?_⟩
    rw [Reps] at rs
    obtain ⟨y,ys,eys,ry,rn⟩:=rs
    rw [Reps] at rn
    subst rn
    obtain ⟨p,xs,ep,hp,OJ,cg⟩:=Gd.chg (ds':=ds++[r1.2]) LZ
    rw [ev] at ep
    cases ep
    obtain ⟨fq,F8,Gk⟩:=cg (xs++[y]) (OJ.app (.one ry))
    exact ⟨p,xs,y,rfl,eys,hp,by rw [OJ.length];exact hl,k _ _ G1 fq (Gr.trans Gk) (F8.push qp)⟩
   ·cases e
  ·cases e
 ·cases e
def Es:List D->Res R
 | [.lst ds]=>.ok (.f,.int ds.length)
 | [.tup ds]=>.ok (.f,.int ds.length)
 | [.str l]=>.ok (.f,.int l.length)
 | _=>.bad
theorem mH {K:W.Frag} {G H:Hp} {d:D} {xs:List V} (h:MR K G H [d] xs):∃ v,xs=[v]/\Vw K G H d v:=by
 obtain ⟨y,ys,e,v1,e2⟩:=h
 have e2:ys=[]:=e2
 subst e2
 exact ⟨y,e,v1⟩
theorem E4 {K:W.Frag} {G H:Hp} {d d':D} {xs:List V} (h:MR K G H [d,d'] xs):∃ v w,xs=[v,w]/\Vw K G H d v/\Vw K G H d' w:=by
 obtain ⟨y,ys,e,v1,h2⟩:=h
 obtain ⟨z,e2,v2⟩:=mH h2
 subst e2
 exact ⟨y,z,e,v1,v2⟩
theorem Cd:dI X (.builtin "len") (rC X.K Es):=by
 rintro pins s σ H xs us Q I rx ⟨G,fp,es,vs,ds,r,⟨rel,k⟩,vd,e⟩
 unfold Es at e
 split at e
 ·rename_i ds
  cases e
  obtain ⟨v,ev,p,ys,ep,sq,rs⟩:=mH vd
  subst ev
  subst ep
  refine kx pins s σ H _ us Q I rx ⟨p,ys,rfl,.inl sq,?_⟩
  rw [rs.length]
  exact k _ H G fp .refl (rel.push (bo _))
 ·rename_i ds
  cases e
  obtain ⟨v,ev,vt⟩:=mH vd
  obtain ⟨p,ys,ep,sq,rs⟩:=iX vt
  subst ev
  subst ep
  refine kx pins s σ H _ us Q I rx ⟨p,ys,rfl,.inr (cb rel.gh sq),?_⟩
  rw [rs.length]
  exact k _ H G fp .refl (rel.push (bo _))
 ·rename_i l
  cases e
  obtain ⟨v,ev,vt⟩:=mH vd
  obtain ⟨ep,hl⟩:=g8 vt
  subst ev
  subst ep
  refine oW pins s σ H _ us Q I rx ⟨S l,rfl,by rw [mJ];exact hl,?_⟩
  rw [mJ]
  exact k _ H G fp .refl (rel.push (bo _))
 ·cases e
def xE:List D->Res R
 | [.lst ds]=>.ok (.l .f,.lst ds)
 | [.tup ds]=>.ok (.l .f,.lst ds)
 | _=>.bad
theorem zW:dI X (.type "list") (rC X.K xE):=by
 rintro pins s σ H xs us Q I rx ⟨G,fp,es,vs,ds,r,⟨rel,k⟩,vd,e⟩
 unfold xE at e
 split at e
 ·rename_i ds
  cases e
  obtain ⟨v,ev,p,ys,ep,sq,rs⟩:=mH vd
  subst ev
  subst ep
  refine ky pins s σ H _ us Q I rx ⟨p,ys,rfl,.inl sq,fun q hq=>?_⟩
  obtain ⟨F8,Gk⟩:=rel.newL hq rs
  exact k _ _ G _ Gk F8
 ·rename_i ds
  cases e
  obtain ⟨v,ev,vt⟩:=mH vd
  obtain ⟨p,ys,ep,sq,rs⟩:=iX vt
  subst ev
  subst ep
  refine ky pins s σ H _ us Q I rx ⟨p,ys,rfl,.inr (cb rel.gh sq),fun q hq=>?_⟩
  obtain ⟨F8,Gk⟩:=rel.newL hq rs
  exact k _ _ G _ Gk F8
 ·cases e
def dg:List D->Res R
 | [.lst ds]=>.ok (.f,.tup ds)
 | [.tup ds]=>.ok (.f,.tup ds)
 | _=>.bad
theorem cj:dI X (.type "tuple") (rC X.K dg):=by
 rintro pins s σ H xs us Q I rx ⟨G,fp,es,vs,ds,r,⟨rel,k⟩,vd,e⟩
 unfold dg at e
 split at e
 ·rename_i ds
  cases e
  obtain ⟨v,ev,p,ys,ep,sq,rs⟩:=mH vd
  subst ev
  subst ep
  refine jt pins s σ H _ us Q I rx ⟨p,ys,rfl,.inl ⟨sq,fun q hq=>?_⟩⟩
  obtain ⟨G2,F8,Gk⟩:=nV rel hq rs
  exact k _ _ G2 _ Gk F8
 ·rename_i ds
  cases e
  obtain ⟨v,ev,vt⟩:=mH vd
  obtain ⟨p,ys,ep,sq,rs⟩:=iX vt
  subst ev
  subst ep
  exact jt pins s σ H _ us Q I rx ⟨p,ys,rfl,.inr ⟨cb rel.gh sq,k _ H G fp .refl (rel.push vt)⟩⟩
 ·cases e
def mO:List D->Option (List Bool)
 | []=>some []
 | .bl b :: ds=>(mO ds).map (b :: ·)
 | _=>none
def dh:List D->Option (List Int)
 | []=>some []
 | .int b :: ds=>(dh ds).map (b :: ·)
 | _=>none
theorem j9 {K:W.Frag} {G:Hp}:∀ {ds:List D} {bs:List Bool} {xs:List V},mO ds=some bs->Reps K G ds xs->xs=bs.map V.bl
 | [],_,_,e,r=>by
  cases e
  rw [Reps] at r
  exact r
 | .bl b :: ds,_,_,e,r=>by
  rw [mO,Sn] at e
  obtain ⟨bs,e1,e2⟩:=e
  subst e2
  rw [Reps] at r
  obtain ⟨y,ys,e3,r1,r2⟩:=r
  rw [e3,c6 r1,j9 e1 r2]
  rfl
 | .non :: _,_,_,e,_ | .int _ :: _,_,_,e,_ | .str _ :: _,_,_,e,_ | .tup _ :: _,_,_,e,_ | .lst _ :: _,_,_,e,_ | .dct _ _ _ :: _,_,_,e,_=>by simp [mO] at e
theorem jd {K:W.Frag} {G:Hp}:∀ {ds:List D} {bs:List Int} {xs:List V},dh ds=some bs->Reps K G ds xs->xs=bs.map V.int
 | [],_,_,e,r=>by
  cases e
  rw [Reps] at r
  exact r
 | .int b :: ds,_,_,e,r=>by
  rw [dh,Sn] at e
  obtain ⟨bs,e1,e2⟩:=e
  subst e2
  rw [Reps] at r
  obtain ⟨y,ys,e3,r1,r2⟩:=r
  rw [e3,bU r1,jd e1 r2]
  rfl
 | .non :: _,_,_,e,_ | .bl _ :: _,_,_,e,_ | .str _ :: _,_,_,e,_ | .tup _ :: _,_,_,e,_ | .lst _ :: _,_,_,e,_ | .dct _ _ _ :: _,_,_,e,_=>by simp [dh] at e
theorem ka (ns:List Int):dh (ns.map D.int)=some ns:=by
 induction ns with
 | nil=>rfl
 | cons n ns ih=>rw [R6,dh,ih];rfl
theorem px (ns:List Bool):mO (ns.map D.bl)=some ns:=by
 induction ns with
 | nil=>rfl
 | cons n ns ih=>rw [R6,mO,ih];rfl
def lI:D->Option (List D)
 | .lst ds=>some ds
 | .tup ds=>some ds
 | _=>none
theorem qr {K:W.Frag} {G H:Hp} {d:D} {ds:List D} {v:V} (gh:Same G H) (e:lI d=some ds) (h:Vw K G H d v):∃ p xs,v=.ref p/\(SqL K H p xs\/SqT K H p xs)/\Reps K G ds xs:=by
 cases d with
 | lst es=>
  cases e
  obtain ⟨p,xs,ev,sq,rs⟩:=h
  exact ⟨p,xs,ev,.inl sq,rs⟩
 | tup es=>
  cases e
  obtain ⟨p,xs,ev,sq,rs⟩:=bH h
  exact ⟨p,xs,ev,.inr (cb gh sq),rs⟩
 | _=>cases e
def Ce:List D->Res R
 | [d]=>match (lI d).bind mO with
  | some bs=>.ok (.f,.bl (bs.all id))
  | none=>.bad
 | _=>.bad
def Bf:List D->Res R
 | [d]=>match (lI d).bind mO with
  | some bs=>.ok (.f,.bl (bs.any id))
  | none=>.bad
 | _=>.bad
theorem rP (bs:List Bool):(bs.map V.bl).all DE=true:=by
 rw [SM,R3]
 intro b _
 rfl
theorem zX (bs:List Bool):(bs.map V.bl).all yp=bs.all id:=by
 rw [SM]
 rfl
theorem zY (bs:List Bool):(bs.map V.bl).any yp=bs.any id:=by
 rw [Th]
 rfl
theorem Cf (hc:X.calm=true):dI X (.builtin "all") (rC X.K Ce):=by
 rintro pins s σ H xs us Q I rx ⟨G,fp,es,vs,ds,r,⟨rel,k⟩,vd,e⟩
 unfold Ce at e
 split at e
 ·rename_i d
  split at e
  ·rename_i bs hb
   cases e
   obtain ⟨l,hl,hb⟩:=Ta.mp hb
   obtain ⟨v,ev,vt⟩:=mH vd
   obtain ⟨p,ys,ep,sq,rs⟩:=qr rel.gh hl vt
   have:=j9 hb rs
   subst this
   subst ev
   subst ep
   refine xl hc pins s σ H _ us Q I rx ⟨p,_,rfl,sq,rP bs,?_⟩
   rw [zX]
   exact k _ H G fp .refl (rel.push (de _))
  ·cases e
 ·cases e
theorem yC (hc:X.calm=true):dI X (.builtin "any") (rC X.K Bf):=by
 rintro pins s σ H xs us Q I rx ⟨G,fp,es,vs,ds,r,⟨rel,k⟩,vd,e⟩
 unfold Bf at e
 split at e
 ·rename_i d
  split at e
  ·rename_i bs hb
   cases e
   obtain ⟨l,hl,hb⟩:=Ta.mp hb
   obtain ⟨v,ev,vt⟩:=mH vd
   obtain ⟨p,ys,ep,sq,rs⟩:=qr rel.gh hl vt
   have:=j9 hb rs
   subst this
   subst ev
   subst ep
   refine xm hc pins s σ H _ us Q I rx ⟨p,_,rfl,sq,rP bs,?_⟩
   rw [zY]
   exact k _ H G fp .refl (rel.push (de _))
  ·cases e
 ·cases e
def Cg:List D->Res R
 | [d]=>match (lI d).bind dh with
  | some ns=>.ok (.f,.int ns.sum)
  | none=>.bad
 | _=>.bad
def maxD:List D->Res R
 | [d]=>match (lI d).bind dh with
  | some (n :: ns)=>.ok (.f,.int (eL (n :: ns)))
  | _=>.bad
 | [.int i,.int j]=>.ok (.f,.int (if i < j then j else i))
 | _=>.bad
def minD:List D->Res R
 | [d]=>match (lI d).bind dh with
  | some (n :: ns)=>.ok (.f,.int (c5 (n :: ns)))
  | _=>.bad
 | _=>.bad
theorem hU {K:W.Frag} {G H:Hp} {d:D} {ns:List Int} {v:V} (gh:Same G H) (hb:(lI d).bind dh=some ns) (vt:Vw K G H d v):∃ p,v=.ref p/\(SqL K H p (ns.map V.int)\/SqT K H p (ns.map V.int)):=by
 obtain ⟨l,hl,hb⟩:=Ta.mp hb
 obtain ⟨p,ys,ep,sq,rs⟩:=qr gh hl vt
 have:=jd hb rs
 subst this
 exact ⟨p,ep,sq⟩
theorem Ci (hc:X.calm=true):dI X (.builtin "sum") (rC X.K Cg):=by
 rintro pins s σ H xs us Q I rx ⟨G,fp,es,vs,ds,r,⟨rel,k⟩,vd,e⟩
 unfold Cg at e
 split at e
 ·rename_i d
  split at e
  ·rename_i ns hb
   cases e
   obtain ⟨v,ev,vt⟩:=mH vd
   obtain ⟨p,ep,sq⟩:=hU rel.gh hb vt
   subst ev
   subst ep
   exact u9 hc pins s σ H _ us Q I rx ⟨p,ns,rfl,sq,k _ H G fp .refl (rel.push (bo _))⟩
  ·cases e
 ·cases e
end
mutual
def eqD:D->D->Bool
 | .non,.non=>true
 | .bl a,.bl b=>a == b
 | .bl a,.int j=>(if a then 1 else 0) == j
 | .int i,.bl b=>i == (if b then 1 else 0)
 | .int i,.int j=>i == j
 | .str a,.str b=>a == b
 | .tup a,.tup b=>kc a b
 | .lst a,.lst b=>kc a b
 | _,_=>false
def kc:List D->List D->Bool
 | [],[]=>true
 | a :: as,b :: bs=>eqD a b && kc as bs
 | _,_=>false
end
mutual
def plainD:Nat->D->Bool
 | n + 1,.tup ds=>plainDs n ds
 | n + 1,.lst ds=>plainDs n ds
 | 0,.tup _=>false
 | 0,.lst _=>false
 | _,.dct _ _ _=>false
 | _,_=>true
def plainDs:Nat->List D->Bool
 | _,[]=>true
 | n,d :: ds=>plainD n d && plainDs n ds
end
theorem plainDs_mem:∀ {n:Nat} {ds:List D},plainDs n ds=true->∀ {i:Nat} {d:D},ds[i]?=some d->plainD n d=true
 | _,[],_,_,_,e=>by simp at e
 | n,a :: ds,h,0,d,e=>by
  rw [plainDs,R9] at h
  simp at e
  rw [<-e]
  exact h.1
 | n,a :: ds,h,i + 1,d,e=>by
  rw [plainDs,R9] at h
  exact plainDs_mem h.2 (i:=i) (by simpa using e)
theorem jA:∀ {a b:List D},a.length≠b.length->kc a b=false
 | [],[],h=>absurd rfl h
 | [],_ :: _,_=>by simp only [kc]
 | _ :: _,[],_=>by simp only [kc]
 | x :: xs,y :: ys,h=>by
  rw [kc,jA (fun e=>h (by simp [e])),VC]
theorem gk:∀ {a b:List D},a.length=b.length->(List.range a.length).all (fun j=>eqD (a.getD j .non) (b.getD j .non))=kc a b
 | [],[],_=>rfl
 | [],_ :: _,h=>by simp at h
 | _ :: _,[],h=>by simp at h
 | x :: xs,y :: ys,h=>by
  rw [kc,<-gk (a:=xs) (b:=ys) (by simpa using h),Sb,List.range_succ_eq_map,UO,SM]
  rfl
section
variable {X:Cx} {pins:List (Addr×Obj)} {σ:L2.St} {H:Hp} {s:Shared}
theorem lJ (I:Inv X pins σ H s) {p:Addr} {xs ys:List V} (h:SqL X.K H p xs) (h':SqT X.K H p ys):False:=by
 obtain ⟨us,_,p1,_⟩:=I.list h
 obtain ⟨ws,_,p2,_⟩:=I.tuple h'
 exact SeqAt.ne_of_list_tuple p1.isList (show s.heap.IsTuple p ws.toArray from p2) rfl
mutual
theorem lK (I:Inv X pins σ H s):∀ (d e:D) (x:V) (n:Nat),plainD n d=true->Rep X.K H d x->Rep X.K H e x->d=e
 | .non,e,x,n,_,r,q=>by
  cases cQ r
  cases e with
  | non=>rfl
  | bl b=>cases c6 q
  | int i=>cases bU q
  | str l=>cases (bN q).1
  | tup l=>obtain ⟨p,xs,ev,_⟩:=bH q;cases ev
  | lst l=>obtain ⟨p,xs,ev,_⟩:=bV q;cases ev
  | dct tk ks vs=>rw [Rep] at q;obtain ⟨p,xs,o,ev,_⟩:=q;cases ev
 | .bl b,e,x,n,_,r,q=>by
  cases c6 r
  cases e with
  | non=>cases cQ q
  | bl b=>cases c6 q;rfl
  | int i=>cases bU q
  | str l=>cases (bN q).1
  | tup l=>obtain ⟨p,xs,ev,_⟩:=bH q;cases ev
  | lst l=>obtain ⟨p,xs,ev,_⟩:=bV q;cases ev
  | dct tk ks vs=>rw [Rep] at q;obtain ⟨p,xs,o,ev,_⟩:=q;cases ev
 | .int i,e,x,n,_,r,q=>by
  cases bU r
  cases e with
  | non=>cases cQ q
  | bl b=>cases c6 q
  | int i=>cases bU q;rfl
  | str l=>cases (bN q).1
  | tup l=>obtain ⟨p,xs,ev,_⟩:=bH q;cases ev
  | lst l=>obtain ⟨p,xs,ev,_⟩:=bV q;cases ev
  | dct tk ks vs=>rw [Rep] at q;obtain ⟨p,xs,o,ev,_⟩:=q;cases ev
 | .str l,e,x,n,_,r,q=>by
  have hr:=(bN r).1
  subst hr
  cases e with
  | non=>cases cQ q
  | bl b=>cases c6 q
  | int i=>cases bU q
  | str l'=>
   have hq:=(bN q).1
   injection hq with hq
   rw [S_inj hq]
  | tup l=>obtain ⟨p,xs,ev,_⟩:=bH q;cases ev
  | lst l=>obtain ⟨p,xs,ev,_⟩:=bV q;cases ev
  | dct tk ks vs=>rw [Rep] at q;obtain ⟨p,xs,o,ev,_⟩:=q;cases ev
 | .tup l,e,x,n,h,r,q=>by
  obtain ⟨p,xs,ev,sq,rs⟩:=bH r
  subst ev
  cases e with
  | non=>cases cQ q
  | bl b=>cases c6 q
  | int i=>cases bU q
  | str l=>cases (bN q).1
  | tup l'=>
   obtain ⟨p',Hk,IC,HR,HD⟩:=bH q
   cases IC
   have:=I.tuple_inj sq HR
   subst this
   cases n with
   | zero=>simp only [plainD] at h;cases h
   | succ n=>
    simp only [plainD] at h
    rw [nY I l l' xs n h rs HD]
  | lst l'=>
   obtain ⟨p',Hk,IC,HR,HD⟩:=bV q
   cases IC
   exact (lJ I HR sq).elim
  | dct tk ks vs=>
   exfalso
   rw [Rep] at q
   obtain ⟨p',Hk,o,IC,rd,dd,_⟩:=q
   cases IC
   obtain ⟨F9,_,ip,_⟩:=I.tuple sq
   obtain ⟨ob,ho,hc,_⟩:=ip
   have Nk:=rd.ok I.hok
   cases tk with
   | true=>
    obtain ⟨Gb,eo,_⟩:=dd
    subst eo
    obtain ⟨_,_,_,_,o2,_,_,Ir,ex,_⟩:=Nk
    rw [ho] at Ir
    cases Ir
    rw [ex.1] at hc
    exact absurd hc (by decide)
   | false=>
    obtain ⟨Gb,eo,_⟩:=dd
    subst eo
    obtain ⟨_,_,_,_,o2,_,_,Ir,ex,_⟩:=Nk
    rw [ho] at Ir
    cases Ir
    rw [ex.1] at hc
    exact absurd hc (by decide)
 | .lst l,e,x,n,h,r,q=>by
  obtain ⟨p,xs,ev,sq,rs⟩:=bV r
  subst ev
  cases e with
  | non=>cases cQ q
  | bl b=>cases c6 q
  | int i=>cases bU q
  | str l=>cases (bN q).1
  | tup l'=>
   obtain ⟨p',Hk,IC,HR,HD⟩:=bH q
   cases IC
   exact (lJ I sq HR).elim
  | lst l'=>
   obtain ⟨p',Hk,IC,HR,HD⟩:=bV q
   cases IC
   have:=I.list_inj sq HR
   subst this
   cases n with
   | zero=>simp only [plainD] at h;cases h
   | succ n=>
    simp only [plainD] at h
    rw [nY I l l' xs n h rs HD]
  | dct tk ks vs=>
   exfalso
   rw [Rep] at q
   obtain ⟨p',Hk,o,IC,rd,dd,_⟩:=q
   cases IC
   obtain ⟨F9,_,ip,_⟩:=I.list sq
   obtain ⟨ob,_,ho,hc,_⟩:=ip
   have Nk:=rd.ok I.hok
   cases tk with
   | true=>
    obtain ⟨Gb,eo,_⟩:=dd
    subst eo
    obtain ⟨_,_,_,_,o2,_,_,Ir,ex,_⟩:=Nk
    rw [ho] at Ir
    cases Ir
    rw [ex.1] at hc
    exact absurd hc (by decide)
   | false=>
    obtain ⟨Gb,eo,_⟩:=dd
    subst eo
    obtain ⟨_,_,_,_,o2,_,_,Ir,ex,_⟩:=Nk
    rw [ho] at Ir
    cases Ir
    rw [ex.1] at hc
    exact absurd hc (by decide)
 | .dct _ _ _,_,_,n,h,_,_=>by cases n <;> (simp only [plainD] at h;cases h)
theorem nY (I:Inv X pins σ H s):∀ (ds es:List D) (xs:List V) (n:Nat),plainDs n ds=true->Reps X.K H ds xs->Reps X.K H es xs->ds=es
 | [],es,xs,n,_,r,q=>by
  rw [Reps] at r
  subst r
  cases es with
  | nil=>rfl
  | cons e es=>
   rw [Reps] at q
   obtain ⟨y,ys,ev,_⟩:=q
   cases ev
 | d :: ds,es,xs,n,h,r,q=>by
  rw [Reps] at r
  obtain ⟨y,ys,ev,r1,r2⟩:=r
  subst ev
  rw [plainDs,R9] at h
  cases es with
  | nil=>
   rw [Reps] at q
   cases q
  | cons e es=>
   rw [Reps] at q
   obtain ⟨y',ys',ev,q1,q2⟩:=q
   cases ev
   rw [lK I d e y n h.1 r1 q1,nY I ds es ys n h.2 r2 q2]
end
mutual
theorem jB:∀ (d:D) (n:Nat),plainD n d=true->eqD d d=true
 | .non,_,_=>by simp only [eqD]
 | .bl _,_,_=>by simp only [eqD,SF]
 | .int _,_,_=>by simp only [eqD,SF]
 | .str _,_,_=>by simp only [eqD,SF]
 | .tup ds,0,h=>by simp only [plainD] at h;cases h
 | .tup ds,n + 1,h=>by simp only [plainD] at h;simp only [eqD];exact lM ds n h
 | .lst ds,0,h=>by simp only [plainD] at h;cases h
 | .lst ds,n + 1,h=>by simp only [plainD] at h;simp only [eqD];exact lM ds n h
 | .dct _ _ _,n,h=>by cases n <;> (simp only [plainD] at h;cases h)
theorem lM:∀ (ds:List D) (n:Nat),plainDs n ds=true->kc ds ds=true
 | [],_,_=>by simp only [kc]
 | d :: ds,n,h=>by
  rw [plainDs,R9] at h
  rw [kc,jB d n h.1,lM ds n h.2]
  rfl
end
open PySem.SeqAt
theorem bZ {n:Nat} {tk:Bool} {ks vs:List D} (h:plainD n (.dct tk ks vs)=true):False:=by cases n <;> (simp only [plainD] at h;cases h)
mutual
theorem zZ (I:Inv X pins σ H s):∀ (d e:D) (x y:V) (v u:Value) (A:Around) (n:Nat),plainD n d=true->plainD n e=true->A.units + n < cLine->Rep X.K H d x->Rep X.K H e y->RelV x v->RelV y u->EqAt A s v u (eqD d e)
 | .non,e,x,y,v,u,A,n,h,h',hu,r,q,rx,ry=>by
  cases cQ r
  cases rx
  cases e with
  | non=>cases cQ q;cases ry;simp only [eqD];exact .same _
  | bl b=>cases c6 q;cases ry;simp only [eqD];exact .none_bool _
  | int i=>cases bU q;obtain ⟨t,rfl⟩:=ry;simp only [eqD];exact .none_int _ _
  | str l=>cases (bN q).1;obtain ⟨t,rfl⟩:=ry;simp only [eqD];exact .none_str _ _
  | tup l=>obtain ⟨p,xs,rfl,sq,_⟩:=bH q;cases ry;obtain ⟨F9,_,ip,_⟩:=I.tuple sq;simp only [eqD];exact .none_tuple (show s.heap.IsTuple p F9.toArray from ip) (by lia)
  | lst l=>obtain ⟨p,xs,rfl,sq,_⟩:=bV q;cases ry;obtain ⟨F9,_,ip,_⟩:=I.list sq;simp only [eqD];exact .none_list ip.isList (by lia)
  | dct tk ks vs=>exact (bZ h').elim
 | .bl b,e,x,y,v,u,A,n,h,h',hu,r,q,rx,ry=>by
  cases c6 r
  cases rx
  cases e with
  | non=>cases cQ q;cases ry;simp only [eqD];exact .bool_none _
  | bl b=>cases c6 q;cases ry;simp only [eqD];exact .bool_bool _ _
  | int i=>cases bU q;obtain ⟨t,rfl⟩:=ry;simp only [eqD];exact .bool_int _ _ _
  | str l=>cases (bN q).1;obtain ⟨t,rfl⟩:=ry;simp only [eqD];exact .bool_str _ _ _
  | tup l=>obtain ⟨p,xs,rfl,sq,_⟩:=bH q;cases ry;obtain ⟨F9,_,ip,_⟩:=I.tuple sq;simp only [eqD];exact .bool_tuple _ (show s.heap.IsTuple p F9.toArray from ip) (by lia)
  | lst l=>obtain ⟨p,xs,rfl,sq,_⟩:=bV q;cases ry;obtain ⟨F9,_,ip,_⟩:=I.list sq;simp only [eqD];exact .bool_list _ ip.isList (by lia)
  | dct tk ks vs=>exact (bZ h').elim
 | .int b,e,x,y,v,u,A,n,h,h',hu,r,q,rx,ry=>by
  cases bU r
  obtain ⟨t0,rfl⟩:=rx
  cases e with
  | non=>cases cQ q;cases ry;simp only [eqD];exact .int_none _ _
  | bl b=>cases c6 q;cases ry;simp only [eqD];exact .int_bool _ _ _
  | int i=>cases bU q;obtain ⟨t,rfl⟩:=ry;simp only [eqD];exact .int_int _ _ _ _
  | str l=>cases (bN q).1;obtain ⟨t,rfl⟩:=ry;simp only [eqD];exact .int_str _ _ _ _
  | tup l=>obtain ⟨p,xs,rfl,sq,_⟩:=bH q;cases ry;obtain ⟨F9,_,ip,_⟩:=I.tuple sq;simp only [eqD];exact .int_tuple _ _ (show s.heap.IsTuple p F9.toArray from ip) (by lia)
  | lst l=>obtain ⟨p,xs,rfl,sq,_⟩:=bV q;cases ry;obtain ⟨F9,_,ip,_⟩:=I.list sq;simp only [eqD];exact .int_list _ _ ip.isList (by lia)
  | dct tk ks vs=>exact (bZ h').elim
 | .str b,e,x,y,v,u,A,n,h,h',hu,r,q,rx,ry=>by
  have hr:=(bN r).1
  subst hr
  obtain ⟨t0,rfl⟩:=rx
  cases e with
  | non=>cases cQ q;cases ry;simp only [eqD];exact .str_none _ _
  | bl b=>cases c6 q;cases ry;simp only [eqD];exact .str_bool _ _ _
  | int i=>cases bU q;obtain ⟨t,rfl⟩:=ry;simp only [eqD];exact .str_int _ _ _ _
  | str l=>
   have hq:=(bN q).1
   subst hq
   obtain ⟨t,rfl⟩:=ry
   have e1:(b == l)=(S b == S l):=by
    rw [Sh,Si,Si]
    exact ⟨fun z=>by rw [z],S_inj⟩
   simp only [eqD,e1]
   exact .str_str _ _ _ _
  | tup l=>obtain ⟨p,xs,rfl,sq,_⟩:=bH q;cases ry;obtain ⟨F9,_,ip,_⟩:=I.tuple sq;simp only [eqD];exact .str_tuple _ _ (show s.heap.IsTuple p F9.toArray from ip) (by lia)
  | lst l=>obtain ⟨p,xs,rfl,sq,_⟩:=bV q;cases ry;obtain ⟨F9,_,ip,_⟩:=I.list sq;simp only [eqD];exact .str_list _ _ ip.isList (by lia)
  | dct tk ks vs=>exact (bZ h').elim
 | .tup l,e,x,y,v,u,A,n,h,h',hu,r,q,rx,ry=>by
  have rr:=r
  obtain ⟨p,xs,ev,sq,rs⟩:=bH r
  subst ev
  cases rx
  obtain ⟨F9,vl,ip,_⟩:=I.tuple sq
  have ip:s.heap.IsTuple p F9.toArray:=ip
  cases e with
  | non=>cases cQ q;cases ry;simp only [eqD];exact .tuple_none ip (by lia)
  | bl b=>cases c6 q;cases ry;simp only [eqD];exact .tuple_bool _ ip (by lia)
  | int i=>cases bU q;obtain ⟨t,rfl⟩:=ry;simp only [eqD];exact .tuple_int _ _ ip (by lia)
  | str l=>cases (bN q).1;obtain ⟨t,rfl⟩:=ry;simp only [eqD];exact .tuple_str _ _ ip (by lia)
  | tup l'=>
   obtain ⟨p',Hk,IC,HR,HD⟩:=bH q
   subst IC
   cases ry
   by_cases hp:p=p'
   ·subst hp
    have hz:=lK I _ _ _ n h rr q
    rw [<-hz,jB _ n h]
    exact .same _
   ·obtain ⟨its',Lo,Ip,_⟩:=I.tuple HR
    have Ip:s.heap.IsTuple p' its'.toArray:=Ip
    cases n with
    | zero=>simp only [plainD] at h;cases h
    | succ n=>
     simp only [plainD] at h h'
     have l1:=vl.length
     have l2:=Lo.length
     have l3:=rs.length
     have l4:=HD.length
     have key:=RcAt.tuples (A:=A) (e:=fun j=>eqD (l.getD j .non) (l'.getD j .non)) ip Ip (by lia) fun j h1 h2=>by
      simp only [RI] at h1 h2
      have g1:l[j]?=some (l[j]'(by lia)):=List.getElem?_eq_getElem _
      have g2:l'[j]?=some (l'[j]'(by lia)):=List.getElem?_eq_getElem _
      obtain ⟨w1,Kg,Kh⟩:=rs.get g1
      obtain ⟨w2,Lp,Lq⟩:=HD.get g2
      obtain ⟨u1,I0,Ki⟩:=vl.get Kg
      obtain ⟨u2,JR,Lr⟩:=Lo.get Lp
      have q1:F9.toArray[j]=u1:=by rw [List.getElem?_eq_getElem h1] at I0;simpa using I0
      have q2:its'.toArray[j]=u2:=by rw [List.getElem?_eq_getElem h2] at JR;simpa using JR
      rw [q1,q2,List.getD_eq_getElem?_getD,List.getD_eq_getElem?_getD,g1,g2]
      exact pA I l j _ g1 _ w1 w2 u1 u2 A.in1 n (plainDs_mem h g1) (plainDs_mem h' g2) (by show A.units + 1 + n < cLine;lia) Kh Lq Ki Lr
     simp only [eqD]
     have fin:((List.range (min F9.toArray.size its'.toArray.size)).all (fun j=>eqD (l.getD j .non) (l'.getD j .non)) && F9.toArray.size == its'.toArray.size)=kc l l':=by
      simp only [RI]
      by_cases hl:l.length=l'.length
      ·rw [<-gk hl,show min F9.length its'.length=l.length by lia,show (F9.length == its'.length)=true by rw [Si];lia,VL]
      ·rw [jA hl,show (F9.length == its'.length)=false by rw [Sw];lia,VC]
     rw [<-fin]
     exact .of_refs hp key
  | lst l'=>obtain ⟨p',Hk,IC,HR,_⟩:=bV q;subst IC;cases ry;obtain ⟨its',_,Ip,_⟩:=I.list HR;simp only [eqD];exact .tuple_list ip Ip.isList (by lia)
  | dct tk ks vs=>exact (bZ h').elim
 | .lst l,e,x,y,v,u,A,n,h,h',hu,r,q,rx,ry=>by
  have rr:=r
  obtain ⟨p,xs,ev,sq,rs⟩:=bV r
  subst ev
  cases rx
  obtain ⟨F9,vl,ip,_⟩:=I.list sq
  have ip:=ip.isList
  cases e with
  | non=>cases cQ q;cases ry;simp only [eqD];exact .list_none ip (by lia)
  | bl b=>cases c6 q;cases ry;simp only [eqD];exact .list_bool _ ip (by lia)
  | int i=>cases bU q;obtain ⟨t,rfl⟩:=ry;simp only [eqD];exact .list_int _ _ ip (by lia)
  | str l=>cases (bN q).1;obtain ⟨t,rfl⟩:=ry;simp only [eqD];exact .list_str _ _ ip (by lia)
  | lst l'=>
   obtain ⟨p',Hk,IC,HR,HD⟩:=bV q
   subst IC
   cases ry
   by_cases hp:p=p'
   ·subst hp
    have hz:=lK I _ _ _ n h rr q
    rw [<-hz,jB _ n h]
    exact .same _
   ·obtain ⟨its',Lo,Ip,_⟩:=I.list HR
    have Ip:=Ip.isList
    cases n with
    | zero=>simp only [plainD] at h;cases h
    | succ n=>
     simp only [plainD] at h h'
     have l1:=vl.length
     have l2:=Lo.length
     have l3:=rs.length
     have l4:=HD.length
     simp only [eqD]
     by_cases hl:l.length=l'.length
     ·have key:=RcAt.lists (A:=A) (e:=fun j=>eqD (l.getD j .non) (l'.getD j .non)) ip Ip (by simp only [RI];lia) (by lia) fun j h1 h2=>by
       simp only [RI] at h1 h2
       have g1:l[j]?=some (l[j]'(by lia)):=List.getElem?_eq_getElem _
       have g2:l'[j]?=some (l'[j]'(by lia)):=List.getElem?_eq_getElem _
       obtain ⟨w1,Kg,Kh⟩:=rs.get g1
       obtain ⟨w2,Lp,Lq⟩:=HD.get g2
       obtain ⟨u1,I0,Ki⟩:=vl.get Kg
       obtain ⟨u2,JR,Lr⟩:=Lo.get Lp
       have q1:F9.toArray[j]=u1:=by rw [List.getElem?_eq_getElem h1] at I0;simpa using I0
       have q2:its'.toArray[j]=u2:=by rw [List.getElem?_eq_getElem h2] at JR;simpa using JR
       rw [q1,q2,List.getD_eq_getElem?_getD,List.getD_eq_getElem?_getD,g1,g2]
       exact pA I l j _ g1 _ w1 w2 u1 u2 A.in1 n (plainDs_mem h g1) (plainDs_mem h' g2) (by show A.units + 1 + n < cLine;lia) Kh Lq Ki Lr
      rw [<-gk hl,show l.length=F9.toArray.size by simp only [RI];lia]
      exact .of_refs hp key
     ·rw [jA hl]
      exact .of_refs hp (RcAt.lists_lengths ip Ip (by simp only [RI,V0];lia) (by lia))
  | tup l'=>obtain ⟨p',Hk,IC,HR,_⟩:=bH q;subst IC;cases ry;obtain ⟨its',_,Ip,_⟩:=I.tuple HR;simp only [eqD];exact .list_tuple ip (show s.heap.IsTuple p' its'.toArray from Ip) (by lia)
  | dct tk ks vs=>exact (bZ h').elim
 | .dct _ _ _,_,_,_,_,_,_,n,h,_,_,_,_,_,_=>(bZ h).elim
theorem pA (I:Inv X pins σ H s):∀ (ds:List D) (j:Nat) (d:D),ds[j]?=some d->∀ (e:D) (x y:V) (v u:Value) (A:Around) (n:Nat),plainD n d=true->plainD n e=true->A.units + n < cLine->Rep X.K H d x->Rep X.K H e y->RelV x v->RelV y u->EqAt A s v u (eqD d e)
 | [],_,_,hj=>by simp at hj
 | d' :: ds,0,d,hj=>by
  simp at hj
  subst hj
  exact zZ I d'
 | d' :: ds,j + 1,d,hj=>pA I ds j d (by simpa using hj)
end
end
section
variable {X:Cx}
def HG (a b:D):Res R:=if plainD 40 a && plainD 40 b then .ok (.f,.bl (eqD a b)) else .bad
def Kc (a b:D):Res R:=if plainD 40 a && plainD 40 b then .ok (.f,.bl (!eqD a b)) else .bad
open PySem.SeqAt in
theorem Cj {pins:List (Addr×Obj)} {σ:L2.St} {H:Hp} {s:Shared} (I:Inv X pins σ H s) {d e:D} {x y:V} {v u:Value} {A:Around} (h:plainD 40 d=true) (h':plainD 40 e=true) (hu:A.units + 64 < cLine) (r:Rep X.K H d x) (q:Rep X.K H e y) (rx:RelV x v) (ry:RelV y u) :
  RcAt A s v u (eqD d e)/\RcNeAt A s v u (!eqD d e):=by
 cases d with
 | non=>
  cases cQ r
  cases rx
  cases e with
  | non=>cases cQ q;cases ry;simp only [eqD];exact ⟨.none_none,.none_none⟩
  | bl b=>cases c6 q;cases ry;simp only [eqD];exact ⟨.none_bool _,.none_bool _⟩
  | int i=>cases bU q;obtain ⟨t,rfl⟩:=ry;simp only [eqD];exact ⟨.none_int _ _,.none_int _ _⟩
  | str l=>cases (bN q).1;obtain ⟨t,rfl⟩:=ry;simp only [eqD];exact ⟨.none_str _ _,.none_str _ _⟩
  | tup l=>obtain ⟨p,xs,rfl,sq,_⟩:=bH q;cases ry;obtain ⟨F9,_,ip,_⟩:=I.tuple sq;simp only [eqD];exact ⟨.none_tuple (show s.heap.IsTuple p F9.toArray from ip) (by lia),.none_tuple (show s.heap.IsTuple p F9.toArray from ip) (by lia)⟩
  | lst l=>obtain ⟨p,xs,rfl,sq,_⟩:=bV q;cases ry;obtain ⟨F9,_,ip,_⟩:=I.list sq;simp only [eqD];exact ⟨.none_list ip.isList (by lia),.none_list ip.isList (by lia)⟩
  | dct tk ks vs=>exact (bZ h').elim
 | bl b=>
  cases c6 r
  cases rx
  cases e with
  | non=>cases cQ q;cases ry;simp only [eqD];exact ⟨.bool_none _,.bool_none _⟩
  | bl b=>cases c6 q;cases ry;simp only [eqD];exact ⟨.bool_bool _ _,.bool_bool _ _⟩
  | int i=>cases bU q;obtain ⟨t,rfl⟩:=ry;simp only [eqD];exact ⟨.bool_int _ _ _,.bool_int _ _ _⟩
  | str l=>cases (bN q).1;obtain ⟨t,rfl⟩:=ry;simp only [eqD];exact ⟨.bool_str _ _ _,.bool_str _ _ _⟩
  | tup l=>obtain ⟨p,xs,rfl,sq,_⟩:=bH q;cases ry;obtain ⟨F9,_,ip,_⟩:=I.tuple sq;simp only [eqD];exact ⟨.bool_tuple _ (show s.heap.IsTuple p F9.toArray from ip) (by lia),.bool_tuple _ (show s.heap.IsTuple p F9.toArray from ip) (by lia)⟩
  | lst l=>obtain ⟨p,xs,rfl,sq,_⟩:=bV q;cases ry;obtain ⟨F9,_,ip,_⟩:=I.list sq;simp only [eqD];exact ⟨.bool_list _ ip.isList (by lia),.bool_list _ ip.isList (by lia)⟩
  | dct tk ks vs=>exact (bZ h').elim
 | int b=>
  cases bU r
  obtain ⟨t0,rfl⟩:=rx
  cases e with
  | non=>cases cQ q;cases ry;simp only [eqD];exact ⟨.int_none _ _,.int_none _ _⟩
  | bl b=>cases c6 q;cases ry;simp only [eqD];exact ⟨.int_bool _ _ _,.int_bool _ _ _⟩
  | int i=>cases bU q;obtain ⟨t,rfl⟩:=ry;simp only [eqD];exact ⟨.int_int _ _ _ _,.int_int _ _ _ _⟩
  | str l=>cases (bN q).1;obtain ⟨t,rfl⟩:=ry;simp only [eqD];exact ⟨.int_str _ _ _ _,.int_str _ _ _ _⟩
  | tup l=>obtain ⟨p,xs,rfl,sq,_⟩:=bH q;cases ry;obtain ⟨F9,_,ip,_⟩:=I.tuple sq;simp only [eqD];exact ⟨.int_tuple _ _ (show s.heap.IsTuple p F9.toArray from ip) (by lia),.int_tuple _ _ (show s.heap.IsTuple p F9.toArray from ip) (by lia)⟩
  | lst l=>obtain ⟨p,xs,rfl,sq,_⟩:=bV q;cases ry;obtain ⟨F9,_,ip,_⟩:=I.list sq;simp only [eqD];exact ⟨.int_list _ _ ip.isList (by lia),.int_list _ _ ip.isList (by lia)⟩
  | dct tk ks vs=>exact (bZ h').elim
 | str b=>
  have hr:=(bN r).1
  subst hr
  obtain ⟨t0,rfl⟩:=rx
  cases e with
  | non=>cases cQ q;cases ry;simp only [eqD];exact ⟨.str_none _ _,.str_none _ _⟩
  | bl b=>cases c6 q;cases ry;simp only [eqD];exact ⟨.str_bool _ _ _,.str_bool _ _ _⟩
  | int i=>cases bU q;obtain ⟨t,rfl⟩:=ry;simp only [eqD];exact ⟨.str_int _ _ _ _,.str_int _ _ _ _⟩
  | str l=>
   have hq:=(bN q).1
   subst hq
   obtain ⟨t,rfl⟩:=ry
   have e1:(b == l)=(S b == S l):=by
    rw [Sh,Si,Si]
    exact ⟨fun z=>by rw [z],S_inj⟩
   simp only [eqD,e1]
   exact ⟨.str_str _ _ _ _,.str_str _ _ _ _⟩
  | tup l=>obtain ⟨p,xs,rfl,sq,_⟩:=bH q;cases ry;obtain ⟨F9,_,ip,_⟩:=I.tuple sq;simp only [eqD];exact ⟨.str_tuple _ _ (show s.heap.IsTuple p F9.toArray from ip) (by lia),.str_tuple _ _ (show s.heap.IsTuple p F9.toArray from ip) (by lia)⟩
  | lst l=>obtain ⟨p,xs,rfl,sq,_⟩:=bV q;cases ry;obtain ⟨F9,_,ip,_⟩:=I.list sq;simp only [eqD];exact ⟨.str_list _ _ ip.isList (by lia),.str_list _ _ ip.isList (by lia)⟩
  | dct tk ks vs=>exact (bZ h').elim
 | tup l=>
  obtain ⟨p,xs,ev,sq,rs⟩:=bH r
  subst ev
  cases rx
  obtain ⟨F9,vl,ip,_⟩:=I.tuple sq
  have ip:s.heap.IsTuple p F9.toArray:=ip
  cases e with
  | non=>cases cQ q;cases ry;simp only [eqD];exact ⟨.tuple_none ip (by lia),.tuple_none ip (by lia)⟩
  | bl b=>cases c6 q;cases ry;simp only [eqD];exact ⟨.tuple_bool _ ip (by lia),.tuple_bool _ ip (by lia)⟩
  | int i=>cases bU q;obtain ⟨t,rfl⟩:=ry;simp only [eqD];exact ⟨.tuple_int _ _ ip (by lia),.tuple_int _ _ ip (by lia)⟩
  | str l=>cases (bN q).1;obtain ⟨t,rfl⟩:=ry;simp only [eqD];exact ⟨.tuple_str _ _ ip (by lia),.tuple_str _ _ ip (by lia)⟩
  | tup l'=>
   obtain ⟨p',Hk,IC,HR,HD⟩:=bH q
   subst IC
   cases ry
   obtain ⟨its',Lo,Ip,_⟩:=I.tuple HR
   have Ip:s.heap.IsTuple p' its'.toArray:=Ip
   simp only [plainD] at h h'
   have l1:=vl.length
   have l2:=Lo.length
   have l3:=rs.length
   have l4:=HD.length
   have el:∀ j (h1:j < F9.toArray.size) (h2:j < its'.toArray.size),EqAt A.in1 s F9.toArray[j] its'.toArray[j] ((fun j=>eqD (l.getD j .non) (l'.getD j .non)) j):=fun j h1 h2=>by
    simp only [RI] at h1 h2
    have g1:l[j]?=some (l[j]'(by lia)):=List.getElem?_eq_getElem _
    have g2:l'[j]?=some (l'[j]'(by lia)):=List.getElem?_eq_getElem _
    obtain ⟨w1,Kg,Kh⟩:=rs.get g1
    obtain ⟨w2,Lp,Lq⟩:=HD.get g2
    obtain ⟨u1,I0,Ki⟩:=vl.get Kg
    obtain ⟨u2,JR,Lr⟩:=Lo.get Lp
    have q1:F9.toArray[j]=u1:=by rw [List.getElem?_eq_getElem h1] at I0;simpa using I0
    have q2:its'.toArray[j]=u2:=by rw [List.getElem?_eq_getElem h2] at JR;simpa using JR
    dsimp only
    rw [q1,q2,List.getD_eq_getElem?_getD,List.getD_eq_getElem?_getD,g1,g2]
    exact pA I l j _ g1 _ w1 w2 u1 u2 A.in1 39 (plainDs_mem h g1) (plainDs_mem h' g2) (by show A.units + 1 + 39 < cLine;lia) Kh Lq Ki Lr
   simp only [eqD]
   have fin:((List.range (min F9.toArray.size its'.toArray.size)).all (fun j=>eqD (l.getD j .non) (l'.getD j .non)) && F9.toArray.size == its'.toArray.size)=kc l l':=by
    simp only [RI]
    by_cases hl:l.length=l'.length
    ·rw [<-gk hl,show min F9.length its'.length=l.length by lia,show (F9.length == its'.length)=true by rw [Si];lia,VL]
    ·rw [jA hl,show (F9.length == its'.length)=false by rw [Sw];lia,VC]
   rw [<-fin]
   exact ⟨.tuples ip Ip (by lia) el,.tuples ip Ip (by lia) el⟩
  | lst l'=>obtain ⟨p',Hk,IC,HR,_⟩:=bV q;subst IC;cases ry;obtain ⟨its',_,Ip,_⟩:=I.list HR;simp only [eqD];exact ⟨.tuple_list ip Ip.isList (by lia),.tuple_list ip Ip.isList (by lia)⟩
  | dct tk ks vs=>exact (bZ h').elim
 | lst l=>
  obtain ⟨p,xs,ev,sq,rs⟩:=bV r
  subst ev
  cases rx
  obtain ⟨F9,vl,ip,_⟩:=I.list sq
  have ip:=ip.isList
  cases e with
  | non=>cases cQ q;cases ry;simp only [eqD];exact ⟨.list_none ip (by lia),.list_none ip (by lia)⟩
  | bl b=>cases c6 q;cases ry;simp only [eqD];exact ⟨.list_bool _ ip (by lia),.list_bool _ ip (by lia)⟩
  | int i=>cases bU q;obtain ⟨t,rfl⟩:=ry;simp only [eqD];exact ⟨.list_int _ _ ip (by lia),.list_int _ _ ip (by lia)⟩
  | str l=>cases (bN q).1;obtain ⟨t,rfl⟩:=ry;simp only [eqD];exact ⟨.list_str _ _ ip (by lia),.list_str _ _ ip (by lia)⟩
  | lst l'=>
   obtain ⟨p',Hk,IC,HR,HD⟩:=bV q
   subst IC
   cases ry
   obtain ⟨its',Lo,Ip,_⟩:=I.list HR
   have Ip:=Ip.isList
   simp only [plainD] at h h'
   have l1:=vl.length
   have l2:=Lo.length
   have l3:=rs.length
   have l4:=HD.length
   simp only [eqD]
   by_cases hl:l.length=l'.length
   ·have el:∀ j (h1:j < F9.toArray.size) (h2:j < its'.toArray.size),EqAt A.in1 s F9.toArray[j] its'.toArray[j] ((fun j=>eqD (l.getD j .non) (l'.getD j .non)) j):=fun j h1 h2=>by
     simp only [RI] at h1 h2
     have g1:l[j]?=some (l[j]'(by lia)):=List.getElem?_eq_getElem _
     have g2:l'[j]?=some (l'[j]'(by lia)):=List.getElem?_eq_getElem _
     obtain ⟨w1,Kg,Kh⟩:=rs.get g1
     obtain ⟨w2,Lp,Lq⟩:=HD.get g2
     obtain ⟨u1,I0,Ki⟩:=vl.get Kg
     obtain ⟨u2,JR,Lr⟩:=Lo.get Lp
     have q1:F9.toArray[j]=u1:=by rw [List.getElem?_eq_getElem h1] at I0;simpa using I0
     have q2:its'.toArray[j]=u2:=by rw [List.getElem?_eq_getElem h2] at JR;simpa using JR
     dsimp only
     rw [q1,q2,List.getD_eq_getElem?_getD,List.getD_eq_getElem?_getD,g1,g2]
     exact pA I l j _ g1 _ w1 w2 u1 u2 A.in1 39 (plainDs_mem h g1) (plainDs_mem h' g2) (by show A.units + 1 + 39 < cLine;lia) Kh Lq Ki Lr
    rw [<-gk hl,show l.length=F9.toArray.size by simp only [RI];lia]
    exact ⟨.lists ip Ip (by simp only [RI];lia) (by lia) el,.lists ip Ip (by simp only [RI];lia) (by lia) el⟩
   ·rw [jA hl]
    exact ⟨.lists_lengths ip Ip (by simp only [RI,V0];lia) (by lia),.lists_lengths ip Ip (by simp only [RI,V0];lia) (by lia)⟩
  | tup l'=>obtain ⟨p',Hk,IC,HR,_⟩:=bH q;subst IC;cases ry;obtain ⟨its',_,Ip,_⟩:=I.tuple HR;simp only [eqD];exact ⟨.list_tuple ip (show s.heap.IsTuple p' its'.toArray from Ip) (by lia),.list_tuple ip (show s.heap.IsTuple p' its'.toArray from Ip) (by lia)⟩
  | dct tk ks vs=>exact (bZ h').elim
 | dct tk ks vs=>exact (bZ h).elim
theorem hV (hu:X.A.units + 64 < cLine):Hf X (compareOp .Eq) (rGA X.K HG):=by
 rintro pins s σ H x y v u Q I rx ry ⟨G,fp,es,vs,a,b,r,⟨rel,k⟩,va,vb,e⟩
 unfold HG at e
 split at e
 ·rename_i hp
  cases e
  rw [R9] at hp
  exact (Cj I hp.1 hp.2 hu va vb rx ry).1 _ _ _ _ ⟨.bl _,H,I,rfl,k _ H G fp .refl (rel.push (de _))⟩
 ·cases e
theorem qu (hu:X.A.units + 64 < cLine):Hf X (compareOp .NotEq) (rGA X.K Kc):=by
 rintro pins s σ H x y v u Q I rx ry ⟨G,fp,es,vs,a,b,r,⟨rel,k⟩,va,vb,e⟩
 unfold Kc at e
 split at e
 ·rename_i hp
  cases e
  rw [R9] at hp
  exact (Cj I hp.1 hp.2 hu va vb rx ry).2 _ _ _ _ ⟨.bl _,H,I,rfl,k _ H G fp .refl (rel.push (de _))⟩
 ·cases e
def uo (a:D) (ds:List D):Bool:=ds.any fun d=>eqD d a
def K7 (a b:D):Res R:=match b with
 | .lst ds=>if plainD 40 a && plainDs 40 ds then .ok (.f,.bl (uo a ds)) else .bad
 | .tup ds=>if plainD 40 a && plainDs 40 ds then .ok (.f,.bl (uo a ds)) else .bad
 | .str l=>match a with
  | .str [c]=>.ok (.f,.bl (decide (c∈l)))
  | _=>.bad
 | _=>.bad
def uq (a b:D):Res R:=(K7 a b).bind fun r=>match r.2 with
 | .bl k=>.ok (.f,.bl (!k))
 | _=>.bad
open PySem.SeqAt in
theorem rQ {pins:List (Addr×Obj)} {σ:L2.St} {H:Hp} {s:Shared} (I:Inv X pins σ H s) {a:D} {x:V} {v:Value} {A:Around} (h:plainD 40 a=true) (hu:A.units + 64 < cLine) (r:Rep X.K H a x) (rx:RelV x v) :
  ∀ (ds:List D) (xs:List V) (us:List Value),plainDs 40 ds=true->Reps X.K H ds xs->Vals xs us->∃ e:Value->Bool,us.any e=uo a ds/\∀ u∈us,EqAt A s u v (e u):=by
 classical
 intro ds xs us hp rs vl
 refine ⟨fun u=>decide (∃ (j:Nat) (d:D),ds[j]?=some d/\us[j]?=some u/\eqD d a=true),?_,fun u Qq=>?_⟩
 ·rw [Sh,SG]
  unfold uo
  rw [SG]
  constructor
  ·rintro ⟨u,_,hd⟩
   obtain ⟨j,d,h1,_,h2⟩:=Ud hd
   exact ⟨d,RW h1,h2⟩
  ·rintro ⟨d,hd,h2⟩
   obtain ⟨j,hj⟩:=Sr.mp hd
   obtain ⟨w1,Kg,Kh⟩:=rs.get hj
   obtain ⟨u1,I0,Ki⟩:=vl.get Kg
   exact ⟨u1,RW I0,Sm ⟨j,d,hj,I0,h2⟩⟩
 ·obtain ⟨j,hj⟩:=Sr.mp Qq
  have l1:=vl.length
  have l2:=rs.length
  have Rc:=(List.getElem?_eq_some_iff.mp hj).1
  have g1:ds[j]?=some (ds[j]'(by lia)):=List.getElem?_eq_getElem _
  obtain ⟨w1,Kg,Kh⟩:=rs.get g1
  obtain ⟨u1,I0,Ki⟩:=vl.get Kg
  rw [hj] at I0
  cases I0
  have z:=zZ I _ _ w1 x u v A 40 (plainDs_mem hp g1) h (by lia) Kh r Ki rx
  have e:decide (∃ (j:Nat) (d:D),ds[j]?=some d/\us[j]?=some u/\eqD d a=true)=eqD (ds[j]'(by lia)) a:=by
   rw [Sh,R0]
   constructor
   ·rintro ⟨j2,d2,k1,k2,k3⟩
    obtain ⟨w2,Lp,Lq⟩:=rs.get k1
    obtain ⟨u2,JR,Lr⟩:=vl.get Lp
    rw [k2] at JR
    cases JR
    have:=Ki.inj Lr
    subst this
    rw [lK I _ _ _ 40 (plainDs_mem hp g1) Kh Lq]
    exact k3
   ·intro k3
    exact ⟨j,_,g1,hj,k3⟩
  show EqAt A s u v (decide (∃ (j:Nat) (d:D),ds[j]?=some d/\us[j]?=some u/\eqD d a=true))
  rw [e]
  exact z
theorem pB (l:List Nat) (c:Nat):(!(Builtin.Str.occurrences (S l) (S [c]) 0 (S l).length 1).isEmpty)=decide (c∈l):=by
 have h:=PySem.StrLaws.found_one (S l) c
 rw [fu] at h
 exact h
theorem nZ {e:Value->Bool} (us:List Value):us.toArray.any e=us.any e:=by simp
theorem Et (hu:X.A.units + 65 < cLine):Hf X (compareOp .In) (rGA X.K K7):=by
 rintro pins s σ H x y v u Q I rx ry ⟨G,fp,es,vs,a,b,r,⟨rel,k⟩,va,vb,e⟩
 unfold K7 at e
 split at e
 ·rename_i ds
  split at e
  ·rename_i hp
   cases e
   rw [R9] at hp
   obtain ⟨p,xs,ev,sq,rs⟩:=bV vb
   subst ev
   cases ry
   obtain ⟨F9,vl,ip,_⟩:=I.list sq
   obtain ⟨ef,e1,e2⟩:=rQ (A:=X.A.in1) I hp.1 (by show X.A.units + 1 + 64 < cLine;lia) va rx ds xs F9 hp.2 rs vl
   refine SeqAt.in_listAt ef ip.isList (fun z hz=>e2 z (by simpa using hz)) ?_
   rw [nZ,e1]
   exact ⟨.bl _,H,I,rfl,k _ H G fp .refl (rel.push (de _))⟩
  ·cases e
 ·rename_i ds
  split at e
  ·rename_i hp
   cases e
   rw [R9] at hp
   obtain ⟨p,xs,ev,sq,rs⟩:=bH vb
   subst ev
   cases ry
   obtain ⟨F9,vl,ip,_⟩:=I.tuple sq
   obtain ⟨ef,e1,e2⟩:=rQ (A:=X.A.in1) I hp.1 (by show X.A.units + 1 + 64 < cLine;lia) va rx ds xs F9 hp.2 rs vl
   refine SeqAt.in_tupleAt ef (show s.heap.IsTuple p F9.toArray from ip) (fun z hz=>e2 z (by simpa using hz)) ?_
   rw [nZ,e1]
   exact ⟨.bl _,H,I,rfl,k _ H G fp .refl (rel.push (de _))⟩
  ·cases e
 ·rename_i l
  split at e
  ·rename_i c
   cases e
   obtain ⟨e1,h1⟩:=bN va
   obtain ⟨e2,h2⟩:=bN vb
   subst e1
   subst e2
   refine uF pins s σ H _ _ v u Q I rx ry ⟨_,_,rfl,rfl,?_⟩
   rw [pB]
   exact k _ H G fp .refl (rel.push (de _))
  ·cases e
 ·cases e
theorem Cm (hu:X.A.units + 65 < cLine):Hf X (compareOp .NotIn) (rGA X.K uq):=by
 rintro pins s σ H x y v u Q I rx ry ⟨G,fp,es,vs,a,b,r,⟨rel,k⟩,va,vb,e⟩
 unfold uq at e
 obtain ⟨r0,e0,e⟩:=ar e
 unfold K7 at e0
 split at e0
 ·rename_i ds
  split at e0
  ·rename_i hp
   cases e0
   cases e
   rw [R9] at hp
   obtain ⟨p,xs,ev,sq,rs⟩:=bV vb
   subst ev
   cases ry
   obtain ⟨F9,vl,ip,_⟩:=I.list sq
   obtain ⟨ef,e1,e2⟩:=rQ (A:=X.A.in1) I hp.1 (by show X.A.units + 1 + 64 < cLine;lia) va rx ds xs F9 hp.2 rs vl
   refine SeqAt.notIn_listAt ef ip.isList (fun z hz=>e2 z (by simpa using hz)) ?_
   rw [nZ,e1]
   exact ⟨.bl _,H,I,rfl,k _ H G fp .refl (rel.push (de _))⟩
  ·cases e0
 ·rename_i ds
  split at e0
  ·rename_i hp
   cases e0
   cases e
   rw [R9] at hp
   obtain ⟨p,xs,ev,sq,rs⟩:=bH vb
   subst ev
   cases ry
   obtain ⟨F9,vl,ip,_⟩:=I.tuple sq
   obtain ⟨ef,e1,e2⟩:=rQ (A:=X.A.in1) I hp.1 (by show X.A.units + 1 + 64 < cLine;lia) va rx ds xs F9 hp.2 rs vl
   refine SeqAt.notIn_tupleAt ef (show s.heap.IsTuple p F9.toArray from ip) (fun z hz=>e2 z (by simpa using hz)) ?_
   rw [nZ,e1]
   exact ⟨.bl _,H,I,rfl,k _ H G fp .refl (rel.push (de _))⟩
  ·cases e0
 ·rename_i l
  split at e0
  ·rename_i c
   cases e0
   cases e
   obtain ⟨e1,h1⟩:=bN va
   obtain ⟨e2,h2⟩:=bN vb
   subst e1
   subst e2
   refine oQ pins s σ H _ _ v u Q I rx ry ⟨_,_,rfl,rfl,?_⟩
   rw [pB]
   exact k _ H G fp .refl (rel.push (de _))
  ·cases e0
 ·cases e0
def Qr (a b:D):Res R:=match b with
 | .bl k=>.ok (.f,.bl (match a with | .bl j=>j == k | _=>false))
 | .non=>.ok (.f,.bl (match a with | .non=>true | _=>false))
 | _=>.bad
def isnO (a b:D):Res R:=(Qr a b).bind fun r=>match r.2 with
 | .bl k=>.ok (.f,.bl (!k))
 | _=>.bad
theorem xF {K:W.Frag} {H:Hp} {a b:D} {x y:V} {v u:Value} {r:R} (va:Rep K H a x) (vb:Rep K H b y) (rx:RelV x v) (ry:RelV y u) (e:Qr a b=.ok r):plainIs v u=true/\r=(.f,.bl (v == u)):=by
 unfold Qr at e
 split at e
 ·rename_i k
  cases e
  cases c6 vb
  cases ry
  cases a with
  | non=>cases cQ va;cases rx;exact ⟨rfl,rfl⟩
  | bl j=>cases c6 va;cases rx;refine ⟨rfl,?_⟩;cases j <;> cases k <;> rfl
  | int i=>cases bU va;obtain ⟨t,rfl⟩:=rx;exact ⟨rfl,rfl⟩
  | str l=>cases (bN va).1;obtain ⟨t,rfl⟩:=rx;exact ⟨rfl,rfl⟩
  | tup l=>obtain ⟨p,xs,rfl,_⟩:=bH va;cases rx;exact ⟨rfl,rfl⟩
  | lst l=>obtain ⟨p,xs,rfl,_⟩:=bV va;cases rx;exact ⟨rfl,rfl⟩
  | dct tk ks vs=>rw [Rep] at va;obtain ⟨p,xs,o,rfl,_⟩:=va;cases rx;exact ⟨rfl,rfl⟩
 ·cases e
  cases cQ vb
  cases ry
  cases a with
  | non=>cases cQ va;cases rx;exact ⟨rfl,rfl⟩
  | bl j=>cases c6 va;cases rx;exact ⟨rfl,rfl⟩
  | int i=>cases bU va;obtain ⟨t,rfl⟩:=rx;exact ⟨rfl,rfl⟩
  | str l=>cases (bN va).1;obtain ⟨t,rfl⟩:=rx;exact ⟨rfl,rfl⟩
  | tup l=>obtain ⟨p,xs,rfl,_⟩:=bH va;cases rx;exact ⟨rfl,rfl⟩
  | lst l=>obtain ⟨p,xs,rfl,_⟩:=bV va;cases rx;exact ⟨rfl,rfl⟩
  | dct tk ks vs=>rw [Rep] at va;obtain ⟨p,xs,o,rfl,_⟩:=va;cases rx;exact ⟨rfl,rfl⟩
 ·cases e
theorem rR:Hf X (compareOp .IsNot) (rGA X.K isnO):=by
 rintro pins s σ H x y v u Q I rx ry ⟨G,fp,es,vs,a,b,r,⟨rel,k⟩,va,vb,e⟩
 obtain ⟨r0,e0,e⟩:=ar e
 obtain ⟨h1,h2⟩:=xF va vb rx ry e0
 subst h2
 cases e
 exact wpAny_isNot_plain h1 ⟨.bl _,H,I,rfl,k _ H G fp .refl (rel.push (de _))⟩
end
section
variable {X:Cx}
theorem lN (hc:X.calm=true):dI X (.builtin "max") (rC X.K maxD):=by
 rintro pins s σ H xs us Q I rx ⟨G,fp,es,vs,ds,r,⟨rel,k⟩,vd,e⟩
 unfold maxD at e
 split at e
 ·rename_i d
  split at e
  ·rename_i n ns hb
   cases e
   obtain ⟨v,ev,vt⟩:=mH vd
   obtain ⟨p,ep,sq⟩:=hU rel.gh hb vt
   subst ev
   subst ep
   exact uY hc pins s σ H _ us Q I rx ⟨p,n :: ns,rfl,sq,by simp,k _ H G fp .refl (rel.push (bo _))⟩
  ·cases e
 ·rename_i i j
  cases e
  obtain ⟨v,w',ev,v1,v2⟩:=E4 vd
  subst ev
  cases bW v1
  cases bW v2
  obtain ⟨u,u',rfl,⟨t,rfl⟩,t',rfl⟩:=xa rx
  refine max_two_ints (I.ok.hd hc) fun h' tk kk=>?_
  have I2:Inv X pins σ H { s with heap:=h',toks:=tk }:=I.kept kk
  refine ⟨.int (if i < j then j else i),H,I2,?_,k _ H G fp .refl (rel.push (bo _))⟩
  by_cases LQ:i < j
  ·rw [RO LQ,RO (show j > i from LQ)]
   exact ⟨_,rfl⟩
  ·rw [RY LQ,RY (show ¬ j > i from LQ)]
   exact ⟨_,rfl⟩
 ·cases e
def z0 (f g:FX):FX:=fun env=>(f env).bind fun p=>(g p.2).bind fun q=>match (lI p.1.2).bind dh,q.1.2 with
 | some ns,.int d=>.ok ((.f,.int (NX.maxD ns d)),q.2)
 | _,_=>.bad
theorem z4 {e k:Expr} {f g:FX} {p pos Jy:Pos} (hc:X.calm=true) (hg:Gl X "max") (hm:X.mg "max" = none) (he:QE X e f) (hk:QE X k g) (hs:starEach [e] X.env=[(false,eval e X.env)]:=by rfl) :
  QE X (.Call (.Name "max" p) [e] [⟨some "default",k,Jy⟩] pos) (z0 f g):=bX (zr hc hg hm he hk hs) fun σ H Q Gp=>by
 obtain ⟨G,env,fp,r,env',rel,e,k⟩:=Gp
 obtain ⟨⟨r1,F7⟩,e1,e⟩:=ar e
 obtain ⟨⟨r2,Gh⟩,e2,e⟩:=ar e
 dsimp only at e
 split at e
 ·rename_i ns d MP hd
  cases e
  refine ⟨G,env,fp,r1,F7,rel,e1,fun v H1 G1 Gx Gr Gd=>?_⟩
  obtain ⟨G2,b,rv,F8,Gk⟩:=Gd.freeze
  refine ⟨G2,F7,b,r2,_,F8,e2,fun w' H3 G3 Jj GO Gz=>?_⟩
  have hw:=Gz.top
  obtain ⟨b3,GY,HV⟩:=Gz.drop
  rw [hd] at hw
  obtain ⟨p',ep,sq⟩:=hU GY.gh MP (Vw.of GY.gh (Rep.mono GO.gg rv))
  subst ep
  exact ⟨p',ns,d,rfl,by rw [bU hw],sq,k _ H3 G3 b3 (Gr.trans (Gk.trans (GO.trans HV))) (GY.push (bo _))⟩
 ·cases e
def Bg:List D->Res R
 | [.bl b]=>.ok (.f,.int (if b then 1 else 0))
 | [.int i]=>.ok (.f,.int i)
 | _=>.bad
theorem Cn:dI X (.type "int") (rC X.K Bg):=by
 rintro pins s σ H xs us Q I rx ⟨G,fp,es,vs,ds,r,⟨rel,k⟩,vd,e⟩
 unfold Bg at e
 split at e
 ·rename_i b
  cases e
  obtain ⟨v,ev,v1⟩:=mH vd
  subst ev
  cases El v1
  obtain ⟨u,rfl,ru⟩:=e7 rx
  cases ru
  exact call_int_bool ⟨.int _,H,I.tok _,⟨_,rfl⟩,k _ H G fp .refl (rel.push (bo _))⟩
 ·rename_i i
  cases e
  obtain ⟨v,ev,v1⟩:=mH vd
  subst ev
  cases bW v1
  obtain ⟨u,rfl,t,rfl⟩:=e7 rx
  first
   | exact PySem.call_int_int ⟨.int _,H,I.tok _,⟨_,rfl⟩,k _ H G fp .refl (rel.push (bo _))⟩
   | exact PySem.call_int_int ⟨.int _,H,I,⟨_,rfl⟩,k _ H G fp .refl (rel.push (bo _))⟩
 ·cases e
def qv:D->String
 | .non=>"NoneType"
 | .bl _=>"bool"
 | .int _=>"int"
 | .str _=>"str"
 | .tup _=>"tuple"
 | .lst _=>"list"
 | .dct _ _ _=>"dict"
def wU (T:String) (d:D):Bool:=qv d == T || (qv d == "bool" && T == "int")
def MS (T:String) (f:FO):FX:=fun env=>(f env).bind fun p=>(tP p.2 p.1).bind fun d=>.ok ((.f,.bl (wU T d)),p.2)
theorem Co (K:W.Frag) (d:D) {T:String} (hT:T = "int"\/T = "bool"\/T = "str"\/T = "list"\/T = "tuple"\/T = "dict"):PySem.W.kitOne K (.type (qv d)) (.type T)=some (wU T d):=by
 rcases hT with rfl | rfl | rfl | rfl | rfl | rfl <;> cases d <;> (unfold PySem.W.kitOne PySem.W.kitCls PySem.W.subIn;kernel_rfl)
theorem xG:dI X (.builtin "isinstance") (fun xs H Q=>∃ d x T,xs=[x,.ty T]/\Rep X.K H d x/\(T = "int"\/T = "bool"\/T = "str"\/T = "list"\/T = "tuple"\/T = "dict")/\Q (.bl (wU T d)) H):=by
 intro pins s σ H xs us Q I r h
 obtain ⟨d,x,T,rfl,rd,hT,q⟩:=h
 obtain ⟨u,w',rfl,r1,r2⟩:=xa r
 cases (show w'=Value.type T from r2)
 have e:=Co X.K d hT
 have fin:∀ tk,EP X pins σ Q (.bool (wU T d)) { s with toks:=tk }:=fun tk=>⟨.bl (wU T d),H,I.tok tk,rfl,q⟩
 cases d with
 | non=>cases cQ rd;cases (show u=Value.none from r1);exact Tw PySem.W.kitx_none I.kIn True.intro e (fun z=>nomatch z) fin
 | bl y=>cases c6 rd;cases (show u=Value.bool y from r1);exact Tw PySem.W.kitx_bool I.kIn True.intro e (fun z=>nomatch z) fin
 | int i=>cases bU rd;obtain ⟨t,z⟩:=(show ∃ t,u=Value.int i t from r1);cases z;exact Tw PySem.W.kitx_int I.kIn True.intro e (fun z=>nomatch z) fin
 | str l=>
  have hr:=(bN rd).1
  subst hr
  obtain ⟨t,z⟩:=(show ∃ t,u=Value.str (S l) t from r1)
  cases z
  exact Tw PySem.W.kitx_str I.kIn True.intro e (fun z=>nomatch z) fin
 | lst l=>
  obtain ⟨p,xs,ev,sq,_⟩:=bV rd
  subst ev
  cases (show u=Value.ref p from r1)
  obtain ⟨F9,_,ip,_⟩:=I.list sq
  obtain ⟨o,ho,hc,_⟩:=ip.isList
  exact Tw PySem.W.kitx_list I.kIn ⟨o,ho,hc⟩ e (fun z=>nomatch z) fin
 | tup l=>
  obtain ⟨p,xs,ev,sq,_⟩:=bH rd
  subst ev
  cases (show u=Value.ref p from r1)
  obtain ⟨F9,_,ip,_⟩:=I.tuple sq
  obtain ⟨o,ho,hc,_⟩:=ip
  exact Tw PySem.W.kitx_tuple I.kIn ⟨o,ho,hc⟩ e (fun z=>nomatch z) fin
 | dct tk ks vs=>
  rw [Rep] at rd
  obtain ⟨p,xs,o,ev,hr,dd,_⟩:=rd
  subst ev
  cases (show u=Value.ref p from r1)
  have ok:=hr.ok I.hok
  cases tk with
  | true=>
   obtain ⟨Gb,eo,_⟩:=dd
   subst eo
   obtain ⟨_,_,_,_,o2,_,_,Ir,ex,_⟩:=ok
   exact Tw PySem.W.kitx_dict I.kIn ⟨o2,Ir,ex.1⟩ e (fun z=>nomatch z) fin
  | false=>
   obtain ⟨Gb,eo,_⟩:=dd
   subst eo
   obtain ⟨_,_,_,_,o2,_,_,Ir,ex,_⟩:=ok
   exact Tw PySem.W.kitx_dict I.kIn ⟨o2,Ir,ex.1⟩ e (fun z=>nomatch z) fin
theorem tV {T:String} {x:Str} {e:Expr} {f:FO} {p q pos:Pos} (hT:T = "int"\/T = "bool"\/T = "str"\/T = "list"\/T = "tuple"\/T = "dict") (he:QO X e f) (hg:Gl X "isinstance") (hm:X.mg "isinstance" = none) (hg2:Gl X x) (hm2:X.mg x=none) (Px:bootBuiltins x=some (.type T)) (hn:x≠"__name__":=by decide) (Jk:(x == ("__debug__" : Str))=false:=by decide)
  (hs:starEach [e,.Name x q] X.env=(false,eval e X.env) :: starEach [.Name x q] X.env:=by rfl) (MN:starEach [.Name x q] X.env=(false,eval (.Name x q) X.env) :: starEach [] X.env:=by rfl) (Iq:(backTo pos (starEach [.Name x q] X.env)).any (·.1)=false:=by rfl) :
  QE X (.Call (.Name "isinstance" p) [e,.Name x q] [] pos) (MS T f):=
 bX (qY xG hg hm nF (gy he (gy (yZ (v:=.ty T) hg2 hm2 Px rfl hn Jk) mV MN) hs) (by decide) (by decide) hs Iq) fun σ H Q Gp=>by
  obtain ⟨G,env,fp,r,env',rel,e,k⟩:=Gp
  obtain ⟨⟨o,F7⟩,e1,e⟩:=ar e
  obtain ⟨d,e2,e⟩:=ar e
  cases e
  exact ⟨G,env,fp,o,_,rel,e1,fun v H1 G1 Gx Gr Gd Ib=>⟨d,v,T,rfl,Gd.vwA Ib e2,hT,k _ H1 G1 Gx Gr (Gd.push (de _))⟩⟩
def Hh {α:Type} (f g:PV.Env->Res α):PV.Env->Res α:=fun env=>match f env with
 | .ok a=>.ok a
 | _=>g env
theorem yD {α:Type} {f g:PV.Env->Res α} {env:PV.Env} {a:α} (h:Hh f g env=.ok a):f env=.ok a\/g env=.ok a:=by
 unfold Hh at h
 split at h
 ·rename_i b hb
  cases h
  exact .inl hb
 ·exact .inr h
theorem vJ {tg e:Expr} {f g:FI} (h:QI X tg e f) (h2:QI X tg e g):QI X tg e (Hh f g):=fun pins s σ H R I Gp=>by
 obtain ⟨G,env,fp,ds,env',rel,ee,k⟩:=Gp
 rcases yD ee with z | z
 ·exact h pins s σ H R I ⟨G,env,fp,ds,env',rel,z,k⟩
 ·exact h2 pins s σ H R I ⟨G,env,fp,ds,env',rel,z,k⟩
end
section
variable {α:Type}
def ins (lt:α->α->Bool) (x:α):List α->List α
 | []=>[x]
 | y :: ys=>if lt y x then y :: ins lt x ys else x :: y :: ys
def b5 (lt:α->α->Bool) (l:List α):List α:=l.foldr (ins lt) []
structure Ord (lt:α->α->Bool):Prop where
 irr:∀ a,lt a a=false
 trans:∀ a b c,lt a b=true->lt b c=true->lt a c=true
 tot:∀ a b,lt a b=false->lt b a=false->a=b
theorem og (lt:α->α->Bool) (x:α):∀ l,(ins lt x l).Perm (x :: l)
 | []=>.refl _
 | y :: ys=>by
  unfold ins
  split
  ·exact (List.Perm.cons y (og lt x ys)).trans (List.Perm.swap x y ys)
  ·exact .refl _
theorem e8 (lt:α->α->Bool):∀ l,(b5 lt l).Perm l
 | []=>.refl _
 | x :: l=>(og lt x _).trans (List.Perm.cons x (e8 lt l))
theorem m9 {lt:α->α->Bool} (o:Ord lt) (x:α):∀ l:List α,l.Pairwise (fun a b=>lt b a=false)->(ins lt x l).Pairwise (fun a b=>lt b a=false)
 | [],_=>by simp [ins]
 | y :: ys,h=>by
  rw [T9] at h
  unfold ins
  split
  ·rename_i hy
   rw [T9]
   refine ⟨fun z hz=>?_,m9 o x ys h.2⟩
   rcases RT.mp ((og lt x ys).mem_iff.mp hz) with rfl | hz
   ·cases e:lt z y with
    | false=>rfl
    | true=>
     have:=o.trans y z y hy e
     rw [o.irr] at this
     cases this
   ·exact h.1 z hz
  ·rename_i hy
   have hy:lt y x=false:=by simpa using hy
   rw [T9,T9]
   refine ⟨fun z hz=>?_,h⟩
   rcases RT.mp hz with rfl | LU
   ·exact hy
   ·cases e:lt z x with
    | false=>rfl
    | true=>
     exfalso
     cases e2:lt x y with
     | true=>
      have:=o.trans z x y e e2
      rw [h.1 z LU] at this
      cases this
     | false=>
      have hxy:=o.tot x y e2 hy
      rw [hxy,h.1 z LU] at e
      cases e
theorem fP {lt:α->α->Bool} (o:Ord lt):∀ l:List α,(b5 lt l).Pairwise (fun a b=>lt b a=false)
 | []=>.nil
 | x :: l=>m9 o x _ (fP o l)
theorem pC {lt:α->α->Bool} (o:Ord lt):∀ {a b:List α},a.Perm b->a.Pairwise (fun a b=>lt b a=false)->b.Pairwise (fun a b=>lt b a=false)->a=b
 | [],_,p,_,_=>p.nil_eq
 | x :: xs,[],p,_,_=>absurd p.length_eq (by simp)
 | x :: xs,y :: ys,p,ha,hb=>by
  rw [T9] at ha hb
  have hx:x∈y :: ys:=p.mem_iff.mp RM
  have hy:y∈x :: xs:=p.mem_iff.mpr RM
  have e:x=y:=by
   rcases RT.mp hx with e | hx
   ·exact e
   ·rcases RT.mp hy with e | hy
    ·exact e.symm
    ·exact o.tot x y (hb.1 x hx) (ha.1 y hy)
  subst e
  rw [pC o p.cons_inv ha.2 hb.2]
theorem jC {lt:α->α->Bool} (o:Ord lt) {l ms:List α} (p:ms.Perm l) (h:ms.Pairwise (fun a b=>lt b a=false)):ms=b5 lt l:=pC o (p.trans (e8 lt l).symm) h (fP o l)
end
def ltI (a b:Int):Bool:=decide (a < b)
def KI (a b:List Nat):Bool:=decide (a < b)
theorem z5:Ord ltI:=⟨fun a=>by simp [ltI],fun a b c=>by simp only [ltI,R0];lia,fun a b=>by simp only [ltI,SS];lia⟩
theorem qw:Ord KI:=by
 refine ⟨fun a=>?_,fun a b c h1 h2=>?_,fun a b h1 h2=>?_⟩
 ·unfold KI
  rw [SS]
  exact List.lt_irrefl a
 ·unfold KI at *
  rw [R0] at *
  exact List.lt_trans h1 h2
 ·unfold KI at *
  rw [SS] at *
  exact List.le_antisymm (Vd.mp h2) (Vd.mp h1)
theorem vK:Ord fK:=⟨i8,iM,iN⟩
def gm:List D->Option (List (List Nat))
 | []=>some []
 | .str b :: ds=>(gm ds).map (b :: ·)
 | _=>none
def lO:D->Option Key
 | .int i=>some (.inl i)
 | .str l=>some (.inr (S l))
 | _=>none
def gD:List D->Option (List Key)
 | []=>some []
 | d :: ds=>(lO d).bind fun k=>(gD ds).map (k :: ·)
def gE:D->Option (List Key)
 | .tup ds=>gD ds
 | _=>none
def kC:List D->Option (List (List Key))
 | []=>some []
 | d :: ds=>(gE d).bind fun k=>(kC ds).map (k :: ·)
def kT (k:List Key):D:=.tup (k.map kD)
section
variable {K:W.Frag} {G:Hp}
theorem gF:∀ {ds:List D} {bs:List (List Nat)} {xs:List V},gm ds=some bs->Reps K G ds xs->xs=bs.map (fun l=>V.str (S l))/\∀ l∈bs,l.length<=sizeLine
 | [],_,_,e,r=>by
  cases e
  rw [Reps] at r
  exact ⟨r,fun _ h=>nomatch h⟩
 | d :: ds,_,_,e,r=>by
  cases d with
  | str b=>
   rw [gm,Sn] at e
   obtain ⟨bs,e1,e2⟩:=e
   subst e2
   rw [Reps] at r
   obtain ⟨y,ys,e3,r1,r2⟩:=r
   obtain ⟨h1,h2⟩:=gF e1 r2
   obtain ⟨h3,h4⟩:=bN r1
   subst h3
   refine ⟨by rw [e3,h1];rfl,fun l hl=>?_⟩
   rcases RT.mp hl with rfl | hl
   ·exact h4
   ·exact h2 l hl
  | _=>simp [gm] at e
theorem iQ {d:D} {k:Key} {v:V} (e:lO d=some k) (r:Rep K G d v):v=kV k/\d=kD k:=by
 cases d with
 | int i=>
  cases e
  exact ⟨bU r,rfl⟩
 | str l=>
  cases e
  refine ⟨(bN r).1,?_⟩
  show D.str l=D.str (S l).cps.toList
  rw [fu]
 | _=>cases e
theorem kF:∀ {ds:List D} {ks:List Key} {xs:List V},gD ds=some ks->Reps K G ds xs->xs=ks.map kV/\ds=ks.map kD
 | [],_,_,e,r=>by
  cases e
  rw [Reps] at r
  exact ⟨r,rfl⟩
 | d :: ds,_,_,e,r=>by
  rw [gD,Ta] at e
  obtain ⟨k,e1,e⟩:=e
  rw [Sn] at e
  obtain ⟨ks,e2,e3⟩:=e
  subst e3
  rw [Reps] at r
  obtain ⟨y,ys,e4,r1,r2⟩:=r
  obtain ⟨h1,h2⟩:=iQ e1 r1
  obtain ⟨h3,h4⟩:=kF e2 r2
  rw [e4,h1,h2,h3,h4]
  exact ⟨rfl,rfl⟩
theorem fA {d:D} {ks:List Key} {v:V} (e:gE d=some ks) (r:Rep K G d v):∃ p,v=.ref p/\G p=some (.tup (ks.map kV))/\d=kT ks:=by
 cases d with
 | tup ds=>
  obtain ⟨p,xs,ev,g,rs⟩:=vB r
  obtain ⟨h1,h2⟩:=kF e rs
  subst h1
  exact ⟨p,ev,g,by rw [h2];rfl⟩
 | _=>cases e
theorem lP:∀ {ds:List D} {Ja:List (List Key)} {xs:List V},kC ds=some Ja->Reps K G ds xs->∃ al:List (Addr×List Key),xs=al.map (fun a=>V.ref a.1)/\Ja=al.map (·.2)/\ds=al.map (fun a=>kT a.2)/\∀ a∈al,G a.1=some (.tup (a.2.map kV))/\Rep K G (kT a.2) (.ref a.1)
 | [],_,_,e,r=>by
  cases e
  rw [Reps] at r
  exact ⟨[],r,rfl,rfl,fun _ h=>nomatch h⟩
 | d :: ds,_,_,e,r=>by
  rw [kC,Ta] at e
  obtain ⟨k,e1,e⟩:=e
  rw [Sn] at e
  obtain ⟨ks,e2,e3⟩:=e
  subst e3
  rw [Reps] at r
  obtain ⟨y,ys,e4,r1,r2⟩:=r
  obtain ⟨p,h1,h2,h5⟩:=fA e1 r1
  obtain ⟨al,h3,h4,h6,h7⟩:=lP e2 r2
  subst h1
  refine ⟨(p,k) :: al,by rw [e4,h3];rfl,by rw [h4];rfl,by rw [h5,h6];rfl,fun a ha=>?_⟩
  rcases RT.mp ha with rfl | ha
  ·exact ⟨h2,by rw [<-h5];exact r1⟩
  ·exact h7 a ha
theorem gG {α:Type} {f:α->D} {g:α->V}:∀ {l:List α},(∀ a∈l,Rep K G (f a) (g a))->Reps K G (l.map f) (l.map g)
 | [],_=>Reps.nil
 | a :: l,h=>.cons (h a RM) (gG fun b hb=>h b (RU _ hb))
end
def sameKinds (k:List Key) (Ja:List (List Key)):Bool:=!k.isEmpty && Ja.all fun j=>kinds j == kinds k
def lQ (ds:List D):Option (List D):=match dh ds with
 | some ns=>some ((b5 ltI ns).map D.int)
 | none=>match gm ds with
  | some ls=>some ((b5 KI ls).map D.str)
  | none=>match kC ds with
   | some (k :: Ja)=>if sameKinds k Ja then some ((b5 fK (k :: Ja)).map kT) else none
   | _=>none
def fV:List D->Res R
 | [.lst ds]=>if ds.length < 64 then match lQ ds with
  | some l=>.ok (.l .f,.lst l)
  | none=>.bad
  else .bad
 | [.dct true ks _]=>if ks.length < 64 then match ks,kC ks with
  | [],_=>.ok (.l .f,.lst [])
  | _,some (k :: Ja)=>if sameKinds k Ja then .ok (.l .f,.lst ((b5 fK (k :: Ja)).map kT)) else .bad
  | _,_=>.bad
  else .bad
 | _=>.bad
theorem jD {k:List Key} {Ja:List (List Key)} (h:sameKinds k Ja=true):∃ top t,∀ j∈k :: Ja,kinds j=top :: t:=by
 unfold sameKinds at h
 rw [R9,R3] at h
 cases k with
 | nil=>simp at h
 | cons a k=>
  refine ⟨a.isLeft,kinds k,fun j hj=>?_⟩
  rcases RT.mp hj with rfl | hj
  ·rfl
  ·exact Si.mp (h.2 j hj)
def kG (H G:Hp):Hp:=fun p=>match H p with
 | some (HO.tup xs)=>some (HO.tup xs)
 | _=>G p
theorem tW {H G:Hp} {p:Addr} {xs:List V} (e:H p=some (.tup xs)):kG H G p=some (.tup xs):=by
 unfold kG
 rw [e]
theorem lR {H G:Hp} {p:Addr} {u:HO} (e:kG H G p=some u):G p=some u\/(isT u=true/\H p=some u):=by
 unfold kG at e
 split at e
 ·rename_i xs hx
  cases e
  exact .inr ⟨rfl,hx⟩
 ·exact .inl e
theorem vL {H G:Hp} (gh:Same G H):Same G (kG H G):=fun p u e=>by
 unfold kG
 rw [gh p u e]
 cases u with
 | tup xs=>rfl
 | _=>exact e
theorem Rel.addT {K:W.Frag} {G H:Hp} {es:PV.Env} {vs:L2.St} {fp:List Addr} (q:Rel K G H es vs fp):∃ G',Rel K G' H es vs fp/\Step G H fp G' H fp/\∀ p xs,H p=some (.tup xs)->G' p=some (.tup xs):=by
 have gg:=vL q.gh
 refine ⟨kG H G,⟨q.rep.step gg fun _ _=>rfl,q.nd,fun p hp=>?_,fun p u e=>?_⟩,⟨gg,fun _ _ e _=>e,fun _ h=>.inl h,fun p u e=>(lR e).imp_right fun z=>.inr (.inr z),fun _ u e=>⟨u,e⟩⟩,fun p xs e=>tW e⟩
 ·cases e:kG H G p with
  | none=>rfl
  | some u=>
   exfalso
   rcases lR e with z | ⟨t,z⟩
   ·rw [q.gn p hp] at z
    cases z
   ·obtain ⟨u2,h2,hm⟩:=q.rep.mut p hp
    rw [z] at h2
    cases h2
    cases u with
    | tup _=>cases hm
    | frz _ _=>cases hm
    | _=>cases t
 ·rcases lR e with z | z
  ·exact q.gh p u z
  ·exact z.2
theorem Cp {K:W.Frag} {G:Hp} {k:Key} (h:yw k):Rep K G (kD k) (kV k):=by
 cases k with
 | inl i=>exact bo i
 | inr x=>
  have:=jb (K:=K) (G:=G) (l:=x.cps.toList) h
  rw [o4] at this
  exact this
theorem Cq (k:Key):lO (kD k)=some k:=by
 cases k with
 | inl i=>rfl
 | inr x=>
  show some (Sum.inr (S x.cps.toList))=_
  rw [o4]
theorem lS:∀ ks:List Key,gD (ks.map kD)=some ks
 | []=>rfl
 | k :: ks=>by
  rw [R6,gD,Cq,lS ks]
  rfl
theorem ke:∀ Ja:List (List Key),kC (Ja.map kT)=some Ja
 | []=>rfl
 | k :: Ja=>by
  rw [R6,kC]
  show (gD (k.map kD)).bind _=_
  rw [lS,ke Ja]
  rfl
section
variable {X:Cx}
theorem Rf {α:Type} {lt:α->α->Bool} {p:α->α->Prop} (h:∀ a b,p a b->lt b a=false) {l:List α} (q:l.Pairwise p):l.Pairwise (fun a b=>lt b a=false):=q.imp (h _ _)
theorem jE (hc:X.calm=true):dI X (.builtin "sorted") (rC X.K fV):=by
 rintro pins s σ H xs us Q I rx ⟨G,fp,es,vs,ds,r,⟨rel,k⟩,vd,e⟩
 unfold fV at e
 split at e
 ·rename_i ds
  split at e
  ·rename_i KS
   split at e
   ·rename_i l hl
    cases e
    obtain ⟨v,ev,p,ys,ep,sq,rs⟩:=mH vd
    subst ev
    subst ep
    unfold lQ at hl
    split at hl
    ·rename_i ns MP
     cases hl
     have hy:=jd MP rs
     subst hy
     have hlen:ns.length < 64:=by have:=rs.length;rw [RJ] at this;lia
     refine kS hc pins s σ H _ us Q I rx ⟨p,ns,rfl,sq,hlen,fun q ms hq pm sm=>?_⟩
     have em:=jC z5 pm (Rf (fun a b h=>by unfold ltI;rw [SS];lia) sm)
     subst em
     obtain ⟨F8,Gk⟩:=rel.newL hq (gG (K:=X.K) (G:=G) (f:=D.int) (g:=V.int) fun a _=>bo a)
     exact k _ _ G _ Gk F8
    ·split at hl
     ·rename_i ls hls
      cases hl
      obtain ⟨hy,hz⟩:=gF hls rs
      subst hy
      have hlen:ls.length < 64:=by have:=rs.length;rw [RJ] at this;lia
      refine kU hc pins s σ H _ us Q I rx ⟨p,ls,rfl,sq,hlen,fun q ms hq pm sm=>?_⟩
      have em:=jC qw pm (Rf (fun a b h=>by unfold KI;rw [SS];exact h) sm)
      obtain ⟨F8,Gk⟩:=rel.newL hq (gG (K:=X.K) (G:=G) (f:=D.str) (g:=fun l=>V.str (S l)) (l:=ms) fun a ha=>jb (hz a (pm.mem_iff.mp ha)))
      rw [<-em] at k
      exact k _ _ G _ Gk F8
     ·split at hl
      ·rename_i kk Ja hk
       split at hl
       ·rename_i hsk
        cases hl
        obtain ⟨al,h1,h2,h3,h4⟩:=lP hk rs
        obtain ⟨top,t,Jb⟩:=jD hsk
        subst h1
        have hlen:al.length < 64:=by have:=rs.length;rw [RJ] at this;lia
        refine kW hc pins s σ H _ us Q I rx ⟨p,al,top,t,rfl,sq,fun a ha=>⟨SqT.of (rel.gh _ _ (h4 a ha).1),Jb a.2 (by rw [h2];exact Sq.mpr ⟨a,ha,rfl⟩)⟩,hlen,fun q ms hq pm sm=>?_⟩
        have em:ms.map (·.2)=b5 fK (kk :: Ja):=by
         rw [h2]
         refine jC vK (pm.map _) ?_
         rw [UE]
         exact sm
        obtain ⟨F8,Gk⟩:=rel.newL hq (gG (K:=X.K) (G:=G) (f:=fun a:Addr×List Key=>kT a.2) (g:=fun a=>V.ref a.1) (l:=ms) fun a ha=>(h4 a (pm.mem_iff.mp ha)).2)
        have ek:ms.map (fun a=>kT a.2)=(b5 fK (kk :: Ja)).map kT:=by rw [<-em,RQ];rfl
        rw [ek] at F8
        exact k _ _ G _ Gk F8
       ·cases hl
      ·cases hl
   ·cases e
  ·cases e
 ·rename_i ks vv
  split at e
  ·rename_i KS
   obtain ⟨v,ev,vt⟩:=mH vd
   obtain ⟨p,ys,o,ep,rd,dd,rs⟩:=vt
   subst ev
   subst ep
   obtain ⟨Gb,eo,ek,ex,Kj⟩:=dd
   subst eo
   have ek:ks=(Gb.map (·.1)).map kT:=by rw [ek,RQ];rfl
   have hlen:Gb.length < 64:=by rw [ek,RJ,RJ] at KS;exact KS
   have go:∀ (top:Bool) (t:List Bool),(∀ kv∈Gb,kinds kv.1=top :: t)->r=(.l .f,.lst ((b5 fK (Gb.map (·.1))).map kT))->wpAny (model X.prog X.w) X.A (call (.builtin "sorted") us) (EP X pins σ Q) X.xe s:=fun top t Jb er=>by
    subst er
    refine mL hc pins s σ H _ us Q I rx ⟨p,Gb,top,t,rfl,rd,Jb,hlen,fun q ms hq hm pm sm=>?_⟩
    have em:ms.map (·.2)=b5 fK (Gb.map (·.1)):=by
     refine jC vK pm ?_
     rw [UE]
     exact sm
    obtain ⟨G2,F8,Gk,ht⟩:=rel.addT
    have JQ:∀ a∈ms,Rep X.K G2 (kT a.2) (.ref a.1):=fun a ha=>by
     unfold kT
     rw [Rep]
     refine ⟨a.1,_,rfl,ht _ _ (hm a ha),?_⟩
     refine gG (f:=kD) (g:=kV) fun key ID=>Cp ?_
     have:a.2∈Gb.map (·.1):=pm.mem_iff.mp (Sq.mpr ⟨a,ha,rfl⟩)
     obtain ⟨kv,JP,e2⟩:=Sq.mp this
     exact Kj kv JP key (by rw [e2];exact ID)
    obtain ⟨Gz,GO⟩:=F8.newL hq (gG (K:=X.K) (G:=G2) (f:=fun a:Addr×List Key=>kT a.2) (g:=fun a=>V.ref a.1) (l:=ms) JQ)
    have ek:ms.map (fun a=>kT a.2)=(b5 fK (Gb.map (·.1))).map kT:=by rw [<-em,RQ];rfl
    rw [ek] at Gz
    exact k _ _ G2 _ (Gk.trans GO) Gz
   rw [ek,ke] at e
   split at e
   ·rename_i hnil
    cases e
    have:Gb=[]:=by
     cases Gb with
     | nil=>rfl
     | cons a b=>cases hnil
    subst this
    exact go true [] (fun _ h=>nomatch h) rfl
   ·rename_i kk Ja heq hne
    split at e
    ·rename_i hsk
     cases e
     obtain ⟨top,t,Jb⟩:=jD hsk
     have heq:Gb.map (·.1)=kk :: Ja:=by
      injection heq
     refine go top t (fun kv JP=>Jb kv.1 ?_) (by rw [heq])
     rw [<-heq]
     exact Sq.mpr ⟨kv,JP,rfl⟩
    ·cases e
   ·cases e
  ·cases e
 ·cases e
def K8 (a b:D):Res R:=match gE a,gE b with
 | some ks,some js=>if kinds ks == kinds js then .ok (.f,.bl (fK ks js)) else .bad
 | _,_=>N8 a b
def geO (a b:D):Res R:=match gE a,gE b with
 | some ks,some js=>if kinds ks == kinds js then .ok (.f,.bl (!fK ks js)) else .bad
 | _,_=>match a,b with
  | .str a,.str b=>.ok (.f,.bl (!decide (a < b)))
  | a,b=>geD a b
theorem pD (hu:X.A.units < cLine):Hf X (compareOp .Lt) (rG X.K K8):=by
 rintro pins s σ H x y v u Q I rx ry ⟨G,fp,es,vs,a,b,r,⟨rel,k⟩,va,vb,e⟩
 unfold K8 at e
 split at e
 ·rename_i ks js h1 h2
  split at e
  ·rename_i hk
   cases e
   have ra:Rep X.K G a x:=by cases a <;> first | exact va | cases h1
   have rb:Rep X.K G b y:=by cases b <;> first | exact vb | cases h2
   obtain ⟨p,e1,g1,_⟩:=fA h1 ra
   obtain ⟨p2,e2,g2,_⟩:=fA h2 rb
   subst e1
   subst e2
   exact B6 hu pins s σ H _ _ v u Q I rx ry ⟨p,p2,ks,js,rfl,rfl,SqT.of (rel.gh _ _ g1),SqT.of (rel.gh _ _ g2),Si.mp hk,k _ H G fp .refl (rel.push (de _))⟩
  ·cases e
 ·exact Eo pins s σ H x y v u Q I rx ry ⟨G,fp,es,vs,a,b,r,⟨rel,k⟩,va,vb,e⟩
end
def eNewD (tk:Bool):FX:=fun env=>.ok ((.d,.dct tk [] []),env)
section
variable {md:Mode} {X:Cx}
def qx (ks vs:List D) (k v:D):List D×List D:=if ks.any (eqD k) then (ks,(ks.zip vs).map fun p=>if eqD k p.1 then v else p.2) else (ks++[k],vs++[v])
def fB (tk:Bool) (k:D):Bool:=if tk then (gE k).isSome else (lO k).isSome
def Cr (i:Nat) (fk fv:FX):FS:=fun env=>(fv env).bind fun p=>(fk p.2).bind fun q=>match p.2[i]?,q.2[i]? with
 | some (some _),some (some (.d,.dct tk ks vs))=>if fB tk q.1.2 && decide (ks.length < sizeLine) then .ok (.nx (q.2.set i (some (.d,.dct tk (qx ks vs q.1.2 p.1.2).1 (qx ks vs q.1.2 p.1.2).2)))) else .bad
 | _,_=>.bad
theorem vM (a b:Key):eqD (kD a) (kD b)=decide (a=b):=by
 cases a with
 | inl i=>
  cases b with
  | inl j=>simp only [kD,eqD];rw [Sh];simp
  | inr y=>simp only [kD,eqD];simp
 | inr x=>
  cases b with
  | inl j=>simp only [kD,eqD];simp
  | inr y=>
   simp only [kD,eqD]
   rw [Sh]
   simp only [Si,R0,Sum.inr.injEq]
   exact ⟨fun h=>by rw [<-o4 x,<-o4 y,h],fun h=>by rw [h]⟩
theorem vN:∀ a b:List Key,kc (a.map kD) (b.map kD)=decide (a=b)
 | [],[]=>by simp [kc]
 | [],_ :: _=>by simp [kc]
 | _ :: _,[]=>by simp [kc]
 | a :: r,b :: t=>by
  rw [R6,R6,kc,vM,vN r t,Sh]
  simp
theorem yE (a b:List Key):eqD (kT a) (kT b)=decide (a=b):=by
 unfold kT
 rw [eqD]
 exact vN a b
theorem pE {κ:Type} [DecidableEq κ] {K:W.Frag} {G:Hp} (f:κ->D) (hf:∀ a b,eqD (f a) (f b)=decide (a=b)) {Gb:List (κ×V)} {vs:List D} {k:κ} {v:D} {y:V} (r:Reps K G vs (Gb.map (·.2))) (ry:Rep K G v y) :
  (kX Gb k y).map (fun kv=>f kv.1)=(qx (Gb.map fun kv=>f kv.1) vs (f k) v).1/\Reps K G (qx (Gb.map fun kv=>f kv.1) vs (f k) v).2 ((kX Gb k y).map (·.2)):=by
 have e:(Gb.map fun kv=>f kv.1).any (eqD (f k))=Gb.any fun kv=>decide (kv.1=k):=by
  rw [Th]
  congr 1
  funext kv
  show eqD (f k) (f kv.1)=_
  rw [hf,Sh]
  simp only [R0]
  exact ⟨fun z=>z.symm,fun z=>z.symm⟩
 unfold qx kX
 rw [e]
 split
 ·refine ⟨?_,?_⟩
  ·rw [RQ]
   refine SK fun kv _=>?_
   show f (if kv.1=k then (kv.1,y) else kv).1=f kv.1
   split <;> rfl
  ·rename_i Mb
   clear e Mb
   induction Gb generalizing vs with
   | nil=>
    have:vs=[]:=S1 (by rw [<-r.length];rfl)
    subst this
    exact Reps.nil
   | cons kv Gb ih=>
    cases vs with
    | nil=>have:=r.length;simp at this
    | cons d vs=>
     rw [R6,Reps.cons_iff] at r
     rw [R6,SV,R6,R6,R6]
     refine .cons ?_ (ih r.2)
     show Rep K G (if eqD (f k) (f kv.1)=true then v else d) (if kv.1=k then (kv.1,y) else kv).2
     rw [hf]
     by_cases hk:kv.1=k
     ·rw [RO (by simp [hk]),RO hk]
      exact ry
     ·rw [RY (by simp;exact fun z=>hk z.symm),RY hk]
      exact r.1
 ·refine ⟨?_,?_⟩
  ·rw [RP]
   rfl
  ·rw [RP]
   exact r.app (.one ry)
theorem Rel.chgD {K:W.Frag} {G H:Hp} {es:PV.Env} {vs:L2.St} {fp:List Addr} {i:Nat} {tk:Bool} {ks ws:List D} (q:Rel K G H es vs fp) (e:es[i]?=some (some (.d,.dct tk ks ws))):∃ p xs u,vs[i]?=some (some (.ref p))/\H p=some u/\DictO u tk ks xs/\Reps K G ws xs/\
  ∀ u' Kb Hk OC,DictO u' tk Kb Hk->Reps K G OC Hk->∃ fq,Rel K G (upd H p u') (es.set i (some (.d,.dct tk Kb OC))) vs fq/\Step G H fp G (upd H p u') fq:=by
 obtain ⟨v,fq,ev,g,st,IA⟩:=q.out e
 obtain ⟨y,ys,e0,v',a,b,e1,e2,r1,r2⟩:=g.rep
 cases e0
 cases e1
 rw [RepO] at r1
 obtain ⟨p,xs,u,e3,hp,dd,e4,rs⟩:=r1
 subst e3
 subst e4
 subst e2
 have nd:=Se.mp (show (p :: b).Nodup from g.nd)
 refine ⟨p,xs,u,ev,hp,dd,rs,fun u' Kb Hk OC L7 HD=>?_⟩
 have g2:Rel K G (upd H p u') (some (.d,.dct tk Kb OC) :: es.set i none) (some (.ref p) :: vs) (p :: b):=by
  refine ⟨⟨some (.ref p),vs,rfl,.ref p,[p],b,rfl,rfl,?_,r2.step (.refl _) fun z hz=>aS fun e=>nd.1 (e▸hz)⟩,g.nd,g.gn,fun z o ez=>?_⟩
  ·rw [RepO]
   exact ⟨p,Hk,u',rfl,bQ,L7,rfl,HD⟩
  ·have:z≠p:=fun w=>by
    subst w
    rw [g.gn z RM] at ez;cases ez
   rw [aS this]
   exact g.gh z o ez
 have OD:Step G H (p :: b) G (upd H p u') (p :: b):=by
  refine ⟨.refl _,fun z o ez nz=>?_,fun z hz=>.inl hz,fun z o ez=>.inl ez,fun z o ez=>?_⟩
  ·have:z≠p:=fun w=>nz (by rw [w];exact RM)
   rw [aS this]
   exact ez
  ·by_cases w:z=p
   ·subst w
    exact ⟨_,bQ⟩
   ·exact ⟨o,by rw [aS w];exact ez⟩
 obtain ⟨fz,g3,GO⟩:=g2.back (i:=i) (by rw [TR];exact (List.getElem?_eq_some_iff.mp e).1) ev
 rw [UY] at g3
 exact ⟨fz,g3,st.trans (OD.trans GO)⟩
theorem vO {K:W.Frag} {G:Hp} {d:D} {k:Key} {v:V} (e:lO d=some k) (r:Rep K G d v):yw k:=by
 cases d with
 | int i=>cases e;trivial
 | str l=>
  cases e
  show (S l).cps.toList.length<=sizeLine
  rw [fu]
  exact (bN r).2
 | _=>cases e
theorem vP {K:W.Frag} {G:Hp}:∀ {ds:List D} {ks:List Key} {xs:List V},gD ds=some ks->Reps K G ds xs->∀ k∈ks,yw k
 | [],_,_,e,_=>by
  cases e
  exact fun _ h=>nomatch h
 | d :: ds,_,_,e,r=>by
  rw [gD,Ta] at e
  obtain ⟨k,e1,e⟩:=e
  rw [Sn] at e
  obtain ⟨ks,e2,e3⟩:=e
  subst e3
  rw [Reps] at r
  obtain ⟨y,ys,e4,r1,r2⟩:=r
  intro z hz
  rcases RT.mp hz with rfl | hz
  ·exact vO e1 r1
  ·exact vP e2 r2 z hz
theorem rS {κ:Type} [DecidableEq κ] {P:κ->Prop} {Gb:List (κ×V)} {k:κ} {y:V} (h:∀ kv∈Gb,P kv.1) (hk:P k):∀ kv∈kX Gb k y,P kv.1:=by
 intro kv JP
 unfold kX at JP
 split at JP
 ·obtain ⟨z,hz,e⟩:=Sq.mp JP
  rw [<-e]
  split
  ·exact h z hz
  ·exact h z hz
 ·rcases Sv.mp JP with JP | JP
  ·exact h kv JP
  ·rw [R4] at JP
   rw [JP]
   exact hk
theorem yF {i:Nat} {o ix value:Expr} {fk fv:FX} {pos pos':Pos} (hu:X.A.units + 1 < cLine) (ho:PE X o (wR i)) (hi:QE X ix fk) (hv:QE X value fv) (hs:swapsWith value (some (.Subscript o ix pos')) pos.line X.env=pure false:=by rfl) :
  QS (md:=md) X (.Assign [.Subscript o ix pos'] value pos) (Cr i fk fv):=g7 (zL hu ho hi hv hs) fun Dd σ H Gp=>by
 obtain ⟨G,env,fp,rel,k⟩:=Gp
 unfold Cr at k
 match q1:fv env,k with
 | .ok (r1,F7),k=>
  have k:OutOk X.K G H fp Dd ((fk F7).bind fun q=>match F7[i]?,q.2[i]? with
   | some (some _),some (some (.d,.dct tk ks vs))=>if fB tk q.1.2 && decide (ks.length < sizeLine) then .ok (.nx (q.2.set i (some (.d,.dct tk (qx ks vs q.1.2 r1.2).1 (qx ks vs q.1.2 r1.2).2)))) else .bad
   | _,_=>.bad):=k
  match q2:fk F7,k with
  | .ok (r2,Gh),k=>
   have k:OutOk X.K G H fp Dd (match F7[i]?,Gh[i]? with
    | some (some _),some (some (.d,.dct tk ks vs))=>if fB tk r2.2 && decide (ks.length < sizeLine) then .ok (.nx (Gh.set i (some (.d,.dct tk (qx ks vs r2.2 r1.2).1 (qx ks vs r2.2 r1.2).2)))) else .bad
    | _,_=>.bad):=k
   split at k
   ·rename_i rr tk ks ws h1 h2
    split at k
    ·rename_i hc
     rw [R9,R0] at hc
     refine ⟨G,env,fp,r1,F7,rel,q1,fun y H1 G1 Gx Gr Gd=>?_⟩
     obtain ⟨G2,b,ry,F8,Gk⟩:=Gd.freeze
     obtain ⟨v0,OK,_⟩:=F8.view h1
     refine ⟨v0,OK,G2,F7,b,r2,Gh,F8,q2,fun z H3 G3 Jj GO Gz=>?_⟩
     obtain ⟨G4,b4,rz,GY,HV⟩:=Gz.freeze
     obtain ⟨p,xs,u,ep,hp,dd,rs,cg⟩:=GY.chgD h2
     rw [OK] at ep
     cases ep
     have Py:Rep X.K G4 r1.2 y:=Rep.mono (GO.gg.trans HV.gg) ry
     cases tk with
     | true=>
      obtain ⟨Gb,eu,ek,ex,Kj⟩:=dd
      subst eu
      subst ex
      have hk:=hc.1
      unfold fB at hk
      rw [RO rfl,S6] at hk
      obtain ⟨kk,hk⟩:=hk
      obtain ⟨pz,ez,gz,dz⟩:=fA hk rz
      subst ez
      obtain ⟨t1,t2⟩:=pE (K:=X.K) (G:=G4) kT yE (k:=kk) rs Py
      have ek:ks=Gb.map fun kv=>kT kv.1:=ek
      rw [<-ek,<-dz] at t1 t2
      have hfk:∀ key∈kk,yw key:=by
       cases hd:r2.2 with
       | tup ds=>
        rw [hd] at hk rz
        obtain ⟨_,Hk,_,_,HD⟩:=vB rz
        exact vP hk HD
       | _=>rw [hd] at hk;cases hk
      obtain ⟨fq,HS,IW⟩:=cg (.dT (kX Gb kk y)) _ _ _ ⟨kX Gb kk y,rfl,t1.symm,rfl,rS (P:=fun ks=>∀ k∈ks,yw k) Kj hfk⟩ t2
      have hlen:Gb.length < sizeLine:=by have:=hc.2;rw [ek,RJ] at this;exact this
      exact ⟨p,_,rfl,DPut.t hp (GY.gh _ _ gz) hlen,k _ _ G4 fq (Gr.trans (Gk.trans (GO.trans (HV.trans IW)))) HS⟩
     | false=>
      obtain ⟨Gb,eu,ek,ex,Kj⟩:=dd
      subst eu
      subst ex
      have hk:=hc.1
      unfold fB at hk
      rw [RY RK,S6] at hk
      obtain ⟨kk,hk⟩:=hk
      obtain ⟨ez,dz⟩:=iQ hk rz
      subst ez
      obtain ⟨t1,t2⟩:=pE (K:=X.K) (G:=G4) kD vM (k:=kk) rs Py
      rw [<-ek,<-dz] at t1 t2
      obtain ⟨fq,HS,IW⟩:=cg (.dK (kX Gb kk y)) _ _ _ ⟨kX Gb kk y,rfl,t1.symm,rfl,rS (P:=yw) Kj (vO hk rz)⟩ t2
      have hlen:Gb.length < sizeLine:=by have:=hc.2;rw [ek,RJ] at this;exact this
      exact ⟨p,_,rfl,DPut.k hp hlen,k _ _ G4 fq (Gr.trans (Gk.trans (GO.trans (HV.trans IW)))) HS⟩
    ·exact k.elim
   ·exact k.elim
end
end PV
namespace NX
open PySem PySem.Spec PyProof.Rows L2
section
variable {prog:Program} {w:World} {A:Around} {E:Value->Shared->Prop} {s:Shared} {d:Addr} {es:Array DictEntry} {ep:Nat}
theorem oh (nm:(d == sysModules)=false):MeetsIn prog w (Builtin.«dict.__len__» ⟨[.ref d],[]⟩) (fun _ R s=>RawD s.heap d es ep/\R (.ok (.ret (.int es.size s.toks))) { s with toks:=s.toks + 1 }):=
 .of_wp fun A R s Gp=>by
  obtain ⟨⟨o,g,_,dat⟩,h⟩:=Gp
  show wpAny _ _ (dictSize d >>= fun _=>_) _ _ s
  unfold dictSize
  refine RG (RG (UD g dat (RH ?_)))
  show wpAny _ _ (Builtin.Dict.pendingCount d >>= fun _=>_) _ _ s
  refine RG (wpAny_pendingCount_other nm (wpAny_ret_mkInt ?_))
  rw [VR]
  exact h
theorem z6 {Q:Value->Shared->Prop} (nm:(d == sysModules)=false) (x:RawD s.heap d es ep) (hf:(es.size:Int) < 2 ^ 63) (h:Q (.int es.size (s.toks + 1)) { s with toks:=s.toks + 1 + 1 }):wpAny (model prog w) A (call (.builtin "len") [.ref d]) Q E s:=by
 have ty:=lh x
 refine Ui kind_len plain_len entry_len (args_len1 _) ?_
 unfold Builtin.«len»
 refine RG (m:=oneArg "len" _) (RH (RG (m:=callSpecial? (.ref d) (Str.ofString "__len__")) (wpAny_callSpecial?_slot (name:=Str.ofString "__len__") ty F.slot_dict_len
  (call_meetsIn F.slot_dict_len ty F.entry_dict_len (F.args_dict_len_1 _) (oh (es:=es) (ep:=ep) nm) ⟨x,?_⟩))))
 show wpAny _ _ _ _ _ { s with toks:=s.toks + 1 }
 refine RG (Te (RH (RG (Tu ?_))))
 show wpAny _ _ (if ((es.size:Nat):Int) < 0 then _ else _) _ _ _
 rw [RY (Int.not_lt.mpr (Int.natCast_nonneg _))]
 show wpAny _ _ (if ((es.size:Nat):Int) >= 2 ^ 63 then _ else _) _ _ _
 rw [RY (Int.not_le.mpr hf)]
 exact RG (wpAny_mkInt (RH ⟨_,rfl,h⟩))
end
end NX
namespace PV
open PySem PySem.Spec PyProof.Rows L2 NX
section
variable {X:Cx}
def ll:List D->Res R
 | [.dct _ ks _]=>.ok (.f,.int ks.length)
 | ds=>Es ds
theorem Cs {pins:List (Addr×Obj)} {σ:L2.St} {H:Hp} {s:Shared} (I:Inv X pins σ H s) {p:Addr} {o:HO} {tk:Bool} {ks:List D} {xs:List V} (rd:Rd H p o) (dd:DictO o tk ks xs):(p == sysModules)=false/\∃ es ep,RawD s.heap p es ep/\es.size=ks.length/\ks.length<=sizeLine:=by
 have ok:=rd.ok I.hok
 cases tk with
 | true=>
  obtain ⟨Gb,eo,ek,_⟩:=dd
  subst eo
  obtain ⟨z,nm,ws,r,o2,es,ep,h1,h2,h3,h4,_⟩:=ok
  refine ⟨nm,es,ep,⟨o2,h1,h2,h3⟩,?_,by rw [ek,RJ];exact z⟩
  have:=SY List.length h4
  rw [RJ,Tb,<-UN r] at this
  rw [ek,RJ]
  exact this
 | false=>
  obtain ⟨Gb,eo,ek,_⟩:=dd
  subst eo
  obtain ⟨z,nm,ws,r,o2,es,ep,h1,h2,h3,h4,h5,_⟩:=ok
  refine ⟨nm,es,ep,⟨o2,h1,h2,h3⟩,?_,by rw [ek,RJ];exact z⟩
  have l1:=h5.length
  have l2:Gb.length=ws.length:=UN r
  rw [ek,RJ]
  rw [Tb] at l1
  lia
theorem du:dI X (.builtin "len") (rC X.K ll):=by
 rintro pins s σ H xs us Q I rx ⟨G,fp,es,vs,ds,r,⟨rel,k⟩,vd,e⟩
 unfold ll at e
 split at e
 ·rename_i tk ks ws
  cases e
  obtain ⟨v,ev,p,ys,o,ep,rd,dd,_⟩:=mH vd
  subst ev
  subst ep
  obtain ⟨u,rfl,ru⟩:=e7 rx
  cases ru
  obtain ⟨nm,en,ep,raw,h1,h2⟩:=Cs I rd dd
  refine z6 nm raw (by rw [h1];rw [SU] at h2;lia) ?_
  refine ⟨.int ks.length,H,I.tok _,⟨_,by rw [h1]⟩,k _ H G fp .refl (rel.push (bo _))⟩
 ·exact Cd pins s σ H xs us Q I rx ⟨G,fp,es,vs,_,r,⟨rel,k⟩,vd,e⟩
def Eu (g:List Nat->List D->Res R) (fa:FO) (fs:FOs):FX:=fun env=>(fa env).bind fun p=>match HW p.2 p.1 with
 | .ok (.str l)=>(fs p.2).bind fun q=>(pj q.2 q.1).bind fun ds=>(g l ds).bind fun r=>.ok (r,q.2)
 | _=>.bad
inductive rMtS (K:W.Frag) (g:List Nat->List D->Res R) (x:V) (xs:List V) (H:Hp) (Q:VK):Prop
 | mk:∀ G fp es vs l ds r,Goes K H G fp es vs r Q->x=.str (S l)->l.length<=sizeLine->MR K G H ds xs->g l ds=.ok r->rMtS K g x xs H Q
theorem Cu {g:List Nat->List D->Res R} {id:String} {name:Str} {o e:Expr} {es:List Expr} {fa:FO} {fs:FOs} {apos Gv:Pos} (slot:Slot "str" name id) (KQ:typeOf (.builtin id)=pure (.type "method_descriptor")) (hm:LO X id (rMtS X.K g)) (ho:QO X o fa) (ha:K6 X (e :: es) fs)
  (Hb:attributeBase o name X.env (eval o X.env)=eval o X.env:=by rfl)
  (IY:((backTo Gv (starEach (e :: es) X.env)).all (fun x=>!x.1) && (backToKw Gv (keywordEach [] X.env)).all (fun x=>x.1.isSome) && decide ((e :: es).length + ([]:List Keyword).length + (if ([]:List Keyword).isEmpty then 0 else 1) < 30))=true:=by rfl)
  (Hc:(apos.endLine == Gv.line)=true:=by rfl) (hs:starEach (e :: es) X.env=(false,eval e X.env) :: starEach es X.env:=by rfl) (Hd:(backTo Gv (starEach es X.env)).any (·.1)=false:=by rfl) :
  QE X (.Call (.Attribute o name apos) (e :: es) [] Gv) (Eu g fa fs):=by
 refine bX (zh PySem.F.plainAttrs_str slot KQ hm ho ha Hb IY Hc hs Hd) fun σ H Q Gu=>?_
 obtain ⟨G,env,fp,r,env',rel,e,k⟩:=Gu
 obtain ⟨⟨oa,F7⟩,e1,e⟩:=ar e
 dsimp only at e
 split at e
 ·rename_i l hl
  obtain ⟨⟨os,Gh⟩,e2,e⟩:=ar e
  obtain ⟨ds,e3,e⟩:=ar e
  obtain ⟨r',e4,e⟩:=ar e
  cases e
  refine ⟨G,env,fp,oa,F7,rel,e1,fun v H1 G1 Gx Gr Gd Ib=>?_⟩
  obtain ⟨ev,hz⟩:=g8 (Gd.vw Ib hl)
  subst ev
  exact ⟨rfl,G1,F7,Gx,os,Gh,Gd,e2,fun vs H2 G2 GU Gk F8 KW=>⟨G2,GU,Gh,σ,l,ds,r,⟨F8,fun v H' G' Gj st GD=>k v H' G' Gj (Gr.trans (Gk.trans st)) GD⟩,rfl,hz,F8.vws KW e3,e4⟩⟩
 ·cases e
end
theorem fnok_of {P:Program} {w:World} {K:W.Frag} {mg:Str->Option Value} {base:Heap} {x:Str} {st:Stmt} {N ps:List Str} {k:Nat} {g:FS} {f:Addr} {fd:FuncData} (F:Fun K x x st f fd) (sc:FnScope N ps (defScope st))
  (body:∀ (Gy:Value) (A:Around) (outer:List PySem.Env) (s:Shared) (H:Hp) (E:XK),Room k (A.deeper (envOfC x (defScope st) s.heap.objs.size f Gy))->LR (md:=.plain) (yg Li P w K mg base N x (defScope st) f Gy A outer s H E).nox (ft st) g) :
  FnOk P w K mg base Li (k + 1) f fd ps (spF K (fBody ps.length (N.length - ps.length) g)):=by
 refine F.ok sc (fun vs H Q E h=>?_) (fun Gy A outer s H vs Q E hr h=>?_)
 ·obtain ⟨G,ds,r,_,rs,e,_⟩:=h
  unfold fBody at e
  split at e
  ·rename_i hl
   rw [rs.length,hl]
  ·cases e
 ·obtain ⟨G,ds,r,gh,rs,e,q⟩:=h
  unfold fBody at e
  split at e
  ·rename_i hl
   refine ⟨_,body Gy A outer s H E hr,G,ds.map (fun d=>some (O.f,d))++List.replicate (N.length - ps.length) none,[],⟨?_,SX,(fun _ h=>nomatch h),gh⟩,?_⟩
   ·have:=lG (K:=K) (G:=G) (H:=H) (N.length - ps.length) rs
    unfold L2.start
    rw [rs.length,hl]
    exact this
   ·obtain ⟨o,eo,e⟩:=ar e
    rw [eo]
    cases o with
    | rt r'=>
     cases e
     exact fun v H' G' Gj st rel=>q v H' G' Gj st rel
    | nx env'=>
     cases e
     exact fun σ' H' G' Gj st rel=>q .non H' G' [] (st.trans (Step.cut fun _ h=>nomatch h)) (rel.nilF.push qp)
    | bk env'=>cases e
    | ct env'=>cases e
  ·cases e
def xH (K:W.Frag):Sp:=fun vs H Q _=>∃ (a:Addr) (ns:List Int),vs=[.ref a]/\SqL K H a (ns.map V.int)/\ns.length<=63/\∀ H',Q (.bl true) H'
theorem Cv {K:W.Frag} {F:List D->Res R} (h:∀ ns:List Int,ns.length<=63->∃ o,F [.lst (ns.map D.int)]=.ok (o,.bl true)):∀ vs H Q E,xH K vs H Q E->spF K F vs H Q E:=by
 rintro vs H Q E ⟨a,ns,rfl,sq,hl,q⟩
 obtain ⟨o,e⟩:=h ns hl
 refine ⟨H,_,_,.refl _,?_,e,fun v H' G' Gj st rel=>?_⟩
 ·refine .one ?_
  rw [Rep]
  exact ⟨a,_,rfl,sq,gG fun n _=>bo n⟩
 ·rw [c6 rel.top]
  exact q H'
theorem _root_.L2.Room.u65 {k:Nat} {A:Around} (r:Room k A):A.units + 65 < cLine:=by have:=r.un;lia
def DG (f:FX) (a:FG):FS:=fun env=>(f env).bind fun p=>(a p.1.2 p.2).bind fun e=>.ok (.nx e)
theorem Cw {X:Cx} {tg e:Expr} {f:FX} {a:FG} {pos:Pos} (he:QE X e f) (hg:QG X tg a) (hs:swapsWithSole [tg] e pos.line X.env=pure false:=by rfl) (hw:swappedStores [tg] e X.env=pure none:=by rfl)
  (h1:(assignEach [tg] X.env).map (·.2)=[assign tg X.env]:=by rfl):QS (md:=md) X (.Assign [tg] e pos) (DG f a):=g7 (BC he hg hs hw h1) fun Dd σ H Gp=>by
 obtain ⟨G,env,fp,rel,k⟩:=Gp
 unfold DG at k
 match q:f env,k with
 | .ok (r,F7),k=>
  have k:OutOk X.K G H fp Dd ((a r.2 F7).bind fun e=>.ok (.nx e)):=k
  match q2:a r.2 F7,k with
  | .ok Gh,k=>
   refine ⟨G,env,fp,r,F7,rel,q,fun v H1 G1 Gx Gr Gd=>?_⟩
   obtain ⟨G2,b,rv,F8,Gk⟩:=Gd.freeze
   exact ⟨G2,F7,b,r.2,Gh,F8,rv,q2,fun σ' G' Gj st GD=>k σ' H1 G' Gj (Gr.trans (Gk.trans st)) GD⟩
theorem FN {l:PySem.W.OpenLaw} {q:Program} {loose:List Str} {XP:(Str->Option Value)->Heap->Prop} {YP:World->Heap->Prop} {d:DefRec} {K:Params->W.Frag} {k:Nat} {x:Str} (hn:l.most=some 63) (Oq:d.params.defaults=[]) (hr:Room k PySem.callerA)
  (hY:∀ (w:World) (h:Heap),YP w h->(K w.params).In h)
  (F:∀ (w:World) (mg:Str->Option Value) (fa:Addr) (h:Heap),(K w.params).In h->h.Ns mainGlobals mg->mg d.name=some (.ref fa)->
   ∃ fd:FuncData,(∀ (s:Shared) (u:Value),BindsTo s fd ⟨[u],[]⟩ [(x,u)])/\∀ base:Heap,(K w.params).In base->base.Ns mainGlobals mg->FnOk l.prog w (K w.params) mg base Li k fa fd [x] (xH (K w.params))) :
  PySem.W.WalkO q loose XP YP l.row.toRowW d [] (fun f vs=>PySem.call f vs):=
 L2.zj (n:=63) (k:=k) (x:=x) (CX:=fun _=>Li) (sp:=fun w=>xH (K w.params)) hn (by decide) Oq hr hY F (fun _ _ a ns hl _ hS=>⟨a,ns,rfl,hS,hl,fun _=>rfl⟩) fun _ _ _ _ _ z=>z
theorem lT:bootBuiltins "max" = some (.builtin "max"):=by decide +kernel
theorem pF:bootBuiltins "min" = some (.builtin "min"):=by decide +kernel
theorem Cy:bootBuiltins "sum" = some (.builtin "sum"):=by decide +kernel
theorem Cz:bootBuiltins "all" = some (.builtin "all"):=by decide +kernel
theorem yG:bootBuiltins "any" = some (.builtin "any"):=by decide +kernel
theorem jF:bootBuiltins "sorted" = some (.builtin "sorted"):=by decide +kernel
theorem bI {K:W.Frag} {h:Heap} {mg:Str->Option Value} {x:Str} {st:Stmt} {f:Addr} {oc:Value} {od an:Option Addr} {LL:Array (Option Value)} {kV doc pm Gy ct:Value} (X:K.In h) (G:h.Ns mainGlobals mg)
  (a:PySem.W.nsIn K mainGlobals x=some (some (.ref f))) (l:K.lookup f=some ⟨oc,od,.func (PySem.W.fnOf x x (g5 st) (ft st) (defScope st) .none kV doc pm an Gy ct),LL⟩)
  (c:PySem.W.codeIn K Gy x=true) (k:PySem.W.keepIn K (.ref f)=true):Def K mg x st:=⟨f,_,yk l c k,PySem.W.mg_of X G a⟩
inductive tQL (K:W.Frag) (f:FI) (σ:L2.St) (H:Hp) (R:It->Hp->Prop):Prop
 | mk:∀ G env fp ds env',Rel K G H env σ fp->f env=.ok (ds,env')->(∀ J H' G' Gj,Step G H fp G' H' Gj->Rel K G' H' env' σ Gj->(∀ G2,Same G' G2->(∀ (i:Nat) (r:PV.R) (v:V),env'[i]?=some (some r)->σ[i]?=some (some v)->Rep K G2 r.2 v)->Walk K G2 J ds)->R J H')->tQL K f σ H R
def Nl (X:Cx) (tg e:Expr) (f:FI):Prop:=PI X tg e (tQL X.K f)
theorem Walk.mono {K:W.Frag} {G G2:Hp} {J:It} {ds:List D} (w:Walk K G J ds) (gg:Same G G2):Walk K G2 J ds:=fun G' H' es vs fp g rel=>w G' H' es vs fp (gg.trans g) rel
theorem yH {K:W.Frag} {fi:FI} {ix:List (Option Nat)} {a:FG} {c:FT} {f:FX} {σ:L2.St} {H:Hp} {Q:VK} (h:tQ K (cq fi ix a c f) σ H Q):zl (tQL K fi) ix (tQG K a) (tQT K c) (tQ K f) σ H Q:=by
 obtain ⟨G,env,fp,r,env',rel,e,k⟩:=h
 obtain ⟨⟨ds,F7⟩,e1,e⟩:=ar e
 obtain ⟨rs,e2,e⟩:=ar e
 refine ⟨G,env,fp,ds,F7,rel,e1,fun J H1 G1 Gx Gr Gd wk D hD=>?_⟩
 dsimp only at e e2
 split at e
 ·rename_i hz
  have er:r=(.l .f,.lst rs):=by cases e;rfl
  have ee:env'=if flatDs rs then F7 else F7.map frz:=by cases e;rfl
  subst er
  obtain ⟨G2,Qn,Qo,JQ,hrE,Ln⟩:=Gd.lend
  have wk2:=wk G2 Qn JQ
  have F8:Rel K G2 H1 (fw ix F7) (mX ix σ) []:=⟨g9 JQ (fun i r er=>let ⟨v,ev,_⟩:=Gd.view er;⟨v,ev⟩) ix,SX,(fun _ h=>nomatch h),Qo⟩
  obtain ⟨Gz,GO⟩:=F8.newL (ds:=[]) (xs:=[]) hD .nil
  refine ⟨fun i m σ1 H2=>m=ds.length - i/\i<=ds.length/\∃ G' es Gj acc eD,Step G2 H1 [] G' H2 Gj/\Rel K G' H2 (some (.l .f,.lst acc) :: es) (some (.ref D) :: σ1) Gj/\bY a c f (ds.drop i) es=.ok eD/\acc++eD=rs,
   ⟨_,rfl,So _,G2,fw ix F7,_,[],rs,GO,Gz,e2,rfl⟩,?_⟩
  rintro i m σ1 H2 ⟨rfl,hi,G3,es,Jj,acc,eD,HV,GY,e4,Lu⟩
  obtain ⟨w1,w2⟩:=wk2 G3 H2 _ _ _ HV.gg GY i
  by_cases GV:i < ds.length
  ·have hd:ds[i]?=some ds[i]:=List.getElem?_eq_getElem GV
   obtain ⟨go,yl⟩:=w1 _ hd
   rw [List.drop_eq_getElem_cons GV] at e4
   unfold bY at e4
   obtain ⟨Rg,h1,e4⟩:=ar e4
   obtain ⟨⟨b,OL⟩,h2,e4⟩:=ar e4
   dsimp only at e4
   refine .inr ⟨go,fun x H3 y=>?_⟩
   obtain ⟨G4,rx,HS,IW⟩:=yl x H3 y
   obtain ⟨fa,fb,Rh,ra,relb,bk⟩:=HS.frame
   refine ⟨G4,es,fb,ds[i],Rg,relb,rx,h1,fun σ2 G5 OM st6 rel6=>?_⟩
   refine ⟨G5,Rg,OM,b,OL,rel6,h2,fun H6 G6 Ri st7 ON=>?_⟩
   have OO:=st6.trans st7
   cases b with
   | false=>
    refine iteF ⟨ds.length - (i + 1),by lia,rfl,GV,?_⟩
    obtain ⟨Lw,Mc⟩:=bk G6 H6 OL σ2 Ri OO ON
    rw [<-Rh] at Mc
    exact ⟨G6,OL,_,acc,eD,HV.trans (IW.trans Mc),Lw,e4,Lu⟩
   | true=>
    have e4:((f OL).bind fun q=>(bY a c f (ds.drop (i + 1)) q.2).bind fun rs=>.ok (q.1.2 :: rs))=.ok eD:=e4
    obtain ⟨⟨r,Qs⟩,h3,e4⟩:=ar e4
    obtain ⟨OP,h4,e4⟩:=ar e4
    cases e4
    refine BV ⟨G6,OL,Ri,r,Qs,ON,h3,fun v H7 G7 fp7 st8 rel8=>?_⟩
    obtain ⟨G8,fp8,rv,rel9,st9⟩:=rel8.freeze
    obtain ⟨Lw,Mc⟩:=bk G8 H7 Qs σ2 fp8 (OO.trans (st8.trans st9)) rel9
    rw [<-Rh] at Mc
    obtain ⟨p,xs,ep,hp,OJ,cg⟩:=Lw.chg (i:=0) (ds:=acc) (ds':=acc++[r.2]) rfl
    have ep:some (some (V.ref D))=some (some (V.ref p)):=ep
    cases ep
    obtain ⟨fq,rely,sty⟩:=cg (xs++[v]) (OJ.app (.one rv))
    refine ⟨xs,hp,?_,ds.length - (i + 1),by lia,rfl,GV,G8,Qs,fq,acc++[r.2],OP,HV.trans (IW.trans (Mc.trans sty)),rely,h4,?_⟩
    ·rw [OJ.length]
     have:=SY List.length Lu
     rw [SD,Sb] at this
     lia
    ·rw [<-Lu,SR]
     rfl
  ·have ei:i=ds.length:=by lia
   subst ei
   rw [List.drop_length] at e4
   cases e4
   rw [SW] at Lu
   subst Lu
   refine .inl ⟨w2 rfl,?_⟩
   obtain ⟨fa,relo,sto⟩:=GY.only
   obtain ⟨k1,k2⟩:=Ln H2 G3 fa _ _ (HV.trans sto) relo
   rw [ee] at k
   by_cases hc:flatDs acc=true
   ·rw [RO hc] at k
    obtain ⟨G5,OM,IW,HS⟩:=k1 (by rw [cx,nU];exact hc)
    exact k _ H2 G5 OM (Gr.trans IW) HS
   ·rw [RY hc] at k
    obtain ⟨G5,OM,IW,HS⟩:=k2
    exact k _ H2 G5 OM (Gr.trans IW) HS
 ·cases e
section
variable {md:Mode} {X:Cx} {scope:Scope} {N:List Str} {tg iter elt:Expr} {ifs:List Expr} {pos:Pos} {fi:FI} {a:FG} {c:FT} {f:FX}
variable {l e:Expr} {g fj:FI}
theorem a0 (h:QI X tg e fi):Nl X tg e fi:=kA h fun σ H R ⟨G,env,fp,ds,env',rel,e,k⟩=>⟨G,env,fp,ds,env',rel,e,fun J H' G' Gj st GD wk=>k J H' G' Gj st GD fun _ gg _=>wk.mono gg⟩
theorem cR (h:Nl X tg e fi) (h2:Nl X tg e fj):Nl X tg e (Hh fi fj):=fun pins s σ H R I Gp=>by
 obtain ⟨G,env,fp,ds,env',rel,ee,k⟩:=Gp
 rcases yD ee with z | z
 ·exact h pins s σ H R I ⟨G,env,fp,ds,env',rel,z,k⟩
 ·exact h2 pins s σ H R I ⟨G,env,fp,ds,env',rel,z,k⟩
def g0 (i:Nat):FI:=fun env=>match env[i]? with
 | some (some (_,.lst ds))=>.ok (ds,env)
 | _=>.bad
theorem eO {i:Nat} (h:PE X l (wR i)):Nl X tg l (g0 i):=kA (uz h) fun σ H R Gp=>by
 obtain ⟨G,env,fp,ds,env',rel,e,k⟩:=Gp
 unfold g0 at e
 split at e
 ·rename_i o ds hr
  cases e
  obtain ⟨v,ev,rv⟩:=rel.view hr
  obtain ⟨p,xs,Rj,sq,rs⟩:=bV rv
  refine ⟨v,ev,p,Rj,⟨xs,sq⟩,k _ H G fp .refl rel fun G2 gg JQ=>?_⟩
  obtain ⟨p',Hk,OQ,HR,HD⟩:=bV (JQ i _ v hr ev)
  rw [Rj] at OQ
  cases OQ
  exact pw HR HD
 ·cases e
theorem aY (ix:List (Option Nat)) (N:List Str) (hc:X.calm=true) (hi:Nl X tg iter fi) (hg:∀ C s H fp pn,QG (cF X scope N C s H fp pn) tg a) (ht:∀ C s H fp pn,Pu (cF X scope N C s H fp pn) ifs c) (he:∀ C s H fp pn,QE (cF X scope N C s H fp pn) elt f)
  (hf:ju scope X.env=true:=by rfl) (hk:scope.kind=.function:=by rfl) (G9:∀ y∈scope.names,y.2≠.cell:=by decide +kernel) (Ia:∀ y∈scope.names,y.2=.local->scope.names.lookup y.1=some .local:=by decide +kernel) (H0:yo X scope N ix=true:=by rfl)
  (hs:∀ x,foldedSetIterable iter X.env x=pure x:=by intro _;rfl):QE X (.ListComp elt [⟨tg,iter,ifs,0⟩] scope pos) (cq fi ix a c f):=
 bX (zp (g:=tQG X.K a) (tc:=tQT X.K c) (te:=tQ X.K f) ix N hc hi hg ht he hf hk G9 Ia H0 hs) fun _ _ _=>yH
theorem gH {i:Nat} {y:Str} {py Lk:Pos} (ix:List (Option Nat)) (N:List Str) (hN:X.N.Nodup) (P9:X.N[i]?=some y) (hy:Loc X.env.scope y) (hc:X.calm=true) (hi:Nl X tg iter fi) (hg:∀ C s H fp pn,QG (cF X scope N C s H fp pn) tg a) (ht:∀ C s H fp pn,Pu (cF X scope N C s H fp pn) ifs c)
  (he:∀ C s H fp pn,QE (cF X scope N C s H fp pn) elt f) (Qa:swapsWith (.ListComp elt [⟨tg,iter,ifs,0⟩] scope pos) (some (.Name y py)) Lk.line X.env=pure true:=by rfl)
  (hf:ju scope X.env=true:=by rfl) (hk:scope.kind=.function:=by rfl) (G9:∀ y∈scope.names,y.2≠.cell:=by decide +kernel) (Ia:∀ y∈scope.names,y.2=.local->scope.names.lookup y.1=some .local:=by decide +kernel) (H0:yo X scope N ix=true:=by rfl)
  (hs:∀ x,foldedSetIterable iter X.env x=pure x:=by intro _;rfl) (LY:X.fn y=true\/X.env.scope.names.lookup y=some .local:=by first | exact .inl rfl | exact .inr rfl) :
  QS (md:=md) X (.Assign [.Name y py] (.ListComp elt [⟨tg,iter,ifs,0⟩] scope pos) Lk) (bM i (cq fi ix a c f)):=
 g7 (zq (i:=i) (g:=tQG X.K a) (tc:=tQT X.K c) (te:=tQ X.K f) ix N hN P9 hy hc hi hg ht he Qa hf hk G9 Ia H0 hs LY) fun D σ H ⟨G,env,fp,rel,k⟩=>yH (vD rel k)
end
section
variable {X:Cx} {a:Expr} {pos:Pos} {fa:FO}
def F5 (fa:FO):FX:=fun env=>(fa env).bind fun p=>(HW p.2 p.1).bind fun d=>match d with
 | .int i=>.ok ((.f,.int (-i)),p.2)
 | _=>.bad
theorem vQ {i:Int} (h:i.natAbs < 2 ^ 1000):Builtin.Int.intBits i<=2 ^ 20:=by
 unfold Builtin.Int.intBits
 split
 ·exact So _
 ·rename_i h0
  have h1:i.natAbs≠0:=by
   intro e
   rw [Int.natAbs_eq_zero] at e
   exact h0 (by rw [e];rfl)
  have:=(Nat.log2_lt h1).mpr h
  have e:(2:Nat) ^ 20=1048576:=by decide
  lia
theorem z7:Hf X (binaryOp .Mult) (rI (fun i j=>i.natAbs < 2 ^ 1000/\j.natAbs < 2 ^ 1000) fun i j=>.int (i * j)):=Oj fun _ _ _ _ _ _ _ hc q=>mul_int q (.of_bits (vQ hc.1) (vQ hc.2))
theorem pG {α:Type}:∀ (ls:List (Array α)) (acc:Array α),(ls.foldl (·++·) acc).toList=acc.toList++(ls.map Array.toList).flatten
 | [],acc=>by simp
 | a :: ls,acc=>by
  rw [TU,pG ls,Array.toList_append,R6,Tq,SR]
theorem Ew (l:List Nat) (n:Nat):(⟨(List.replicate n (S l).cps).foldl (·++·) #[]⟩:Str)=S (List.replicate n l).flatten:=by
 have h:((List.replicate n (S l).cps).foldl (·++·) #[]).toList=(List.replicate n l).flatten:=by
  rw [pG,List.map_replicate]
  simp only [fu,UU]
 show Str.mk _=Str.mk _
 rw [<-h]
theorem z8 (a b:Int):En (.int a) (.int b)=if b9 a || b9 b then .ok (.f,.int (a * b)) else .bad:=rfl
def z9:D->D->Res R
 | .int i,.int j=>if b9 i || b9 j then .ok (.f,.int (i * j)) else if i.natAbs < 2 ^ 1000/\j.natAbs < 2 ^ 1000 then .ok (.f,.int (i * j)) else .bad
 | .str l,.int k=>if 2<=k/\k<=1000/\1<=l.length/\l.length<=1000 then .ok (.f,.str (List.replicate k.toNat l).flatten) else .bad
 | _,_=>.bad
theorem Aa:Hf X (binaryOp .Mult) (rG X.K z9):=by
 rintro pins s σ H x y v u Q I rx ry ⟨G,fp,es,vs,a,b,r,⟨rel,k⟩,va,vb,e⟩
 unfold z9 at e
 split at e
 ·rename_i i j
  split at e
  ·rename_i hc
   exact Cb pins s σ H x y v u Q I rx ry ⟨G,fp,es,vs,.int i,.int j,r,⟨rel,k⟩,va,vb,by rw [z8,RO hc];exact e⟩
  ·split at e
   ·rename_i hc
    cases e
    cases bW va
    cases bW vb
    exact z7 pins s σ H _ _ v u Q I rx ry ⟨i,j,rfl,rfl,hc,k _ H G fp .refl (rel.push (bo _))⟩
   ·cases e
 ·rename_i l j
  split at e
  ·rename_i hc
   cases e
   obtain ⟨ev,hl⟩:=g8 va
   subst ev
   cases bW vb
   obtain ⟨t,rfl⟩:=rx
   obtain ⟨t',rfl⟩:=ry
   have hlen:(S l).length=l.length:=mJ l
   have hz:(List.replicate j.toNat l).flatten.length<=1000000:=by
    rw [nE]
    exact Nat.mul_le_mul (by lia:j.toNat<=1000) hc.2.2.2
   have LU:(List.replicate j.toNat l).flatten.length<=sizeLine:=SJ hz (by decide)
   refine PySem.P.mul_str ?_ ?_ ?_ ?_
   ·rw [Sf (by lia),Sf (by lia)];rfl
   ·intro _ _
    rw [hlen]
    have h1:1000<=(2 ^ 63 - 1) / j:=(Int.le_ediv_iff_mul_le (by lia)).mpr (by lia)
    lia
   ·intro _ _
    unfold Builtin.Str.tooLong
    rw [SS,hlen,VS,<-nE]
    lia
   ·rw [RY (by lia),RY (by rw [hlen,Vs,Si,Si];lia),Ew]
    refine ⟨?_,?_⟩
    ·rw [mJ]
     exact LU
    ·exact ⟨.str (S (List.replicate j.toNat l).flatten),H,I.tok _,⟨_,rfl⟩,k _ H G fp .refl (rel.push (jb LU))⟩
  ·cases e
 ·cases e
end
end PV
namespace HT
open PySem PySem.Spec PyProof.Rows L2
variable {prog:Program} {w:World} {A:Around} {E:Value->Shared->Prop} {s:Shared}
theorem jG {t sl:Addr} {items:Array Value} {vl vu:Value} {lo hi:Option Int} {Q:Value->Shared->Prop} (ht:IsTup s.heap t items) (hs:s.heap.IsSliceOf sl vl vu .none) (pl:IsPart vl lo) (pu:IsPart vu hi)
  (hw:sIx items.size 0 lo=0/\sIx items.size items.size hi=items.size) (h:Q (.ref t) s):wpAny (model prog w) A (getItem (.ref t) (.ref sl)) Q E s:=by
 obtain ⟨os,M5,Ph,LZ⟩:=id hs
 have P4:s.TypeIs (.ref sl) "slice":=⟨os,M5,Ph⟩
 unfold getItem
 try with_reducible refine Te ?_
 first | refine RG (RH ?_) | skip
 refine RG (wpAny_sequenceKey ht.typeIs (by decide) ?_)
 refine RG (wpAny_callSpecial?_slot (name:=Str.ofString "__getitem__") ht.typeIs Tc
  (SO Tc ht.typeIs entry_tuple_getitem ?_ (args_tuple_getitem _ _)))
 show wpAny _ _ (Builtin.Tuple.tupleItemsOf (.ref t) >>= _) _ _ s
 refine RG (tupleItemsOf_ ht ?_)
 refine RG (Uo P4 ?_)
 rw [RO (by decide)]
 refine RG (gQ hs pl pu ?_)
 have hyes:(((sIx items.size 0 lo:Nat):Int) == 0 && (1:Int) == 1 && (sIx items.size items.size hi - sIx items.size 0 lo) == items.size)=true:=by
  rw [hw.1,hw.2]
  simp
 show wpAny _ _ (if (((sIx items.size 0 lo:Nat):Int) == 0 && (1:Int) == 1 && (sIx items.size items.size hi - sIx items.size 0 lo) == items.size)=true then _ else _) _ _ s
 rw [RO hyes]
 refine RG (m:=Builtin.Tuple.tupleIsExact _) ?_
 unfold Builtin.Tuple.tupleIsExact
 refine RG (Uo ht.typeIs (RH ?_))
 rw [RO (by decide)]
 exact RG (U6 (RH ⟨_,rfl,RH h⟩))
end HT
namespace PV
open PySem PySem.Spec PyProof.Rows L2 NX
section
variable {X:Cx} {pos:Pos} {fa:FO}
theorem Ab:M6 X (fun x lo hi H Q=>∃ a xs,x=.ref a/\SqT X.K H a xs/\(HT.sIx xs.length 0 lo=0/\HT.sIx xs.length xs.length hi=xs.length)/\Q x H):=by
 intro pins s σ H x v vl vu lo hi sl Q I rx hs pl pu h
 obtain ⟨a,xs,rfl,hx,hw,q⟩:=h
 cases rx
 obtain ⟨F9,r,ht,hz⟩:=I.tuple hx
 have hlen:F9.toArray.size=xs.length:=by rw [RI];exact r.length.symm
 refine ⟨"tuple",_,PyProof.Rows.slot_tuple_getitem.lookup,ht.typeIs,?_⟩
 exact HT.jG ht hs pl pu (by rw [hlen];exact hw) ⟨.ref a,H,I,rfl,q⟩
def OR (k:D) (lo hi:Option Int):Res R:=match k with
 | .tup ds=>if HT.sIx ds.length 0 lo=0/\HT.sIx ds.length ds.length hi=ds.length then .ok (.f,.tup ds) else OI k lo hi
 | _=>OI k lo hi
def Ac (fa:FO) (lo hi:FP):FX:=fun env=>(fa env).bind fun p=>(lo p.2).bind fun q=>(hi q.2).bind fun t=>(HW t.2 p.1).bind fun d=>(OR d q.1 t.1).bind fun r=>.ok (r,t.2)
inductive rSlW (K:W.Frag) (x:V) (lo:Option Int) (hi:Option Int) (H:Hp) (Q:VK):Prop
 | mk:∀ G fp es vs d r,Goes K H G fp es vs r Q->Vw K G H d x->OR d lo hi=.ok r->rSlW K x lo hi H Q
theorem CA:M6 X (rSlW X.K):=by
 rintro pins s σ H x v vl vu lo hi sl Q I rx hs pl pu ⟨G,fp,es,vs,d,r,⟨rel,k⟩,vd,e⟩
 unfold OR at e
 split at e
 ·rename_i ds
  split at e
  ·rename_i hw
   cases e
   obtain ⟨p,xs,ev,sq,rs⟩:=iX vd
   subst ev
   refine Ab pins s σ H _ v vl vu lo hi sl Q I rx hs pl pu ⟨p,xs,rfl,cb rel.gh sq,by rw [rs.length];exact hw,?_⟩
   exact k _ H G fp .refl (rel.push vd)
  ·exact Cc pins s σ H x v vl vu lo hi sl Q I rx hs pl pu ⟨G,fp,es,vs,_,r,⟨rel,k⟩,vd,e⟩
 ·exact Cc pins s σ H x v vl vu lo hi sl Q I rx hs pl pu ⟨G,fp,es,vs,_,r,⟨rel,k⟩,vd,e⟩
theorem pH {e:Expr} {lo hi:Option Expr} {p2:Pos} {fl fh:FP} (he:QO X e fa) (hl:QP X lo fl) (hh:QP X hi fh):QE X (.Subscript e (.Slice lo hi none p2) pos) (Ac fa fl fh):=
 bX (xc CA he hl hh) fun σ H Q Gp=>by
  obtain ⟨G,env,fp,r,env',rel,e,k⟩:=Gp
  obtain ⟨⟨o,F7⟩,e1,e⟩:=ar e
  obtain ⟨⟨i,Gh⟩,e2,e⟩:=ar e
  obtain ⟨⟨j,Hg⟩,e3,e⟩:=ar e
  obtain ⟨d,e4,e⟩:=ar e
  obtain ⟨r',e5,e⟩:=ar e
  cases e
  exact ⟨G,env,fp,o,F7,rel,e1,fun v H1 G1 Gx Gr Gd Ib=>⟨G1,F7,Gx,i,Gh,Gd,e2,fun H2 G2 GU Gk F8=>⟨G2,Gh,GU,j,Hg,F8,e3,fun H3 G3 Jj GO Gz=>
   ⟨G3,Jj,Hg,σ,d,r,⟨Gz,fun v H' G' Gj st GD=>k v H' G' Gj (Gr.trans (Gk.trans (GO.trans st))) GD⟩,Gz.vw ((Ib.mono Gk.gg).mono GO.gg) e4,e5⟩⟩⟩⟩
end
end PV
namespace L2
open PySem PySem.Spec PyProof.Rows
section
variable {X:Cx} {tg:Expr}
def vR (i j c:Int):Prop:=(-1048576<=i/\i<=1048576)/\(-1048576<=j/\j<=1048576)/\(c = -1\/1<=c)/\c<=1048576
instance (i j c:Int):Decidable (vR i j c):=by unfold vR;infer_instance
end
end L2
namespace PV
open PySem PySem.Spec PyProof.Rows L2 NX
section
variable {X:Cx} {tg:Expr}
def qy:List D->Res R
 | [d]=>match (lI d).bind dh with
  | some (n :: ns)=>.ok (.f,.int (c5 (n :: ns)))
  | _=>.bad
 | [.int i,.int j]=>.ok (.f,.int (if j < i then j else i))
 | _=>.bad
theorem pI (hc:X.calm=true):dI X (.builtin "min") (rC X.K qy):=by
 rintro pins s σ H xs us Q I rx ⟨G,fp,es,vs,ds,r,⟨rel,k⟩,vd,e⟩
 unfold qy at e
 split at e
 ·rename_i d
  split at e
  ·rename_i n ns hb
   cases e
   obtain ⟨v,ev,vt⟩:=mH vd
   obtain ⟨p,ep,sq⟩:=hU rel.gh hb vt
   subst ev
   subst ep
   exact u0 hc pins s σ H _ us Q I rx ⟨p,n :: ns,rfl,sq,by simp,k _ H G fp .refl (rel.push (bo _))⟩
  ·cases e
 ·rename_i i j
  cases e
  obtain ⟨v,w',ev,v1,v2⟩:=E4 vd
  subst ev
  cases bW v1
  cases bW v2
  exact uH hc pins s σ H _ us Q I rx ⟨i,j,rfl,k _ H G fp .refl (rel.push (bo _))⟩
 ·cases e
def F6:List D->Res R
 | [.int i]=>.ok (.f,.int (if i < 0 then -i else i))
 | _=>.bad
def Ex (fs:FOs):FI:=fun env=>(fs env).bind fun p=>(pj p.2 p.1).bind fun d=>match d with
 | [.int i,.int j,.int c]=>if vR i j c then .ok ((List.range (Builtin.Range.rangeSize i j c).toNat).map fun (k:Nat)=>D.int (i + (k:Int) * c),p.2) else .bad
 | _=>.bad
end
end PV
namespace NX
open PySem PySem.Spec PyProof.Rows L2
section
open PySem.SeqAt
open PySem.AutoSeq1 (wpAny_loadPart')
theorem lU {M:Model} {A:Around} {E:Value->Shared->Prop} {s:Shared} {β:Type} (f:Nat->β->Sem (ForInStep β)) (n:Nat) (I:Nat->β->Shared->Prop) (Q:β->Shared->Prop)
  (turn:∀ (i:Nat) (b:β) (s:Shared),i < n->I i b s->wpAny M A (f i b) (fun r s'=>match r with | .yield b'=>I (i + 1) b' s' | .done b'=>Q b' s') E s)
  (fin:∀ (b:β) (s:Shared),I n b s->Q b s) (b:β) (h:I 0 b s):wpAny M A (forIn [0:n] b f) Q E s:=by
 rw [Std.Legacy.Range.forIn_eq_forIn_range']
 refine wpAny_forIn_list f (fun eD b s=>∃ i,i<=n/\eD=List.range' i (n - i)/\I i b s) Q ?_ ?_ _ b ?_
 ·rintro x eD b s ⟨i,hi,hr,h⟩
  by_cases JL:i < n
  ·have e:n - i=(n - (i + 1)) + 1:=by lia
   rw [e,List.range'_succ] at hr
   injection hr with h1 h2
   subst h1
   refine Gs (turn x b s JL h) fun r s' Rk=>?_
   cases r with
   | yield b'=>exact ⟨x + 1,by lia,h2,Rk⟩
   | done b'=>exact Rk
  ·have e:n - i=0:=by lia
   rw [e] at hr
   cases hr
 ·rintro b s ⟨i,hi,hr,h⟩
  by_cases JL:i < n
  ·have e:n - i=(n - (i + 1)) + 1:=by lia
   rw [e,List.range'_succ] at hr
   cases hr
  ·have e:i=n:=by lia
   subst e
   exact fin b s h
 ·refine ⟨0,So _,?_,h⟩
  simp [Std.Legacy.Range.size]
theorem kZ (l:Addr) (items:Array Value) (n:Nat) (dd:Option Addr) (sl:Array (Option Value)) (ns:List Str) (c:Str) (t:Tok) (hi:Vals (ns.map V.str) items.toList) (i:Nat) (hx:ns[i]?=some c) (h0:∀ j,j < i->ns[j]?≠some c) :
  Meets (Builtin.«tuple.index» ⟨[.ref l,.str c t],[]⟩)
   (fun _ R s=>s.heap.get? l=some { cls:=.type "tuple",dict:=dd,data:=.seq items n,slots:=sl }/\R (.ok (.ret (.int (i:Int) s.toks))) { s with toks:=s.toks + 1 }):=
 .of_wp fun prog w A R s h=>by
  obtain ⟨hp,g,d,tk,os⟩:=s;obtain ⟨hl,h⟩:=h
  have z1:items.size=ns.length:=by have:=hi.length;simp at this;lia
  have JL:i < ns.length:=(List.getElem?_eq_some_iff.mp hx).1
  have key:∀ (j:Nat),j < ns.length->∃ (b:Str) (u:Tok),items[j]?=some (.str b u)/\ns[j]?=some b:=by
   intro j hj
   obtain ⟨v,hv,hr⟩:=hi.get (i:=j) (x:=V.str ns[j]) (by simp [hj])
   obtain ⟨u,rfl⟩:=hr
   exact ⟨ns[j],u,by rw [<-Array.getElem?_toList];exact hv,by simp [hj]⟩
  wp_walk using wpAny_loadPart' hl,lU _ _ (fun j b s'=>b.1=none/\s'=⟨hp,g,d,tk,os⟩/\j<=i) _
  case turn=>
   rintro j ⟨b1,b2⟩ s' hj ⟨hb,rfl,Rl⟩
   simp only at hb
   subst hb
   obtain ⟨b,u,e1,e2⟩:=key j (by lia)
   have he:EqAt A.in1 ⟨hp,g,d,tk,os⟩ (.str b u) (.str c t) (b == c):=EqAt.str_str b u c t
   by_cases JM:b=c
   ·have hji2:j=i:=by
     rcases Nat.lt_or_ge j i with GV | hge
     ·exact absurd (by rw [e2,JM]) (h0 j GV)
     ·lia
    subst hji2 JM
    rw [e1]
    refine RG (he prog w _ _ ?_)
    rw [show (b == b)=true from SF b]
    wp_walk
    exact ⟨_,rfl,h⟩
   ·rw [e1]
    refine RG (he prog w _ _ ?_)
    rw [show (b == c)=false from Sw.mpr JM]
    wp_walk
    refine ⟨rfl,rfl,?_⟩
    rcases Nat.lt_or_ge j i with GV | hge
    ·exact GV
    ·have:j=i:=by lia
     subst this
     rw [e2] at hx
     cases hx
     exact absurd rfl JM
  case fin=>
   rintro ⟨b1,b2⟩ s' ⟨hb,rfl,Rl⟩
   rw [Nat.min_self] at Rl
   lia
  case h=>exact ⟨rfl,rfl,So _⟩
end
end NX
namespace L2
open PySem PySem.Spec PyProof.Rows
section
variable {X:Cx} {o e:Expr} {es:List Expr} {to:TE} {t:TA} {name:Str} {apos Gv:Pos} {id:String} {r:V->List V->Hp->VK->Prop}
def FQ (K:W.Frag) (r:V->List V->Hp->VK->Prop) (to:TE) (t:TA):TE:=fun σ H Q=>to σ H fun x H1=>(∃ p ys,x=.ref p/\SqT K H1 p ys)/\t σ H1 fun xs H2=>r x xs H2 Q
theorem CB (slot:Slot "tuple" name id) (KQ:typeOf (.builtin id)=pure (.type "method_descriptor")) (hm:LO X id r) (ho:PE X o to) (ha:PA X (e :: es) t)
  (Hb:attributeBase o name X.env (eval o X.env)=eval o X.env:=by rfl)
  (IY:((backTo Gv (starEach (e :: es) X.env)).all (fun x=>!x.1) && (backToKw Gv (keywordEach [] X.env)).all (fun x=>x.1.isSome)
   && decide ((e :: es).length + ([]:List Keyword).length + (if ([]:List Keyword).isEmpty then 0 else 1) < 30))=true:=by rfl)
  (Hc:(apos.endLine == Gv.line)=true:=by rfl) (hs:starEach (e :: es) X.env=(false,eval e X.env) :: starEach es X.env:=by rfl) (Hd:(backTo Gv (starEach es X.env)).any (·.1)=false:=by rfl) :
  PE X (.Call (.Attribute o name apos) (e :: es) [] Gv) (FQ X.K r to t):=by
 intro pins s σ H Q I h
 refine wpAny_Call_method_late Hb IY Hc rfl (Gs (ho pins s σ H _ I h) fun v s1 Gu=>?_)
 obtain ⟨x,H1,I1,r1,⟨p,ys,ex,sq⟩,q1⟩:=Gu
 subst ex
 cases r1
 obtain ⟨F9,_,⟨ob,ho,hc,⟨n,hd⟩,hn⟩,_⟩:=I1.tupleN sq
 refine ⟨"tuple",id,PySem.F.plainAttrs_tuple,slot,KQ,⟨ob,ho,hc⟩,fun a e2=>?_,?_⟩
 ·cases e2
  exact ⟨ob,ho,hn⟩
 have hA:=ha Gv pins s1 σ H1 _ I1 q1
 rw [hs] at hA ⊢
 refine UB (by show (false || (backTo Gv (starEach es X.env)).any (·.1))=false;rw [Hd] <;> rfl) (Calls.evalArgs_plain ?_)
 exact Gs hA fun us s2 ⟨vs,H2,I2,r2,q2⟩=>hm pins s2 σ H2 (.ref p) vs _ us Q I2 rfl r2 q2
end
end L2
namespace PV
open PySem PySem.Spec PyProof.Rows L2 NX
section
variable {X:Cx}
def xI (g:List D->List D->Res R) (fa:FO) (fs:FOs):FX:=fun env=>(fa env).bind fun p=>(HW p.2 p.1).bind fun a=>match a with
 | .tup _=>(fs p.2).bind fun q=>(HW q.2 p.1).bind fun a2=>match a2 with
  | .tup l=>(pj q.2 q.1).bind fun ds=>(g l ds).bind fun r=>.ok (r,q.2)
  | _=>.bad
 | _=>.bad
inductive rMtT (K:W.Frag) (g:List D->List D->Res R) (x:V) (xs:List V) (H:Hp) (Q:VK):Prop
 | mk:∀ G fp es vs l ds r,Goes K H G fp es vs r Q->Vw K G H (.tup l) x->MR K G H ds xs->g l ds=.ok r->rMtT K g x xs H Q
theorem rT {g:List D->List D->Res R} {id:String} {name:Str} {o e:Expr} {es:List Expr} {fa:FO} {fs:FOs} {apos Gv:Pos} (slot:Slot "tuple" name id) (KQ:typeOf (.builtin id)=pure (.type "method_descriptor")) (hm:LO X id (rMtT X.K g)) (ho:QO X o fa) (ha:K6 X (e :: es) fs)
  (Hb:attributeBase o name X.env (eval o X.env)=eval o X.env:=by rfl)
  (IY:((backTo Gv (starEach (e :: es) X.env)).all (fun x=>!x.1) && (backToKw Gv (keywordEach [] X.env)).all (fun x=>x.1.isSome) && decide ((e :: es).length + ([]:List Keyword).length + (if ([]:List Keyword).isEmpty then 0 else 1) < 30))=true:=by rfl)
  (Hc:(apos.endLine == Gv.line)=true:=by rfl) (hs:starEach (e :: es) X.env=(false,eval e X.env) :: starEach es X.env:=by rfl) (Hd:(backTo Gv (starEach es X.env)).any (·.1)=false:=by rfl) :
  QE X (.Call (.Attribute o name apos) (e :: es) [] Gv) (xI g fa fs):=by
 refine bX (CB slot KQ hm ho ha Hb IY Hc hs Hd) fun σ H Q Gu=>?_
 obtain ⟨G,env,fp,r,env',rel,e,k⟩:=Gu
 obtain ⟨⟨oa,F7⟩,e1,e⟩:=ar e
 obtain ⟨da,L9,e⟩:=ar e
 dsimp only at e
 split at e
 ·obtain ⟨⟨os,Gh⟩,e2,e⟩:=ar e
  obtain ⟨d2,hd2,e⟩:=ar e
  dsimp only at e
  split at e
  ·obtain ⟨ds,e3,e⟩:=ar e
   obtain ⟨r',e4,e⟩:=ar e
   cases e
   refine ⟨G,env,fp,oa,F7,rel,e1,fun v H1 G1 Gx Gr Gd Ib=>?_⟩
   obtain ⟨p,xs,ev,sq,_⟩:=bH (Vw.rep Gd.gh (Gd.vw Ib L9))
   exact ⟨⟨p,xs,ev,sq⟩,G1,F7,Gx,os,_,Gd,e2,fun vs H2 G2 GU Gk F8 KW=>⟨G2,GU,_,σ,_,ds,r,⟨F8,fun v H' G' Gj st GD=>k v H' G' Gj (Gr.trans (Gk.trans st)) GD⟩,F8.vw (Ib.mono Gk.gg) hd2,F8.vws KW e3,e4⟩⟩
  ·cases e
 ·cases e
def mP (l:List D):List D->Res R
 | [.str c]=>match gm l with
  | some bs=>if c∈bs then .ok (.f,.int (bs.idxOf c:Nat)) else .bad
  | none=>.bad
 | _=>.bad
def Bh (l:List D):List D->Res R
 | [.str c]=>match gm l with
  | some bs=>.ok (.f,.int (bs.count c:Nat))
  | none=>.bad
 | _=>.bad
theorem yI {a b:List Nat} (h:S a=S b):a=b:=by
 have:=SY (fun s:Str=>s.cps.toList) h
 simpa only [fu] using this
theorem rU:∀ (bs:List (List Nat)) (c:List Nat) (j:Nat),bs[j]?=some c->bs.idxOf c<=j
 | [],c,j,h=>by simp at h
 | b :: bs,c,0,h=>by
  simp at h
  subst h
  simp [Vu]
 | b :: bs,c,j + 1,h=>by
  rw [List.getElem?_cons_succ] at h
  have:=rU bs c j h
  rw [Vu]
  cases b == c with
  | true=>exact So _
  | false=>exact Nat.succ_le_succ this
def Rn (c:Str):Value->Bool
 | .str b _=>b == c
 | _=>false
theorem ng (c:List Nat):∀ (bs:List (List Nat)) (F9:List Value),Vals (bs.map fun l=>V.str (S l)) F9->F9.countP (Rn (S c))=bs.count c
 | [],F9,h=>by cases h;rfl
 | b :: bs,F9,h=>by
  cases h with
  | cons r rr=>
   obtain ⟨t,rfl⟩:=r
   rw [List.countP_cons,List.count_cons,ng c bs _ rr]
   congr 1
   show (if (S b == S c)=true then 1 else 0)=_
   by_cases JM:b=c
   ·rw [JM,RO (SF _),RO (SF _)]
   ·rw [RY (by rw [Si];exact fun e=>JM (yI e)),RY (by rw [Si];exact JM)]
theorem qz:LO X "tuple.count" (rMtT X.K Bh):=by
 rintro pins s σ H x xs v us Q I rx rv ⟨G,fp,es,vs,l,ds,r,⟨rel,k⟩,vx,vd,e⟩
 unfold Bh at e
 split at e
 ·rename_i c
  split at e
  ·rename_i bs hb
   cases e
   obtain ⟨p,ys,ev,sq,rs⟩:=bH (Vw.rep rel.gh vx)
   obtain ⟨hy,_⟩:=gF hb rs
   subst ev
   cases rx
   obtain ⟨w',ew,vc⟩:=mH vd
   obtain ⟨ev,_⟩:=g8 vc
   subst ew
   subst ev
   obtain ⟨u,rfl,t',rfl⟩:=e7 rv
   obtain ⟨F9,vl,⟨ob,h1,h2,⟨n,h3⟩,h4⟩,_⟩:=I.tupleN sq
   subst hy
   obtain ⟨cls,dict,data,slots⟩:=ob
   dsimp only at h2 h3 h4
   subst h2 h3 h4
   refine Vk PySem.F.slot_tuple_count ⟨_,h1,rfl⟩ PySem.F.entry_tuple_count (PySem.F.args_tuple_count_2 _ _) (PySem.SeqAt.tuple_countAt p F9.toArray n _ _ (.str (S c) t') (Rn (S c))) ⟨h1,fun y hy=>?_,⟨.int (bs.count c:Nat),H,I.tok _,⟨s.toks,?_⟩,k _ H G fp .refl (rel.push (bo _))⟩⟩
   ·have hy:y∈F9:=by simpa using hy
    obtain ⟨i,hi,rfl⟩:=US hy
    have hl:=vl.length
    rw [RJ] at hl
    obtain ⟨v,hv,hr⟩:=vl.get (i:=i) (x:=V.str (S bs[i])) (by rw [List.getElem?_map,List.getElem?_eq_getElem (by lia)];rfl)
    rw [List.getElem?_eq_getElem hi] at hv
    cases hv
    obtain ⟨t,e⟩:=hr
    rw [e]
    exact PySem.SeqAt.EqAt.str_str _ _ _ _
   ·rw [Uj,ng c bs F9 vl]
  ·cases e
 ·cases e
theorem je:LO X "tuple.index" (rMtT X.K mP):=by
 rintro pins s σ H x xs v us Q I rx rv ⟨G,fp,es,vs,l,ds,r,⟨rel,k⟩,vx,vd,e⟩
 unfold mP at e
 split at e
 ·rename_i c
  split at e
  ·rename_i bs hb
   split at e
   ·rename_i hc
    cases e
    obtain ⟨p,ys,ev,sq,rs⟩:=bH (Vw.rep rel.gh vx)
    obtain ⟨hy,_⟩:=gF hb rs
    subst ev
    cases rx
    obtain ⟨w',ew,vc⟩:=mH vd
    obtain ⟨ev,_⟩:=g8 vc
    subst ew
    subst ev
    obtain ⟨u,rfl,t',rfl⟩:=e7 rv
    obtain ⟨F9,vl,⟨ob,h1,h2,⟨n,h3⟩,h4⟩,_⟩:=I.tupleN sq
    subst hy
    obtain ⟨cls,dict,data,slots⟩:=ob
    dsimp only at h2 h3 h4
    subst h2 h3 h4
    have GV:=SN hc
    refine Vk TV ⟨_,h1,rfl⟩ PySem.F.entry_tuple_index (PySem.F.args_tuple_index_2 _ _) (kZ p F9.toArray n _ _ (bs.map S) (S c) t' (by rw [RQ];exact vl) (bs.idxOf c) ?_ ?_) ⟨h1,⟨.int (bs.idxOf c:Nat),H,I.tok _,⟨_,rfl⟩,k _ H G fp .refl (rel.push (bo _))⟩⟩
    ·rw [List.getElem?_map,List.getElem?_eq_getElem GV,List.getElem_idxOf GV]
     rfl
    ·intro j hj he
     rw [List.getElem?_map,List.getElem?_eq_getElem (by lia)] at he
     have he:=yI (Sj he)
     have:=rU bs c j (by rw [List.getElem?_eq_getElem (by lia),he])
     lia
   ·cases e
  ·cases e
 ·cases e
def cJ (a b:D):Res R:=match a,b with
 | .tup [],.tup l=>.ok (.f,.tup l)
 | a,b=>addD a b
theorem aK:Hf X (binaryOp .Add) (rG X.K cJ):=by
 rintro pins s σ H x y v u Q I rx ry ⟨G,fp,es,vs,a,b,r,⟨rel,k⟩,va,vb,e⟩
 unfold cJ at e
 split at e
 ·rename_i l
  cases e
  obtain ⟨p,xs,e1,h1,r1⟩:=iX va
  obtain ⟨p2,N9,e2,h2,r2⟩:=iX vb
  subst e1
  subst e2
  cases rx
  cases ry
  have hx:xs=[]:=S1 (by rw [r1.length];rfl)
  subst hx
  obtain ⟨F9,v1,⟨⟨cls,dd,data,sl⟩,ho,hc,n,hd⟩,_⟩:=I.tuple (cb rel.gh h1)
  obtain ⟨KO,v2,⟨⟨M4,LM,data2,LN⟩,Ir,HU,n2,hd2⟩,_⟩:=I.tuple (cb rel.gh h2)
  dsimp only at hc hd HU hd2
  subst hc hd HU hd2
  cases v1
  exact Vo ⟨_,ho,rfl⟩ ⟨_,Ir,rfl⟩ Vf VG UA Ur (Um _ _) (tuple_addW0 p p2 _ _ n n2 dd LM sl LN rfl) ⟨ho,Ir,⟨.ref p2,H,I,rfl,k _ H G fp .refl (rel.push vb)⟩⟩
 ·exact Ca pins s σ H _ _ v u Q I rx ry ⟨G,fp,es,vs,a,b,r,⟨rel,k⟩,va,vb,e⟩
def pJ (fs:FOs):FI:=Hh (tR true true fs) (Hh (tR true false fs) (Hh (tR false true fs) (tR false false fs)))
theorem lV {KY:List Expr} {kt:Nat} {pt:Pos} {e1 e2:Expr} {fs:FOs} {p pos:Pos} (hg:Gl X "zip") (hm:X.mg "zip" = none) (ha:K6 X [e1,e2] fs) (he:starEach [e1,e2] X.env=(false,eval e1 X.env) :: starEach [e2] X.env:=by rfl) (Iq:(backTo pos (starEach [e2] X.env)).any (·.1)=false:=by rfl) :
  QI X (.Tuple KY kt pt) (.Call (.Name "zip" p) [e1,e2] [] pos) (pJ fs):=vJ (rM true true hg hm ha he Iq) (vJ (rM true false hg hm ha he Iq) (vJ (rM false true hg hm ha he Iq) (rM false false hg hm ha he Iq)))
end
end PV
namespace NX
open PySem PySem.Spec PyProof.Rows L2
section
open PySem.AutoSeq1 (wpAny_loadPart')
theorem pK (l:Addr) (items:Array Value) (n:Nat) (dd:Option Addr) (sl:Array (Option Value)) (x:Int) (u:Tok) (h1:¬ (!Builtin.List.listFitsIndex x)=true) (h2:¬ items.size * x.toNat > (2 ^ 63 - 1) / 8) (h3:¬ Builtin.List.listTooLong (items.size * x.toNat)=true) (h4:(List.foldl (fun x1 x2=>x1++x2) #[] (List.replicate (if items.isEmpty=true then 0 else x.toNat) items)).size<=sizeLine) :
  Meets (Builtin.«list.__mul__» ⟨[.ref l,.int x u],[]⟩)
   (fun _ R s=>s.heap.get? l=some { cls:=.type "list",dict:=dd,data:=.seq items n,slots:=sl }/\R (.ok (.ret (.ref s.heap.objs.size))) { s with heap:=s.heap.push { cls:=.type "list",data:=.seq (List.foldl (fun x1 x2=>x1++x2) #[] (List.replicate (if items.isEmpty=true then 0 else x.toNat) items)) } }):=
 .of_wp fun prog w A R s h=>by
  obtain ⟨hp,g,d,tk,os⟩:=s;obtain ⟨hl,h⟩:=h
  wp_walk using wpAny_loadPart' hl
  rw [RY (by lia)]
  wp_walk
  exact ⟨_,rfl,h⟩
theorem pL (a:Int) (t:Tok) (l:Addr) (T:String) (items:Array Value) (n:Nat) (dd:Option Addr) (sl:Array (Option Value)) :
  Meets (Builtin.«int.__rmul__» ⟨[.int a t,.ref l],[]⟩)
   (fun _ R s=>s.heap.get? l=some { cls:=.type "list",dict:=dd,data:=.seq items n,slots:=sl }/\R (.ok (.ret .notImplemented)) s):=
 .of_wp fun prog w A R s h=>by
  obtain ⟨hp,g,d,tk,os⟩:=s;obtain ⟨hl,h⟩:=h
  wp_walk using wpAny_loadPart' hl
  exact ⟨_,rfl,h⟩
end
end NX
namespace PV
open PySem PySem.Spec PyProof.Rows L2 NX
section
variable {md:Mode} {X:Cx}
inductive rRepS (K:W.Frag) (x:V) (y:V) (H:Hp) (Q:VK):Prop
 | mk:∀ l k xs,x=.ref l->y=.int k->SqL K H l xs->-(2 ^ 62)<=k->k < 2 ^ 62->xs.length * k.toNat<=sizeLine->(∀ p,H p=none->Q (.ref p) (upd H p (.lst (List.replicate k.toNat xs).flatten)))->rRepS K x y H Q
theorem Ad:Hf X (binaryOp .Mult) (rRepS X.K):=by
 intro pins s σ H x y v u Q I rx ry h
 obtain ⟨l,k,xs,rfl,rfl,hH,h1,h2,hz,q⟩:=h
 cases rx
 obtain ⟨t,rfl⟩:=ry
 obtain ⟨F9,r,p1,_⟩:=I.list hH
 have hl:=r.length
 obtain ⟨⟨cls,dd,data,sl⟩,ho,hc,n,hd⟩:=id p1.isList
 simp only at hc hd
 subst hc hd
 have hlen:F9.toArray.size * k.toNat<=sizeLine:=by rw [RI,<-hl];exact hz
 have hcap:¬ F9.toArray.size * k.toNat > (2 ^ 63 - 1) / 8:=by
  have:(sizeLine:Nat)<=(2 ^ 63 - 1) / 8:=by decide
  lia
 have Kj:¬ (!Builtin.List.listFitsIndex k)=true:=by
  rw [fitsIndex_both (by lia) (by lia)]
  exact RK
 have OS:¬ Builtin.List.listTooLong (F9.toArray.size * k.toNat)=true:=by
  rw [xh hlen]
  exact RK
 have Md:List.foldl (fun x1 x2=>x1++x2) #[] (List.replicate (if F9.toArray.isEmpty=true then 0 else k.toNat) F9.toArray)=(List.replicate k.toNat F9).flatten.toArray:=by
  have f0:∀ m:Nat,List.foldl (fun x1 x2=>x1++x2) #[] (List.replicate m F9.toArray)=(List.replicate m F9).flatten.toArray:=fun m=>by
   have:=oX F9 m []
   rw [UU] at this
   exact this
  rw [f0]
  cases F9 with
  | nil=>simp
  | cons a r'=>rw [RY (by simp)]
 have hsz:(List.foldl (fun x1 x2=>x1++x2) #[] (List.replicate (if F9.toArray.isEmpty=true then 0 else k.toNat) F9.toArray)).size<=sizeLine:=by
  rw [Md,RI,nE,VS]
  rw [RI] at hlen
  exact hlen
 refine wpAny_binaryOp_repeat_ref (T:="list") (U:="int") (by decide) ⟨_,ho,rfl⟩ (fun s'=>Vz s' k t) noFill_list_mul F.fills_int_mul F.slot_int_rmul repeat_list F.slot_int_index.lookup
  (VA F.slot_int_rmul (Vz s k t) F.entry_int_rmul (F.args_int_rmul_2 _ _) (pL k t l "" F9.toArray n dd sl)
   ⟨ho,rfl,⟨_,ho,rfl⟩,VA F.slot_list_mul ⟨_,ho,rfl⟩ F.entry_list_mul (F.args_list_mul_2 _ _) (pK l F9.toArray n dd sl k t Kj hcap OS hsz) ⟨ho,?_⟩⟩)
 rw [Md]
 exact ⟨.ref _,_,I.lnew (t':=s.toks) (r.rep k.toNat) (by rw [nE,VS];exact hz),rfl,q _ I.fresh⟩
theorem rV {K:W.Frag} {G:Hp} {ds:List D} {xs:List V} (r:Reps K G ds xs):∀ n:Nat,Reps K G (List.replicate n ds).flatten (List.replicate n xs).flatten
 | 0=>.nil
 | n + 1=>by
  rw [Td,Td,Tq,Tq]
  exact r.app (rV r n)
def iT (a b:D):Res R:=match a,b with
 | .lst ds,.int k=>if 0<=k/\k < 1000000/\ds.length * k.toNat<=sizeLine then .ok (.l .f,.lst (List.replicate k.toNat ds).flatten) else .bad
 | a,b=>z9 a b
theorem dX:Hf X (binaryOp .Mult) (rG X.K iT):=by
 rintro pins s σ H x y v u Q I rx ry ⟨G,fp,es,vs,a,b,r,⟨rel,k⟩,va,vb,e⟩
 unfold iT at e
 split at e
 ·rename_i ds j
  split at e
  ·rename_i hj
   cases e
   obtain ⟨p,xs,e1,h1,r1⟩:=va
   subst e1
   cases bW vb
   refine Ad pins s σ H _ _ v u Q I rx ry ⟨p,j,xs,rfl,rfl,h1,by lia,by lia,by rw [r1.length];exact hj.2.2,fun q hq=>?_⟩
   obtain ⟨F8,Gk⟩:=rel.newL hq (rV r1 j.toNat)
   exact k _ _ G _ Gk F8
  ·cases e
 ·exact Aa pins s σ H _ _ v u Q I rx ry ⟨G,fp,es,vs,a,b,r,⟨rel,k⟩,va,vb,e⟩
def Ey (td ty tv:TE):TS:=fun Dd σ H=>tv σ H fun v H1=>td σ H1 fun x H2=>ty σ H2 fun y H3=>BR x y v H3 fun H4=>Dd.nx σ H4
theorem Ae {o i value:Expr} {td ty tv:TE} {pos pos':Pos} (ho:PE X o td) (hi:PE X i ty) (hv:PE X value tv) (hs:swapsWith value (some (.Subscript o i pos')) pos.line X.env=pure false) :
  PS X (.Assign [.Subscript o i pos'] value pos) (Ey td ty tv):=by
 intro pins s σ H Dd I h
 refine wpAny_Assign_Subscript (Gs (hv pins s σ H _ I h) fun r s1 ⟨v,H1,I1,rv,q1⟩=>Gs (ho pins s1 σ H1 _ I1 q1) fun u s2 ⟨x,H2,I2,rx,q2⟩=>Gs (hi pins s2 σ H2 _ I2 q2) fun iv s3 ⟨y,H3,I3,ry,q3⟩=>?_) hs
 exact Gs (xf pins s3 σ H3 x y v u iv r _ I3 rx ry rv q3) fun _ s4 ⟨H4,I4,q4⟩=>⟨σ,H4,I4,q4⟩
def vS (i:Nat) (fk fv:FX):FS:=fun env=>(fv env).bind fun p=>(fk p.2).bind fun q=>match p.2[i]?,q.2[i]? with
 | some (some _),some (some (.l .f,.lst ds))=>(match q.1.2 with
  | .int k=>(match ixN ds.length k with
   | some j=>.ok (.nx (q.2.set i (some (.l .f,.lst (ds.set j p.1.2)))))
   | none=>.bad)
  | _=>.bad)
 | _,_=>.bad
theorem vT {i:Nat} {o ix value:Expr} {fk fv:FX} {pos pos':Pos} (ho:PE X o (wR i)) (hi:QE X ix fk) (hv:QE X value fv) (hs:swapsWith value (some (.Subscript o ix pos')) pos.line X.env=pure false:=by rfl) :
  QS (md:=md) X (.Assign [.Subscript o ix pos'] value pos) (vS i fk fv):=g7 (Ae ho hi hv hs) fun Dd σ H Gp=>by
 obtain ⟨G,env,fp,rel,k⟩:=Gp
 unfold vS at k
 match q1:fv env,k with
 | .ok (r1,F7),k=>
  have k:OutOk X.K G H fp Dd ((fk F7).bind fun q=>match F7[i]?,q.2[i]? with
   | some (some _),some (some (.l .f,.lst ds))=>(match q.1.2 with
    | .int k=>(match ixN ds.length k with
     | some j=>.ok (.nx (q.2.set i (some (.l .f,.lst (ds.set j r1.2)))))
     | none=>.bad)
    | _=>.bad)
   | _,_=>.bad):=k
  match q2:fk F7,k with
  | .ok (r2,Gh),k=>
   have k:OutOk X.K G H fp Dd (match F7[i]?,Gh[i]? with
    | some (some _),some (some (.l .f,.lst ds))=>(match r2.2 with
     | .int k=>(match ixN ds.length k with
      | some j=>.ok (.nx (Gh.set i (some (.l .f,.lst (ds.set j r1.2)))))
      | none=>.bad)
     | _=>.bad)
    | _,_=>.bad):=k
   split at k
   ·rename_i rr ds h1 h2
    split at k
    ·rename_i kk MQ
     split at k
     ·rename_i j hj
      refine ⟨G,env,fp,r1,F7,rel,q1,fun y H1 G1 Gx Gr Gd=>?_⟩
      obtain ⟨G2,b,ry,F8,Gk⟩:=Gd.freeze
      obtain ⟨v0,OK,_⟩:=F8.view h1
      refine ⟨v0,OK,G2,F7,b,r2,Gh,F8,q2,fun z H3 G3 Jj GO Gz=>?_⟩
      obtain ⟨G4,b4,rz,GY,HV⟩:=Gz.freeze
      have Py:Rep X.K G4 r1.2 y:=Rep.mono (GO.gg.trans HV.gg) ry
      obtain ⟨p,xs,ep,hp,rs,cg⟩:=GY.chg (ds':=ds.set j r1.2) h2
      rw [OK] at ep
      cases ep
      rw [MQ] at rz
      have hz:=bU rz
      obtain ⟨fq,HS,IW⟩:=cg _ (rs.set j Py)
      exact ⟨p,xs,kk,j,rfl,hz,hp,by rw [rs.length];exact hj,k _ _ G4 fq (Gr.trans (Gk.trans (GO.trans (HV.trans IW)))) HS⟩
     ·exact k.elim
    ·exact k.elim
   ·exact k.elim
end
section
variable {X:Cx}
theorem Rel.own {K:W.Frag} {G H:Hp} {es:PV.Env} {vs:L2.St} {fp:List Addr} {p:Addr} {u:HO} {tk:Bool} {ks ws:List D} {xs:List V} (q:Rel K G H es vs fp) (np:p∉fp) (gp:G p=none) (h:DictO u tk ks xs) (rs:Reps K G ws xs) :
  Rel K G (upd H p u) (some (.d,.dct tk ks ws) :: es) (some (.ref p) :: vs) (p :: fp):=by
 refine ⟨⟨some (.ref p),vs,rfl,.ref p,[p],fp,rfl,rfl,?_,q.rep.step (.refl _) fun z hz=>aS fun e=>np (e▸hz)⟩,Se.mpr ⟨np,q.nd⟩,fun z hz=>?_,fun b o e=>?_⟩
 ·rw [RepO]
  exact ⟨p,xs,u,rfl,bQ,h,rfl,rs⟩
 ·rcases RT.mp hz with rfl | hz
  ·exact gp
  ·exact q.gn z hz
 ·rw [aS fun z=>by subst z;rw [gp] at e;cases e]
  exact q.gh b o e
theorem Rel.aside {K:W.Frag} {G H:Hp} {es:PV.Env} {vs:L2.St} {fp:List Addr} {p:Addr} {u:HO} (q:Rel K G H es vs fp) (hp:H p=none):Rel K G (upd H p u) es vs fp:=by
 have np:p∉fp:=fun z=>by
  obtain ⟨u,e⟩:=q.rep.live p z
  rw [hp] at e;cases e
 exact ⟨q.rep.step (.refl _) fun z hz=>aS fun e=>np (e▸hz),q.nd,q.gn,fun b o e=>by rw [aS (bx (q.gh b o e) hp)];exact q.gh b o e⟩
theorem Step.aside {K:W.Frag} {G H G2 H2:Hp} {es:PV.Env} {vs:L2.St} {fp GU:List Addr} {p:Addr} {u u2:HO} (q:Rel K G H es vs fp) (hp:H p=none) (hu:isT u=false) (st:Step G (upd H p u) fp G2 H2 GU) :
  Step G H fp G2 (upd H2 p u2) (p :: GU)/\p∉GU/\G2 p=none/\H2 p=some u:=by
 have np:p∉fp:=fun z=>by
  obtain ⟨u,e⟩:=q.rep.live p z
  rw [hp] at e;cases e
 have ne:∀ {b o},H b=some o->b≠p:=fun e=>bx e hp
 refine ⟨⟨st.gg,fun b o e nb=>?_,fun b hb=>?_,fun b o e=>?_,fun b o e=>?_⟩,fun z=>?_,?_,st.keep p u bQ np⟩
 ·rw [aS (ne e)]
  exact st.keep b o (by rw [aS (ne e)];exact e) nb
 ·rcases RT.mp hb with rfl | hb
  ·exact .inr hp
  ·rcases st.fpn b hb with h | h
   ·exact .inl h
   ·by_cases e:b=p
    ·subst e;exact .inr hp
    ·rw [aS e] at h;exact .inr h
 ·rcases st.gnew b o e with h | h | h | ⟨h1,h2⟩
  ·exact .inl h
  ·exact .inr (.inl h)
  ·by_cases e:b=p
   ·subst e;exact .inr (.inr (.inl hp))
   ·rw [aS e] at h;exact .inr (.inr (.inl h))
  ·by_cases e:b=p
   ·subst e;exact .inr (.inr (.inl hp))
   ·rw [aS e] at h2;exact .inr (.inr (.inr ⟨h1,h2⟩))
 ·obtain ⟨o',h⟩:=st.there b o (by rw [aS (ne e)];exact e)
  exact ⟨o',by rw [aS (ne e)];exact h⟩
 ·rcases st.fpn p z with h | h
  ·exact np h
  ·rw [bQ] at h;cases h
 ·cases e:G2 p with
  | none=>rfl
  | some o=>
   rcases st.gnew p o e with h | h | h | ⟨h1,h2⟩
   ·have:=q.gh p o h
    rw [hp] at this;cases this
   ·exact absurd h np
   ·rw [bQ] at h;cases h
   ·rw [bQ] at h2
    cases h2
    rw [hu] at h1;cases h1
def rW (fk fv:FX):FX:=fun env=>(fk env).bind fun p=>(fv p.2).bind fun q=>if fB false p.1.2 then .ok ((.d,.dct false [p.1.2] [q.1.2]),q.2) else .bad
theorem rX {k v:Expr} {fk fv:FX} {pos:Pos} (hk:QE X k fk) (hv:QE X v fv):QE X (.Dict [some k] [v] pos) (rW fk fv):=
 bX (zN (xt hk hv zM) rfl rfl (Vl _ _) (show 1<=15 by decide)) fun σ H Q Gp p hp=>by
  obtain ⟨G,env,fp,r,env',rel,e,kk⟩:=Gp
  obtain ⟨⟨r1,F7⟩,e1,e⟩:=ar e
  obtain ⟨⟨r2,Gh⟩,e2,e⟩:=ar e
  dsimp only at e
  split at e
  ·rename_i ID
   cases e
   refine ⟨G,env,fp,r1,F7,rel.aside hp,e1,fun x H1 G1 Gx Gr Gd=>?_⟩
   obtain ⟨G2,b,rx,F8,Gk⟩:=Gd.freeze
   refine ⟨G2,F7,b,r2,_,F8,e2,fun y H3 G3 Jj GO Gz=>?_⟩
   obtain ⟨G4,b4,ry,GY,HV⟩:=Gz.freeze
   have Ro:Rep X.K G4 r1.2 x:=Rep.mono (GO.gg.trans HV.gg) rx
   unfold fB at ID
   rw [RY RK,S6] at ID
   obtain ⟨kd,Ov⟩:=ID
   obtain ⟨ex,dx⟩:=iQ Ov Ro
   obtain ⟨st,np,gp,OA⟩:=Step.aside (u2:=.dK [(kd,y)]) rel hp rfl (Gr.trans (Gk.trans (GO.trans HV)))
   refine ⟨OA,[(kd,y)],by rw [ex];rfl,(show 1<=15 by decide),?_⟩
   exact kk _ _ G4 _ st (GY.own np gp ⟨[(kd,y)],rfl,by rw [dx];rfl,rfl,fun kv JP=>by rw [R4.mp JP];exact vO Ov Ro⟩ (.one ry))
  ·cases e
def getD (ks vs:List D) (k:D):Option D:=((ks.zip vs).find? fun p=>eqD k p.1).map (·.2)
theorem lW {κ:Type} [DecidableEq κ] {K:W.Frag} {G:Hp} (f:κ->D) (hf:∀ a b,eqD (f a) (f b)=decide (a=b)) {k:κ}:∀ {Gb:List (κ×V)} {vs:List D},Reps K G vs (Gb.map (·.2))->((getD (Gb.map fun kv=>f kv.1) vs (f k)).isSome=(pd Gb k).isSome)/\∀ d,getD (Gb.map fun kv=>f kv.1) vs (f k)=some d->∃ v,pd Gb k=some v/\Rep K G d v
 | [],vs,r=>⟨rfl,fun d h=>nomatch h⟩
 | kv :: Gb,vs,r=>by
  cases vs with
  | nil=>have:=r.length;simp at this
  | cons d0 vs=>
   rw [R6,Reps.cons_iff] at r
   obtain ⟨h1,h2⟩:=lW f hf (k:=k) r.2
   unfold getD pd at h1 h2 ⊢
   rw [R6,SV]
   have e:eqD (f k) (f kv.1)=decide (kv.1=k):=by
    rw [hf,Sh,R0,R0]
    exact ⟨fun z=>z.symm,fun z=>z.symm⟩
   by_cases hk:kv.1=k
   ·rw [List.find?_cons_of_pos (by show eqD (f k) (f kv.1)=true;rw [e];exact Sm hk),List.find?_cons_of_pos (by exact Sm hk)]
    refine ⟨rfl,fun d h=>?_⟩
    cases h
    exact ⟨_,rfl,r.1⟩
   ·rw [List.find?_cons_of_neg (by show ¬ eqD (f k) (f kv.1)=true;rw [e];simpa using hk),List.find?_cons_of_neg (by simpa using hk)]
    exact ⟨h1,h2⟩
theorem qA {K:W.Frag} {G H:Hp} (gh:Same G H) {tk:Bool} {ks vs:List D} {xs:List V} {o:HO} {p:Addr} {b:D} {y:V} (rd:Rd H p o) (dd:DictO o tk ks xs) (rs:Reps K G vs xs) (hk:fB tk b=true) (ry:Rep K G b y) :
  ∃ ov,DGet H p y ov/\(getD ks vs b).isSome=ov.isSome/\∀ d,getD ks vs b=some d->∃ v,ov=some v/\Rep K G d v:=by
 unfold fB at hk
 cases tk with
 | true=>
  rw [RO rfl,S6] at hk
  obtain ⟨kk,hk⟩:=hk
  obtain ⟨pz,ez,gz,dz⟩:=fA hk ry
  obtain ⟨Gb,eo,ek,ex,_⟩:=dd
  subst eo ex ez dz
  have ek:ks=Gb.map fun kv=>kT kv.1:=ek
  obtain ⟨h1,h2⟩:=lW (K:=K) (G:=G) kT yE (k:=kk) rs
  rw [<-ek] at h1 h2
  exact ⟨pd Gb kk,.inr ⟨Gb,kk,pz,rd,rfl,gh _ _ gz,rfl⟩,h1,h2⟩
 | false=>
  rw [RY RK,S6] at hk
  obtain ⟨kk,hk⟩:=hk
  obtain ⟨ez,dz⟩:=iQ hk ry
  obtain ⟨Gb,eo,ek,ex,_⟩:=dd
  subst eo ex ez dz
  obtain ⟨h1,h2⟩:=lW (K:=K) (G:=G) kD vM (k:=kk) rs
  rw [<-ek] at h1 h2
  exact ⟨pd Gb kk,.inl ⟨Gb,kk,rd,rfl,rfl⟩,h1,h2⟩
def JS (a b:D):Res R:=match a with
 | .dct tk ks vs=>if fB tk b then (match getD ks vs b with
  | some d=>.ok (.f,d)
  | none=>.bad) else .bad
 | _=>.bad
theorem tX {a b:Expr} {fa fb:FO} {pos:Pos} (hu:X.A.units + 1 < cLine) (ha:QO X a fa) (hb:QO X b fb) (hs:NoSl b:=by exact fun _ _=>rfl):QE X (.Subscript a b pos) (az JS fa fb):=
 bX (zJ hu ha hb hs) fun σ H Q h=>by
  obtain ⟨G,env,fp,r,env',rel,e,k⟩:=h
  obtain ⟨⟨oa,e1⟩,ha,e⟩:=ar e
  obtain ⟨⟨ob,e2⟩,hb,e⟩:=ar e
  obtain ⟨da,L9,e⟩:=ar e
  obtain ⟨db,Jk,e⟩:=ar e
  obtain ⟨r',hr,e⟩:=ar e
  cases e
  refine ⟨G,env,fp,oa,e1,rel,ha,fun x H1 G1 Gx Gr Gd Ib=>⟨G1,e1,Gx,ob,e2,Gd,hb,fun y H2 G2 GU Gk F8 KW=>?_⟩⟩
  have va:=F8.vw (Ib.mono Gk.gg) L9
  have vb:=F8.vw KW Jk
  unfold JS at hr
  split at hr
  ·rename_i tk ks vs
   split at hr
   ·rename_i ID
    split at hr
    ·rename_i d hd
     cases hr
     obtain ⟨p,xs,o,ev,rd,dd,rs⟩:=va
     subst ev
     have vb':Rep X.K G2 db y:=by
      cases db with
      | lst l=>cases tk <;> simp [fB,gE,lO] at ID
      | dct _ _ _=>cases tk <;> simp [fB,gE,lO] at ID
      | _=>exact vb
     obtain ⟨ov,g,_,h2⟩:=qA F8.gh rd dd rs ID vb'
     obtain ⟨v,ho,rv⟩:=h2 d hd
     subst ho
     exact ⟨p,v,rfl,g,k _ H2 G2 GU (Gr.trans Gk) (F8.push rv)⟩
    ·cases hr
   ·cases hr
  ·cases hr
def Lx (a b:D):Res R:=match b with
 | .dct tk ks vs=>if fB tk a then .ok (.f,.bl (getD ks vs a).isSome) else .bad
 | _=>K7 a b
def ur (a b:D):Res R:=match b with
 | .dct tk ks vs=>if fB tk a then .ok (.f,.bl (!(getD ks vs a).isSome)) else .bad
 | _=>uq a b
theorem rY (hu:X.A.units + 65 < cLine):Hf X (compareOp .In) (rGA X.K Lx):=by
 rintro pins s σ H x y v u Q I rx ry ⟨G,fp,es,vs,a,b,r,⟨rel,k⟩,va,vb,e⟩
 unfold Lx at e
 split at e
 ·rename_i tk ks ws
  split at e
  ·rename_i ID
   cases e
   obtain ⟨p,xs,o,ev,rd,dd,rs⟩:=vb
   subst ev
   cases ry
   obtain ⟨ov,g,h1,_⟩:=qA (K:=X.K) (G:=H) (fun _ _ z=>z) rd dd rs ID va
   exact FJ (by lia) I g rx fun s' I'=>⟨.bl ov.isSome,H,I',rfl,by rw [<-h1];exact k _ H G fp .refl (rel.push (de _))⟩
  ·cases e
 ·exact Et hu pins s σ H x y v u Q I rx ry ⟨G,fp,es,vs,a,b,r,⟨rel,k⟩,va,vb,e⟩
theorem jg (hu:X.A.units + 65 < cLine):Hf X (compareOp .NotIn) (rGA X.K ur):=by
 rintro pins s σ H x y v u Q I rx ry ⟨G,fp,es,vs,a,b,r,⟨rel,k⟩,va,vb,e⟩
 unfold ur at e
 split at e
 ·rename_i tk ks ws
  split at e
  ·rename_i ID
   cases e
   obtain ⟨p,xs,o,ev,rd,dd,rs⟩:=vb
   subst ev
   cases ry
   obtain ⟨ov,g,h1,_⟩:=qA (K:=X.K) (G:=H) (fun _ _ z=>z) rd dd rs ID va
   exact zH (by lia) I g rx fun s' I'=>⟨.bl (!ov.isSome),H,I',rfl,by rw [<-h1];exact k _ H G fp .refl (rel.push (de _))⟩
  ·cases e
 ·exact Cm hu pins s σ H x y v u Q I rx ry ⟨G,fp,es,vs,a,b,r,⟨rel,k⟩,va,vb,e⟩
end
def isLf:O->Bool
 | .l .f=>true
 | .pin _ (.l .f)=>true
 | _=>false
section
variable {K:W.Frag} {G G' H H':Hp} {es:PV.Env} {vs:L2.St} {fp:List Addr}
theorem CC {ow:O} {ds:List D} {v:V} {a:List Addr} (ho:isLf ow=true) (r:RepO K G H ow (.lst ds) v a):∃ p xs,v=.ref p/\H p=some (.lst xs)/\a=[p]/\Reps K G ds xs/\∀ (H':Hp) (ds':List D) (Hk:List V),H' p=some (.lst Hk)->Reps K G ds' Hk->RepO K G H' ow (.lst ds') (.ref p) [p]:=by
 unfold isLf at ho
 split at ho
 ·obtain ⟨p,xs,e,hp,ea,rs⟩:=g6.mp r
  exact ⟨p,xs,e,hp,ea,rs,fun H' ds' Hk h HD=>g6.mpr ⟨p,Hk,rfl,h,rfl,HD⟩⟩
 ·rename_i q
  rw [RepO] at r
  obtain ⟨e0,r⟩:=r
  obtain ⟨p,xs,e,hp,ea,rs⟩:=g6.mp r
  rw [e] at e0
  cases e0
  exact ⟨_,xs,e,hp,ea,rs,fun H' ds' Hk h HD=>by rw [RepO];exact ⟨rfl,g6.mpr ⟨_,Hk,rfl,h,rfl,HD⟩⟩⟩
 ·cases ho
theorem Rel.chgO {i:Nat} {ow:O} {ds ds':List D} (ho:isLf ow=true) (q:Rel K G H es vs fp) (e:es[i]?=some (some (ow,.lst ds))):∃ p xs,vs[i]?=some (some (.ref p))/\H p=some (.lst xs)/\Reps K G ds xs/\
  ∀ Hk,Reps K G ds' Hk->∃ fq,Rel K G (upd H p (.lst Hk)) (es.set i (some (ow,.lst ds'))) vs fq/\Step G H fp G (upd H p (.lst Hk)) fq:=by
 obtain ⟨v,fq,ev,g,st,IA⟩:=q.out e
 obtain ⟨y,ys,e0,v',a,b,e1,e2,r1,r2⟩:=g.rep
 cases e0
 cases e1
 obtain ⟨p,xs,e3,hp,e4,rs,mk⟩:=CC ho r1
 subst e3
 subst e4
 subst e2
 have nd:=Se.mp (show (p :: b).Nodup from g.nd)
 refine ⟨p,xs,ev,hp,rs,fun Hk HD=>?_⟩
 have g2:Rel K G (upd H p (.lst Hk)) (some (ow,.lst ds') :: es.set i none) (some (.ref p) :: vs) (p :: b):=by
  refine ⟨⟨some (.ref p),vs,rfl,.ref p,[p],b,rfl,rfl,mk _ _ _ bQ HD,r2.step (.refl _) fun z hz=>aS fun e=>nd.1 (e▸hz)⟩,g.nd,g.gn,fun z o ez=>?_⟩
  have:z≠p:=fun w=>by
   subst w
   rw [g.gn z RM] at ez;cases ez
  rw [aS this]
  exact g.gh z o ez
 have OD:Step G H (p :: b) G (upd H p (.lst Hk)) (p :: b):=by
  refine ⟨.refl _,fun z o ez nz=>?_,fun z hz=>.inl hz,fun z o ez=>.inl ez,fun z o ez=>?_⟩
  ·have:z≠p:=fun w=>nz (by rw [w];exact RM)
   rw [aS this]
   exact ez
  ·by_cases w:z=p
   ·subst w
    exact ⟨_,bQ⟩
   ·exact ⟨o,by rw [aS w];exact ez⟩
 obtain ⟨fz,g3,GO⟩:=g2.back (i:=i) (by rw [TR];exact (List.getElem?_eq_some_iff.mp e).1) ev
 rw [UY] at g3
 exact ⟨fz,g3,st.trans (OD.trans GO)⟩
end
section
variable {X:Cx}
theorem Reps.dropLast {K:W.Frag} {G:Hp}:∀ {ds:List D} {xs:List V},Reps K G ds xs->Reps K G ds.dropLast xs.dropLast
 | [],xs,r=>by rw [Reps] at r;subst r;exact .nil
 | [d],xs,r=>by
  rw [Reps] at r
  obtain ⟨y,ys,e,r1,r2⟩:=r
  rw [Reps] at r2
  subst e r2
  exact .nil
 | d :: d2 :: ds,xs,r=>by
  rw [Reps] at r
  obtain ⟨y,ys,e,r1,r2⟩:=r
  subst e
  have h:=Reps.dropLast r2
  cases ys with
  | nil=>have:=r2.length;simp at this
  | cons z zs=>
   rw [List.dropLast_cons_of_ne_nil (Vl _ _),List.dropLast_cons_of_ne_nil (Vl _ _)]
   exact .cons r1 h
def CD:O->O->Bool
 | .l .f,.l .f=>true
 | .l .f,.pin _ (.l .f)=>true
 | .d,.d=>true
 | .d,.pin _ .d=>true
 | _,_=>false
open Classical in
def CF (F:Addr->List D->Res R) (c:O) (d0:D) (ds:List D):Res (R×D):=
 if h:∃ x:R×D,∀ p,F p (d0 :: ds)=.ok (.t [x.1.1,.pin p c],.tup [x.1.2,x.2]) then .ok (Classical.choose h) else .bad
end
section
variable {X:Cx} {x:Str} {p pos:Pos} {e:Expr} {es:List Expr} {fs:FOs}
end
section
variable {K:W.Frag} {G G' H H':Hp}
end
section
variable {X:Cx} {md:Mode}
end
end PV
namespace NX
open PySem PySem.Spec PyProof.Rows L2
end NX
namespace PV
open PySem PySem.Spec PyProof.Rows L2 NX
section
variable {X:Cx}
def rZ (i:Nat):FX:=fun env=>match env[i]? with
 | some (some (ow,.lst _))=>if isLf ow then .ok ((.f,.non),env.set i (some (ow,.lst []))) else .bad
 | _=>.bad
theorem xJ {i:Nat} {o:Expr} {apos Gv:Pos} (ho:PE X o (wR i)) (Hb:attributeBase o "clear" X.env (eval o X.env)=eval o X.env:=by rfl) (Hc:(apos.endLine == Gv.line)=true:=by rfl) :
  QE X (.Call (.Attribute o "clear" apos) [] [] Gv) (rZ i):=by
 refine bX (BS Uw PySem.F.slot_list_clear PySem.F.type_list_clear xi ho Hb Hc) fun σ H Q Gu=>?_
 obtain ⟨G,env,fp,r,env',rel,e,k⟩:=Gu
 unfold rZ at e
 split at e
 ·rename_i ow ds LZ
  split at e
  ·rename_i hlf
   cases e
   obtain ⟨p,xs,ev,hp,rs,cg⟩:=rel.chgO (ds':=[]) hlf LZ
   obtain ⟨fq,F8,Gk⟩:=cg [] .nil
   exact ⟨.ref p,ev,.inl ⟨rfl,xs,SqL.of hp⟩,p,xs,rfl,rfl,hp,k _ _ G fq Gk (F8.push (by rw [Rep]))⟩
  ·cases e
 ·cases e
end
end PV
namespace NX
open PySem PySem.Spec PyProof.Rows L2
section
variable {prog:Program} {w:World} {A:Around} {E:Value->Shared->Prop} {s:Shared}
end
section
variable {prog:Program} {w:World} {A:Around} {E:Value->Shared->Prop} {s:Shared}
end
section
variable {X:Cx} {e:Expr} {ta:TA} {p p2 pos pos2:Pos}
end
end NX
namespace PV
open PySem PySem.Spec PyProof.Rows L2 NX
section
variable {X:Cx} {e:Expr} {fs:FOs} {p p2 pos pos2:Pos}
end
end PV
namespace NX
open PySem PySem.Spec PyProof.Rows L2
section
open PySem.AutoSeq1 (wpAny_loadPart')
end
end NX
namespace PV
open PySem PySem.Spec PyProof.Rows L2 NX
section
variable {X:Cx}
end
section
variable {md:Mode} {X:Cx} {scope:Scope} {N:List Str} {tg iter elt:Expr} {ifs:List Expr} {pos:Pos} {fi:FI} {a:FG} {c:FT} {f:FX} {j k0:Nat}
end
section
variable {X:Cx} {x:Str} {p pos:Pos} {e:Expr} {es:List Expr} {f0:FX} {fs:FOs}
end
def joinL (sep:List Nat):List (List Nat)->List Nat
 | []=>[]
 | [x]=>x
 | x :: y :: r=>x++sep++joinL sep (y :: r)
def vU (sep:List Nat):List D->Res R
 | [.lst ds]=>match gm ds with
  | some ys=>if (ys.map List.length).sum + ys.length * sep.length<=16777216 then .ok (.f,.str (joinL sep ys)) else .bad
  | none=>.bad
 | _=>.bad
theorem vV (sep:List Nat):∀ ys:List (List Nat),Str.join (S sep) (ys.map S)=S (joinL sep ys)
 | []=>rfl
 | [x]=>rfl
 | x :: y :: r=>by
  have ih:=vV sep (y :: r)
  show S x++S sep++Str.join (S sep) ((y :: r).map S)=S (x++sep++joinL sep (y :: r))
  rw [ih]
  apply Str.ext'
  simp [Str.cps_append]
theorem CG (sep:List Nat):∀ ys:List (List Nat),Txt.join (S sep) (ys.map S)=S (joinL sep ys)
 | ys=>by
  show Builtin.Str.glued (S sep) (ys.map S)=_
  rw [StrLaws.glued_eq_join]
  exact vV sep ys
theorem pM (sep:List Nat):∀ ys:List (List Nat),(joinL sep ys).length<=(ys.map List.length).sum + ys.length * sep.length
 | []=>So _
 | [x]=>by
  show x.length<=_
  rw [R6,Ve]
  lia
 | x :: y :: r=>by
  have ih:=pM sep (y :: r)
  show (x++sep++joinL sep (y :: r)).length<=_
  rw [SD,SD,R6,Ve,Sb,Nat.add_mul]
  lia
theorem pN {K:W.Frag} {G:Hp}:∀ {ds:List D} {ys:List (List Nat)} {xs:List V} {us:List Value},gm ds=some ys->Reps K G ds xs->Vals xs us->StrsAre us (ys.map S)
 | [],ys,xs,us,e,r,v=>by
  cases e
  rw [Reps] at r
  subst r
  cases v
  exact .nil
 | .str b :: ds,ys,xs,us,e,r,v=>by
  rw [Reps] at r
  obtain ⟨y,zs,ex,r1,r2⟩:=r
  subst ex
  cases v with
  | cons h t=>
   rw [gm,Sn] at e
   obtain ⟨ws,hw,rfl⟩:=e
   rw [Rep] at r1
   obtain ⟨r1,_⟩:=r1
   subst r1
   obtain ⟨tk,rfl⟩:=h
   exact .cons _ tk (pN hw r2 t)
 | .non :: _,_,_,_,e,_,_ | .bl _ :: _,_,_,_,e,_,_ | .int _ :: _,_,_,_,e,_,_ | .tup _ :: _,_,_,_,e,_,_ | .lst _ :: _,_,_,_,e,_,_ | .dct _ _ _ :: _,_,_,_,e,_,_=>by cases e
section
variable {X:Cx}
theorem Af:LO X "str.join" (rMtS X.K vU):=by
 rintro pins s σ H x xs v us Q I rx rv ⟨G,fp,es,vs,l,ds,r,⟨rel,k⟩,ex,hz,vd,e⟩
 unfold vU at e
 split at e
 ·rename_i ds
  split at e
  ·rename_i ys P7
   split at e
   ·rename_i hb
    cases e
    subst ex
    obtain ⟨w',ew,p,zs,ep,sq,rs⟩:=mH vd
    subst ew ep
    obtain ⟨t,rfl⟩:=rx
    obtain ⟨u,rfl,ru⟩:=e7 rv
    cases ru
    obtain ⟨F9,r',pl,LU⟩:=I.list sq
    refine join_list pl.isList (ys:=ys.map S) (pN P7 rs r') ?_ fun t' kk=>?_
    ·rw [RQ,RJ]
     have e1:((fun x:Str=>x.length)∘S)=List.length:=by funext z;exact mJ z
     rw [e1,mJ]
     exact hb
    ·rw [CG]
     refine ⟨.str (S (joinL l ys)),H,I.tok _,⟨_,rfl⟩,k _ H G fp .refl (rel.push ?_)⟩
     rw [Rep]
     have:=pM l ys
     exact ⟨rfl,by rw [line_eq];lia⟩
   ·cases e
  ·cases e
 ·cases e
end
end PV
namespace NX
open PySem PySem.Spec PyProof.Rows L2
section
variable {prog:Program} {w:World} {A:Around} {R:Result->Shared->Prop} {it:Addr} {fp wr:List Addr} {n:Nat} {Pv:Nat->Value->Prop} {Sx:Nat->Heap->Prop} {kw:List (Str×Value)}
theorem oi:(toString "min"++toString ".loop" : String) = "min.loop":=by decide
theorem Ez (Wk:Walks prog w A.in1 it fp wr n Pv Sx) (bt:Nat->Nat->Bool) (cm:CmpOf prog w A.in1 .Lt Pv bt) (T:Addr) (nT:T∉fp):∀ (k j:Nat) (s:Shared) (vb:Value) (c:Nat),n - (j + 1)=k->j + 1<=n->Sx (j + 1) s.heap->Pv (argBest bt j) vb->
   s.heap.get? T=some { cls:=.type "list",dict:=none,data:=.seq #[vb,vb] c,slots:=#[] }->
   (∀ v h' tk,Pv (argBest bt (n - 1)) v->(∀ b o,b∉wr->b≠T->s.heap.get? b=some o->h'.get? b=some o)->R (.ok (.ret v)) { s with heap:=h',toks:=tk })->codeAny (model prog w) A (.builtin "min.loop" ⟨[.ref it,.none,.ref T],kw⟩) R s:=by
 have L6:T∉wr:=fun z=>nT (Wk.sub _ z)
 intro k
 induction k with
 | zero=>
  intro j s vb c hk hj st hp hT fin
  have ej:j + 1=n:=by lia
  refine Ub Vm ?_
  rw [To TF _]
  show wpAny _ A.in1 (seqItems? (.ref T) >>= _) _ _ s
  refine RG (SI hT rfl ?_)
  show wpAny _ A.in1 (tryCatch (pyNext (.ref it)) _ >>= _) _ _ s
  refine RG (Tf (Wk.done s _ _ (ej▸st) fun h' tk kk=>?_))
  have JN:=kk T _ L6 hT
  show wpAny _ A.in1 (updateSeq T (fun _=>#[]) >>= _) _ _ _
  refine RG (Uc JN rfl (RG (Tu (RH ?_))))
  exact fin vb _ tk (by rw [<-ej];exact hp) fun b o bw bT e=>(Heap.get?_update_other _ _ (Tj bT)).trans (kk b o bw e)
 | succ k ih=>
  intro j s vb c hk hj st hp hT fin
  have jn:j + 1 < n:=by lia
  refine Ub Vm ?_
  rw [To TF _]
  show wpAny _ A.in1 (seqItems? (.ref T) >>= _) _ _ s
  refine RG (SI hT rfl ?_)
  show wpAny _ A.in1 (tryCatch (pyNext (.ref it)) _ >>= _) _ _ s
  refine RG (Tf (Wk.item (j + 1) s _ _ jn st fun v h' tk pv IA kk=>?_))
  have JN:=kk T _ L6 hT
  show wpAny _ A.in1 (tryCatch (holding [v,v] (richCompare .Lt v vb >>= _)) _ >>= _) _ _ _
  refine RG (Tf (Te (RG (cm (j + 1) (argBest bt j) v vb _ _ _ pv hp (RG (Te (S5 (RG (Tu (RH ?_))))))))))
  cases eb:bt (j + 1) (argBest bt j) with
  | true=>
   rw [RO rfl]
   refine RG (Uc JN rfl (RG (Tu ?_)))
   rw [oi]
   refine RH ⟨TZ TF _,ih (j + 1) _ v _ (by lia) jn (Wk.frame _ _ _ IA fun b bf o e=>?_) (by simp only [argBest,eb,Us];exact pv) (Heap.get?_update_self _ JN rfl) fun v2 h2 t2 p2 k2=>?_⟩
   ·exact (Heap.get?_update_other _ _ (fun z:T=b=>nT (by rw [z];exact bf))).trans e
   ·exact fin v2 h2 t2 p2 fun b o bw bT e=>k2 b o bw bT ((Heap.get?_update_other _ _ (Tj bT)).trans (kk b o bw e))
  | false=>
   rw [RY RK]
   refine RG (Tu ?_)
   rw [oi]
   refine RH ⟨TZ TF _,ih (j + 1) _ vb c (by lia) jn IA (by simp only [argBest,eb,S8,UH];exact hp) JN fun v2 h2 t2 p2 k2=>?_⟩
   exact fin v2 h2 t2 p2 fun b o bw bT e=>k2 b o bw bT (kk b o bw e)
theorem xK (Wk:Walks prog w A.in1 it fp wr n Pv Sx) (bt:Nat->Nat->Bool) (cm:CmpOf prog w A.in1 .Lt Pv bt) (T:Addr) (nT:T∉fp) {s:Shared} {c:Nat} {d:Value} (Qd:kw=[(Str.ofString "default",d)]) (st:Sx 0 s.heap)
  (hT:s.heap.get? T=some { cls:=.type "list",dict:=none,data:=.seq #[] c,slots:=#[] }) (fin:∀ v h' tk,(if n=0 then v=d else Pv (argBest bt (n - 1)) v)->(∀ b o,b∉wr->b≠T->s.heap.get? b=some o->h'.get? b=some o)->R (.ok (.ret v)) { s with heap:=h',toks:=tk }) :
  codeAny (model prog w) A (.builtin "min.loop" ⟨[.ref it,.none,.ref T],kw⟩) R s:=by
 have L6:T∉wr:=fun z=>nT (Wk.sub _ z)
 refine Ub Vm ?_
 rw [To TF _]
 show wpAny _ A.in1 (seqItems? (.ref T) >>= _) _ _ s
 refine RG (SI hT rfl ?_)
 show wpAny _ A.in1 (tryCatch (pyNext (.ref it)) _ >>= _) _ _ s
 by_cases hn:n=0
 ·refine RG (Tf (Wk.done s _ _ (by rw [hn];exact st) fun h' tk kk=>?_))
  subst Qd
  refine RG (U6 (RH ?_))
  exact fin d _ tk (by rw [RO hn]) fun b o bw bT e=>kk b o bw e
 ·refine RG (Tf (Wk.item 0 s _ _ (by lia) st fun v h' tk pv IA kk=>?_))
  have JN:=kk T _ L6 hT
  show wpAny _ A.in1 (updateSeq T (fun _=>#[v,v]) >>= _) _ _ _
  refine RG (Uc JN rfl ?_)
  rw [oi]
  refine RH ⟨TZ TF _,Ez Wk bt cm T nT _ 0 _ v _ rfl (by lia) (Wk.frame _ _ _ IA fun b bf o e=>?_) pv (Heap.get?_update_self _ JN rfl) fun v2 h2 t2 p2 k2=>?_⟩
  ·exact (Heap.get?_update_other _ _ (fun z:T=b=>nT (by rw [z];exact bf))).trans e
  ·exact fin v2 h2 t2 (by rw [RY hn];exact p2) fun b o bw bT e=>k2 b o bw bT ((Heap.get?_update_other _ _ (Tj bT)).trans (kk b o bw e))
end
theorem args_mind (a d:Value):argsOk "min" ⟨[a],[(Str.ofString "default",d)]⟩:=by unfold argsOk;kernel_rfl
section
variable {X:Cx} {e k:Expr} {te tk:TE} {p pos Jy:Pos}
def minD (ns:List Int) (d:Int):Int:=if ns=[] then d else c5 ns
def EA (K:W.Frag) (te tk:TE):TE:=fun σ H Q=>tq te Bc σ H fun vs H1=>tq tk Bc σ H1 fun ks H2=>∃ (a:Addr) (ns:List Int) (d:Int),vs=[.ref a]/\ks=[.int d]/\(SqL K H2 a (ns.map V.int)\/SqT K H2 a (ns.map V.int))/\Q (.int (minD ns d)) H2
theorem Ag (hc:X.calm=true) (hg:Gl X "min") (hm:X.mg "min" = none) (he:PE X e te) (hk:PE X k tk) (hs:starEach [e] X.env=[(false,eval e X.env)]:=by rfl) :
  PE X (.Call (.Name "min" p) [e] [⟨some "default",k,Jy⟩] pos) (EA X.K te tk):=by
 intro pins s σ H Q I h
 refine TK (ku I hg hm (by decide +kernel:bootBuiltins "min" = some (.builtin "min")) ?_ (by decide) (by decide))
 refine callWith_kw (Gs (gy he mV (hs:=hs) pos pins s σ H _ I h) fun us s1 ⟨vs,H1,I1,r1,q1⟩=>?_) (by rw [hs];rfl) (by rw [hs];rfl)
 refine Gs (uJ hk yf pos pins s1 σ H1 _ I1 q1) fun ws s2 Gu=>?_
 obtain ⟨ks,H2,I2,r2,a,ns,d,e1,e2,hp,q⟩:=Gu
 subst e1 e2
 obtain ⟨u,rfl,ru⟩:=e7 r1
 obtain ⟨w',rfl,t,rfl⟩:=e7 r2
 cases ru
 show wpAny _ _ (call (.builtin "min") [.ref a] [(Str.ofString "default",.int d t)]) _ _ s2
 refine tree_kw F.kind_min F.plain_min F.entry_min (args_mind _ _) ?_
 show wpAny _ X.A.in1 (Builtin.Builtins.bindParams "min" ["key","default"] 0 ⟨[],[(Str.ofString "default",.int d t)]⟩ >>= _) _ _ s2
 refine RG (VD (show Builtin.Builtins.bindParams "min" ["key","default"] 0 ⟨[],[(Str.ofString "default",.int d t)]⟩=pure [none,some (.int d t)] from rfl) ?_)
 refine RG (RH ?_)
 refine RG (gA hc I2 hp fun it fp o ws Sx rv Wk st hf hit=>?_)
 have hl:=rv.length
 rw [RJ] at hl
 refine RG (Sz ?_)
 have nT:(s2.heap.push o).objs.size∉fp:=fun z=>TH _ (hf _ z)
 rw [oi]
 refine RH ⟨TZ TF _,xK Wk _ (o7 rv _) (s2.heap.push o).objs.size nT rfl (Wk.frame _ _ _ st fun b _ ob e=>Heap.get?_push_of_some _ e) (Heap.get?_push_size _ rfl) fun v h' Qe hv kk=>?_⟩
 subst hit
 have I3:Inv X pins σ H2 { s2 with heap:=h',toks:=Qe }:=dW (s:=s2) (o:=o) I2 fun b ob nb e=>kk b ob nb (R8 (RS e)) (Heap.get?_push_of_some _ e)
 refine ⟨.int (minD ns d),H2,I3,?_,q⟩
 unfold minD
 by_cases hn:ns=[]
 ·rw [RO (by rw [<-hl,hn];rfl)] at hv
  rw [RO hn,hv]
  exact ⟨t,rfl⟩
 ·have h0:0 < ns.length:=T3.mpr hn
  rw [RY (by lia)] at hv
  rw [RY hn]
  obtain ⟨b1,b2⟩:=nI ns (ns.length - 1) (by lia)
  rw [<-hl] at hv
  obtain ⟨t2,rfl⟩:=eK rv hv
  refine ⟨t2,?_⟩
  rw [b2,show ns.length - 1 + 1=ns.length by lia,SQ]
  rfl
end
end NX
namespace PV
open PySem PySem.Spec PyProof.Rows L2 NX
def Ah (f g:FX):FX:=fun env=>(f env).bind fun p=>(g p.2).bind fun q=>match (lI p.1.2).bind dh,q.1.2 with
 | some ns,.int d=>.ok ((.f,.int (NX.minD ns d)),q.2)
 | _,_=>.bad
section
variable {X:Cx}
theorem Ai {e k:Expr} {f g:FX} {p pos Jy:Pos} (hc:X.calm=true) (hg:Gl X "min") (hm:X.mg "min" = none) (he:QE X e f) (hk:QE X k g) (hs:starEach [e] X.env=[(false,eval e X.env)]:=by rfl) :
  QE X (.Call (.Name "min" p) [e] [⟨some "default",k,Jy⟩] pos) (Ah f g):=bX (Ag hc hg hm he hk hs) fun σ H Q Gp=>by
 obtain ⟨G,env,fp,r,env',rel,e,k⟩:=Gp
 obtain ⟨⟨r1,F7⟩,e1,e⟩:=ar e
 obtain ⟨⟨r2,Gh⟩,e2,e⟩:=ar e
 dsimp only at e
 split at e
 ·rename_i ns d MP hd
  cases e
  refine ⟨G,env,fp,r1,F7,rel,e1,fun v H1 G1 Gx Gr Gd=>?_⟩
  obtain ⟨G2,b,rv,F8,Gk⟩:=Gd.freeze
  refine ⟨G2,F7,b,r2,_,F8,e2,fun w' H3 G3 Jj GO Gz=>?_⟩
  have hw:=Gz.top
  obtain ⟨b3,GY,HV⟩:=Gz.drop
  rw [hd] at hw
  obtain ⟨p',ep,sq⟩:=hU GY.gh MP (Vw.of GY.gh (Rep.mono GO.gg rv))
  subst ep
  exact ⟨p',ns,d,rfl,by rw [bU hw],sq,k _ H3 G3 b3 (Gr.trans (Gk.trans (GO.trans HV))) (GY.push (bo _))⟩
 ·cases e
end
section
variable {X:Cx}
def CH (g:List D->List D->Res R) (fa:FO) (fs:FOs):FX:=fun env=>(fa env).bind fun p=>(HW p.2 p.1).bind fun a=>match a with
 | .lst _=>(fs p.2).bind fun q=>(HW q.2 p.1).bind fun a2=>match a2 with
  | .lst l=>(pj q.2 q.1).bind fun ds=>(g l ds).bind fun r=>.ok (r,q.2)
  | _=>.bad
 | _=>.bad
inductive rMtL (K:W.Frag) (g:List D->List D->Res R) (x:V) (xs:List V) (H:Hp) (Q:VK):Prop
 | mk:∀ G fp es vs l ds r,Goes K H G fp es vs r Q->Vw K G H (.lst l) x->MR K G H ds xs->g l ds=.ok r->rMtL K g x xs H Q
theorem vW {g:List D->List D->Res R} {id:String} {name:Str} {o e:Expr} {es:List Expr} {fa:FO} {fs:FOs} {apos Gv:Pos} (slot:Slot "list" name id) (KQ:typeOf (.builtin id)=pure (.type "method_descriptor")) (hm:LO X id (rMtL X.K g)) (ho:QO X o fa) (ha:K6 X (e :: es) fs)
  (Hb:attributeBase o name X.env (eval o X.env)=eval o X.env:=by rfl)
  (IY:((backTo Gv (starEach (e :: es) X.env)).all (fun x=>!x.1) && (backToKw Gv (keywordEach [] X.env)).all (fun x=>x.1.isSome) && decide ((e :: es).length + ([]:List Keyword).length + (if ([]:List Keyword).isEmpty then 0 else 1) < 30))=true:=by rfl)
  (Hc:(apos.endLine == Gv.line)=true:=by rfl) (hs:starEach (e :: es) X.env=(false,eval e X.env) :: starEach es X.env:=by rfl) (Hd:(backTo Gv (starEach es X.env)).any (·.1)=false:=by rfl) :
  QE X (.Call (.Attribute o name apos) (e :: es) [] Gv) (CH g fa fs):=by
 refine bX (zh Uw slot KQ hm ho ha Hb IY Hc hs Hd) fun σ H Q Gu=>?_
 obtain ⟨G,env,fp,r,env',rel,e,k⟩:=Gu
 obtain ⟨⟨oa,F7⟩,e1,e⟩:=ar e
 obtain ⟨da,L9,e⟩:=ar e
 dsimp only at e
 split at e
 ·obtain ⟨⟨os,Gh⟩,e2,e⟩:=ar e
  obtain ⟨d2,hd2,e⟩:=ar e
  dsimp only at e
  split at e
  ·obtain ⟨ds,e3,e⟩:=ar e
   obtain ⟨r',e4,e⟩:=ar e
   cases e
   refine ⟨G,env,fp,oa,F7,rel,e1,fun v H1 G1 Gx Gr Gd Ib=>?_⟩
   obtain ⟨p,xs,ev,sq,_⟩:=Gd.vw Ib L9
   subst ev
   exact ⟨.inl ⟨rfl,xs,sq⟩,G1,F7,Gx,os,_,Gd,e2,fun vs H2 G2 GU Gk F8 KW=>⟨G2,GU,_,σ,_,ds,r,⟨F8,fun v H' G' Gj st GD=>k v H' G' Gj (Gr.trans (Gk.trans st)) GD⟩,F8.vw (Ib.mono Gk.gg) hd2,F8.vws KW e3,e4⟩⟩
  ·cases e
 ·cases e
open PySem.SeqAt in
theorem Aj {pins:List (Addr×Obj)} {σ:L2.St} {H:Hp} {s:Shared} (I:Inv X pins σ H s) {a:D} {x:V} {v:Value} {A:Around} (h:plainD 40 a=true) (hu:A.units + 64 < cLine) (r:Rep X.K H a x) (rx:RelV x v) :
  ∀ (ds:List D) (xs:List V) (us:List Value),plainDs 40 ds=true->Reps X.K H ds xs->Vals xs us->∃ e:Value->Bool,(∀ (j:Nat) (d:D) (u:Value),ds[j]?=some d->us[j]?=some u->e u=eqD d a)/\∀ u∈us,EqAt A s u v (e u):=by
 classical
 intro ds xs us hp rs vl
 have key:∀ (j:Nat) (d:D) (u:Value),ds[j]?=some d->us[j]?=some u->decide (∃ (j:Nat) (d:D),ds[j]?=some d/\us[j]?=some u/\eqD d a=true)=eqD d a:=by
  intro j d u hd hj
  obtain ⟨w1,Kg,Kh⟩:=rs.get hd
  obtain ⟨u1,I0,Ki⟩:=vl.get Kg
  rw [hj] at I0
  cases I0
  rw [Sh,R0]
  constructor
  ·rintro ⟨j2,d2,k1,k2,k3⟩
   obtain ⟨w2,Lp,Lq⟩:=rs.get k1
   obtain ⟨u2,JR,Lr⟩:=vl.get Lp
   rw [k2] at JR
   cases JR
   have:=Ki.inj Lr
   subst this
   rw [lK I _ _ _ 40 (plainDs_mem hp hd) Kh Lq]
   exact k3
  ·intro k3
   exact ⟨j,_,hd,hj,k3⟩
 refine ⟨fun u=>decide (∃ (j:Nat) (d:D),ds[j]?=some d/\us[j]?=some u/\eqD d a=true),key,fun u Qq=>?_⟩
 obtain ⟨j,hj⟩:=Sr.mp Qq
 have l1:=vl.length
 have l2:=rs.length
 have Rc:=(List.getElem?_eq_some_iff.mp hj).1
 have g1:ds[j]?=some (ds[j]'(by lia)):=List.getElem?_eq_getElem _
 obtain ⟨w1,Kg,Kh⟩:=rs.get g1
 obtain ⟨u1,I0,Ki⟩:=vl.get Kg
 rw [hj] at I0
 cases I0
 have z:=zZ I _ _ w1 x u v A 40 (plainDs_mem hp g1) h (by lia) Kh r Ki rx
 show EqAt A s u v (decide (∃ (j:Nat) (d:D),ds[j]?=some d/\us[j]?=some u/\eqD d a=true))
 rw [key j _ u g1 hj]
 exact z
def oj (l:List D):List D->Res R
 | [a]=>if plainD 40 a && plainDs 40 l && l.any (fun d=>eqD d a) then .ok (.f,.int (l.findIdx (fun d=>eqD d a):Nat)) else .bad
 | _=>.bad
theorem jh (hu:X.A.units + 65 < cLine):LO X "list.index" (rMtL X.K oj):=by
 rintro pins s σ H x xs v us Q I rx rv ⟨G,fp,es,vs,l,ds,r,⟨rel,k⟩,vx,vd,e⟩
 unfold oj at e
 split at e
 ·rename_i a
  split at e
  ·rename_i hp
   rw [R9,R9] at hp
   cases e
   obtain ⟨p,ys,ev,sq,rs⟩:=vx
   subst ev
   cases rx
   obtain ⟨w',ew,va⟩:=mH vd
   subst ew
   obtain ⟨u,rfl,ru⟩:=e7 rv
   obtain ⟨F9,vl,pl,hz⟩:=I.list sq
   obtain ⟨⟨cls,dd,data,sl⟩,ho,hc,n,hd⟩:=id pl.isList
   simp only at hc hd
   subst hc hd
   obtain ⟨ef,Rp,he2⟩:=Aj (A:=X.A.in1) I hp.1.1 (by first | lia | (simp only [Around.in1_units];lia)) (va.rep rel.gh) ru l ys F9 hp.1.2 (Reps.mono rel.gh rs) vl
   have GV:l.findIdx (fun d=>eqD d a) < l.length:=List.findIdx_lt_length.mpr (by rw [<-SG];exact hp.2)
   have l1:=vl.length
   have l2:=rs.length
   have hlt2:l.findIdx (fun d=>eqD d a) < F9.toArray.size:=by rw [RI];lia
   have hb:(l.findIdx (fun d=>eqD d a):Int) < 2 ^ 63 - 1:=by
    rw [SU] at hz
    lia
   refine Vk T4 ⟨_,ho,rfl⟩ PySem.F.entry_list_index (PySem.F.args_list_index_2 _ _) (PySem.SeqAt.list_indexAt p F9.toArray n _ _ u ef (l.findIdx fun d=>eqD d a) hlt2 hb ?_ ?_) ⟨ho,fun y hy=>?_,⟨.int (l.findIdx (fun d=>eqD d a):Nat),H,I.tok _,⟨_,rfl⟩,k _ H G fp .refl (rel.push (bo _))⟩⟩
   ·rw [Rp _ _ _ (List.getElem?_eq_getElem GV) (by rw [List.getElem_toArray];exact List.getElem?_eq_getElem _)]
    exact List.findIdx_getElem (w:=GV)
   ·intro m hm hlt3
    rw [Rp m (l[m]'(by lia)) _ (List.getElem?_eq_getElem _) (by rw [List.getElem_toArray];exact List.getElem?_eq_getElem _)]
    exact List.not_of_lt_findIdx hlt3
   ·exact he2 y (by simpa using hy)
  ·cases e
 ·cases e
end
section
variable {K:W.Frag} {G G' H H':Hp} {es:PV.Env} {vs:L2.St} {fp:List Addr}
end
def eFunW (c:O) (F:Addr->List D->Res R) (i:Nat) (fs:FOs):FX:=fun env=>(fs env).bind fun p=>match p.1 with
 | .var j :: os=>if j=i then (match p.2[i]? with
  | some (some (ow,d0))=>if CD c ow then (mM (p.2.set i none) os).bind fun ds=>(CF F c d0 ds).bind fun x=>if cx x.1.1 x.1.2 && cx c x.2 then .ok (x.1,(p.2.set i none).set i (some (ow,x.2))) else .ok (x.1,((p.2.set i none).map frz).set i (some (ow,x.2))) else .bad
  | _=>.bad) else .bad
 | _=>.bad
section
variable {X:Cx} {x:Str} {p pos:Pos} {e:Expr} {es:List Expr} {f0:FX} {fs:FOs}
end
def SlR3 (X:Cx) (r:V->Option Int->Option Int->Option Int->Hp->VK->Prop):Prop:=
 ∀ (pins:List (Addr×Obj)) (s:Shared) (σ:L2.St) (H:Hp) (x:V) (v vl vu vt:Value) (lo hi st:Option Int) (sl:Addr) (Q:VK),Inv X pins σ H s->RelV x v->s.heap.IsSliceOf sl vl vu vt->IsPart vl lo->IsPart vu hi->IsPart vt st->r x lo hi st H Q->
  ∃ T id,typeLookup (.type T) "__getitem__" = pure (some (.builtin id))/\s.TypeIs v T/\wpAny (model X.prog X.w) X.A (getItem v (.ref sl)) (EP X pins σ Q) X.xe s
def FR (r:V->Option Int->Option Int->Option Int->Hp->VK->Prop) (te:TE) (tl th ts:TO):TE:=fun σ H Q=>te σ H fun x H1=>tl σ H1 fun l H2=>th σ H2 fun u H3=>ts σ H3 fun t H4=>r x l u t H4 Q
theorem vX {X:Cx} {e:Expr} {te:TE} {lo hi:Option Expr} {se:Expr} {tl th ts:TO} {pos p2:Pos} {r:V->Option Int->Option Int->Option Int->Hp->VK->Prop} (hr:SlR3 X r) (he:PE X e te) (hl:PO X lo tl) (hu:PO X hi th) (hs:PO X (some se) ts):PE X (.Subscript e (.Slice lo hi (some se) p2) pos) (FR r te tl th ts):=by
 intro pins s σ H Q I h
 refine Subscript_ (Gs (he pins s σ H _ I h) fun v s1 Gu=>?_)
 obtain ⟨x,H1,I1,r1,q1⟩:=Gu
 refine wpAny_Slice (Gs (hl pins s1 σ H1 _ I1 q1) fun vl s2 ⟨l,H2,I2,pl,q2⟩=>Gs (hu pins s2 σ H2 _ I2 q2) fun vu s3 ⟨u,H3,I3,pu,q3⟩=>Gs (hs pins s3 σ H3 _ I3 q3) fun vt s4 Gu=>?_)
 obtain ⟨t,H4,I4,pt,q4⟩:=Gu
 have I5:Inv X pins σ H4 { s4 with heap:=s4.heap.push { cls:=.type "slice",data:=.fields #[vl,vu,vt] } }:=I4.kept (t':=s4.toks) fun b ob q=>Heap.get?_push_of_some _ q
 obtain ⟨T,id,hT,ht,hg⟩:=hr pins { s4 with heap:=s4.heap.push { cls:=.type "slice",data:=.fields #[vl,vu,vt] } } σ H4 x v vl vu vt l u t s4.heap.objs.size Q I5 r1 (Heap.IsSliceOf.new ..) pl pu pt q4
 show wpAny (model X.prog X.w) X.A (subscriptTail e (.Slice lo hi (some se) p2) v (.ref s4.heap.objs.size)) (EP X pins σ Q) X.xe { s4 with heap:=s4.heap.push { cls:=.type "slice",data:=.fields #[vl,vu,vt] } }
 exact tail_any (ops:=[v,.ref s4.heap.objs.size]) ht hT hg (by with_unfolding_all rfl)
def hW {α:Type} (xs:List α) (lo hi:Option Int) (c:Int):List α:=
 (sliceRange (sliceBounds lo hi (some c) xs.length).1 (sliceBounds lo hi (some c) xs.length).2.1 (sliceBounds lo hi (some c) xs.length).2.2).filterMap (fun i=>xs[i]?)
theorem pO {K:W.Frag} {G:Hp} {ds:List D} {xs:List V} (r:Reps K G ds xs):∀ ix:List Nat,Reps K G (ix.filterMap fun i=>ds[i]?) (ix.filterMap fun i=>xs[i]?)
 | []=>.nil
 | i :: ix=>by
  have ih:=pO r ix
  cases e:ds[i]? with
  | none=>
   have e2:xs[i]?=none:=by
    rw [List.getElem?_eq_none_iff] at e ⊢
    rw [r.length]
    exact e
   rw [TX e,TX e2]
   exact ih
  | some d=>
   obtain ⟨v,e2,rv⟩:=r.get e
   rw [TY e,TY e2]
   exact .cons rv ih
theorem vals_pick {xs:List V} {us:List Value} (r:Vals xs us):∀ ix:List Nat,Vals (ix.filterMap fun i=>xs[i]?) (ix.filterMap fun i=>us[i]?)
 | []=>.nil
 | i :: ix=>by
  have ih:=vals_pick r ix
  cases e:xs[i]? with
  | none=>
   rw [TX e,TX (r.none_of e)]
   exact ih
  | some d=>
   obtain ⟨v,e2,rv⟩:=r.get e
   rw [TY e,TY e2]
   exact .cons rv ih
theorem r6 (F9:List Value) (lo hi:Option Int) (c:Int):slicePick F9.toArray lo hi (some c)=(hW F9 lo hi c).toArray:=by
 unfold slicePick hW
 simp only [RI,List.getElem?_toArray]
theorem Ak (F9:List Value) (lo hi:Option Int) (c:Int):(hW F9 lo hi c).length<=F9.length:=by
 have:=slicePick_size_le F9.toArray lo hi (some c)
 rw [r6] at this
 simpa using this
def CI (k:D) (lo hi st:Option Int):Res R:=match k,st with
 | .lst ds,some c=>if c≠0 then .ok (.l .f,.lst (hW ds lo hi c)) else .bad
 | _,_=>.bad
def EB (fa:FO) (lo hi st:FP):FX:=fun env=>(fa env).bind fun p=>(lo p.2).bind fun q=>(hi q.2).bind fun t=>(st t.2).bind fun u=>(HW u.2 p.1).bind fun d=>(CI d q.1 t.1 u.1).bind fun r=>.ok (r,u.2)
section
variable {X:Cx} {pos:Pos} {fa:FO}
inductive rSl3 (K:W.Frag) (x:V) (lo:Option Int) (hi:Option Int) (st:Option Int) (H:Hp) (Q:VK):Prop
 | mk:∀ G fp es vs d r,Goes K H G fp es vs r Q->Vw K G H d x->CI d lo hi st=.ok r->rSl3 K x lo hi st H Q
theorem CJ:SlR3 X (rSl3 X.K):=by
 rintro pins s σ H x v vl vu vt lo hi st sl Q I rx hs pl pu pt ⟨G,fp,es,vs,d,r,⟨rel,k⟩,vd,e⟩
 unfold CI at e
 split at e
 ·rename_i ds c
  split at e
  ·rename_i hc
   cases e
   obtain ⟨p,xs,ev,sq,rs⟩:=vd
   subst ev
   cases rx
   obtain ⟨F9,r,ht,hz⟩:=I.list sq
   have hlen:=r.length
   refine ⟨"list",_,slot_list_getitem.lookup,ht.isList.typeIs,?_⟩
   refine wpAny_getItem_list_slice ht.isList hs pl pu pt (fun h=>hc (Sj h)) ?_ (by rw [RI];lia)
   rw [r6]
   have r2:Vals (hW xs lo hi c) (hW F9 lo hi c):=by
    unfold hW
    rw [hlen]
    exact vals_pick r _
   have rs2:Reps X.K G (hW ds lo hi c) (hW xs lo hi c):=by
    unfold hW
    rw [rs.length]
    exact pO rs _
   have LU:(hW xs lo hi c).length<=sizeLine:=by
    rw [r2.length]
    have:=Ak F9 lo hi c
    lia
   have hq:=I.hok.fresh (RL s.heap.objs.size)
   obtain ⟨F8,Gk⟩:=rel.newL hq rs2
   refine ⟨.ref s.heap.objs.size,_,I.laid (t':=s.toks) (o:=.lst (hW xs lo hi c)) (fun b ob q=>Heap.get?_push_of_some _ q) (RL _) ?_,rfl,k _ _ G _ Gk F8⟩
   exact ⟨LU,_,0,r2,Heap.get?_push_size _ rfl⟩
  ·cases e
 ·cases e
theorem CK {e:Expr} {lo hi:Option Expr} {se:Expr} {p2:Pos} {fl fh fs:FP} (he:QO X e fa) (hl:QP X lo fl) (hh:QP X hi fh) (hs:QP X (some se) fs):QE X (.Subscript e (.Slice lo hi (some se) p2) pos) (EB fa fl fh fs):=
 bX (vX CJ he hl hh hs) fun σ H Q Gp=>by
  obtain ⟨G,env,fp,r,env',rel,e,k⟩:=Gp
  obtain ⟨⟨o,F7⟩,e1,e⟩:=ar e
  obtain ⟨⟨i,Gh⟩,e2,e⟩:=ar e
  obtain ⟨⟨j,Hg⟩,e3,e⟩:=ar e
  obtain ⟨⟨t,OT⟩,e4,e⟩:=ar e
  obtain ⟨d,e5,e⟩:=ar e
  obtain ⟨r',e6,e⟩:=ar e
  cases e
  exact ⟨G,env,fp,o,F7,rel,e1,fun v H1 G1 Gx Gr Gd Ib=>⟨G1,F7,Gx,i,Gh,Gd,e2,fun H2 G2 GU Gk F8=>⟨G2,Gh,GU,j,Hg,F8,e3,fun H3 G3 Jj GO Gz=>⟨G3,Hg,Jj,t,OT,Gz,e4,fun H4 G4 OG HV GY=>
   ⟨G4,OG,OT,σ,d,r,⟨GY,fun v H' G' Gj st GD=>k v H' G' Gj (Gr.trans (Gk.trans (GO.trans (HV.trans st)))) GD⟩,GY.vw (((Ib.mono Gk.gg).mono GO.gg).mono HV.gg) e5,e6⟩⟩⟩⟩⟩
end
section
variable {X:Cx}
def Al (fa fb fc:FX):FX:=fun env=>(fa env).bind fun p=>(fb p.2).bind fun q=>(fc q.2).bind fun t=>.ok ((.t [.f,q.1.1,t.1.1],.tup [p.1.2,q.1.2,t.1.2]),t.2)
theorem Am {a b c:Expr} {fa fb fc:FX} {x1} {pos:Pos} (ha:QE X a fa) (hb:QE X b fb) (hc:QE X c fc) (h1:starEach [a,b,c] X.env=(false,eval a X.env) :: starEach [b,c] X.env:=by rfl) (h2:starEach [b,c] X.env=(false,eval b X.env) :: starEach [c] X.env:=by rfl) (h3:starEach [c] X.env=(false,eval c X.env) :: starEach [] X.env:=by rfl) :
  QE X (.Tuple [a,b,c] x1 pos) (Al fa fb fc):=
 bX (ye (gy ha (gy hb (gy hc mV h3) h2) h1)) fun σ H Q Gp=>by
  obtain ⟨G,env,fp,r,env',rel,e,k⟩:=Gp
  obtain ⟨⟨r1,F7⟩,e1,e⟩:=ar e
  obtain ⟨⟨⟨o2,d2⟩,Gh⟩,e2,e⟩:=ar e
  obtain ⟨⟨⟨o3,d3⟩,Hg⟩,e3,e⟩:=ar e
  cases e
  refine ⟨G,env,fp,r1,F7,rel,e1,fun v H1 G1 Gx Gr Gd=>?_⟩
  obtain ⟨G2,b,rv,F8,Gk⟩:=Gd.freeze
  refine ⟨G2,F7,b,(o2,d2),Gh,F8,e2,fun v2 H3 G3 Jj GO Gz=>?_⟩
  obtain ⟨a3,b3,ef3,ro3,OU,bk3⟩:=Gz.frame
  refine ⟨G3,Gh,b3,(o3,d3),Hg,OU,e3,fun v3 H4 G4 OG HV GY=>⟨by rw [line_eq];exact (by decide:3<=16777216),fun p hp=>?_⟩⟩
  obtain ⟨Lw,Mc⟩:=bk3 G4 H4 _ _ OG HV GY
  rw [<-ef3] at Mc
  obtain ⟨HS,IW⟩:=Lw.newF (u:=.tup [v,v2,v3]) hp
  refine k _ _ _ _ (Gr.trans (Gk.trans (GO.trans (Mc.trans IW)))) ?_
  obtain ⟨y,ys,ey,v',a',b',Qt,ef,q1,q2⟩:=HS.rep
  cases ey
  cases Qt
  obtain ⟨y,ys,ey,v'',OV,b'',Qt,ef',q3,q4⟩:=q2
  cases ey
  cases Qt
  subst ef'
  refine ⟨⟨some (.ref p),σ,rfl,.ref p,a'++OV,b'',rfl,by rw [ef,SR],?_,q4⟩,HS.nd,HS.gn,HS.gh⟩
  show RepO X.K _ _ (.t [.f,o2,o3]) (.tup [r1.2,d2,d3]) (.ref p) (a'++OV)
  rw [RepO]
  refine ⟨p,[v,v2,v3],rfl,bQ,?_⟩
  rw [RepT]
  refine ⟨v,[v2,v3],[],a'++OV,rfl,rfl,kz.mpr ⟨Rep.mono (GO.gg.trans (Mc.gg.trans IW.gg)) rv,rfl⟩,?_⟩
  rw [RepT]
  refine ⟨v2,[v3],a',OV,rfl,rfl,q1,?_⟩
  rw [RepT]
  refine ⟨v3,[],OV,[],rfl,by rw [SW],q3,?_⟩
  rw [RepT]
  exact ⟨rfl,rfl⟩
end
end PV
namespace LW
open PySem L2 NX PV
abbrev k4 (f:FX):FI:=Hh (B9 f) (Hh (f9 f) (gf f))
noncomputable def pP:FS:=(dJ (aZ Cg (ag (aq (cq (pJ (ag (aq (aO 0)) (ag (aq (aO 1)) aB))) [none,none] (fO 2 (aA (aw 0) (aA (aw 1) b8))) cZ (az iT (ai 0) (ai 1)))) aB)))
noncomputable def cK:List D->Res R:=fBody 2 0 pP
noncomputable def yJ:FS:=(dJ (aZ dg (ag (aq (cq (pJ (ag (aq (aO 0)) (ag (aq (aO 1)) aB))) [none,none] (fO 2 (aA (aw 0) (aA (aw 1) b8))) cZ (az kY (ai 0) (ai 1)))) aB)))
noncomputable def lX:List D->Res R:=fBody 2 0 yJ
noncomputable def lY:FS:=(dJ (az cJ (aq (aJ (.int 1))) (aq (z0 (cq (k4 (az Gi (ai 0) (aq (aJ (.int 1))))) [none,none,none] (fO 3 (aA (aw 0) (aA (aw 1) (aA (aw 2) b8)))) cZ (aZ maxD (ag (ai 0) (ag (ai 2) aB)))) (aJ (.int 0))))))
noncomputable def dY:List D->Res R:=fBody 1 0 lY
noncomputable def fQ:FS:=(HE (Be (GC (bq HG (aq (az Gi (ai 4) (aq (aJ (.int 0))))) (aq (az Gi (ai 1) (ai 3))))) (GC (bq ur (aq (az Gi (ai 4) (aq (aJ (.int 2))))) (ai 1))))
  (sSeq (f7 (nX 1 (az Gi (ai 4) (aq (aJ (.int 2))))))
  (f7 (nX 2 (aO 4))))
  cP)
noncomputable def lZ:FS:=(lF (k4 (aO 0)) (aw 4)
  fQ)
noncomputable def kH:FS:=(bM 3 (az cJ (ai 3) (aq (aJ (.int 1)))))
noncomputable def hX:FS:=(sSeq lZ
  kH)
noncomputable def l5:FS:=(df (GC (az K8 (ai 3) (aq (aZ ll (ag (ai 1) aB)))))
  hX 100000)
noncomputable def kI:FS:=(dJ (mN 2))
noncomputable def pQ:FS:=(sSeq (bM 1 (j8 (aI (aJ (.int 0)) bu)))
  (sSeq (bM 2 (j8 bu))
  (sSeq (bM 3 (aJ (.int 0)))
  (sSeq l5
  kI))))
noncomputable def di:List D->Res R:=fBody 1 4 pQ
noncomputable def hZ:FS:=(Cr 1 (aO 4) (az cJ (aq (az JS (ai 1) (ai 2))) (aq (jc (aI (aO 3) bu)))))
noncomputable def l6:FS:=(lF (k4 (cw di (ag (aq (az Gi (ai 0) (aq (aJ (.int 1))))) aB))) (fO 3 (aA (aw 2) (aA (aw 3) (aA (aw 4) b8))))
  hZ)
noncomputable def kJ:FS:=(dJ (cq (dM (aq (cw dY (ag (ai 0) aB)))) [none,some 1] (aw 0) cZ (az JS (ai 1) (ai 0))))
noncomputable def pR:FS:=(sSeq (bM 1 (rW (aJ (.int 0)) (jc bu)))
  (sSeq l6
  kJ))
noncomputable def cU:List D->Res R:=fBody 1 4 pR
noncomputable def pS:FS:=(dJ (aZ dg (ag (aq (cq (Hh (g0 0) (Hh (f9 (aO 0)) (gf (aO 0)))) [none,some 1] (aw 0) cZ (xI Bh (ai 1) (ag (ai 0) aB)))) aB)))
noncomputable def dj:List D->Res R:=fBody 2 0 pS
noncomputable def l7:FS:=(dJ (cq (k4 (cw cU (ag (ai 0) aB))) [none,some 0] (aw 0) cZ (cw dj (ag (aq (az Gi (ai 1) (aq (aJ (.int 0))))) (ag (ai 0) aB)))))
noncomputable def dv:List D->Res R:=fBody 1 0 l7
noncomputable def gI:FS:=(HE (GC (bq ur (ai 4) (ai 2)))
  (f7 (nX 3 (cw lX (ag (aq (cw dj (ag (aq (az Gi (ai 0) (aq (aJ (.int 0))))) (ag (aq (az cJ (aq (az Gi (ai 1) (aq (az Gi (ai 4) (aq (aJ (.int 0))))))) (aq (jc (aI (az Gi (ai 4) (aq (aJ (.int 1)))) bu))))) aB)))) (ag (aq (cw dj (ag (aq (az Gi (ai 0) (aq (aJ (.int 0))))) (ag (aq (az Gi (ai 1) (aq (az Gi (ai 4) (aq (aJ (.int 2))))))) aB)))) aB)))))
  cP)
noncomputable def kK:FS:=(lF (k4 (az Gi (ai 0) (aq (aJ (.int 1))))) (aw 4)
  gI)
noncomputable def jH:FS:=(dJ (mN 3))
noncomputable def nh:FS:=(sSeq (bM 1 (cw cU (ag (ai 0) aB)))
  (sSeq (bM 2 (cw di (ag (aq (az Gi (ai 0) (aq (aJ (.int 1))))) aB)))
  (sSeq (bM 3 (j8 bu))
  (sSeq kK
  jH))))
noncomputable def dZ:List D->Res R:=fBody 1 4 nh
noncomputable def ni:FS:=(dJ (aZ Bf (ag (aq (cq (k4 (az Gi (ai 0) (aq (aJ (.int 1))))) [none,none,none,some 1] (fO 3 (aA (aw 0) (aA (aw 1) (aA (aw 2) b8)))) cZ (bq HG (ai 1) (ai 3)))) aB)))
noncomputable def dD:List D->Res R:=fBody 2 0 ni
noncomputable def kM:FS:=(sSeq (HE (GC (aZ Bf (ag (aq (cq (k4 (cw dZ (ag (ai 0) aB))) [none,some 1] (aw 0) cZ (bq Kc (aq (cw cK (ag (ai 1) (ag (ai 0) aB)))) (aq (aJ (.int 0)))))) aB)))
  (dJ (aJ (.bl false)))
  cP)
  (dJ (aZ Ce (ag (aq (cq (pJ (ag (aq (az Gi (ai 0) (aq (aJ (.int 0))))) (ag (aq (aO 1)) aB))) [none,none,some 0] (fO 2 (aA (aw 0) (aA (aw 1) b8))) cZ (OF (bq HG (ai 1) (aq (aJ (.int 0)))) (cw dD (ag (ai 2) (ag (ai 0) aB)))))) aB))))
noncomputable def cy:List D->Res R:=fBody 2 0 kM
noncomputable def nj:FS:=(sSeq (HE (um (GC (cw cy (ag (ai 0) (ag (ai 1) aB)))))
  yz
  cP)
  (sSeq (bM 2 (cq (k4 (cw dv (ag (ai 0) aB))) [none,some 1] (aw 0) cZ (cw cK (ag (ai 1) (ag (ai 0) aB)))))
  (dJ (cq (Hh (g0 2) (Hh (f9 (aO 2)) (gf (aO 2)))) [none,some 2] (aw 0) cZ (az kY (ai 0) (aq (aZ qy (ag (ai 1) aB))))))))
noncomputable def cu:List D->Res R:=fBody 2 1 nj
noncomputable def vY:FS:=(sSeq (bM 3 (cq (k4 (az Gi (ai 0) (aq (aJ (.int 1))))) [none,none,none,some 1,some 2] (fO 3 (aA (aw 0) (aA (aw 1) (aA (aw 2) b8)))) (GC (bq HG (ai 1) (ai 4))) (az Gi (ai 3) (ai 0))))
  (dJ (Ah (aO 3) (az cJ (aq (aZ maxD (ag (ai 1) aB))) (aq (aJ (.int 1)))))))
noncomputable def ia:List D->Res R:=fBody 3 1 vY
noncomputable def nq:FS:=(sSeq (bM 2 (cw cu (ag (ai 0) (ag (ai 1) aB))))
  (sSeq (bM 3 (aZ dg (ag (aq (cq (k4 (az Gi (ai 0) (aq (aJ (.int 0))))) [none,some 0,some 2] (aw 0) cZ (cw ia (ag (ai 1) (ag (ai 2) (ag (ai 0) aB)))))) aB)))
  (dJ (jc (aI (az Gi (ai 2) (aq (aJ (.int 0)))) (aI (aO 3) (aI (aZ dg (ag (aq (cq (pJ (ag (aq (aO 3)) (ag (aq (aO 1)) aB))) [none,none] (fO 2 (aA (aw 0) (aA (aw 1) b8))) cZ (az cJ (ai 0) (ai 1)))) aB)) bu)))))))
noncomputable def dE:List D->Res R:=fBody 2 2 nq
noncomputable def iY:FS:=(sSeq (HE (GC (az K8 (ai 1) (aq (aZ ll (ag (ai 0) aB)))))
  (dJ (az Gi (ai 0) (ai 1)))
  cP)
  (dJ (aJ (.int 0))))
noncomputable def aE:List D->Res R:=fBody 2 0 iY
noncomputable def kN:FS:=(sSeq (bM 2 (az cJ (aq (az fL (ai 0) (aq (aJ (.int 2147483647))))) (aq (az iT (aq (aJ (.int 48271))) (aq (az cJ (ai 1) (aq (aJ (.int 1)))))))))
  (sSeq (bM 2 (az fL (aq (az cJ (aq (az iT (ai 2) (ai 2))) (aq (az iT (aq (aJ (.int 69621))) (ai 1))))) (aq (aJ (.int 2147483647)))))
  (dJ (az fL (aq (az cJ (aq (az cJ (aq (az iT (ai 2) (ai 2))) (aq (az iT (aq (aJ (.int 16807))) (ai 1))))) (aq (aJ (.int 1))))) (aq (aJ (.int 2147483647)))))))
noncomputable def aW:List D->Res R:=fBody 2 1 kN
noncomputable def dN:FS:=(sSeq (bM 7 (Ac (ai 2) tU (lH (aO 3))))
  (sSeq (vS 7 (aO 4) (az fL (aq (az cJ (aq (az Gi (ai 7) (ai 4))) (ai 6))) (aq (aJ (.int 26)))))
  (sSeq (HE (GC (bq HG (aq (az fL (aq (az eF (ai 0) (aq (aJ (.int 64))))) (aq (aJ (.int 4))))) (aq (aJ (.int 1)))))
  (bM 7 (Ac (ai 2) tU (lH (az cJ (ai 6) (aq (aJ (.int 1)))))))
  cP)
  (f7 (nX 5 (Eu vU (aq (aJ (.str []))) (ag (aq (cq (Hh (g0 7) (Hh (f9 (aO 7)) (gf (aO 7)))) [none,some 1] (aw 0) cZ (az Gi (ai 1) (ai 0)))) aB)))))))
noncomputable def iZ:FS:=(lF (dM (aq (aJ (.int 5)))) (aw 6)
  dN)
noncomputable def ib:FS:=(sSeq (HE (GC (bq Lx (aq (aJ (.str [109,111,118,101,115]))) (ai 5)))
  (bM 5 (cq (Hh (g0 5) (Hh (f9 (aO 5)) (gf (aO 5)))) [none] (aw 0) cZ (az cJ (aq (aJ (.str [115]))) (ai 0))))
  cP)
  (dJ (aZ fV (ag (ai 5) aB))))
noncomputable def kO:FS:=(sSeq (bM 1 (aJ (.str [97,98,99,100,101,102,103,104,105,106,107,108,109,110,111,112,113,114,115,116,117,118,119,120,121,122])))
  (sSeq (bM 2 (cq (dM (aq (aJ (.int 8)))) [none,some 0] (aw 0) cZ (az fL (aq (cw aW (ag (ai 1) (ag (ai 0) aB)))) (aq (aJ (.int 26))))))
  (sSeq (bM 3 (az cJ (aq (aJ (.int 1))) (aq (az fL (ai 0) (aq (aJ (.int 8)))))))
  (sSeq (bM 4 (az fL (aq (az eF (ai 0) (aq (aJ (.int 8))))) (ai 3)))
  (sSeq (bM 5 (j8 bu))
  (sSeq iZ
  ib))))))
noncomputable def dF:List D->Res R:=fBody 1 7 kO
noncomputable def dk:FS:=(sSeq (HE (GC (az K8 (ai 5) (aq (az Gi (aq (az Gi (ai 6) (aq (aJ (.int 1))))) (ai 3)))))
  (dJ (aJ .non))
  cP)
  (f7 (nX 4 (az cJ (aq (az kY (ai 5) (aq (az Gi (aq (az Gi (ai 6) (aq (aJ (.int 1))))) (ai 3))))) (aq (az Gi (aq (az Gi (ai 6) (aq (aJ (.int 2))))) (ai 3)))))))
noncomputable def gJ:FS:=(lF (pJ (ag (aq (aO 1)) (ag (aq (az Gi (ai 0) (aq (aJ (.int 1))))) aB))) (fO 2 (aA (aw 5) (aA (aw 6) b8)))
  dk)
noncomputable def i0:FS:=(dJ (aZ dg (ag (ai 4) aB)))
noncomputable def l8:FS:=(sSeq (bM 3 (xI mP (aq (az Gi (ai 0) (aq (aJ (.int 0))))) (ag (ai 2) aB)))
  (sSeq (bM 4 (j8 bu))
  (sSeq gJ
  i0)))
noncomputable def dw:List D->Res R:=fBody 3 4 l8
noncomputable def dO:FS:=(sSeq (bM 6 (cw dw (ag (ai 0) (ag (aq (az Gi (ai 2) (ai 4))) (ag (ai 5) aB)))))
  (HE (GC (bq isnO (ai 6) (aq (aJ .non))))
  (sSeq (HE (GC (bq ur (ai 6) (ai 2)))
  (sSeq (HE (GC (bq HG (aq (aZ ll (ag (ai 2) aB))) (ai 1)))
  (dJ (aJ .non))
  cP)
  (f7 (nX 2 (aO 6))))
  cP)
  (f7 (nX 3 (jc (aI (aO 4) (aI (aO 5) (aI (CH oj (ai 2) (ag (ai 6) aB)) bu)))))))
  cP))
noncomputable def ic:FS:=(lF (k4 (az Gi (ai 0) (aq (aJ (.int 0))))) (aw 5)
  dO)
noncomputable def jI:FS:=(bM 4 (az cJ (ai 4) (aq (aJ (.int 1)))))
noncomputable def dP:FS:=(sSeq ic
  jI)
noncomputable def ie:FS:=(df (GC (az K8 (ai 4) (aq (aZ ll (ag (ai 2) aB)))))
  dP 100000)
noncomputable def jJ:FS:=(dJ (jc (aI (aZ fV (ag (ai 3) aB)) (aI (aO 2) bu))))
noncomputable def nr:FS:=(sSeq (bM 2 (j8 (aI (aZ dg (ag (aq (cq (k4 (az Gi (ai 0) (aq (aJ (.int 1))))) [none,none,none] (fO 3 (aA (aw 0) (aA (aw 1) (aA (aw 2) b8)))) cZ (aO 0))) aB)) bu)))
  (sSeq (bM 3 (j8 bu))
  (sSeq (bM 4 (aJ (.int 0)))
  (sSeq ie
  jJ))))
noncomputable def bJ:List D->Res R:=fBody 2 5 nr
noncomputable def fW:FS:=(bM 3 (cw aW (ag (aq (az cJ (ai 4) (ai 3))) (ag (ai 2) aB))))
noncomputable def jK:FS:=(lF (k4 (EB (ai 0) (lH (az cJ (ai 1) (ai 2))) (lH (az cJ (ai 1) (aq (aJ (.int 84))))) (lH (aJ (.int 6))))) (aw 4)
  fW)
noncomputable def i4:FS:=(dJ (mN 3))
noncomputable def l9:FS:=(sSeq (bM 3 (az cJ (aq (aJ (.int 7))) (ai 2)))
  (sSeq jK
  i4))
noncomputable def d4:List D->Res R:=fBody 3 2 l9
noncomputable def fC:FS:=(sSeq (bM 5 (cw aW (ag (ai 0) (ag (ai 4) aB))))
  (sSeq (bM 6 (az kY (aq (az fL (ai 5) (aq (aJ (.int 5))))) (aq (aJ (.int 2)))))
  (sSeq (bM 7 (az eF (aq (az fL (aq (az eF (ai 5) (aq (aJ (.int 8))))) (aq (aJ (.int 4))))) (aq (aJ (.int 3)))))
  (sSeq (f7 (nX 2 (az cJ (aq (aZ maxD (ag (aq (aJ (.int 0))) (ag (aq (az kY (aq (aJ (.int 0))) (ai 6))) aB)))) (ai 7))))
  (f7 (nX 3 (az cJ (aq (aZ maxD (ag (aq (aJ (.int 0))) (ag (ai 6) aB)))) (ai 7))))))))
noncomputable def i5:FS:=(lF (dM (ai 1)) (aw 4)
  fC)
noncomputable def ig:FS:=(dJ (Al (az fL (aq (az eF (ai 0) (aq (aJ (.int 16))))) (aq (aJ (.int 4)))) (mN 2) (mN 3)))
noncomputable def kP:FS:=(sSeq (bM 2 (j8 bu))
  (sSeq (bM 3 (j8 bu))
  (sSeq i5
  ig)))
noncomputable def dG:List D->Res R:=fBody 2 6 kP
noncomputable def jL:FS:=(sSeq (bM 2 (az cJ (aq (aJ (.int 1))) (aq (az fL (ai 1) (aq (az tS (aq (aJ (.int 10))) (aq (aJ (.int 50)))))))))
  (sSeq (DG (aO 0) (fO 3 (aA (aw 3) (aA (aw 4) (aA (aw 5) b8)))))
  (sSeq (bM 4 (aZ dg (ag (aq (cq (Hh (g0 4) (Hh (f9 (aO 4)) (gf (aO 4)))) [none,some 2] (aw 0) cZ (az iT (ai 1) (ai 0)))) aB)))
  (dJ (jc (aI (az cJ (aq (az iT (ai 2) (ai 3))) (aq (az fL (aq (az eF (ai 1) (aq (aJ (.int 7))))) (ai 2)))) (aI (aO 4) (aI (aZ dg (ag (aq (cq (Hh (g0 5) (Hh (f9 (aO 5)) (gf (aO 5)))) [none,some 2] (aw 0) cZ (az iT (ai 1) (ai 0)))) aB)) bu))))))))
noncomputable def cB:List D->Res R:=fBody 2 4 jL
noncomputable def dm:FS:=(sSeq (bM 5 (cw d4 (ag (ai 0) (ag (ai 1) (ag (ai 4) aB)))))
  (sSeq (bM 6 (cw dG (ag (ai 5) (ag (ai 2) aB))))
  (sSeq (f7 (nX 3 (cw cB (ag (ai 6) (ag (aq (cw aE (ag (ai 0) (ag (aq (az cJ (ai 1) (ai 4))) aB)))) aB)))))
  (HE (GC (az Pw (aq (az fL (aq (az eF (ai 5) (aq (aJ (.int 64))))) (aq (aJ (.int 3))))) (aq (aJ (.int 0)))))
  (sSeq (bM 7 (jc (aI (az fL (aq (az eF (ai 5) (aq (aJ (.int 256))))) (aq (aJ (.int 4)))) (aI (az Gi (aq (aO 6)) (aq (aJ (.int 2)))) (aI (az Gi (aq (aO 6)) (aq (aJ (.int 1)))) bu)))))
  (f7 (nX 3 (cw cB (ag (ai 7) (ag (aq (cw aE (ag (ai 0) (ag (aq (az cJ (aq (az cJ (ai 1) (aq (aJ (.int 6))))) (ai 4))) aB)))) aB))))))
  cP))))
noncomputable def ij:FS:=(lF (dM (aq (az cJ (aq (aJ (.int 1))) (aq (az fL (aq (az eF (aq (cw aE (ag (ai 0) (ag (aq (aJ (.int 1))) aB)))) (aq (aJ (.int 4))))) (aq (aJ (.int 4)))))))) (aw 4)
  dm)
noncomputable def gR:FS:=(dJ (mN 3))
noncomputable def jM:FS:=(sSeq (bM 3 (j8 bu))
  (sSeq ij
  gR))
noncomputable def cY:List D->Res R:=fBody 3 5 jM
noncomputable def kQ:FS:=(sSeq (bM 1 (cw dF (ag (aq (cw aE (ag (ai 0) (ag (aq (aJ (.int 0))) aB)))) aB)))
  (sSeq (bM 2 (cw aE (ag (ai 0) (ag (aq (aJ (.int 1))) aB))))
  (sSeq (bM 3 (az cJ (aq (aJ (.int 1))) (aq (az fL (ai 2) (aq (aJ (.int 3)))))))
  (sSeq (bM 4 (az fL (aq (az eF (ai 2) (aq (aJ (.int 32))))) (aq (az kY (aq (aJ (.int 6))) (ai 3)))))
  (dJ (aZ dg (ag (aq (Ac (ai 1) (lH (aO 4)) (lH (az cJ (ai 4) (ai 3))))) aB)))))))
noncomputable def dH:List D->Res R:=fBody 1 4 kQ
noncomputable def nt:FS:=(sSeq (bM 2 (cw dH (ag (ai 0) aB)))
  (sSeq (bM 3 (aZ ll (ag (ai 2) aB)))
  (sSeq (bM 4 (cw cY (ag (ai 0) (ag (ai 1) (ag (ai 3) aB)))))
  (sSeq (HE (GC (bq isnO (aq (cw bJ (ag (aq (jc (aI (aO 2) (aI (aO 4) bu)))) (ag (aq (aJ (.int 8))) aB)))) (aq (aJ .non))))
  (dJ (jc (aI (aO 2) (aI (aO 4) bu))))
  cP)
  (sSeq (bM 5 (aZ dg (ag (aq (cq (Hh (g0 2) (Hh (f9 (aO 2)) (gf (aO 2)))) [none] (aw 0) cZ (aJ (.int 1)))) aB)))
  (sSeq (bM 6 (aZ dg (ag (aq (cq (Hh (g0 2) (Hh (f9 (aO 2)) (gf (aO 2)))) [none] (aw 0) cZ (aJ (.int 0)))) aB)))
  (sSeq (HE (GC (bq isnO (aq (cw bJ (ag (aq (jc (aI (aO 2) (aI (az cJ (ai 4) (aq (j8 (aI (jc (aI (aJ (.int 2)) (aI (aO 5) (aI (aO 6) bu)))) bu)))) bu)))) (ag (aq (aJ (.int 8))) aB)))) (aq (aJ .non))))
  (dJ (jc (aI (aO 2) (aI (az cJ (ai 4) (aq (j8 (aI (jc (aI (aJ (.int 2)) (aI (aO 5) (aI (aO 6) bu)))) bu)))) bu))))
  cP)
  (dJ (jc (aI (aO 2) (aI (az cJ (ai 4) (aq (j8 (aI (jc (aI (aJ (.int 1)) (aI (aO 5) (aI (aO 6) bu)))) bu)))) bu)))))))))))
noncomputable def d5:List D->Res R:=fBody 2 5 nt
noncomputable def dn:FS:=(HE (GC (bq Lx (ai 3) (ai 1)))
  (sSeq (bM 7 (jc (aI (CH oj (ai 1) (ag (ai 3) aB)) (aI (aO 4) (aI (CH oj (ai 1) (ag (ai 5) aB)) bu)))))
  (HE (GC (bq ur (ai 7) (ai 6)))
  (f7 (nX 6 (aO 7)))
  cP))
  cP)
noncomputable def ik:FS:=(lF (k4 (aO 0)) (fO 3 (aA (aw 3) (aA (aw 4) (aA (aw 5) b8))))
  dn)
noncomputable def gS:FS:=(dJ (aZ fV (ag (ai 6) aB)))
noncomputable def dq:FS:=(HE (Be (GC (bq HG (ai 3) (aq (az Gi (ai 1) (ai 2))))) (GC (bq ur (ai 5) (ai 1))))
  (f7 (nX 1 (aO 5)))
  cP)
noncomputable def il:FS:=(lF (k4 (aZ fV (ag (ai 0) aB))) (fO 3 (aA (aw 3) (aA (aw 4) (aA (aw 5) b8))))
  dq)
noncomputable def gT:FS:=(bM 2 (az cJ (ai 2) (aq (aJ (.int 1)))))
noncomputable def eQ:FS:=(sSeq il
  gT)
noncomputable def fD:FS:=(df (GC (az K8 (ai 2) (aq (aZ ll (ag (ai 1) aB)))))
  eQ 100000)
noncomputable def gU:FS:=(sSeq (bM 6 (j8 bu))
  (sSeq ik
  gS))
noncomputable def jN:FS:=(sSeq (bM 1 (j8 (aI (aJ (.int 0)) bu)))
  (sSeq (bM 2 (aJ (.int 0)))
  (sSeq fD
  gU)))
noncomputable def cC:List D->Res R:=fBody 1 7 jN
noncomputable def ma:FS:=(sSeq (bM 3 (az cJ (aq (aJ (.int 1))) (aq (aZ maxD (ag (aq (az cJ (aq (j8 (aI (aJ (.int 0)) bu))) (aq (cq (Hh (g0 1) (Hh (f9 (aO 1)) (gf (aO 1)))) [none] (aw 0) cZ (aZ maxD (ag (aq (az Gi (ai 0) (aq (aJ (.int 0))))) (ag (aq (az Gi (ai 0) (aq (aJ (.int 2))))) aB))))))) aB)))))
  (sSeq (bM 4 (az fL (aq (az eF (ai 2) (aq (aJ (.int 128))))) (aq (aZ qy (ag (aq (az cJ (ai 3) (aq (aJ (.int 1))))) (ag (aq (aJ (.int 12))) aB))))))
  (sSeq (bM 5 (az Gi (ai 0) (aq (az fL (aq (az eF (ai 2) (aq (aJ (.int 2048))))) (aq (aZ ll (ag (ai 0) aB)))))))
  (sSeq (HE (LS (GC (bq HG (ai 1) (aq (j8 bu)))) (GC (bq HG (aq (az fL (ai 2) (aq (aJ (.int 5))))) (aq (aJ (.int 3))))))
  (dJ (az cJ (ai 1) (aq (j8 (aI (jc (aI (az fL (aq (az eF (ai 2) (aq (aJ (.int 8))))) (ai 3)) (aI (aO 5) (aI (aO 4) bu)))) bu)))))
  cP)
  (sSeq (bM 6 (az fL (aq (az eF (ai 2) (aq (aJ (.int 16384))))) (aq (aZ ll (ag (ai 1) aB)))))
  (sSeq (bM 7 (az Gi (ai 1) (ai 6)))
  (sSeq (bM 8 (az cJ (aq (Ac (ai 1) tU (lH (aO 6)))) (aq (Ac (ai 1) (lH (az cJ (ai 6) (aq (aJ (.int 1))))) tU))))
  (sSeq (HE (GC (bq HG (aq (az fL (ai 2) (aq (aJ (.int 5))))) (aq (aJ (.int 0)))))
  (dJ (mN 8))
  cP)
  (sSeq (HE (GC (bq HG (aq (az fL (ai 2) (aq (aJ (.int 5))))) (aq (aJ (.int 1)))))
  (dJ (az cJ (ai 8) (aq (j8 (aI (jc (aI (az Gi (ai 7) (aq (aJ (.int 0)))) (aI (az Gi (ai 7) (aq (aJ (.int 1)))) (aI (aO 4) bu)))) bu)))))
  cP)
  (sSeq (HE (LS (GC (bq HG (aq (az fL (ai 2) (aq (aJ (.int 5))))) (aq (aJ (.int 2))))) (GC (bq HG (ai 3) (aq (aJ (.int 1))))))
  (dJ (az cJ (ai 8) (aq (j8 (aI (jc (aI (az Gi (ai 7) (aq (aJ (.int 0)))) (aI (aO 5) (aI (az Gi (ai 7) (aq (aJ (.int 2)))) bu)))) bu)))))
  cP)
  (sSeq (bM 9 (az cJ (aq (aJ (.int 1))) (aq (az fL (aq (az eF (ai 2) (aq (aJ (.int 8))))) (aq (az kY (ai 3) (aq (aJ (.int 1)))))))))
  (sSeq (bM 10 (cq (dM (ai 3)) [none] (aw 0) cZ (aO 0)))
  (sSeq (vS 10 (aO 9) (az fL (ai 4) (ai 3)))
  (dJ (cq (Hh (g0 1) (Hh (f9 (aO 1)) (gf (aO 1)))) [none,none,none,some 10] (fO 3 (aA (aw 0) (aA (aw 1) (aA (aw 2) b8)))) cZ (jc (aI (az Gi (ai 3) (ai 0)) (aI (aO 1) (aI (az Gi (ai 3) (ai 2)) bu)))))))))))))))))))
noncomputable def d6:List D->Res R:=fBody 3 8 ma
noncomputable def c7:FS:=(sSeq (bM 5 (cw aW (ag (aq (cw aE (ag (ai 0) (ag (ai 4) aB)))) (ag (ai 4) aB))))
  (HE (GC (bq HG (aq (az fL (aq (az eF (ai 5) (aq (aJ (.int 64))))) (aq (aJ (.int 3))))) (aq (aJ (.int 0)))))
  (bM 3 (cw cC (ag (aq (cw d6 (ag (aq (az Gi (ai 1) (aq (aJ (.int 0))))) (ag (ai 3) (ag (aq (az eF (ai 5) (aq (aJ (.int 192))))) aB))))) aB)))
  cP))
noncomputable def fE:FS:=(lF (qq (ag (ai 2) (ag (aq (az cJ (ai 2) (aq (aJ (.int 3))))) aB))) (aw 4)
  c7)
noncomputable def eX:FS:=(dJ (jc (aI (az Gi (ai 1) (aq (aJ (.int 0)))) (aI (cw cC (ag (ai 3) aB)) bu))))
noncomputable def gq:FS:=(sSeq (bM 3 (az Gi (aq (cw bJ (ag (ai 1) (ag (aq (aJ (.int 8))) aB)))) (aq (aJ (.int 0)))))
  (sSeq fE
  eX))
noncomputable def bg:List D->Res R:=fBody 3 3 gq
noncomputable def eR:FS:=(sSeq (bM 7 (az Gi (ai 1) (aq (xI mP (aq (az Gi (ai 0) (aq (aJ (.int 0))))) (ag (ai 5) aB)))))
  (HE (GC (bq Kc (aq (az JS (ai 2) (ai 6))) (aq (az cJ (aq (az JS (ai 2) (ai 4))) (ai 7)))))
  (dJ (aJ .non))
  cP))
noncomputable def fF:FS:=(lF (k4 (az Gi (ai 0) (aq (aJ (.int 1))))) (fO 3 (aA (aw 4) (aA (aw 5) (aA (aw 6) b8))))
  eR)
noncomputable def gW:FS:=(dJ (cq (dM (aq (aZ ll (ag (ai 2) aB)))) [none,some 2] (aw 0) cZ (az JS (ai 1) (ai 0))))
noncomputable def dr:FS:=(sSeq (bM 7 (az Gi (ai 1) (aq (xI mP (aq (az Gi (ai 0) (aq (aJ (.int 0))))) (ag (ai 5) aB)))))
  (HE (Be (GC (bq Lx (ai 4) (ai 2))) (GC (bq ur (ai 6) (ai 2))))
  (sSeq (Cr 2 (aO 6) (az cJ (aq (az JS (ai 2) (ai 4))) (ai 7)))
  (bM 3 (aJ (.bl true))))
  cP))
noncomputable def iq:FS:=(lF (k4 (az Gi (ai 0) (aq (aJ (.int 1))))) (fO 3 (aA (aw 4) (aA (aw 5) (aA (aw 6) b8))))
  dr)
noncomputable def eS:FS:=(sSeq (bM 3 (aJ (.bl false)))
  iq)
noncomputable def ir:FS:=(df (GC (aO 3))
  eS 100000)
noncomputable def gX:FS:=(sSeq fF
  gW)
noncomputable def jO:FS:=(sSeq (bM 2 (rW (aJ (.int 0)) (aJ (.int 0))))
  (sSeq (bM 3 (aJ (.bl true)))
  (sSeq ir
  gX)))
noncomputable def bj:List D->Res R:=fBody 2 6 jO
noncomputable def c8:FS:=(HE (Be (GC (bq Kc (aq (az Gi (ai 1) (ai 3))) (aq (aJ (.int 0))))) (GC (bq ur (aq (az Gi (aq (az Gi (ai 0) (aq (aJ (.int 0))))) (ai 3))) (ai 2))))
  (dJ (aJ (.bl false)))
  cP)
noncomputable def dy:FS:=(lF (dM (aq (aZ ll (ag (ai 1) aB)))) (aw 3)
  c8)
noncomputable def eY:FS:=(dJ (bq isnO (aq (cw bj (ag (ai 0) (ag (ai 1) aB)))) (aq (aJ .non))))
noncomputable def gr:FS:=(sSeq (bM 2 (cq (k4 (az Gi (ai 0) (aq (aJ (.int 1))))) [none,none,none] (fO 3 (aA (aw 0) (aA (aw 1) (aA (aw 2) b8)))) cZ (aO 1)))
  (sSeq dy
  eY))
noncomputable def bS:List D->Res R:=fBody 2 2 gr
noncomputable def cD:FS:=(sSeq (bM 8 (cq (k4 (az Gi (ai 0) (aq (aJ (.int 1))))) [none,none,none,some 4,some 7,some 0] (fO 3 (aA (aw 0) (aA (aw 1) (aA (aw 2) b8)))) (GC (bq HG (ai 1) (aq (az Gi (aq (az Gi (ai 5) (aq (aJ (.int 0))))) (ai 4))))) (az Gi (ai 3) (ai 0))))
  (sSeq (f7 (nX 5 (aZ qy (ag (aq (az cJ (ai 8) (aq (j8 (aI (az cJ (aq (aZ maxD (ag (ai 4) aB))) (aq (aJ (.int 1)))) bu))))) aB))))
  (f7 (nX 6 (az cJ (aq (az Gi (ai 5) (ai 7))) (aq (az Gi (ai 1) (ai 7))))))))
noncomputable def fR:FS:=(lF (dM (aq (aZ ll (ag (ai 1) aB)))) (aw 7)
  cD)
noncomputable def fG:FS:=(dJ (jc (aI (az Gi (ai 4) (aq (aJ (.int 0)))) (aI (aZ dg (ag (ai 5) aB)) (aI (aZ dg (ag (ai 6) aB)) bu)))))
noncomputable def gY:FS:=(sSeq (bM 2 (cw bj (ag (ai 0) (ag (ai 1) aB))))
  (sSeq (bM 3 (aZ qy (ag (ai 2) aB)))
  (sSeq (bM 4 (cq (Hh (g0 2) (Hh (f9 (aO 2)) (gf (aO 2)))) [none,some 3] (aw 0) cZ (az kY (ai 0) (ai 1))))
  (sSeq (bM 5 (j8 bu))
  (sSeq (bM 6 (j8 bu))
  (sSeq fR
  fG))))))
noncomputable def bL:List D->Res R:=fBody 2 7 gY
noncomputable def kR:FS:=(dJ (Ej (MS "int" (ai 0)) (Ek (MS "bool" (ai 0)))))
noncomputable def m__law_whole:List D->Res R:=fBody 1 0 kR
noncomputable def dQ:FS:=(HE (um (GC (cw m__law_whole (ag (ai 2) aB))))
  (dJ (aJ (.bl false)))
  cP)
noncomputable def gu:FS:=(lF (k4 (az cJ (aq (az Gi (ai 0) (aq (aJ (.int 1))))) (aq (az Gi (ai 0) (aq (aJ (.int 2))))))) (aw 2)
  dQ)
noncomputable def fS:FS:=(dJ (aJ (.bl true)))
noncomputable def iu:FS:=(sSeq (HE (LS (um (GC (MS "tuple" (ai 0)))) (LS (GC (bq Kc (ai 0) (ai 1))) (um (GC (cw m__law_whole (ag (aq (az Gi (ai 0) (aq (aJ (.int 0))))) aB))))))
  (dJ (aJ (.bl false)))
  cP)
  (sSeq (HE (LS (um (GC (MS "tuple" (aq (az Gi (ai 0) (aq (aJ (.int 1)))))))) (um (GC (MS "tuple" (aq (az Gi (ai 0) (aq (aJ (.int 2)))))))))
  (dJ (aJ (.bl false)))
  cP)
  (sSeq gu
  fS)))
noncomputable def cv:List D->Res R:=fBody 2 1 iu
noncomputable def eE:FS:=(sSeq (bM 8 (cq (dM (aq (aZ ll (ag (ai 6) aB)))) [none,some 7,some 6,some 3,some 1] (aw 0) cZ (az iT (aq (az kY (aq (az Gi (ai 1) (ai 0))) (aq (az Gi (ai 2) (ai 0))))) (aq (aZ Bg (ag (aq (bq Lx (aq (az Gi (aq (az Gi (ai 4) (aq (aJ (.int 0))))) (ai 0))) (ai 3))) aB))))))
  (HE (GC (cw bS (ag (ai 1) (ag (ai 8) aB))))
  (f7 (nX 4 (aZ dg (ag (ai 8) aB))))
  cP))
noncomputable def jP:FS:=(lF (k4 (az Gi (ai 2) (aq (aJ (.int 1))))) (fO 3 (aA (aw 5) (aA (aw 6) (aA (aw 7) b8))))
  eE)
noncomputable def i6:FS:=(sSeq (bM 9 (cq (dM (aq (aJ (.int 2)))) [none,some 0] (aw 0) cZ (az kY (aq (az fL (aq (cw aE (ag (ai 1) (ag (aq (az cJ (aq (aJ (.int 11))) (ai 0))) aB)))) (aq (az iT (aq (aJ (.int 2))) (aq (az tS (aq (aJ (.int 10))) (aq (aJ (.int 8))))))))) (aq (az tS (aq (aJ (.int 10))) (aq (aJ (.int 8))))))))
  (sSeq (bM 10 (cw aW (ag (aq (cw aE (ag (ai 0) (ag (aq (aJ (.int 13))) aB)))) (ag (aq (aJ (.int 2))) aB))))
  (sSeq (bM 11 (az Gi (ai 4) (aq (az fL (ai 10) (aq (aZ ll (ag (ai 4) aB)))))))
  (sSeq (bM 12 (az Gi (ai 4) (aq (az fL (aq (az eF (ai 10) (aq (aJ (.int 64))))) (aq (aZ ll (ag (ai 4) aB)))))))
  (dJ (az cJ (ai 4) (aq (j8 (aI (aZ dg (ag (aq (cq (dM (aq (aZ ll (ag (ai 11) aB)))) [none,some 9,some 11,some 12] (aw 0) cZ (az cJ (aq (az iT (aq (az Gi (ai 1) (aq (aJ (.int 0))))) (aq (az Gi (ai 2) (ai 0))))) (aq (az iT (aq (az Gi (ai 1) (aq (aJ (.int 1))))) (aq (az Gi (ai 3) (ai 0)))))))) aB)) bu)))))))))
noncomputable def me:FS:=(sSeq (bM 3 (cq (k4 (az Gi (ai 1) (aq (aJ (.int 1))))) [none,none,none] (fO 3 (aA (aw 0) (aA (aw 1) (aA (aw 2) b8)))) cZ (aO 1)))
  (sSeq (bM 4 (j8 (aI (aZ dg (ag (aq (cq (k4 (az Gi (ai 1) (aq (aJ (.int 0))))) [none] (aw 0) cZ (aJ (.int 0)))) aB)) bu)))
  (sSeq jP
  i6)))
noncomputable def d7:List D->Res R:=fBody 3 10 me
noncomputable def cV:FS:=(HE (um (GC (cw m__law_whole (ag (ai 2) aB))))
  (dJ (aJ (.bl false)))
  cP)
noncomputable def eZ:FS:=(lF (k4 (aO 0)) (aw 2)
  cV)
noncomputable def eG:FS:=(dJ (aJ (.bl true)))
noncomputable def fT:FS:=(sSeq (HE (LS (um (GC (MS "list" (ai 0)))) (GC (bq Kc (ai 0) (ai 1))))
  (dJ (aJ (.bl false)))
  cP)
  (sSeq eZ
  eG))
noncomputable def bK:List D->Res R:=fBody 2 1 fT
noncomputable def g_law_1b:FS:=(sSeq (bM 5 (cw bj (ag (ai 2) (ag (ai 4) aB))))
  (sSeq (bM 6 (cq (Hh (g0 5) (Hh (f9 (aO 5)) (gf (aO 5)))) [none,some 5] (aw 0) cZ (az kY (ai 0) (aq (aZ qy (ag (ai 1) aB))))))
  (sSeq (bM 7 (cw cu (ag (ai 3) (ag (ai 4) aB))))
  (sSeq (HE (LS (um (GC (cw bK (ag (ai 7) (ag (ai 6) aB))))) (um (GC (cw cv (ag (aq (cw dE (ag (ai 3) (ag (ai 4) aB)))) (ag (aq (cw bL (ag (ai 2) (ag (ai 4) aB)))) aB))))))
  (dJ (aJ (.bl false)))
  cP)
  (sSeq (f7 (rZ 7))
  (HE (LS (GC (bq Kc (aq (cw cu (ag (ai 3) (ag (ai 4) aB)))) (ai 6))) (GC (bq Kc (aq (cw dE (ag (ai 3) (ag (ai 4) aB)))) (aq (cw bL (ag (ai 2) (ag (ai 4) aB)))))))
  (dJ (aJ (.bl false)))
  cP))))))
noncomputable def vZ:FS:=(lF (k4 (cw d7 (ag (ai 0) (ag (ai 2) (ag (ai 1) aB))))) (aw 4)
  g_law_1b)
noncomputable def r9:FS:=(dJ (bq HG (ai 3) (ai 2)))
noncomputable def CL:FS:=(sSeq (bM 1 (cw d5 (ag (ai 0) (ag (aq (aJ (.int 5))) aB))))
  (sSeq (bM 2 (jc (aI (az Gi (ai 1) (aq (aJ (.int 0)))) (aI (az Gi (aq (cw bJ (ag (ai 1) (ag (aq (aJ (.int 8))) aB)))) (aq (aJ (.int 0)))) bu))))
  (sSeq (HE (GC (bq HG (aq (az fL (aq (az eF (aq (cw aE (ag (ai 0) (ag (aq (aJ (.int 1))) aB)))) (aq (aJ (.int 256))))) (aq (aJ (.int 2))))) (aq (aJ (.int 1)))))
  (bM 2 (cw bg (ag (ai 0) (ag (ai 1) (ag (aq (aJ (.int 2))) aB)))))
  cP)
  (sSeq (bM 3 (jc (aI (az Gi (ai 2) (aq (aJ (.int 0)))) (aI (aZ xE (ag (aq (az Gi (ai 2) (aq (aJ (.int 1))))) aB)) bu))))
  (sSeq vZ
  r9)))))
noncomputable def An:List D->Res R:=fBody 1 7 CL
end LW
namespace LW
open PySem PySem.Spec PyProof.Rows L2 NX PV
theorem xM {α:Type} {Q:List α->Prop} (h:∀ a,Q [a]):∀ us,us.length=1->Q us
 | [a],_=>h a
theorem oM {α:Type} {Q:List α->Prop} (h:∀ a b,Q [a,b]):∀ us,us.length=2->Q us
 | [a,b],_=>h a b
theorem Ao {α:Type} {Q:List α->Prop} (h:∀ a b c,Q [a,b,c]):∀ us,us.length=3->Q us
 | [a,b,c],_=>h a b c
theorem cM {X:Cx} {tg e:Expr} {f:FX} (h:QE X e f):QI X tg e (Hh (B9 f) (Hh (f9 f) (gf f))):=vJ (zT h) (vJ (gc h) (gj h))
noncomputable def top (i:Nat):Stmt:=PySem.Challenge.pw_netfinder_k52_beads_and_places.main.body.getD i (.Pass ⟨0,0,0,0⟩)
theorem FU:Str.ofString "moves" = S [109,111,118,101,115]:=by decide +kernel
theorem FV:Str.ofString "s" = S [115]:=by decide +kernel
theorem FW:Str.ofString "" = S []:=by decide +kernel
theorem FY:Str.ofString "abcdefghijklmnopqrstuvwxyz" = S [97,98,99,100,101,102,103,104,105,106,107,108,109,110,111,112,113,114,115,116,117,118,119,120,121,122]:=by decide +kernel
section
variable {P:Program} {w:World} {K:W.Frag} {mg:Str->Option Value} {base:Heap}
abbrev mf:Stmt:=top 4
theorem tY:FnScope ["one","other"] ["one","other"] (defScope mf):=fs
theorem tZ (Df:Def K mg "product" mf) (JT:mg "sum" = none) (Hr:mg "zip" = none):Ct P w K mg base "product" 1 (spF K cK):=
 cX Df tY (fun _ _ _ _ _ _=>oM fun _ _=>rfl) fun f Gy A outer s H E hr=>
  (av (aT (aR (Ci rfl) (by rfl) JT Cy (af (aa (aY [none,none] ["number","factor"] rfl (a0 (lV (by rfl) Hr (af (aa (aD (pv 0))) (af (aa (aD (pv 1))) ao)))) (fun _ _ _ _ _=>(have h:=(show List.Nodup (["number","factor"]:List Str) from by decide +kernel);(dB rfl (aF (ay (i:=0) h rfl (lo rfl)) (aF (ay (i:=1) h rfl (lo rfl)) cp))))) (fun _ _ _ _ _=>bc) (fun _ _ _ _ _=>(aG dX (ae (pv 0)) (ae (pv 1)))))) ao))))
abbrev v5:Stmt:=top 5
theorem Ap:FnScope ["row","other"] ["row","other"] (defScope v5):=fs
theorem Aq (Df:Def K mg "less" v5) (Ge:mg "tuple" = none) (Hr:mg "zip" = none):Ct P w K mg base "less" 1 (spF K lX):=
 cX Df Ap (fun _ _ _ _ _ _=>oM fun _ _=>rfl) fun f Gy A outer s H E hr=>
  (av (aT (br cj (by rfl) Ge bR (af (aa (aY [none,none] ["number","taken"] rfl (a0 (lV (by rfl) Hr (af (aa (aD (pv 0))) (af (aa (aD (pv 1))) ao)))) (fun _ _ _ _ _=>(have h:=(show List.Nodup (["number","taken"]:List Str) from by decide +kernel);(dB rfl (aF (ay (i:=0) h rfl (lo rfl)) (aF (ay (i:=1) h rfl (lo rfl)) cp))))) (fun _ _ _ _ _=>bc) (fun _ _ _ _ _=>(aG hJ (ae (pv 0)) (ae (pv 1)))))) ao))))
abbrev ji:Stmt:=top 7
theorem pT:FnScope ["chart"] ["chart"] (defScope ji):=fs
theorem pU (Df:Def K mg "states_of" ji) (GX:mg "max" = none):Ct P w K mg base "states_of" 1 (spF K dY):=
 cX Df pT (fun _ _ _ _ _ _=>xM fun _=>rfl) fun f Gy A outer s H E hr=>
  (av (aT (aG aK (aa aj) (aa (z4 rfl (by rfl) GX (aY [none,none,none] ["first","move","second"] rfl (a0 (cM (aQ (ae (pv 0)) (aa aj)))) (fun _ _ _ _ _=>(have h:=(show List.Nodup (["first","move","second"]:List Str) from by decide +kernel);(dB rfl (aF (ay (i:=0) h rfl (lo rfl)) (aF (ay (i:=1) h rfl (lo rfl)) (aF (ay (i:=2) h rfl (lo rfl)) cp)))))) (fun _ _ _ _ _=>bc) (fun _ _ _ _ _=>(aR (lN rfl) (by rfl) GX lT (af (ae (pv 0)) (af (ae (pv 2)) ao))))) aj)))))
abbrev mh:Stmt:=top 8
theorem e9:FnScope ["arcs","met","tree","looked_at","arc"] ["arcs"] (defScope mh):=fs
theorem t9 (Df:Def K mg "tree_of" mh) (Gw:mg "len" = none):Ct P w K mg base "tree_of" 1 (spF K di):=
 cX Df e9 (fun _ _ _ _ _ _=>xM fun _=>rfl) fun f Gy A outer s H E hr=>
  (ah (aH (i:=1) e9.nd rfl (lo rfl) (cI (ax aj aN)))
  (ah (aH (i:=2) e9.nd rfl (lo rfl) (cI aN))
  (ah (aH (i:=3) e9.nd rfl (lo rfl) aj)
  (ah (lj 100000 Sa (m6 (pD hr.units0) (ae (pv 3)) (aa (aR du (by rfl) Gw bt_len (af (ae (pv 1)) ao))) (bD _))
  (ah (dC Sa rfl (cM (aD (pv 0))) (ay (i:=4) e9.nd rfl (lo rfl))
  (av (cW (QW.qt (rK (ba (hV hr.units) (aa (aQ (ae (pv 4)) (aa aj))) (aa (aQ (ae (pv 1)) (ae (pv 3)))) (bD _)) (nR (ba (jg hr.u65) (aa (aQ (ae (pv 4)) (aa aj))) (ae (pv 1)) (by with_unfolding_all rfl)))))
  (ah (cT (bP (pv 1) (aQ (ae (pv 4)) (aa aj))))
  (av (cT (bP (pv 2) (aD (pv 4))))))
  a9)))
  (av (aH (i:=3) e9.nd rfl (lo rfl) (aG aK (ae (pv 3)) (aa aj))))))
  (av (aT (ja (pv 2))))))))
abbrev ml:Stmt:=top 10
theorem gv:FnScope ["chart","ways","first","move","second"] ["chart"] (defScope ml):=fs
theorem ua (Df:Def K mg "ways_of" ml) (JU:Ct P w K mg base "states_of" 1 (spF K dY)) (IE:Ct P w K mg base "tree_of" 1 (spF K di)) (Gm:mg "range" = none):Ct P w K mg base "ways_of" 2 (spF K cU):=
 cX Df gv (fun _ _ _ _ _ _=>xM fun _=>rfl) fun f Gy A outer s H E hr=>
  (ah (aH (i:=1) gv.nd rfl (lo rfl) (rX aj (cH aN)))
  (ah (dC Sa rfl (cM (aP IE hr.m (by rfl) (af (aa (aQ (ae (pv 0)) (aa aj))) ao))) (dB rfl (aF (ay (i:=2) gv.nd rfl (lo rfl)) (aF (ay (i:=3) gv.nd rfl (lo rfl)) (aF (ay (i:=4) gv.nd rfl (lo rfl)) cp))))
  (av (yF (hu_of hr) (pv 1) (aD (pv 4)) (aG aK (aa (tX (hu_of hr) (ae (pv 1)) (ae (pv 2)))) (aa (cH (ax (aD (pv 3)) aN)))))))
  (av (aT (aY [none,some 1] ["state","ways"] rfl (a0 (cG (by rfl) Gm (aa (aP JU hr.m (by rfl) (af (ae (pv 0)) ao))))) (fun _ _ _ _ _=>(ay (i:=0) (show List.Nodup (["state","ways"]:List Str) from by decide +kernel) rfl (lo rfl))) (fun _ _ _ _ _=>bc) (fun _ _ _ _ _=>(tX (hu_of hr) (ae (pv 1)) (ae (pv 0)))))))))
abbrev mn:Stmt:=top 11
theorem ub:FnScope ["moves","way"] ["moves","way"] (defScope mn):=fs
theorem uc (Df:Def K mg "counted" mn) (Ge:mg "tuple" = none):Ct P w K mg base "counted" 1 (spF K dj):=
 cX Df ub (fun _ _ _ _ _ _=>oM fun _ _=>rfl) fun f Gy A outer s H E hr=>
  (av (aT (br cj (by rfl) Ge bR (af (aa (aY [none,some 1] ["move","way"] rfl (cR (eO (pv 0)) (cR (a0 (gc (aD (pv 0)))) (a0 (gj (aD (pv 0)))))) (fun _ _ _ _ _=>(ay (i:=0) (show List.Nodup (["move","way"]:List Str) from by decide +kernel) rfl (lo rfl))) (fun _ _ _ _ _=>bc) (fun _ _ _ _ _=>(rT PySem.F.slot_tuple_count PySem.F.type_tuple_count qz (ae (pv 1)) (af (ae (pv 0)) ao))))) ao))))
abbrev jj:Stmt:=top 12
theorem pV:FnScope ["chart"] ["chart"] (defScope jj):=fs
theorem pW (Df:Def K mg "counts_of" jj) (HP:Ct P w K mg base "counted" 1 (spF K dj)) (IF:Ct P w K mg base "ways_of" 2 (spF K cU)):Ct P w K mg base "counts_of" 3 (spF K dv):=
 cX Df pV (fun _ _ _ _ _ _=>xM fun _=>rfl) fun f Gy A outer s H E hr=>
  (av (aT (aY [none,some 0] ["way","chart"] rfl (a0 (cM (aP IF hr.m (by rfl) (af (ae (pv 0)) ao)))) (fun _ _ _ _ _=>(ay (i:=0) (show List.Nodup (["way","chart"]:List Str) from by decide +kernel) rfl (lo rfl))) (fun _ _ _ _ _=>bc) (fun _ _ _ _ _=>(aP HP hr.m (by rfl) (af (aa (aQ (ae (pv 1)) (aa aj))) (af (ae (pv 0)) ao)))))))
abbrev kg:Stmt:=top 13
theorem fH:FnScope ["chart","ways","tree","rings","arc"] ["chart"] (defScope kg):=fs
theorem qB (Df:Def K mg "rings_of" kg) (HP:Ct P w K mg base "counted" 1 (spF K dj)) (Nm:Ct P w K mg base "less" 1 (spF K lX)) (IE:Ct P w K mg base "tree_of" 1 (spF K di)) (IF:Ct P w K mg base "ways_of" 2 (spF K cU)):Ct P w K mg base "rings_of" 3 (spF K dZ):=
 cX Df fH (fun _ _ _ _ _ _=>xM fun _=>rfl) fun f Gy A outer s H E hr=>
  (ah (aH (i:=1) fH.nd rfl (lo rfl) (aP IF hr.m (by rfl) (af (ae (pv 0)) ao)))
  (ah (aH (i:=2) fH.nd rfl (lo rfl) (aP IE hr.m (by rfl) (af (aa (aQ (ae (pv 0)) (aa aj))) ao)))
  (ah (aH (i:=3) fH.nd rfl (lo rfl) (cI aN))
  (ah (dC Sa rfl (cM (aQ (ae (pv 0)) (aa aj))) (ay (i:=4) fH.nd rfl (lo rfl))
  (av (cW (ba (jg hr.u65) (ae (pv 4)) (ae (pv 2)) (by with_unfolding_all rfl))
  (av (cT (bP (pv 3) (aP Nm hr.m (by rfl) (af (aa (aP HP hr.m (by rfl) (af (aa (aQ (ae (pv 0)) (aa aj))) (af (aa (aG aK (aa (aQ (ae (pv 1)) (aa (aQ (ae (pv 4)) (aa aj))))) (aa (cH (ax (aQ (ae (pv 4)) (aa aj)) aN))))) ao)))) (af (aa (aP HP hr.m (by rfl) (af (aa (aQ (ae (pv 0)) (aa aj))) (af (aa (aQ (ae (pv 1)) (aa (aQ (ae (pv 4)) (aa aj))))) ao)))) ao))))))
  a9)))
  (av (aT (ja (pv 3))))))))
abbrev kh:Stmt:=top 15
theorem qC:FnScope ["chart","move"] ["chart","move"] (defScope kh):=fs
theorem qD (Df:Def K mg "has_arcs" kh) (Jc:mg "any" = none):Ct P w K mg base "has_arcs" 1 (spF K dD):=
 cX Df qC (fun _ _ _ _ _ _=>oM fun _ _=>rfl) fun f Gy A outer s H E hr=>
  (av (aT (aR (yC rfl) (by rfl) Jc yG (af (aa (aY [none,none,none,some 1] ["first","by","second","move"] rfl (a0 (cM (aQ (ae (pv 0)) (aa aj)))) (fun _ _ _ _ _=>(have h:=(show List.Nodup (["first","by","second","move"]:List Str) from by decide +kernel);(dB rfl (aF (ay (i:=0) h rfl (lo rfl)) (aF (ay (i:=1) h rfl (lo rfl)) (aF (ay (i:=2) h rfl (lo rfl)) cp)))))) (fun _ _ _ _ _=>bc) (fun _ _ _ _ _=>(j6 (hV hr.units) (ae (pv 1)) (ae (pv 3)) (bD _))))) ao))))
abbrev iw:Stmt:=top 16
theorem om:FnScope ["chart","row"] ["chart","row"] (defScope iw):=fs
theorem oq (Df:Def K mg "is_stretch" iw) (Kk:Ct P w K mg base "has_arcs" 1 (spF K dD)) (IG:Ct P w K mg base "product" 1 (spF K cK)) (Kl:Ct P w K mg base "rings_of" 3 (spF K dZ)) (JV:mg "all" = none) (Jc:mg "any" = none) (Hr:mg "zip" = none):Ct P w K mg base "is_stretch" 4 (spF K cy):=
 cX Df om (fun _ _ _ _ _ _=>oM fun _ _=>rfl) fun f Gy A outer s H E hr=>
  (ah (cW (f6 (aR (yC rfl) (by rfl) Jc yG (af (aa (aY [none,some 1] ["ring","row"] rfl (a0 (cM (aP Kl hr.m (by rfl) (af (ae (pv 0)) ao)))) (fun _ _ _ _ _=>(ay (i:=0) (show List.Nodup (["ring","row"]:List Str) from by decide +kernel) rfl (lo rfl))) (fun _ _ _ _ _=>bc) (fun _ _ _ _ _=>(j6 (qu hr.units) (aa (aP IG hr.m (by rfl) (af (ae (pv 1)) (af (ae (pv 0)) ao)))) (aa aj) (bD _))))) ao)))
  (av (aT jy))
  a9)
  (av (aT (aR (Cf rfl) (by rfl) JV Cz (af (aa (aY [none,none,some 0] ["move","number","chart"] rfl (a0 (lV (by rfl) Hr (af (aa (aQ (ae (pv 0)) (aa aj))) (af (aa (aD (pv 1))) ao)))) (fun _ _ _ _ _=>(have h:=(show List.Nodup (["move","number","chart"]:List Str) from by decide +kernel);(dB rfl (aF (ay (i:=0) h rfl (lo rfl)) (aF (ay (i:=1) h rfl (lo rfl)) cp))))) (fun _ _ _ _ _=>bc) (fun _ _ _ _ _=>(Em (j6 (hV hr.units) (ae (pv 1)) (aa aj) (bD _)) (yy (aP Kk hr.m (by rfl) (af (ae (pv 2)) (af (ae (pv 0)) ao)))))))) ao)))))
abbrev ki:Stmt:=top 17
theorem mq:FnScope ["chart","row","heights"] ["chart","row"] (defScope ki):=fs
theorem qE (Df:Def K mg "beads_of" ki) (JW:Ct P w K mg base "counts_of" 3 (spF K dv)) (Jz:Ct P w K mg base "is_stretch" 4 (spF K cy)) (IG:Ct P w K mg base "product" 1 (spF K cK)) (Hj:mg "min" = none):Ct P w K mg base "beads_of" 5 (spF K cu):=
 cX Df mq (fun _ _ _ _ _ _=>oM fun _ _=>rfl) fun f Gy A outer s H E hr=>
  (ah (cW (iW (f6 (aP Jz hr.m (by rfl) (af (ae (pv 0)) (af (ae (pv 1)) ao)))))
  (av xA)
  a9)
  (ah (aH (i:=2) mq.nd rfl (lo rfl) (aY [none,some 1] ["counts","row"] rfl (a0 (cM (aP JW hr.m (by rfl) (af (ae (pv 0)) ao)))) (fun _ _ _ _ _=>(ay (i:=0) (show List.Nodup (["counts","row"]:List Str) from by decide +kernel) rfl (lo rfl))) (fun _ _ _ _ _=>bc) (fun _ _ _ _ _=>(aP IG hr.m (by rfl) (af (ae (pv 1)) (af (ae (pv 0)) ao))))))
  (av (aT (aY [none,some 2] ["height","heights"] rfl (cR (eO (pv 2)) (cR (a0 (gc (aD (pv 2)))) (a0 (gj (aD (pv 2)))))) (fun _ _ _ _ _=>(ay (i:=0) (show List.Nodup (["height","heights"]:List Str) from by decide +kernel) rfl (lo rfl))) (fun _ _ _ _ _=>bc) (fun _ _ _ _ _=>(aG hJ (ae (pv 0)) (aa (aR (pI rfl) (by rfl) Hj pF (af (ae (pv 1)) ao))))))))))
abbrev qF:Stmt:=top 18
theorem sa:FnScope ["chart","beads","move","having"] ["chart","beads","move"] (defScope qF):=fs
theorem xN (Df:Def K mg "taken" qF) (GX:mg "max" = none) (Hj:mg "min" = none):Ct P w K mg base "taken" 1 (spF K ia):=
 cX Df sa (fun _ _ _ _ _ _=>Ao fun _ _ _=>rfl) fun f Gy A outer s H E hr=>
  (ah (gH (i:=3) [none,none,none,some 1,some 2] ["first","by","second","beads","move"] sa.nd rfl (lo rfl) rfl (a0 (cM (aQ (ae (pv 0)) (aa aj)))) (fun _ _ _ _ _=>(have h:=(show List.Nodup (["first","by","second","beads","move"]:List Str) from by decide +kernel);(dB rfl (aF (ay (i:=0) h rfl (lo rfl)) (aF (ay (i:=1) h rfl (lo rfl)) (aF (ay (i:=2) h rfl (lo rfl)) cp)))))) (fun _ _ _ _ _=>(vG (ba (hV hr.units) (ae (pv 1)) (ae (pv 4)) (bD _)))) (fun _ _ _ _ _=>(aQ (ae (pv 3)) (ae (pv 0)))))
  (av (aT (Ai rfl (by rfl) Hj (aD (pv 3)) (aG aK (aa (aR (lN rfl) (by rfl) GX lT (af (ae (pv 1)) ao))) (aa aj))))))
abbrev kj:Stmt:=top 19
theorem jk:FnScope ["chart","row","beads","takes"] ["chart","row"] (defScope kj):=fs
theorem qG (Df:Def K mg "place_of" kj) (Hv:Ct P w K mg base "beads_of" 5 (spF K cu)) (Me:Ct P w K mg base "taken" 1 (spF K ia)) (Ge:mg "tuple" = none) (Hr:mg "zip" = none):Ct P w K mg base "place_of" 6 (spF K dE):=
 cX Df jk (fun _ _ _ _ _ _=>oM fun _ _=>rfl) fun f Gy A outer s H E hr=>
  (ah (aH (i:=2) jk.nd rfl (lo rfl) (aP Hv hr.m (by rfl) (af (ae (pv 0)) (af (ae (pv 1)) ao))))
  (ah (aH (i:=3) jk.nd rfl (lo rfl) (br cj (by rfl) Ge bR (af (aa (aY [none,some 0,some 2] ["move","chart","beads"] rfl (a0 (cM (aQ (ae (pv 0)) (aa aj)))) (fun _ _ _ _ _=>(ay (i:=0) (show List.Nodup (["move","chart","beads"]:List Str) from by decide +kernel) rfl (lo rfl))) (fun _ _ _ _ _=>bc) (fun _ _ _ _ _=>(aP Me hr.m (by rfl) (af (ae (pv 1)) (af (ae (pv 2)) (af (ae (pv 0)) ao))))))) ao)))
  (av (aT (cH (ax (aQ (ae (pv 2)) (aa aj)) (ax (aD (pv 3)) (ax (br cj (by rfl) Ge bR (af (aa (aY [none,none] ["number","more"] rfl (a0 (lV (by rfl) Hr (af (aa (aD (pv 3))) (af (aa (aD (pv 1))) ao)))) (fun _ _ _ _ _=>(have h:=(show List.Nodup (["number","more"]:List Str) from by decide +kernel);(dB rfl (aF (ay (i:=0) h rfl (lo rfl)) (aF (ay (i:=1) h rfl (lo rfl)) cp))))) (fun _ _ _ _ _=>bc) (fun _ _ _ _ _=>(aG aK (ae (pv 0)) (ae (pv 1)))))) ao)) aN))))))))
abbrev fX:Stmt:=top 21
theorem mr:FnScope ["_law_script","_law_k"] ["_law_script","_law_k"] (defScope fX):=fs
theorem mw (Df:Def K mg "_law_cell_at" fX) (Gw:mg "len" = none):Ct P w K mg base "_law_cell_at" 1 (spF K aE):=
 cX Df mr (fun _ _ _ _ _ _=>oM fun _ _=>rfl) fun f Gy A outer s H E hr=>
  (ah (cW (m6 (pD hr.units0) (ae (pv 1)) (aa (aR du (by rfl) Gw bt_len (af (ae (pv 0)) ao))) (bD _))
  (av (aT (aQ (ae (pv 0)) (ae (pv 1)))))
  a9)
  (av (aT aj)))
abbrev iy:Stmt:=top 22
theorem gK:FnScope ["_law_cell","_law_k","_law_number"] ["_law_cell","_law_k"] (defScope iy):=fs
theorem ou (Df:Def K mg "_law_mixed" iy):Ct P w K mg base "_law_mixed" 1 (spF K aW):=
 cX Df gK (fun _ _ _ _ _ _=>oM fun _ _=>rfl) fun f Gy A outer s H E hr=>
  (ah (aH (i:=2) gK.nd rfl (lo rfl) (aG aK (aa (aG bO (ae (pv 0)) (aa aj))) (aa (aG dX (aa aj) (aa (aG aK (ae (pv 1)) (aa aj)))))))
  (ah (aH (i:=2) gK.nd rfl (lo rfl) (aG bO (aa (aG aK (aa (aG dX (ae (pv 2)) (ae (pv 2)))) (aa (aG dX (aa aj) (ae (pv 1)))))) (aa aj)))
  (av (aT (aG bO (aa (aG aK (aa (aG aK (aa (aG dX (ae (pv 2)) (ae (pv 2)))) (aa (aG dX (aa aj) (ae (pv 1)))))) (aa aj))) (aa aj))))))
abbrev iz:Stmt:=top 23
theorem bA:FnScope ["_law_cell","_law_letters","_law_base","_law_width","_law_spot","_law_names_here","_law_k","_law_moved_on"] ["_law_cell"] (defScope iz):=fs
theorem ox (Df:Def K mg "_law_names" iz) (Gq:Ct P w K mg base "_law_mixed" 1 (spF K aW)) (Gm:mg "range" = none) (GF:mg "sorted" = none):Ct P w K mg base "_law_names" 2 (spF K dF):=
 cX Df bA (fun _ _ _ _ _ _=>xM fun _=>rfl) fun f Gy A outer s H E hr=>
  (ah (aH (i:=1) bA.nd rfl (lo rfl) (rJ FY (by decide)))
  (ah (gH (i:=2) [none,some 0] ["_law_j","_law_cell"] bA.nd rfl (lo rfl) rfl (a0 (cG (by rfl) Gm (aa aj))) (fun _ _ _ _ _=>(ay (i:=0) (show List.Nodup (["_law_j","_law_cell"]:List Str) from by decide +kernel) rfl (lo rfl))) (fun _ _ _ _ _=>bc) (fun _ _ _ _ _=>(aG bO (aa (aP Gq hr.m (by rfl) (af (ae (pv 1)) (af (ae (pv 0)) ao)))) (aa aj))))
  (ah (aH (i:=3) bA.nd rfl (lo rfl) (aG aK (aa aj) (aa (aG bO (ae (pv 0)) (aa aj)))))
  (ah (aH (i:=4) bA.nd rfl (lo rfl) (aG bO (aa (aG cA (ae (pv 0)) (aa aj))) (ae (pv 3))))
  (ah (aH (i:=5) bA.nd rfl (lo rfl) (cI aN))
  (ah (dC Sa rfl (cG (by rfl) Gm (aa aj)) (ay (i:=6) bA.nd rfl (lo rfl))
  (ah (aH (i:=7) bA.nd rfl (lo rfl) (pH (ae (pv 2)) nW (gC (aD (pv 3)))))
  (ah (vT (pv 7) (aD (pv 4)) (aG bO (aa (aG aK (aa (aQ (ae (pv 7)) (ae (pv 4)))) (ae (pv 6)))) (aa aj)))
  (ah (cW (ba (hV hr.units) (aa (aG bO (aa (aG cA (ae (pv 0)) (aa aj))) (aa aj))) (aa aj) (bD _))
  (av (aH (i:=7) bA.nd rfl (lo rfl) (pH (ae (pv 2)) nW (gC (aG aK (ae (pv 6)) (aa aj))))))
  a9)
  (av (cT (bP (pv 5) (Cu PySem.F.slot_str_join PySem.F.type_str_join Af (aa (rJ FW (by decide))) (af (aa (aY [none,some 1] ["_law_j","_law_letters"] rfl (cR (eO (pv 7)) (cR (a0 (gc (aD (pv 7)))) (a0 (gj (aD (pv 7)))))) (fun _ _ _ _ _=>(ay (i:=0) (show List.Nodup (["_law_j","_law_letters"]:List Str) from by decide +kernel) rfl (lo rfl))) (fun _ _ _ _ _=>bc) (fun _ _ _ _ _=>(aQ (ae (pv 1)) (ae (pv 0)))))) ao)))))))))
  (ah (cW (ba (rY hr.u65) (aa (rJ FU (by decide))) (ae (pv 5)) (by with_unfolding_all rfl))
  (av (gH (i:=5) [none] ["_law_name"] bA.nd rfl (lo rfl) rfl (cR (eO (pv 5)) (cR (a0 (gc (aD (pv 5)))) (a0 (gj (aD (pv 5)))))) (fun _ _ _ _ _=>(ay (i:=0) (show List.Nodup (["_law_name"]:List Str) from by decide +kernel) rfl (lo rfl))) (fun _ _ _ _ _=>bc) (fun _ _ _ _ _=>(aG aK (aa (rJ FV (by decide))) (ae (pv 0))))))
  a9)
  (av (aT (aR (jE rfl) (by rfl) GF jF (af (ae (pv 5)) ao)))))))))))
abbrev jl:Stmt:=top 24
theorem eI:FnScope ["_law_net_here","_law_marking","_law_move","_law_k","_law_after","_law_beads","_law_place_here"] ["_law_net_here","_law_marking","_law_move"] (defScope jl):=fs
theorem pX (Df:Def K mg "_law_step" jl) (Ge:mg "tuple" = none) (Hr:mg "zip" = none):Ct P w K mg base "_law_step" 1 (spF K dw):=
 cX Df eI (fun _ _ _ _ _ _=>Ao fun _ _ _=>rfl) fun f Gy A outer s H E hr=>
  (ah (aH (i:=3) eI.nd rfl (lo rfl) (rT TV Up je (aa (aQ (ae (pv 0)) (aa aj))) (af (ae (pv 2)) ao)))
  (ah (aH (i:=4) eI.nd rfl (lo rfl) (cI aN))
  (ah (dC Sa rfl (lV (by rfl) Hr (af (aa (aD (pv 1))) (af (aa (aQ (ae (pv 0)) (aa aj))) ao))) (dB rfl (aF (ay (i:=5) eI.nd rfl (lo rfl)) (aF (ay (i:=6) eI.nd rfl (lo rfl)) cp)))
  (ah (cW (m6 (pD hr.units0) (ae (pv 5)) (aa (aQ (aa (aQ (ae (pv 6)) (aa aj))) (ae (pv 3)))) (bD _))
  (av (aT lD))
  a9)
  (av (cT (bP (pv 4) (aG aK (aa (aG hJ (ae (pv 5)) (aa (aQ (aa (aQ (ae (pv 6)) (aa aj))) (ae (pv 3)))))) (aa (aQ (aa (aQ (ae (pv 6)) (aa aj))) (ae (pv 3))))))))))
  (av (aT (br cj (by rfl) Ge bR (af (ae (pv 4)) ao)))))))
abbrev kl:Stmt:=top 25
theorem dA:FnScope ["_law_net_here","_law_most","_law_markings","_law_arcs","_law_done","_law_move","_law_after"] ["_law_net_here","_law_most"] (defScope kl):=fs
theorem qH (Df:Def K mg "_law_run" kl) (JX:Ct P w K mg base "_law_step" 1 (spF K dw)) (Gw:mg "len" = none) (GF:mg "sorted" = none) (Ge:mg "tuple" = none):Ct P w K mg base "_law_run" 2 (spF K bJ):=
 cX Df dA (fun _ _ _ _ _ _=>oM fun _ _=>rfl) fun f Gy A outer s H E hr=>
  (ah (aH (i:=2) dA.nd rfl (lo rfl) (cI (ax (br cj (by rfl) Ge bR (af (aa (aY [none,none,none] ["_law_beads","_law_takes","_law_gives"] rfl (a0 (cM (aQ (ae (pv 0)) (aa aj)))) (fun _ _ _ _ _=>(have h:=(show List.Nodup (["_law_beads","_law_takes","_law_gives"]:List Str) from by decide +kernel);(dB rfl (aF (ay (i:=0) h rfl (lo rfl)) (aF (ay (i:=1) h rfl (lo rfl)) (aF (ay (i:=2) h rfl (lo rfl)) cp)))))) (fun _ _ _ _ _=>bc) (fun _ _ _ _ _=>(aD (pv 0))))) ao)) aN)))
  (ah (aH (i:=3) dA.nd rfl (lo rfl) (cI aN))
  (ah (aH (i:=4) dA.nd rfl (lo rfl) aj)
  (ah (lj 100000 Sa (m6 (pD hr.units0) (ae (pv 4)) (aa (aR du (by rfl) Gw bt_len (af (ae (pv 2)) ao))) (bD _))
  (ah (dC Sa rfl (cM (aQ (ae (pv 0)) (aa aj))) (ay (i:=5) dA.nd rfl (lo rfl))
  (ah (aH (i:=6) dA.nd rfl (lo rfl) (aP JX hr.m (by rfl) (af (ae (pv 0)) (af (aa (aQ (ae (pv 2)) (ae (pv 4)))) (af (ae (pv 5)) ao)))))
  (av (cW (ba rR (ae (pv 6)) (aa lD) (bD _))
  (ah (cW (ba (jg hr.u65) (ae (pv 6)) (ae (pv 2)) (by with_unfolding_all rfl))
  (ah (cW (ba (hV hr.units) (aa (aR du (by rfl) Gw bt_len (af (ae (pv 2)) ao))) (ae (pv 1)) (bD _))
  (av (aT lD))
  a9)
  (av (cT (bP (pv 2) (aD (pv 6))))))
  a9)
  (av (cT (bP (pv 3) (cH (ax (aD (pv 4)) (ax (aD (pv 5)) (ax (vW T4 Ux (jh hr.u65) (ae (pv 2)) (af (ae (pv 6)) ao)) aN))))))))
  a9))))
  (av (aH (i:=4) dA.nd rfl (lo rfl) (aG aK (ae (pv 4)) (aa aj))))))
  (av (aT (cH (ax (aR (jE rfl) (by rfl) GF jF (af (ae (pv 3)) ao)) (ax (aD (pv 2)) aN)))))))))
abbrev jm:Stmt:=top 26
theorem fU:FnScope ["_law_script","_law_first","_law_k","_law_number","_law_cell"] ["_law_script","_law_first","_law_k"] (defScope jm):=fs
theorem pY (Df:Def K mg "_law_fold" jm) (Gq:Ct P w K mg base "_law_mixed" 1 (spF K aW)):Ct P w K mg base "_law_fold" 2 (spF K d4):=
 cX Df fU (fun _ _ _ _ _ _=>Ao fun _ _ _=>rfl) fun f Gy A outer s H E hr=>
  (ah (aH (i:=3) fU.nd rfl (lo rfl) (aG aK (aa aj) (ae (pv 2))))
  (ah (dC Sa rfl (cM (CK (ae (pv 0)) (gC (aG aK (ae (pv 1)) (ae (pv 2)))) (gC (aG aK (ae (pv 1)) (aa aj))) (gC aj))) (ay (i:=4) fU.nd rfl (lo rfl))
  (av (aH (i:=3) fU.nd rfl (lo rfl) (aP Gq hr.m (by rfl) (af (aa (aG aK (ae (pv 4)) (ae (pv 3)))) (af (ae (pv 2)) ao))))))
  (av (aT (ja (pv 3))))))
abbrev iA:Stmt:=top 27
theorem cE:FnScope ["_law_number","_law_count","_law_takes","_law_gives","_law_j","_law_mixed_here","_law_step_here","_law_loop"] ["_law_number","_law_count"] (defScope iA):=fs
theorem oy (Df:Def K mg "_law_place" iA) (Gq:Ct P w K mg base "_law_mixed" 1 (spF K aW)) (GX:mg "max" = none) (Gm:mg "range" = none):Ct P w K mg base "_law_place" 2 (spF K dG):=
 cX Df cE (fun _ _ _ _ _ _=>oM fun _ _=>rfl) fun f Gy A outer s H E hr=>
  (ah (aH (i:=2) cE.nd rfl (lo rfl) (cI aN))
  (ah (aH (i:=3) cE.nd rfl (lo rfl) (cI aN))
  (ah (dC Sa rfl (cG (by rfl) Gm (ae (pv 1))) (ay (i:=4) cE.nd rfl (lo rfl))
  (ah (aH (i:=5) cE.nd rfl (lo rfl) (aP Gq hr.m (by rfl) (af (ae (pv 0)) (af (ae (pv 4)) ao))))
  (ah (aH (i:=6) cE.nd rfl (lo rfl) (aG hJ (aa (aG bO (ae (pv 5)) (aa aj))) (aa aj)))
  (ah (aH (i:=7) cE.nd rfl (lo rfl) (aG cA (aa (aG bO (aa (aG cA (ae (pv 5)) (aa aj))) (aa aj))) (aa aj)))
  (ah (cT (bP (pv 2) (aG aK (aa (aR (lN rfl) (by rfl) GX lT (af (aa aj) (af (aa (aG hJ (aa aj) (ae (pv 6)))) ao)))) (ae (pv 7)))))
  (av (cT (bP (pv 3) (aG aK (aa (aR (lN rfl) (by rfl) GX lT (af (aa aj) (af (ae (pv 6)) ao)))) (ae (pv 7)))))))))))
  (av (aT (Am (aG bO (aa (aG cA (ae (pv 0)) (aa aj))) (aa aj)) (ja (pv 2)) (ja (pv 3))))))))
abbrev gL:Stmt:=top 28
theorem cN:FnScope ["_law_place_here","_law_cell","_law_factor","_law_beads","_law_takes","_law_gives"] ["_law_place_here","_law_cell"] (defScope gL):=fs
theorem mQ (Df:Def K mg "_law_scaled" gL) (Ge:mg "tuple" = none):Ct P w K mg base "_law_scaled" 1 (spF K cB):=
 cX Df cN (fun _ _ _ _ _ _=>oM fun _ _=>rfl) fun f Gy A outer s H E hr=>
  (ah (aH (i:=2) cN.nd rfl (lo rfl) (aG aK (aa aj) (aa (aG bO (ae (pv 1)) (aa (aG vH (aa aj) (aa aj)))))))
  (ah (Cw (aD (pv 0)) (dB rfl (aF (ay (i:=3) cN.nd rfl (lo rfl)) (aF (ay (i:=4) cN.nd rfl (lo rfl)) (aF (ay (i:=5) cN.nd rfl (lo rfl)) cp)))))
  (ah (aH (i:=4) cN.nd rfl (lo rfl) (br cj (by rfl) Ge bR (af (aa (aY [none,some 2] ["_law_take","_law_factor"] rfl (cR (eO (pv 4)) (cR (a0 (gc (aD (pv 4)))) (a0 (gj (aD (pv 4)))))) (fun _ _ _ _ _=>(ay (i:=0) (show List.Nodup (["_law_take","_law_factor"]:List Str) from by decide +kernel) rfl (lo rfl))) (fun _ _ _ _ _=>bc) (fun _ _ _ _ _=>(aG dX (ae (pv 1)) (ae (pv 0)))))) ao)))
  (av (aT (cH (ax (aG aK (aa (aG dX (ae (pv 2)) (ae (pv 3)))) (aa (aG bO (aa (aG cA (ae (pv 1)) (aa aj))) (ae (pv 2))))) (ax (aD (pv 4)) (ax (br cj (by rfl) Ge bR (af (aa (aY [none,some 2] ["_law_give","_law_factor"] rfl (cR (eO (pv 5)) (cR (a0 (gc (aD (pv 5)))) (a0 (gj (aD (pv 5)))))) (fun _ _ _ _ _=>(ay (i:=0) (show List.Nodup (["_law_give","_law_factor"]:List Str) from by decide +kernel) rfl (lo rfl))) (fun _ _ _ _ _=>bc) (fun _ _ _ _ _=>(aG dX (ae (pv 1)) (ae (pv 0)))))) ao)) aN)))))))))
abbrev gM:Stmt:=top 29
theorem cO:FnScope ["_law_script","_law_first","_law_count","_law_places_here","_law_k","_law_number","_law_place_here","_law_mate"] ["_law_script","_law_first","_law_count"] (defScope gM):=fs
theorem mR (Df:Def K mg "_law_places" gM) (Gg:Ct P w K mg base "_law_cell_at" 1 (spF K aE)) (JY:Ct P w K mg base "_law_fold" 2 (spF K d4)) (JA:Ct P w K mg base "_law_place" 2 (spF K dG)) (HX:Ct P w K mg base "_law_scaled" 1 (spF K cB)) (Gm:mg "range" = none):Ct P w K mg base "_law_places" 3 (spF K cY):=
 cX Df cO (fun _ _ _ _ _ _=>Ao fun _ _ _=>rfl) fun f Gy A outer s H E hr=>
  (ah (aH (i:=3) cO.nd rfl (lo rfl) (cI aN))
  (ah (dC Sa rfl (cG (by rfl) Gm (aa (aG aK (aa aj) (aa (aG bO (aa (aG cA (aa (aP Gg hr.m (by rfl) (af (ae (pv 0)) (af (aa aj) ao)))) (aa aj))) (aa aj)))))) (ay (i:=4) cO.nd rfl (lo rfl))
  (ah (aH (i:=5) cO.nd rfl (lo rfl) (aP JY hr.m (by rfl) (af (ae (pv 0)) (af (ae (pv 1)) (af (ae (pv 4)) ao)))))
  (ah (aH (i:=6) cO.nd rfl (lo rfl) (aP JA hr.m (by rfl) (af (ae (pv 5)) (af (ae (pv 2)) ao))))
  (ah (cT (bP (pv 3) (aP HX hr.m (by rfl) (af (ae (pv 6)) (af (aa (aP Gg hr.m (by rfl) (af (ae (pv 0)) (af (aa (aG aK (ae (pv 1)) (ae (pv 4)))) ao)))) ao)))))
  (av (cW (m6 Ep (aa (aG bO (aa (aG cA (ae (pv 5)) (aa aj))) (aa aj))) (aa aj) (bD _))
  (ah (aH (i:=7) cO.nd rfl (lo rfl) (cH (ax (aG bO (aa (aG cA (ae (pv 5)) (aa aj))) (aa aj)) (ax (aQ (aa (aD (pv 6))) (aa aj)) (ax (aQ (aa (aD (pv 6))) (aa aj)) aN)))))
  (av (cT (bP (pv 3) (aP HX hr.m (by rfl) (af (ae (pv 7)) (af (aa (aP Gg hr.m (by rfl) (af (ae (pv 0)) (af (aa (aG aK (aa (aG aK (ae (pv 1)) (aa aj))) (ae (pv 4)))) ao)))) ao)))))))
  a9))))))
  (av (aT (ja (pv 3))))))
abbrev iC:Stmt:=top 30
theorem dR:FnScope ["_law_script","_law_names_here","_law_cell","_law_count","_law_start"] ["_law_script"] (defScope iC):=fs
theorem oz (Df:Def K mg "_law_moves" iC) (Gg:Ct P w K mg base "_law_cell_at" 1 (spF K aE)) (JB:Ct P w K mg base "_law_names" 2 (spF K dF)) (Ge:mg "tuple" = none):Ct P w K mg base "_law_moves" 3 (spF K dH):=
 cX Df dR (fun _ _ _ _ _ _=>xM fun _=>rfl) fun f Gy A outer s H E hr=>
  (ah (aH (i:=1) dR.nd rfl (lo rfl) (aP JB hr.m (by rfl) (af (aa (aP Gg hr.m (by rfl) (af (ae (pv 0)) (af (aa aj) ao)))) ao)))
  (ah (aH (i:=2) dR.nd rfl (lo rfl) (aP Gg hr.m (by rfl) (af (ae (pv 0)) (af (aa aj) ao))))
  (ah (aH (i:=3) dR.nd rfl (lo rfl) (aG aK (aa aj) (aa (aG bO (ae (pv 2)) (aa aj)))))
  (ah (aH (i:=4) dR.nd rfl (lo rfl) (aG bO (aa (aG cA (ae (pv 2)) (aa aj))) (aa (aG hJ (aa aj) (ae (pv 3))))))
  (av (aT (br cj (by rfl) Ge bR (af (aa (pH (ae (pv 1)) (gC (aD (pv 4))) (gC (aG aK (ae (pv 4)) (ae (pv 3)))))) ao))))))))
abbrev km:Stmt:=top 31
theorem d9:FnScope ["_law_script","_law_first","_law_moves_here","_law_count","_law_places_here","_law_ones","_law_noughts"] ["_law_script","_law_first"] (defScope km):=fs
theorem qI (Df:Def K mg "_law_net" km) (JC:Ct P w K mg base "_law_moves" 3 (spF K dH)) (Jl:Ct P w K mg base "_law_places" 3 (spF K cY)) (GQ:Ct P w K mg base "_law_run" 2 (spF K bJ)) (Gw:mg "len" = none) (Ge:mg "tuple" = none):Ct P w K mg base "_law_net" 4 (spF K d5):=
 cX Df d9 (fun _ _ _ _ _ _=>oM fun _ _=>rfl) fun f Gy A outer s H E hr=>
  (ah (aH (i:=2) d9.nd rfl (lo rfl) (aP JC hr.m (by rfl) (af (ae (pv 0)) ao)))
  (ah (aH (i:=3) d9.nd rfl (lo rfl) (aR du (by rfl) Gw bt_len (af (ae (pv 2)) ao)))
  (ah (aH (i:=4) d9.nd rfl (lo rfl) (aP Jl hr.m (by rfl) (af (ae (pv 0)) (af (ae (pv 1)) (af (ae (pv 3)) ao)))))
  (ah (cW (ba rR (aa (aP GQ hr.m (by rfl) (af (aa (cH (ax (aD (pv 2)) (ax (aD (pv 4)) aN)))) (af (aa aj) ao)))) (aa lD) (bD _))
  (av (aT (cH (ax (aD (pv 2)) (ax (aD (pv 4)) aN)))))
  a9)
  (ah (aH (i:=5) d9.nd rfl (lo rfl) (br cj (by rfl) Ge bR (af (aa (aY [none] ["_law_move"] rfl (cR (eO (pv 2)) (cR (a0 (gc (aD (pv 2)))) (a0 (gj (aD (pv 2)))))) (fun _ _ _ _ _=>(ay (i:=0) (show List.Nodup (["_law_move"]:List Str) from by decide +kernel) rfl (lo rfl))) (fun _ _ _ _ _=>bc) (fun _ _ _ _ _=>aj))) ao)))
  (ah (aH (i:=6) d9.nd rfl (lo rfl) (br cj (by rfl) Ge bR (af (aa (aY [none] ["_law_move"] rfl (cR (eO (pv 2)) (cR (a0 (gc (aD (pv 2)))) (a0 (gj (aD (pv 2)))))) (fun _ _ _ _ _=>(ay (i:=0) (show List.Nodup (["_law_move"]:List Str) from by decide +kernel) rfl (lo rfl))) (fun _ _ _ _ _=>bc) (fun _ _ _ _ _=>aj))) ao)))
  (ah (cW (ba rR (aa (aP GQ hr.m (by rfl) (af (aa (cH (ax (aD (pv 2)) (ax (aG aK (ae (pv 4)) (aa (cI (ax (cH (ax aj (ax (aD (pv 5)) (ax (aD (pv 6)) aN)))) aN)))) aN)))) (af (aa aj) ao)))) (aa lD) (bD _))
  (av (aT (cH (ax (aD (pv 2)) (ax (aG aK (ae (pv 4)) (aa (cI (ax (cH (ax aj (ax (aD (pv 5)) (ax (aD (pv 6)) aN)))) aN)))) aN)))))
  a9)
  (av (aT (cH (ax (aD (pv 2)) (ax (aG aK (ae (pv 4)) (aa (cI (ax (cH (ax aj (ax (aD (pv 5)) (ax (aD (pv 6)) aN)))) aN)))) aN))))))))))))
abbrev gN:Stmt:=top 32
theorem a8:FnScope ["_law_arcs","_law_order","_law_done","_law_one","_law_move","_law_other","_law_kept","_law_arc"] ["_law_arcs"] (defScope gN):=fs
theorem mS (Df:Def K mg "_law_tidied" gN) (Gw:mg "len" = none) (GF:mg "sorted" = none):Ct P w K mg base "_law_tidied" 1 (spF K cC):=
 cX Df a8 (fun _ _ _ _ _ _=>xM fun _=>rfl) fun f Gy A outer s H E hr=>
  (ah (aH (i:=1) a8.nd rfl (lo rfl) (cI (ax aj aN)))
  (ah (aH (i:=2) a8.nd rfl (lo rfl) aj)
  (ah (lj 100000 Sa (m6 (pD hr.units0) (ae (pv 2)) (aa (aR du (by rfl) Gw bt_len (af (ae (pv 1)) ao))) (bD _))
  (ah (dC Sa rfl (cM (aR (jE rfl) (by rfl) GF jF (af (ae (pv 0)) ao))) (dB rfl (aF (ay (i:=3) a8.nd rfl (lo rfl)) (aF (ay (i:=4) a8.nd rfl (lo rfl)) (aF (ay (i:=5) a8.nd rfl (lo rfl)) cp))))
  (av (cW (QW.qt (rK (ba (hV hr.units) (ae (pv 3)) (aa (aQ (ae (pv 1)) (ae (pv 2)))) (bD _)) (nR (ba (jg hr.u65) (ae (pv 5)) (ae (pv 1)) (by with_unfolding_all rfl)))))
  (av (cT (bP (pv 1) (aD (pv 5)))))
  a9)))
  (av (aH (i:=2) a8.nd rfl (lo rfl) (aG aK (ae (pv 2)) (aa aj))))))
  (ah (aH (i:=6) a8.nd rfl (lo rfl) (cI aN))
  (ah (dC Sa rfl (cM (aD (pv 0))) (dB rfl (aF (ay (i:=3) a8.nd rfl (lo rfl)) (aF (ay (i:=4) a8.nd rfl (lo rfl)) (aF (ay (i:=5) a8.nd rfl (lo rfl)) cp))))
  (av (cW (ba (rY hr.u65) (ae (pv 3)) (ae (pv 1)) (by with_unfolding_all rfl))
  (ah (aH (i:=7) a8.nd rfl (lo rfl) (cH (ax (vW T4 Ux (jh hr.u65) (ae (pv 1)) (af (ae (pv 3)) ao)) (ax (aD (pv 4)) (ax (vW T4 Ux (jh hr.u65) (ae (pv 1)) (af (ae (pv 5)) ao)) aN)))))
  (av (cW (ba (jg hr.u65) (ae (pv 7)) (ae (pv 6)) (by with_unfolding_all rfl))
  (av (cT (bP (pv 6) (aD (pv 7)))))
  a9)))
  a9)))
  (av (aT (aR (jE rfl) (by rfl) GF jF (af (ae (pv 6)) ao)))))))))
abbrev jo:Stmt:=top 33
theorem b6:FnScope ["_law_moves_here","_law_arcs","_law_number","_law_count","_law_other","_law_move","_law_spot","_law_arc","_law_rest","_law_gone","_law_ends"] ["_law_moves_here","_law_arcs","_law_number"] (defScope jo):=fs
theorem pZ (Df:Def K mg "_law_bent" jo) (Gw:mg "len" = none) (GX:mg "max" = none) (Hj:mg "min" = none) (Gm:mg "range" = none):Ct P w K mg base "_law_bent" 1 (spF K d6):=
 cX Df b6 (fun _ _ _ _ _ _=>Ao fun _ _ _=>rfl) fun f Gy A outer s H E hr=>
  (ah (aH (i:=3) b6.nd rfl (lo rfl) (aG aK (aa aj) (aa (aR (lN rfl) (by rfl) GX lT (af (aa (aG aK (aa (cI (ax aj aN))) (aa (aY [none] ["_law_arc"] rfl (cR (eO (pv 1)) (cR (a0 (gc (aD (pv 1)))) (a0 (gj (aD (pv 1)))))) (fun _ _ _ _ _=>(ay (i:=0) (show List.Nodup (["_law_arc"]:List Str) from by decide +kernel) rfl (lo rfl))) (fun _ _ _ _ _=>bc) (fun _ _ _ _ _=>(aR (lN rfl) (by rfl) GX lT (af (aa (aQ (ae (pv 0)) (aa aj))) (af (aa (aQ (ae (pv 0)) (aa aj))) ao)))))))) ao)))))
  (ah (aH (i:=4) b6.nd rfl (lo rfl) (aG bO (aa (aG cA (ae (pv 2)) (aa aj))) (aa (aR (pI rfl) (by rfl) Hj pF (af (aa (aG aK (ae (pv 3)) (aa aj))) (af (aa aj) ao))))))
  (ah (aH (i:=5) b6.nd rfl (lo rfl) (aQ (ae (pv 0)) (aa (aG bO (aa (aG cA (ae (pv 2)) (aa aj))) (aa (aR du (by rfl) Gw bt_len (af (ae (pv 0)) ao)))))))
  (ah (cW (QW.qt (pq (ba (hV hr.units) (ae (pv 1)) (aa (cI aN)) (bD _)) (lE (ba (hV hr.units) (aa (aG bO (ae (pv 2)) (aa aj))) (aa aj) (bD _)))))
  (av (aT (aG aK (ae (pv 1)) (aa (cI (ax (cH (ax (aG bO (aa (aG cA (ae (pv 2)) (aa aj))) (ae (pv 3))) (ax (aD (pv 5)) (ax (aD (pv 4)) aN)))) aN))))))
  a9)
  (ah (aH (i:=6) b6.nd rfl (lo rfl) (aG bO (aa (aG cA (ae (pv 2)) (aa aj))) (aa (aR du (by rfl) Gw bt_len (af (ae (pv 1)) ao)))))
  (ah (aH (i:=7) b6.nd rfl (lo rfl) (aQ (ae (pv 1)) (ae (pv 6))))
  (ah (aH (i:=8) b6.nd rfl (lo rfl) (aG aK (aa (pH (ae (pv 1)) nW (gC (aD (pv 6))))) (aa (pH (ae (pv 1)) (gC (aG aK (ae (pv 6)) (aa aj))) nW))))
  (ah (cW (ba (hV hr.units) (aa (aG bO (ae (pv 2)) (aa aj))) (aa aj) (bD _))
  (av (aT (ja (pv 8))))
  a9)
  (ah (cW (ba (hV hr.units) (aa (aG bO (ae (pv 2)) (aa aj))) (aa aj) (bD _))
  (av (aT (aG aK (ae (pv 8)) (aa (cI (ax (cH (ax (aQ (ae (pv 7)) (aa aj)) (ax (aQ (ae (pv 7)) (aa aj)) (ax (aD (pv 4)) aN)))) aN))))))
  a9)
  (ah (cW (QW.qt (pq (ba (hV hr.units) (aa (aG bO (ae (pv 2)) (aa aj))) (aa aj) (bD _)) (lE (ba (hV hr.units) (ae (pv 3)) (aa aj) (bD _)))))
  (av (aT (aG aK (ae (pv 8)) (aa (cI (ax (cH (ax (aQ (ae (pv 7)) (aa aj)) (ax (aD (pv 5)) (ax (aQ (ae (pv 7)) (aa aj)) aN)))) aN))))))
  a9)
  (ah (aH (i:=9) b6.nd rfl (lo rfl) (aG aK (aa aj) (aa (aG bO (aa (aG cA (ae (pv 2)) (aa aj))) (aa (aG hJ (ae (pv 3)) (aa aj)))))))
  (ah (aH (i:=10) b6.nd rfl (lo rfl) (aY [none] ["_law_k"] rfl (a0 (cG (by rfl) Gm (ae (pv 3)))) (fun _ _ _ _ _=>(ay (i:=0) (show List.Nodup (["_law_k"]:List Str) from by decide +kernel) rfl (lo rfl))) (fun _ _ _ _ _=>bc) (fun _ _ _ _ _=>(aD (pv 0)))))
  (ah (vT (pv 10) (aD (pv 9)) (aG bO (ae (pv 4)) (ae (pv 3))))
  (av (aT (aY [none,none,none,some 10] ["_law_one","_law_name","_law_two","_law_ends"] rfl (cR (eO (pv 1)) (cR (a0 (gc (aD (pv 1)))) (a0 (gj (aD (pv 1)))))) (fun _ _ _ _ _=>(have h:=(show List.Nodup (["_law_one","_law_name","_law_two","_law_ends"]:List Str) from by decide +kernel);(dB rfl (aF (ay (i:=0) h rfl (lo rfl)) (aF (ay (i:=1) h rfl (lo rfl)) (aF (ay (i:=2) h rfl (lo rfl)) cp)))))) (fun _ _ _ _ _=>bc) (fun _ _ _ _ _=>(cH (ax (aQ (ae (pv 3)) (ae (pv 0))) (ax (aD (pv 1)) (ax (aQ (ae (pv 3)) (ae (pv 2))) aN)))))))))))))))))))))
abbrev eh:Stmt:=top 34
theorem b7:FnScope ["_law_script","_law_net_here","_law_first","_law_arcs","_law_k","_law_number"] ["_law_script","_law_net_here","_law_first"] (defScope eh):=fs
theorem jQ (Df:Def K mg "_law_bent_chart" eh) (JZ:Ct P w K mg base "_law_bent" 1 (spF K d6)) (Gg:Ct P w K mg base "_law_cell_at" 1 (spF K aE)) (Gq:Ct P w K mg base "_law_mixed" 1 (spF K aW)) (GQ:Ct P w K mg base "_law_run" 2 (spF K bJ)) (HY:Ct P w K mg base "_law_tidied" 1 (spF K cC)) (Gm:mg "range" = none):Ct P w K mg base "_law_bent_chart" 3 (spF K bg):=
 cX Df b7 (fun _ _ _ _ _ _=>Ao fun _ _ _=>rfl) fun f Gy A outer s H E hr=>
  (ah (aH (i:=3) b7.nd rfl (lo rfl) (aQ (aa (aP GQ hr.m (by rfl) (af (ae (pv 1)) (af (aa aj) ao)))) (aa aj)))
  (ah (dC Sa rfl (vF (by rfl) Gm (af (ae (pv 2)) (af (aa (aG aK (ae (pv 2)) (aa aj))) ao))) (ay (i:=4) b7.nd rfl (lo rfl))
  (ah (aH (i:=5) b7.nd rfl (lo rfl) (aP Gq hr.m (by rfl) (af (aa (aP Gg hr.m (by rfl) (af (ae (pv 0)) (af (ae (pv 4)) ao)))) (af (ae (pv 4)) ao))))
  (av (cW (ba (hV hr.units) (aa (aG bO (aa (aG cA (ae (pv 5)) (aa aj))) (aa aj))) (aa aj) (bD _))
  (av (aH (i:=3) b7.nd rfl (lo rfl) (aP HY hr.m (by rfl) (af (aa (aP JZ hr.m (by rfl) (af (aa (aQ (ae (pv 1)) (aa aj))) (af (ae (pv 3)) (af (aa (aG cA (ae (pv 5)) (aa aj))) ao))))) ao))))
  a9))))
  (av (aT (cH (ax (aQ (ae (pv 1)) (aa aj)) (ax (aP HY hr.m (by rfl) (af (ae (pv 3)) ao)) aN)))))))
abbrev gO:Stmt:=top 35
theorem aV:FnScope ["_law_chart","_law_row","_law_levels_here","_law_fresh","_law_one","_law_move","_law_other","_law_step_here"] ["_law_chart","_law_row"] (defScope gO):=fs
theorem mT (Df:Def K mg "_law_levels" gO) (Gw:mg "len" = none) (Gm:mg "range" = none):Ct P w K mg base "_law_levels" 1 (spF K bj):=
 cX Df aV (fun _ _ _ _ _ _=>oM fun _ _=>rfl) fun f Gy A outer s H E hr=>
  (ah (aH (i:=2) aV.nd rfl (lo rfl) (rX aj aj))
  (ah (aH (i:=3) aV.nd rfl (lo rfl) jy)
  (ah (lj 100000 Sa (f6 (aD (pv 3)))
  (ah (aH (i:=3) aV.nd rfl (lo rfl) jy)
  (av (dC Sa rfl (cM (aQ (ae (pv 0)) (aa aj))) (dB rfl (aF (ay (i:=4) aV.nd rfl (lo rfl)) (aF (ay (i:=5) aV.nd rfl (lo rfl)) (aF (ay (i:=6) aV.nd rfl (lo rfl)) cp))))
  (ah (aH (i:=7) aV.nd rfl (lo rfl) (aQ (ae (pv 1)) (aa (rT TV Up je (aa (aQ (ae (pv 0)) (aa aj))) (af (ae (pv 5)) ao)))))
  (av (cW (QW.qt (rK (ba (rY hr.u65) (ae (pv 4)) (ae (pv 2)) (by with_unfolding_all rfl)) (nR (ba (jg hr.u65) (ae (pv 6)) (ae (pv 2)) (by with_unfolding_all rfl)))))
  (ah (yF (hu_of hr) (pv 2) (aD (pv 6)) (aG aK (aa (tX (hu_of hr) (ae (pv 2)) (ae (pv 4)))) (ae (pv 7))))
  (av (aH (i:=3) aV.nd rfl (lo rfl) jy)))
  a9)))))))
  (ah (dC Sa rfl (cM (aQ (ae (pv 0)) (aa aj))) (dB rfl (aF (ay (i:=4) aV.nd rfl (lo rfl)) (aF (ay (i:=5) aV.nd rfl (lo rfl)) (aF (ay (i:=6) aV.nd rfl (lo rfl)) cp))))
  (ah (aH (i:=7) aV.nd rfl (lo rfl) (aQ (ae (pv 1)) (aa (rT TV Up je (aa (aQ (ae (pv 0)) (aa aj))) (af (ae (pv 5)) ao)))))
  (av (cW (ba (qu hr.units) (aa (tX (hu_of hr) (ae (pv 2)) (ae (pv 6)))) (aa (aG aK (aa (tX (hu_of hr) (ae (pv 2)) (ae (pv 4)))) (ae (pv 7)))) (bD _))
  (av (aT lD))
  a9))))
  (av (aT (aY [none,some 2] ["_law_k","_law_levels_here"] rfl (a0 (cG (by rfl) Gm (aa (aR du (by rfl) Gw bt_len (af (ae (pv 2)) ao))))) (fun _ _ _ _ _=>(ay (i:=0) (show List.Nodup (["_law_k","_law_levels_here"]:List Str) from by decide +kernel) rfl (lo rfl))) (fun _ _ _ _ _=>bc) (fun _ _ _ _ _=>(tX (hu_of hr) (ae (pv 1)) (ae (pv 0)))))))))))
abbrev eB:Stmt:=top 36
theorem dS:FnScope ["_law_chart","_law_row","_law_used","_law_k"] ["_law_chart","_law_row"] (defScope eB):=fs
theorem jR (Df:Def K mg "_law_is_stretch" eB) (GH:Ct P w K mg base "_law_levels" 1 (spF K bj)) (Gw:mg "len" = none) (Gm:mg "range" = none):Ct P w K mg base "_law_is_stretch" 2 (spF K bS):=
 cX Df dS (fun _ _ _ _ _ _=>oM fun _ _=>rfl) fun f Gy A outer s H E hr=>
  (ah (gH (i:=2) [none,none,none] ["_law_one","_law_move","_law_other"] dS.nd rfl (lo rfl) rfl (a0 (cM (aQ (ae (pv 0)) (aa aj)))) (fun _ _ _ _ _=>(have h:=(show List.Nodup (["_law_one","_law_move","_law_other"]:List Str) from by decide +kernel);(dB rfl (aF (ay (i:=0) h rfl (lo rfl)) (aF (ay (i:=1) h rfl (lo rfl)) (aF (ay (i:=2) h rfl (lo rfl)) cp)))))) (fun _ _ _ _ _=>bc) (fun _ _ _ _ _=>(aD (pv 1))))
  (ah (dC Sa rfl (cG (by rfl) Gm (aa (aR du (by rfl) Gw bt_len (af (ae (pv 1)) ao)))) (ay (i:=3) dS.nd rfl (lo rfl))
  (av (cW (QW.qt (rK (ba (qu hr.units) (aa (aQ (ae (pv 1)) (ae (pv 3)))) (aa aj) (bD _)) (nR (ba (jg hr.u65) (aa (aQ (aa (aQ (ae (pv 0)) (aa aj))) (ae (pv 3)))) (ae (pv 2)) (by with_unfolding_all rfl)))))
  (av (aT jy))
  a9)))
  (av (aT (j6 rR (aa (aP GH hr.m (by rfl) (af (ae (pv 0)) (af (ae (pv 1)) ao)))) (aa lD) (bD _))))))
abbrev eU:Stmt:=top 37
theorem bh:FnScope ["_law_chart","_law_row","_law_levels_here","_law_low","_law_there","_law_takes","_law_gives","_law_k","_law_most"] ["_law_chart","_law_row"] (defScope eU):=fs
theorem kn (Df:Def K mg "_law_place_due" eU) (GH:Ct P w K mg base "_law_levels" 1 (spF K bj)) (Gw:mg "len" = none) (GX:mg "max" = none) (Hj:mg "min" = none) (Gm:mg "range" = none) (Ge:mg "tuple" = none):Ct P w K mg base "_law_place_due" 2 (spF K bL):=
 cX Df bh (fun _ _ _ _ _ _=>oM fun _ _=>rfl) fun f Gy A outer s H E hr=>
  (ah (aH (i:=2) bh.nd rfl (lo rfl) (aP GH hr.m (by rfl) (af (ae (pv 0)) (af (ae (pv 1)) ao))))
  (ah (aH (i:=3) bh.nd rfl (lo rfl) (aR (pI rfl) (by rfl) Hj pF (af (ae (pv 2)) ao)))
  (ah (aH (i:=4) bh.nd rfl (lo rfl) (aY [none,some 3] ["_law_level","_law_low"] rfl (cR (eO (pv 2)) (cR (a0 (gc (aD (pv 2)))) (a0 (gj (aD (pv 2)))))) (fun _ _ _ _ _=>(ay (i:=0) (show List.Nodup (["_law_level","_law_low"]:List Str) from by decide +kernel) rfl (lo rfl))) (fun _ _ _ _ _=>bc) (fun _ _ _ _ _=>(aG hJ (ae (pv 0)) (ae (pv 1))))))
  (ah (aH (i:=5) bh.nd rfl (lo rfl) (cI aN))
  (ah (aH (i:=6) bh.nd rfl (lo rfl) (cI aN))
  (ah (dC Sa rfl (cG (by rfl) Gm (aa (aR du (by rfl) Gw bt_len (af (ae (pv 1)) ao)))) (ay (i:=7) bh.nd rfl (lo rfl))
  (ah (gH (i:=8) [none,none,none,some 4,some 7,some 0] ["_law_one","_law_move","_law_other","_law_there","_law_k","_law_chart"] bh.nd rfl (lo rfl) rfl (a0 (cM (aQ (ae (pv 0)) (aa aj)))) (fun _ _ _ _ _=>(have h:=(show List.Nodup (["_law_one","_law_move","_law_other","_law_there","_law_k","_law_chart"]:List Str) from by decide +kernel);(dB rfl (aF (ay (i:=0) h rfl (lo rfl)) (aF (ay (i:=1) h rfl (lo rfl)) (aF (ay (i:=2) h rfl (lo rfl)) cp)))))) (fun _ _ _ _ _=>(vG (ba (hV hr.units) (ae (pv 1)) (aa (aQ (aa (aQ (ae (pv 5)) (aa aj))) (ae (pv 4)))) (bD _)))) (fun _ _ _ _ _=>(aQ (ae (pv 3)) (ae (pv 0)))))
  (ah (cT (bP (pv 5) (aR (pI rfl) (by rfl) Hj pF (af (aa (aG aK (ae (pv 8)) (aa (cI (ax (aG aK (aa (aR (lN rfl) (by rfl) GX lT (af (ae (pv 4)) ao))) (aa aj)) aN))))) ao))))
  (av (cT (bP (pv 6) (aG aK (aa (aQ (ae (pv 5)) (ae (pv 7)))) (aa (aQ (ae (pv 1)) (ae (pv 7)))))))))))
  (av (aT (cH (ax (aQ (ae (pv 4)) (aa aj)) (ax (br cj (by rfl) Ge bR (af (ae (pv 5)) ao)) (ax (br cj (by rfl) Ge bR (af (ae (pv 6)) ao)) aN))))))))))))
abbrev iE:Stmt:=top 38
theorem oA:FnScope ["_law_found"] ["_law_found"] (defScope iE):=fs
theorem oB (Df:Def K mg "_law_whole" iE) (Jd:mg "bool" = none) (Je:mg "int" = none) (Gn:mg "isinstance" = none):Ct P w K mg base "_law_whole" 1 (spF K m__law_whole):=
 cX Df oA (fun _ _ _ _ _ _=>xM fun _=>rfl) fun f Gy A outer s H E hr=>
  (av (aT (B7 (tV (T:="int") (by decide) (ae (pv 0)) (by rfl) Gn (by rfl) Je yn) (yy (B8 (tV (T:="bool") (by decide) (ae (pv 0)) (by rfl) Gn (by rfl) Jd zk))))))
abbrev fI:Stmt:=top 39
theorem gZ:FnScope ["_law_found","_law_due","_law_number"] ["_law_found","_law_due"] (defScope fI):=fs
theorem k7 (Df:Def K mg "_law_is_place" fI) (GZ:Ct P w K mg base "_law_whole" 1 (spF K m__law_whole)) (Gn:mg "isinstance" = none) (Ge:mg "tuple" = none):Ct P w K mg base "_law_is_place" 2 (spF K cv):=
 cX Df gZ (fun _ _ _ _ _ _=>oM fun _ _=>rfl) fun f Gy A outer s H E hr=>
  (ah (cW (QW.qt (pq (iW (f6 (tV (T:="tuple") (by decide) (ae (pv 0)) (by rfl) Gn (by rfl) Ge bR))) (pq (ba (qu hr.units) (ae (pv 0)) (ae (pv 1)) (bD _)) (lE (iW (f6 (aP GZ hr.m (by rfl) (af (aa (aQ (ae (pv 0)) (aa aj))) ao))))))))
  (av (aT jy))
  a9)
  (ah (cW (QW.qt (pq (iW (f6 (tV (T:="tuple") (by decide) (aa (aQ (ae (pv 0)) (aa aj))) (by rfl) Gn (by rfl) Ge bR))) (lE (iW (f6 (tV (T:="tuple") (by decide) (aa (aQ (ae (pv 0)) (aa aj))) (by rfl) Gn (by rfl) Ge bR))))))
  (av (aT jy))
  a9)
  (ah (dC Sa rfl (cM (aG aK (aa (aQ (ae (pv 0)) (aa aj))) (aa (aQ (ae (pv 0)) (aa aj))))) (ay (i:=2) gZ.nd rfl (lo rfl))
  (av (cW (iW (f6 (aP GZ hr.m (by rfl) (af (ae (pv 2)) ao))))
  (av (aT jy))
  a9)))
  (av (aT jy)))))
abbrev jq:Stmt:=top 40
theorem bC:FnScope ["_law_script","_law_chart","_law_net_here","_law_used","_law_rows_here","_law_beads","_law_takes","_law_gives","_law_row","_law_times","_law_number","_law_one","_law_other"] ["_law_script","_law_chart","_law_net_here"] (defScope jq):=fs
theorem p3 (Df:Def K mg "_law_rows" jq) (Gg:Ct P w K mg base "_law_cell_at" 1 (spF K aE)) (Iu:Ct P w K mg base "_law_is_stretch" 2 (spF K bS)) (Gq:Ct P w K mg base "_law_mixed" 1 (spF K aW)) (Je:mg "int" = none) (Gw:mg "len" = none) (Gm:mg "range" = none) (Ge:mg "tuple" = none):Ct P w K mg base "_law_rows" 3 (spF K d7):=
 cX Df bC (fun _ _ _ _ _ _=>Ao fun _ _ _=>rfl) fun f Gy A outer s H E hr=>
  (ah (aH (i:=3) bC.nd rfl (lo rfl) (aY [none,none,none] ["_law_one","_law_move","_law_other"] rfl (a0 (cM (aQ (ae (pv 1)) (aa aj)))) (fun _ _ _ _ _=>(have h:=(show List.Nodup (["_law_one","_law_move","_law_other"]:List Str) from by decide +kernel);(dB rfl (aF (ay (i:=0) h rfl (lo rfl)) (aF (ay (i:=1) h rfl (lo rfl)) (aF (ay (i:=2) h rfl (lo rfl)) cp)))))) (fun _ _ _ _ _=>bc) (fun _ _ _ _ _=>(aD (pv 1)))))
  (ah (aH (i:=4) bC.nd rfl (lo rfl) (cI (ax (br cj (by rfl) Ge bR (af (aa (aY [none] ["_law_move"] rfl (a0 (cM (aQ (ae (pv 1)) (aa aj)))) (fun _ _ _ _ _=>(ay (i:=0) (show List.Nodup (["_law_move"]:List Str) from by decide +kernel) rfl (lo rfl))) (fun _ _ _ _ _=>bc) (fun _ _ _ _ _=>aj))) ao)) aN)))
  (ah (dC Sa rfl (cM (aQ (ae (pv 2)) (aa aj))) (dB rfl (aF (ay (i:=5) bC.nd rfl (lo rfl)) (aF (ay (i:=6) bC.nd rfl (lo rfl)) (aF (ay (i:=7) bC.nd rfl (lo rfl)) cp))))
  (ah (gH (i:=8) [none,some 7,some 6,some 3,some 1] ["_law_k","_law_gives","_law_takes","_law_used","_law_chart"] bC.nd rfl (lo rfl) rfl (a0 (cG (by rfl) Gm (aa (aR du (by rfl) Gw bt_len (af (ae (pv 6)) ao))))) (fun _ _ _ _ _=>(ay (i:=0) (show List.Nodup (["_law_k","_law_gives","_law_takes","_law_used","_law_chart"]:List Str) from by decide +kernel) rfl (lo rfl))) (fun _ _ _ _ _=>bc) (fun _ _ _ _ _=>(aG dX (aa (aG hJ (aa (aQ (ae (pv 1)) (ae (pv 0)))) (aa (aQ (ae (pv 2)) (ae (pv 0)))))) (aa (br Cn (by rfl) Je yn (af (aa (j6 (rY hr.u65) (aa (aQ (aa (aQ (ae (pv 4)) (aa aj))) (ae (pv 0)))) (ae (pv 3)) (by with_unfolding_all rfl))) ao))))))
  (av (cW (f6 (aP Iu hr.m (by rfl) (af (ae (pv 1)) (af (ae (pv 8)) ao))))
  (av (cT (bP (pv 4) (br cj (by rfl) Ge bR (af (ae (pv 8)) ao)))))
  a9))))
  (ah (aH (i:=9) bC.nd rfl (lo rfl) (aY [none,some 0] ["_law_k","_law_script"] rfl (a0 (cG (by rfl) Gm (aa aj))) (fun _ _ _ _ _=>(ay (i:=0) (show List.Nodup (["_law_k","_law_script"]:List Str) from by decide +kernel) rfl (lo rfl))) (fun _ _ _ _ _=>bc) (fun _ _ _ _ _=>(aG hJ (aa (aG bO (aa (aP Gg hr.m (by rfl) (af (ae (pv 1)) (af (aa (aG aK (aa aj) (ae (pv 0)))) ao)))) (aa (aG dX (aa aj) (aa (aG vH (aa aj) (aa aj))))))) (aa (aG vH (aa aj) (aa aj)))))))
  (ah (aH (i:=10) bC.nd rfl (lo rfl) (aP Gq hr.m (by rfl) (af (aa (aP Gg hr.m (by rfl) (af (ae (pv 0)) (af (aa aj) ao)))) (af (aa aj) ao))))
  (ah (aH (i:=11) bC.nd rfl (lo rfl) (aQ (ae (pv 4)) (aa (aG bO (ae (pv 10)) (aa (aR du (by rfl) Gw bt_len (af (ae (pv 4)) ao)))))))
  (ah (aH (i:=12) bC.nd rfl (lo rfl) (aQ (ae (pv 4)) (aa (aG bO (aa (aG cA (ae (pv 10)) (aa aj))) (aa (aR du (by rfl) Gw bt_len (af (ae (pv 4)) ao)))))))
  (av (aT (aG aK (ae (pv 4)) (aa (cI (ax (br cj (by rfl) Ge bR (af (aa (aY [none,some 9,some 11,some 12] ["_law_k","_law_times","_law_one","_law_other"] rfl (a0 (cG (by rfl) Gm (aa (aR du (by rfl) Gw bt_len (af (ae (pv 11)) ao))))) (fun _ _ _ _ _=>(ay (i:=0) (show List.Nodup (["_law_k","_law_times","_law_one","_law_other"]:List Str) from by decide +kernel) rfl (lo rfl))) (fun _ _ _ _ _=>bc) (fun _ _ _ _ _=>(aG aK (aa (aG dX (aa (aQ (ae (pv 1)) (aa aj))) (aa (aQ (ae (pv 2)) (ae (pv 0)))))) (aa (aG dX (aa (aQ (ae (pv 1)) (aa aj))) (aa (aQ (ae (pv 3)) (ae (pv 0)))))))))) ao)) aN)))))))))))))
abbrev dU:Stmt:=top 41
theorem fJ:FnScope ["_law_found","_law_due","_law_beads"] ["_law_found","_law_due"] (defScope dU):=fs
theorem jr (Df:Def K mg "_law_beads_right" dU) (GZ:Ct P w K mg base "_law_whole" 1 (spF K m__law_whole)) (Gn:mg "isinstance" = none) (Ic:mg "list" = none):Ct P w K mg base "_law_beads_right" 2 (spF K bK):=
 cX Df fJ (fun _ _ _ _ _ _=>oM fun _ _=>rfl) fun f Gy A outer s H E hr=>
  (ah (cW (QW.qt (pq (iW (f6 (tV (T:="list") (by decide) (ae (pv 0)) (by rfl) Gn (by rfl) Ic uT))) (lE (ba (qu hr.units) (ae (pv 0)) (ae (pv 1)) (bD _)))))
  (av (aT jy))
  a9)
  (ah (dC Sa rfl (cM (aD (pv 0))) (ay (i:=2) fJ.nd rfl (lo rfl))
  (av (cW (iW (f6 (aP GZ hr.m (by rfl) (af (ae (pv 2)) ao))))
  (av (aT jy))
  a9)))
  (av (aT jy))))
abbrev oC:Stmt:=top 42
theorem jS:FnScope ["_law_script","_law_net_here","_law_chart","_law_handed","_law_row","_law_levels_here","_law_due","_law_found"] ["_law_script"] (defScope oC):=fs
theorem CM {f:Addr} {fd:FuncData} (F:Fun K "law" "law" oC f fd) (Ie:Ct P w K mg base "_law_beads_right" 2 (spF K bK)) (Iv:Ct P w K mg base "_law_bent_chart" 3 (spF K bg)) (Gg:Ct P w K mg base "_law_cell_at" 1 (spF K aE)) (IT:Ct P w K mg base "_law_is_place" 2 (spF K cv)) (GH:Ct P w K mg base "_law_levels" 1 (spF K bj)) (Km:Ct P w K mg base "_law_net" 4 (spF K d5)) (Hs:Ct P w K mg base "_law_place_due" 2 (spF K bL)) (J0:Ct P w K mg base "_law_rows" 3 (spF K d7)) (GQ:Ct P w K mg base "_law_run" 2 (spF K bJ)) (Hv:Ct P w K mg base "beads_of" 5 (spF K cu)) (Jf:Ct P w K mg base "place_of" 6 (spF K dE)) (Ic:mg "list" = none) (Hj:mg "min" = none):FnOk P w K mg base Li 7 f fd ["_law_script"] (spF K An):=
 fnok_of F jS fun Gy A outer s H E hr=>
  (ah (aH (i:=1) jS.nd rfl (lo rfl) (aP Km hr.m (by rfl) (af (ae (pv 0)) (af (aa aj) ao))))
  (ah (aH (i:=2) jS.nd rfl (lo rfl) (cH (ax (aQ (ae (pv 1)) (aa aj)) (ax (aQ (aa (aP GQ hr.m (by rfl) (af (ae (pv 1)) (af (aa aj) ao)))) (aa aj)) aN))))
  (ah (cW (ba (hV hr.units) (aa (aG bO (aa (aG cA (aa (aP Gg hr.m (by rfl) (af (ae (pv 0)) (af (aa aj) ao)))) (aa aj))) (aa aj))) (aa aj) (bD _))
  (av (aH (i:=2) jS.nd rfl (lo rfl) (aP Iv hr.m (by rfl) (af (ae (pv 0)) (af (ae (pv 1)) (af (aa aj) ao))))))
  a9)
  (ah (aH (i:=3) jS.nd rfl (lo rfl) (cH (ax (aQ (ae (pv 2)) (aa aj)) (ax (br zW (by rfl) Ic uT (af (aa (aQ (ae (pv 2)) (aa aj))) ao)) aN))))
  (ah (dC Sa rfl (cM (aP J0 hr.m (by rfl) (af (ae (pv 0)) (af (ae (pv 2)) (af (ae (pv 1)) ao))))) (ay (i:=4) jS.nd rfl (lo rfl))
  (ah (aH (i:=5) jS.nd rfl (lo rfl) (aP GH hr.m (by rfl) (af (ae (pv 2)) (af (ae (pv 4)) ao))))
  (ah (gH (i:=6) [none,some 5] ["_law_level","_law_levels_here"] jS.nd rfl (lo rfl) rfl (cR (eO (pv 5)) (cR (a0 (gc (aD (pv 5)))) (a0 (gj (aD (pv 5)))))) (fun _ _ _ _ _=>(ay (i:=0) (show List.Nodup (["_law_level","_law_levels_here"]:List Str) from by decide +kernel) rfl (lo rfl))) (fun _ _ _ _ _=>bc) (fun _ _ _ _ _=>(aG hJ (ae (pv 0)) (aa (aR (pI rfl) (by rfl) Hj pF (af (ae (pv 1)) ao))))))
  (ah (aH (i:=7) jS.nd rfl (lo rfl) (aP Hv hr.m (by rfl) (af (ae (pv 3)) (af (ae (pv 4)) ao))))
  (ah (cW (QW.qt (pq (iW (f6 (aP Ie hr.m (by rfl) (af (ae (pv 7)) (af (ae (pv 6)) ao))))) (lE (iW (f6 (aP IT hr.m (by rfl) (af (aa (aP Jf hr.m (by rfl) (af (ae (pv 3)) (af (ae (pv 4)) ao)))) (af (aa (aP Hs hr.m (by rfl) (af (ae (pv 2)) (af (ae (pv 4)) ao)))) ao))))))))
  (av (aT jy))
  a9)
  (ah (cT (xJ (pv 7)))
  (av (cW (QW.qt (pq (ba (qu hr.units) (aa (aP Hv hr.m (by rfl) (af (ae (pv 3)) (af (ae (pv 4)) ao)))) (ae (pv 6)) (bD _)) (lE (ba (qu hr.units) (aa (aP Jf hr.m (by rfl) (af (ae (pv 3)) (af (ae (pv 4)) ao)))) (aa (aP Hs hr.m (by rfl) (af (ae (pv 2)) (af (ae (pv 4)) ao)))) (bD _)))))
  (av (aT jy))
  a9))))))))
  (av (aT (j6 (hV hr.units) (ae (pv 3)) (ae (pv 2)) (bD _)))))))))
end
end LW
namespace PV
open PySem L2 NX
class Cont (α β:Type) where
 run:α->Res β
def Res.bnd {α β:Type} [f:Cont α β] (x:Res α):Res β:=x.bind f.run
theorem HF {α β:Type} (a:α) (f:α->Res β):Res.bnd (Res.ok a) (f:=⟨f⟩)=f a:=id rfl
section
variable (env:PV.Env) (i n:Nat) (d:D) (f g:FX) (c c':FT) (fo Pz fo'':FO) (fs:FOs) (fd:FDs) (s t:FS) (op op':D->D->Res R) (F:List D->Res R) (a:FG) (as:Ma) (fi fj:FI) (fp Gj:FP) (T:String)
theorem Nn:aJ d env=.ok ((.f,d),env):=id rfl
theorem KJ:aO i env=match env[i]? with | some (some r)=>.ok ((.f,r.2),env.set i (some (fz r.1,r.2))) | _=>.bad:=id rfl
theorem OW:fz .f=.f:=id rfl
theorem OX (c:O):fz (.l c)=.f:=id rfl
theorem OY (cs:List O):fz (.t cs)=.f:=id rfl
theorem Ly (p:Addr):xy (.pin p .d)=true:=id rfl
theorem Mf:mN i env=match env[i]? with | some (some r)=>.ok (r,env.set i none) | _=>.bad:=id rfl
theorem Np:aq f env=Res.bnd (f env) (f:=⟨fun p=>.ok (.val p.1.2,p.2)⟩):=id rfl
theorem Nq:ai i env=match env[i]? with | some (some _)=>.ok (.var i,env) | _=>.bad:=id rfl
theorem Mg:aB env=.ok ([],env):=id rfl
theorem Lz:ag fo fs env=Res.bnd (fo env) (f:=⟨fun p=>Res.bnd (fs p.2) (f:=⟨fun q=>.ok (p.1 :: q.1,q.2)⟩)⟩):=id rfl
theorem Mh:bu env=.ok ([],env):=id rfl
theorem LA:aI f fd env=Res.bnd (f env) (f:=⟨fun p=>Res.bnd (fd p.2) (f:=⟨fun q=>.ok (p.1.2 :: q.1,q.2)⟩)⟩):=id rfl
theorem Nr:HW env (.val d)=.ok d:=id rfl
theorem Nu:HW env (.var i)=match env[i]? with | some (some r)=>if xy r.1 then .ok r.2 else .bad | _=>.bad:=id rfl
theorem Mi:tP env (.val d)=.ok d:=id rfl
theorem Mj:tP env (.var i)=match env[i]? with | some (some r)=>.ok r.2 | _=>.bad:=id rfl
theorem Mk:pj env []=.ok []:=id rfl
theorem Ml (o:Opd) (os:List Opd):pj env (o :: os)=Res.bnd (HW env o) (f:=⟨fun d=>Res.bnd (pj env os) (f:=⟨fun ds=>.ok (d :: ds)⟩)⟩):=id rfl
theorem LB:mM env []=.ok []:=id rfl
theorem LC (o:Opd) (os:List Opd):mM env (o :: os)=Res.bnd (tP env o) (f:=⟨fun d=>Res.bnd (mM env os) (f:=⟨fun ds=>.ok (d :: ds)⟩)⟩):=id rfl
theorem Mm:xy .f=true:=id rfl
theorem Mn:xy (.l .f)=true:=id rfl
theorem Mo:xy .d=true:=id rfl
theorem Nv:az op fo Pz env=Res.bnd (fo env) (f:=⟨fun p=>Res.bnd (Pz p.2) (f:=⟨fun q=>Res.bnd (HW q.2 p.1) (f:=⟨fun a=>Res.bnd (HW q.2 q.1) (f:=⟨fun b=>Res.bnd (op a b) (f:=⟨fun r=>.ok (r,q.2)⟩)⟩)⟩)⟩)⟩):=id rfl
theorem Mp:bq op fo Pz env=Res.bnd (fo env) (f:=⟨fun p=>Res.bnd (Pz p.2) (f:=⟨fun q=>Res.bnd (tP q.2 p.1) (f:=⟨fun a=>Res.bnd (tP q.2 q.1) (f:=⟨fun b=>Res.bnd (op a b) (f:=⟨fun r=>.ok (r,q.2)⟩)⟩)⟩)⟩)⟩):=id rfl
theorem OZ:GC f env=Res.bnd (f env) (f:=⟨fun p=>match p.1.2 with | .bl k=>.ok (k,p.2) | _=>.bad⟩):=id rfl
theorem Nw:Be c c' env=Res.bnd (c env) (f:=⟨fun p=>if p.1 then c' p.2 else .ok (false,p.2)⟩):=id rfl
theorem O0:LS c c' env=Res.bnd (c env) (f:=⟨fun p=>if p.1 then .ok (true,p.2) else c' p.2⟩):=id rfl
theorem Nx:um c env=Res.bnd (c env) (f:=⟨fun p=>.ok (!p.1,p.2)⟩):=id rfl
theorem Ny:Ej f g env=Res.bnd (f env) (f:=⟨fun p=>match p.1.2 with | .bl true=>g p.2 | .bl false=>.ok ((.f,.bl false),p.2) | _=>.bad⟩):=id rfl
theorem O3:OF f g env=Res.bnd (f env) (f:=⟨fun p=>match p.1.2 with | .bl true=>.ok ((.f,.bl true),p.2) | .bl false=>g p.2 | _=>.bad⟩):=id rfl
theorem Nz:Ek f env=Res.bnd (f env) (f:=⟨fun p=>match p.1.2 with | .bl k=>.ok ((.f,.bl (!k)),p.2) | _=>.bad⟩):=id rfl
theorem Mq:aZ F fs env=Res.bnd (fs env) (f:=⟨fun p=>Res.bnd (pj p.2 p.1) (f:=⟨fun ds=>Res.bnd (F ds) (f:=⟨fun r=>.ok (r,p.2)⟩)⟩)⟩):=id rfl
theorem NA:cw F fs env=Res.bnd (fs env) (f:=⟨fun p=>Res.bnd (mM p.2 p.1) (f:=⟨fun ds=>Res.bnd (F ds) (f:=⟨fun r=>.ok (r,if cx r.1 r.2 then p.2 else p.2.map frz)⟩)⟩)⟩):=id rfl
theorem NB:jc fd env=Res.bnd (fd env) (f:=⟨fun p=>if p.1.length<=1000 then .ok ((.f,.tup p.1),p.2) else .bad⟩):=id rfl
theorem NC:j8 fd env=Res.bnd (fd env) (f:=⟨fun p=>if p.1.length<=1000 then .ok ((.l .f,.lst p.1),p.2) else .bad⟩):=id rfl
theorem Mr:tU env=.ok (none,env):=id rfl
theorem Ms:lH f env=Res.bnd (f env) (f:=⟨fun p=>match p.1.2 with | .int i=>.ok (some i,p.2) | _=>.bad⟩):=id rfl
theorem ND:nX i f env=if vI env i then (Res.bnd (f env) (f:=⟨fun (p:R×PV.Env)=>match p.2[i]? with
 | some (some (.l .f,.lst ds))=>if ds.length < sizeLine then .ok ((.f,.non),p.2.set i (some (.l .f,.lst (ds++[p.1.2])))) else .bad
 | _=>.bad⟩)) else .bad:=id rfl
theorem Mt:vI env i=match env[i]? with | some (some (_,.lst _))=>true | _=>false:=id rfl
theorem O4:MS T fo env=Res.bnd (fo env) (f:=⟨fun p=>Res.bnd (tP p.2 p.1) (f:=⟨fun d=>.ok ((.f,.bl (wU T d)),p.2)⟩)⟩):=id rfl
theorem Mu:z0 f g env=Res.bnd (f env) (f:=⟨fun p=>Res.bnd (g p.2) (f:=⟨fun q=>match (lI p.1.2).bind dh,q.1.2 with | some ns,.int d=>.ok ((.f,.int (NX.maxD ns d)),q.2) | _,_=>.bad⟩)⟩):=id rfl
theorem NF (gg:List Nat->List D->Res R):Eu gg fo fs env=Res.bnd (fo env) (f:=⟨fun p=>match HW p.2 p.1 with
 | .ok (.str l)=>Res.bnd (fs p.2) (f:=⟨fun q=>Res.bnd (pj q.2 q.1) (f:=⟨fun ds=>Res.bnd (gg l ds) (f:=⟨fun r=>.ok (r,q.2)⟩)⟩)⟩)
 | _=>.bad⟩):=id rfl
theorem Mv (ix:List (Option Nat)):cq fi ix a c f env=Res.bnd (fi env) (f:=⟨fun p=>Res.bnd (bY a c f p.1 (fw ix p.2)) (f:=⟨fun ds=>if ds.length<=sizeLine then .ok ((.l .f,.lst ds),if flatDs ds then p.2 else p.2.map frz) else .bad⟩)⟩):=id rfl
theorem Kn:fw [] env=[]:=id rfl
theorem Ko (ix:List (Option Nat)):fw (none :: ix) env=none :: fw ix env:=id rfl
theorem Kq (ix:List (Option Nat)):fw (some i :: ix) env=(match env[i]? with | some (some r)=>some (O.f,r.2) | _=>none) :: fw ix env:=id rfl
theorem CN:cZ env=.ok (true,env):=id rfl
theorem sd (ds:List D):bY a c f (d :: ds) env=Res.bnd (a d env) (f:=⟨fun e=>Res.bnd (c e) (f:=⟨fun p=>if p.1 then (Res.bnd (f p.2) (f:=⟨fun q=>Res.bnd (bY a c f ds q.2) (f:=⟨fun rs=>.ok (q.1.2 :: rs)⟩)⟩)) else bY a c f ds p.2⟩)⟩):=id rfl
theorem CO:B9 f env=Res.bnd (f env) (f:=⟨fun p=>match p.1.2 with | .lst ds=>.ok (ds,p.2) | _=>.bad⟩):=id rfl
theorem v7:f9 f env=Res.bnd (f env) (f:=⟨fun p=>match p.1.2 with | .tup ds=>.ok (ds,p.2) | _=>.bad⟩):=id rfl
theorem v9:gf f env=Res.bnd (f env) (f:=⟨fun p=>match p.1.2 with | .str l=>.ok (l.map fun c=>.str [c],p.2) | _=>.bad⟩):=id rfl
theorem qJ:Hh fi fj env=match fi env with | .ok a=>.ok a | _=>fj env:=by
 unfold Hh
 cases fi env <;> rfl
theorem NG:Hh (B9 f) (Hh (f9 f) (gf f)) env=Res.bnd (f env) (f:=⟨fun p=>match p.1.2 with
 | .lst ds=>.ok (ds,p.2)
 | .tup ds=>.ok (ds,p.2)
 | .str l=>.ok (l.map fun c=>.str [c],p.2)
 | _=>.bad⟩):=by
 rw [qJ,qJ,CO,v7,v9]
 cases f env with
 | ok p=>
  obtain ⟨⟨o,d⟩,e⟩:=p
  cases d <;> rfl
 | exc c=>rfl
 | bad=>rfl
theorem Mw:Hh (g0 i) (Hh (f9 (aO i)) (gf (aO i))) env=match env[i]? with
 | some (some (_,.lst ds))=>.ok (ds,env)
 | some (some (o,.tup ds))=>.ok (ds,env.set i (some (fz o,.tup ds)))
 | some (some (o,.str l))=>.ok (l.map fun c=>.str [c],env.set i (some (fz o,.str l)))
 | _=>.bad:=by
 rw [qJ,qJ,v7,v9,KJ]
 unfold g0
 cases env[i]? with
 | none=>rfl
 | some r=>
  cases r with
  | none=>rfl
  | some r=>
   obtain ⟨o,d⟩:=r
   cases d <;> rfl
theorem KZ:dM fo env=Res.bnd (fo env) (f:=⟨fun p=>Res.bnd (HW p.2 p.1) (f:=⟨fun d=>match d with
 | .int j=>if -4611686018427387904<=j/\j < 4611686018427387904 then .ok ((List.range j.toNat).map fun (k:Nat)=>D.int (k:Int),p.2) else .bad
 | _=>.bad⟩)⟩):=id rfl
theorem K0:qq fs env=Res.bnd (fs env) (f:=⟨fun p=>Res.bnd (pj p.2 p.1) (f:=⟨fun d=>match d with
 | [.int i,.int j]=>if (-4611686018427387904<=i/\i < 4611686018427387904)/\-4611686018427387904<=j/\j < 4611686018427387904 then .ok ((List.range (j - i).toNat).map fun (k:Nat)=>D.int (i + (k:Int)),p.2) else .bad
 | _=>.bad⟩)⟩):=id rfl
theorem oD (k1 k2:Bool):tR k1 k2 fs env=Res.bnd (fs env) (f:=⟨fun p=>match p.1 with
 | [.val d1,.val d2]=>Res.bnd (j7 k1 d1) (f:=⟨fun a=>Res.bnd (j7 k2 d2) (f:=⟨fun b=>.ok ((a.zip b).map fun z=>D.tup [z.1,z.2],p.2)⟩)⟩)
 | _=>.bad⟩):=id rfl
theorem HQ:aw i d env=if i < env.length then .ok (env.set i (some (.f,d))) else .bad:=id rfl
theorem Mx:b8 [] env=.ok env:=id rfl
theorem Ht (ds:List D):aA a as (d :: ds) env=Res.bnd (a d env) (f:=⟨fun e=>as ds e⟩):=id rfl
theorem Kr (ds:List D):fO n as (.tup ds) env=if ds.length=n then as ds env else .bad:=id rfl
theorem IH:sSeq s t env=Res.bnd (s env) (f:=⟨fun o=>match o with | .nx e=>t e | o=>.ok o⟩):=id rfl
theorem My:cP env=.ok (.nx env):=id rfl
theorem NH:bM i f env=Res.bnd (f env) (f:=⟨fun p=>if i < p.2.length then .ok (.nx (p.2.set i (some p.1))) else .bad⟩):=id rfl
theorem Mz:f7 f env=Res.bnd (f env) (f:=⟨fun p=>.ok (.nx p.2)⟩):=id rfl
theorem NI:dJ f env=Res.bnd (f env) (f:=⟨fun p=>.ok (.rt p.1)⟩):=id rfl
theorem O5:HE c s t env=Res.bnd (c env) (f:=⟨fun p=>if p.1 then s p.2 else t p.2⟩):=id rfl
theorem NJ:lF fi a s env=Res.bnd (fi env) (f:=⟨fun p=>kB a s p.1 p.2⟩):=id rfl
theorem mx (ds:List D):kB a s (d :: ds) env=Res.bnd (a d env) (f:=⟨fun e=>Res.bnd (s e) (f:=⟨fun o=>match o with
 | .nx e=>kB a s ds e
 | .ct e=>kB a s ds e
 | .bk e=>.ok (.nx e)
 | .rt r=>.ok (.rt r)⟩)⟩):=id rfl
theorem jT:df c s (n + 1) env=Res.bnd (c env) (f:=⟨fun p=>if p.1 then (Res.bnd (s p.2) (f:=⟨fun o=>match o with
  | .nx e=>df c s n e
  | .ct e=>df c s n e
  | .bk e=>.ok (.nx e)
  | .rt r=>.ok (.rt r)⟩)) else .ok (.nx p.2)⟩):=id rfl
theorem NK:Cr i f g env=Res.bnd (g env) (f:=⟨fun (p:R×PV.Env)=>Res.bnd (f p.2) (f:=⟨fun (q:R×PV.Env)=>match p.2[i]?,q.2[i]? with
 | some (some _),some (some (.d,.dct tk ks vs))=>if fB tk q.1.2 && decide (ks.length < sizeLine) then .ok (.nx (q.2.set i (some (.d,.dct tk (qx ks vs q.1.2 p.1.2).1 (qx ks vs q.1.2 p.1.2).2)))) else .bad
 | _,_=>.bad⟩)⟩):=id rfl
theorem NL:DG f a env=Res.bnd (f env) (f:=⟨fun p=>Res.bnd (a p.1.2 p.2) (f:=⟨fun e=>.ok (.nx e)⟩)⟩):=id rfl
theorem a7 (ds:List D) (nn:Nat) (h:ds.length=n):fBody n nn s ds=Res.bnd (s (ds.map (fun d=>some (O.f,d))++List.replicate nn none)) (f:=⟨fun o=>match o with
 | .rt r=>.ok r
 | .nx _=>.ok (.f,.non)
 | _=>.bad⟩):=by
 unfold fBody
 rw [RO h]
 all_goals cases s (ds.map (fun d=>some (O.f,d))++List.replicate nn none) with
 | ok o=>cases o <;> rfl
 | exc c=>rfl
 | bad=>rfl
end
theorem line_le {n:Nat} (h:n<=16777216):n<=sizeLine:=by rw [line_eq];exact h
section
variable (a b:Int) (x y:List Nat) (p q:Bool) (ds es:List D)
theorem EC:HG (.int a) (.int b)=.ok (.f,.bl (a == b)):=by simp only [HG,plainD,eqD,Ue,Us]
theorem ED:HG (.str x) (.str y)=.ok (.f,.bl (x == y)):=by simp only [HG,plainD,eqD,Ue,Us]
theorem EE:Kc (.int a) (.int b)=.ok (.f,.bl (!(a == b))):=by simp only [Kc,plainD,eqD,Ue,Us]
theorem CP:kY (.int a) (.int b)=.ok (.f,.int (a - b)):=id rfl
theorem Ar:eF (.int a) (.int b)=if 0 < b/\b < 1073741824 then .ok (.f,.int (a / b)) else .bad:=id rfl
theorem CQ:fL (.int a) (.int b)=if 0 < b then .ok (.f,.int (a % b)) else .bad:=id rfl
theorem CS:tS (.int a) (.int b)=if 0<=b/\b<=1000000/\a.natAbs < 2 ^ 64 then .ok (.f,.int (a ^ b.toNat)) else .bad:=id rfl
theorem EF:K8 (.int a) (.int b)=.ok (.f,.bl (decide (a < b))):=id rfl
theorem EG:Pw (.int a) (.int b)=.ok (.f,.bl (decide (b < a))):=id rfl
theorem CT:ll [.lst ds]=.ok (.f,.int ds.length):=id rfl
theorem CU:ll [.tup ds]=.ok (.f,.int ds.length):=id rfl
theorem CV (tk:Bool):ll [.dct tk ds es]=.ok (.f,.int ds.length):=id rfl
theorem As:xE [.lst ds]=.ok (.l .f,.lst ds):=id rfl
theorem xO:dg [.lst ds]=.ok (.f,.tup ds):=id rfl
theorem CW:Bg [.bl p]=.ok (.f,.int (if p then 1 else 0)):=id rfl
theorem Au:Gi (.lst ds) (.int a)=match Ha ds a with | some d=>.ok (.f,d) | none=>.bad:=id rfl
theorem Av:Gi (.tup ds) (.int a)=match Ha ds a with | some d=>.ok (.f,d) | none=>.bad:=id rfl
theorem EH:Gi (.str x) (.int a)=match Ha x a with | some c=>.ok (.f,.str [c]) | none=>.bad:=id rfl
theorem CY:maxD [.int a,.int b]=.ok (.f,.int (if a < b then b else a)):=id rfl
theorem CZ (bs:List Bool):Ce [.lst (bs.map D.bl)]=.ok (.f,.bl (bs.all id)):=by
 unfold Ce
 show (match mO (bs.map D.bl) with | some bs=>_ | none=>_)=_
 rw [px]
theorem at0 {α:Type} (d:α) (l:List α):Ha (d :: l) 0=some d:=by
 have:=dt (xs:=d :: l) (j:=0) (v:=d) rfl
 simpa using this
theorem at1 {α:Type} (c d:α) (l:List α):Ha (c :: d :: l) 1=some d:=by
 have:=dt (xs:=c :: d :: l) (j:=1) (v:=d) rfl
 simpa using this
end
theorem Ga (l:List Int):flatDs (l.map D.int)=true:=by
 rw [bG,SM,R3]
 intro b _
 rfl
theorem oE (l:List Bool):flatDs (l.map D.bl)=true:=by
 rw [bG,SM,R3]
 intro b _
 rfl
theorem flat_strs (l:List (List Nat)):flatDs (l.map D.str)=true:=by
 rw [bG,SM,R3]
 intro b _
 rfl
theorem Aw (d:D):cx .f d=c9 d:=by rw [cx]
theorem xP (ds:List D):cx (.l .f) (.lst ds)=flatDs ds:=by rw [cx,nU]
theorem jU (i:Int):c9 (.int i)=true:=by rw [c9];all_goals simp
theorem Ax (i:Bool):c9 (.bl i)=true:=by rw [c9];all_goals simp
theorem cS (ds:List D):c9 (.tup ds)=flatDs ds:=by rw [c9]
theorem fe (n:Nat) (l:List Int):plainDs n (l.map D.int)=true:=by
 induction l with
 | nil=>rfl
 | cons a l ih=>rw [R6,plainDs,ih,plainD];all_goals simp
theorem nu (n:Nat) (l:List (List Nat)):plainDs n (l.map D.str)=true:=by
 induction l with
 | nil=>rfl
 | cons a l ih=>rw [R6,plainDs,ih,plainD];all_goals simp
theorem eqDs_ints:∀ a b:List Int,kc (a.map D.int) (b.map D.int)=(a == b)
 | [],[]=>by simp [kc]
 | [],_ :: _=>by simp [kc]
 | _ :: _,[]=>by simp [kc]
 | a :: r,b :: t=>by
  rw [R6,R6,kc,eqD,eqDs_ints r t,Sh]
  simp
theorem xQ (a:Int) (l:List Int):uo (.int a) (l.map D.int)=decide (a∈l):=by
 unfold uo
 rw [Th,Sh,SG,R0]
 constructor
 ·rintro ⟨x,hx,e⟩
  have e:eqD (.int x) (.int a)=true:=e
  rw [eqD,Si] at e
  rw [<-e]
  exact hx
 ·intro h
  refine ⟨a,h,?_⟩
  show eqD (.int a) (.int a)=true
  rw [eqD,SF]
theorem xR (a:List Nat) (l:List (List Nat)):uo (.str a) (l.map D.str)=decide (a∈l):=by
 unfold uo
 rw [Th,Sh,SG,R0]
 constructor
 ·rintro ⟨x,hx,e⟩
  have e:eqD (.str x) (.str a)=true:=e
  rw [eqD,Si] at e
  rw [<-e]
  exact hx
 ·intro h
  refine ⟨a,h,?_⟩
  show eqD (.str a) (.str a)=true
  rw [eqD,SF]
theorem yK (a:Int) (l:List Int):K7 (.int a) (.lst (l.map D.int))=.ok (.f,.bl (decide (a∈l))):=by
 unfold K7
 dsimp only
 rw [fe,xQ,plainD]
 all_goals simp
theorem Ay (a:Int) (l:List Int):uq (.int a) (.lst (l.map D.int))=.ok (.f,.bl (!decide (a∈l))):=by
 unfold uq
 rw [yK]
 rfl
theorem sf {α:Type} {a:FG} {c:FT} {f:FX} {e:α->D} {p:α->Bool} {r:α->D} (I:PV.Env->Prop) (l:List α)
  (h:∀ x∈l,∀ env,I env->∃ F7,a (e x) env=.ok F7/\∃ Gh,c F7=.ok (p x,Gh)/\if p x then ∃ o Hg,f Gh=.ok ((o,r x),Hg)/\I Hg else I Gh):∀ env,I env->bY a c f (l.map e) env=.ok ((l.filter p).map r):=by
 induction l with
 | nil=>intro env _;rfl
 | cons x l ih=>
  intro env hI
  obtain ⟨F7,h1,Gh,h2,h3⟩:=h x RM env hI
  have ih:=ih fun y hy=>h y (RU _ hy)
  rw [R6,sd,h1,HF,h2,HF]
  cases hp:p x with
  | true=>
   rw [hp] at h3
   obtain ⟨o,Hg,h4,h5⟩:=h3
   rw [RO rfl,h4,HF,ih Hg h5,HF,List.filter_cons_of_pos hp]
   rfl
  | false=>
   rw [hp] at h3
   rw [RY RK,ih Gh h3,List.filter_cons_of_neg (by rw [hp];exact RK)]
theorem aX {α:Type} {a:FG} {f:FX} {e:α->D} {r:α->D} (I:PV.Env->Prop) (l:List α)
  (h:∀ x∈l,∀ env,I env->∃ F7,a (e x) env=.ok F7/\∃ o Hg,f F7=.ok ((o,r x),Hg)/\I Hg):∀ env,I env->bY a cZ f (l.map e) env=.ok (l.map r):=by
 induction l with
 | nil=>intro env _;rfl
 | cons x l ih=>
  intro env hI
  obtain ⟨F7,h1,o,Hg,h4,h5⟩:=h x RM env hI
  have ih:=ih fun y hy=>h y (RU _ hy)
  rw [R6,sd,h1,HF,CN,HF,RO rfl,h4,HF,ih Hg h5]
  rfl
theorem Az {a:FG} {g:FS} (P:Nat->PV.Env->Prop) (ds:List D) (h:∀ i d env,ds[i]?=some d->P i env->∃ F7,a d env=.ok F7/\∃ Gh,(g F7=.ok (.nx Gh)\/g F7=.ok (.ct Gh))/\P (i + 1) Gh) :
  ∀ env,P 0 env->∃ env',kB a g ds env=.ok (.nx env')/\P ds.length env':=by
 have key:∀ (l:List D) (k:Nat) (env:PV.Env),(∀ i d,l[i]?=some d->ds[k + i]?=some d)->P k env->∃ env',kB a g l env=.ok (.nx env')/\P (k + l.length) env':=by
  intro l
  induction l with
  | nil=>exact fun k env _ hp=>⟨env,rfl,hp⟩
  | cons d l ih=>
   intro k env hd hp
   obtain ⟨F7,h1,Gh,h2,h3⟩:=h k d env (hd 0 d rfl) hp
   obtain ⟨env',h4,h5⟩:=ih (k + 1) Gh (fun i d e=>by have:=hd (i + 1) d (by simpa using e);rw [show k + 1 + i=k + (i + 1) by lia];exact this) h3
   refine ⟨env',?_,by rw [Sb,show k + (l.length + 1)=k + 1 + l.length by lia];exact h5⟩
   rw [mx,h1,HF]
   rcases h2 with h2 | h2
   ·rw [h2,HF]
    exact h4
   ·rw [h2,HF]
    exact h4
 intro env hp
 obtain ⟨env',h1,h2⟩:=key ds 0 env (fun i d e=>by rw [Vv];exact e) hp
 exact ⟨env',h1,by rw [Vv] at h2;exact h2⟩
section
variable (env:PV.Env) (fo:FO) (fp Gj:FP) (a b:Int) (ds:List D) (x:List Nat)
theorem NM:Ac fo fp Gj env=Res.bnd (fo env) (f:=⟨fun p=>Res.bnd (fp p.2) (f:=⟨fun q=>Res.bnd (Gj q.2) (f:=⟨fun t=>Res.bnd (HW t.2 p.1) (f:=⟨fun d=>Res.bnd (OR d q.1 t.1) (f:=⟨fun r=>.ok (r,t.2)⟩)⟩)⟩)⟩)⟩):=id rfl
theorem C0 (lo hi:Option Int):OR (.lst ds) lo hi=.ok (.l .f,.lst (jz ds lo hi)):=id rfl
theorem C1 (lo hi:Option Int) (h:HT.sIx ds.length 0 lo=0/\HT.sIx ds.length ds.length hi=ds.length):jz ds lo hi=ds:=by
 unfold jz
 rw [h.1,h.2,VB,Nat.sub_zero,Tz (RL _)]
theorem wa:z9 (.int a) (.int b)=if b9 a || b9 b then .ok (.f,.int (a * b)) else if a.natAbs < 2 ^ 1000/\b.natAbs < 2 ^ 1000 then .ok (.f,.int (a * b)) else .bad:=id rfl
end
section
variable (env:PV.Env) (fo:FO) (fs:FOs) (f g:FX) (a b c:Int) (ds es:List D) (x y:List Nat)
theorem NN (gg:List D->List D->Res R):xI gg fo fs env=Res.bnd (fo env) (f:=⟨fun p=>Res.bnd (HW p.2 p.1) (f:=⟨fun d=>match d with
 | .tup _=>Res.bnd (fs p.2) (f:=⟨fun q=>Res.bnd (HW q.2 p.1) (f:=⟨fun d2=>match d2 with
  | .tup l=>Res.bnd (pj q.2 q.1) (f:=⟨fun ds=>Res.bnd (gg l ds) (f:=⟨fun r=>.ok (r,q.2)⟩)⟩)
  | _=>.bad⟩)⟩)
 | _=>.bad⟩)⟩):=id rfl
theorem E5 (d:D):(∃ l,j7 true d=.ok l/\j7 false d=.bad/\lI d=some l)\/(∃ l,j7 true d=.bad/\j7 false d=.ok l/\lI d=some l)\/(j7 true d=.bad/\j7 false d=.bad/\lI d=none):=by
 cases d with
 | lst l=>exact .inl ⟨l,rfl,rfl,rfl⟩
 | tup l=>exact .inr (.inl ⟨l,rfl,rfl,rfl⟩)
 | _=>exact .inr (.inr ⟨rfl,rfl,rfl⟩)
def xS (k1 k2:Bool) (e:PV.Env) (d1 d2:D):Res (List D×PV.Env):=(j7 k1 d1).bind fun a=>(j7 k2 d2).bind fun b=>.ok ((a.zip b).map fun z=>D.tup [z.1,z.2],e)
def EI (e:PV.Env) (d1 d2:D):Res (List D×PV.Env):=match lI d1,lI d2 with | some a,some b=>.ok ((a.zip b).map fun z=>D.tup [z.1,z.2],e) | _,_=>.bad
def MT (a b:Res (List D×PV.Env)):Res (List D×PV.Env):=match a with | .ok a=>.ok a | _=>b
def wV (g:D->D->Res (List D×PV.Env)) (os:List Opd):Res (List D×PV.Env):=match os with | [.val d1,.val d2]=>g d1 d2 | _=>.bad
theorem qK (g h:D->D->Res (List D×PV.Env)) (os:List Opd):MT (wV g os) (wV h os)=wV (fun a b=>MT (g a b) (h a b)) os:=by
 unfold wV
 split <;> rfl
theorem AA (e:PV.Env) (a b:D):MT (xS true true e a b) (MT (xS true false e a b) (MT (xS false true e a b) (xS false false e a b)))=EI e a b:=by
 unfold xS EI
 rcases E5 a with ⟨l,h1,h2,h3⟩ | ⟨l,h1,h2,h3⟩ | ⟨h1,h2,h3⟩ <;> rcases E5 b with ⟨m,i1,i2,i3⟩ | ⟨m,i1,i2,i3⟩ | ⟨i1,i2,i3⟩ <;> rw [h1,h2,h3,i1,i2,i3] <;> rfl
theorem MA:pJ fs env=Res.bnd (fs env) (f:=⟨fun p=>match p.1 with
 | [.val d1,.val d2]=>(match lI d1,lI d2 with | some a,some b=>.ok ((a.zip b).map fun z=>D.tup [z.1,z.2],p.2) | _,_=>.bad)
 | _=>.bad⟩):=by
 unfold pJ
 rw [qJ,qJ,qJ,oD,oD,oD,oD]
 cases fs env with
 | ok p=>
  show MT (wV (xS true true p.2) p.1) (MT (wV (xS true false p.2) p.1) (MT (wV (xS false true p.2) p.1) (wV (xS false false p.2) p.1)))=wV (EI p.2) p.1
  rw [qK,qK,qK]
  exact SY (fun g=>wV g p.1) (funext fun a=>funext fun b=>AA p.2 a b)
 | _=>rfl
theorem MB:lI (.lst ds)=some ds:=id rfl
theorem MC:lI (.tup ds)=some ds:=id rfl
theorem MD (i:Nat):vS i f g env=Res.bnd (g env) (f:=⟨fun (p:R×PV.Env)=>Res.bnd (f p.2) (f:=⟨fun (q:R×PV.Env)=>match p.2[i]?,q.2[i]? with
 | some (some _),some (some (.l .f,.lst ds))=>(match q.1.2 with
  | .int k=>(match ixN ds.length k with
   | some j=>.ok (.nx (q.2.set i (some (.l .f,.lst (ds.set j p.1.2)))))
   | none=>.bad)
  | _=>.bad)
 | _,_=>.bad⟩)⟩):=id rfl
theorem AB:iT (.int a) (.int b)=z9 (.int a) (.int b):=id rfl
theorem LD:rW f g env=Res.bnd (f env) (f:=⟨fun p=>Res.bnd (g p.2) (f:=⟨fun q=>if fB false p.1.2 then .ok ((.d,.dct false [p.1.2] [q.1.2]),q.2) else .bad⟩)⟩):=id rfl
theorem C2 (d:D):Lx d (.lst ds)=K7 d (.lst ds):=id rfl
theorem AD (d:D):ur d (.lst ds)=uq d (.lst ds):=id rfl
theorem C3:fB false (.int a)=true:=id rfl
theorem C4:fB false (.str x)=true:=id rfl
theorem C5:qy [.int a,.int b]=.ok (.f,.int (if b < a then b else a)):=id rfl
theorem AE:cJ (.int a) (.int b)=.ok (.f,.int (a + b)):=id rfl
theorem AF:cJ (.str x) (.str y)=if x.length + y.length<=sizeLine then .ok (.f,.str (x++y)) else .bad:=id rfl
theorem oF:cJ (.lst ds) (.lst es)=if ds.length + es.length<=sizeLine then .ok (.l .f,.lst (ds++es)) else .bad:=id rfl
theorem wb:cJ (.tup ds) (.tup es)=if ds.length + es.length<=sizeLine\/ds=[] then .ok (.f,.tup (ds++es)) else .bad:=by
 unfold cJ
 cases ds with
 | nil=>rw [RO (.inr rfl)];rfl
 | cons d ds=>
  dsimp only
  unfold addD
  dsimp only
  by_cases h:(d :: ds).length + es.length<=sizeLine
  ·rw [RO ⟨nofun,h⟩,RO (.inl h)]
  ·rw [RY (fun z=>h z.2),RY (fun z=>z.elim h nofun)]
end
section
variable (env:PV.Env) (f g:FX) (ds ks:List D) (i:Nat)
theorem xT:rZ i env=match env[i]? with
 | some (some (ow,.lst _))=>if isLf ow then .ok ((.f,.non),env.set i (some (ow,.lst []))) else .bad
 | _=>.bad:=id rfl
theorem C6:isLf (.l .f)=true:=id rfl
end
section
variable (env:PV.Env) (f:FX) (fs:FOs) (ds:List D) (i:Nat)
end
def pv:=(And.intro @HF (And.intro @Nn (And.intro @KJ (And.intro @Mf (And.intro @Np (And.intro @Nq (And.intro @Mg (And.intro @Lz (And.intro @Mh (And.intro @LA (And.intro @Nr (And.intro @Nu (And.intro @Mi (And.intro @Mj (And.intro @Mk (And.intro @Ml (And.intro @LB (And.intro @LC (And.intro @Mm (And.intro @Mn (And.intro @Mo (And.intro @Nv (And.intro @Mp (And.intro @OZ (And.intro @Nw (And.intro @O0 (And.intro @Nx (And.intro @Ny (And.intro @O3 (And.intro @Nz (And.intro @Mq (And.intro @NA (And.intro @NB (And.intro @NC (And.intro @NM (And.intro @Mr (And.intro @Ms (And.intro @ND (And.intro @Mt (And.intro @O4 (And.intro @Mu (And.intro @NF (And.intro @Mv (And.intro @Kn (And.intro @Ko (And.intro @Kq (And.intro @NG (And.intro @Mw (And.intro @KZ (And.intro @K0 (And.intro @HQ (And.intro @Mx (And.intro @Ht (And.intro @Kr (And.intro @IH (And.intro @My (And.intro @NH (And.intro @Mz (And.intro @NI (And.intro @O5 (And.intro @NJ (And.intro @NK (And.intro @NL (And.intro @List.getElem?_cons_zero.{0} (And.intro @List.getElem?_cons_succ.{0} (And.intro @List.set_cons_zero.{0} (And.intro @List.set_cons_succ.{0} (And.intro @List.length_cons.{0} (And.intro @List.length_nil.{0} (And.intro @List.map_cons.{0,0} (And.intro @List.map_nil.{0,0} (And.intro @List.replicate_succ.{0} (And.intro @List.replicate_zero.{0} (And.intro @List.cons_append.{0} (And.intro @List.nil_append.{0} (And.intro @Nat.zero_add (And.intro @NN (And.intro @MA (And.intro @MB (And.intro @MC (And.intro @MD (And.intro @LD (And.intro @OW (And.intro @OX (And.intro @OY @Ly)))))))))))))))))))))))))))))))))))))))))))))))))))))))))))))))))))))))))))))))))))))
def op:=(And.intro @EC (And.intro @ED (And.intro @EE (And.intro @CP (And.intro @EF (And.intro @EG (And.intro @CT (And.intro @CU (And.intro @CV (And.intro @As (And.intro @xO (And.intro @CW (And.intro @Au (And.intro @Av (And.intro @EH (And.intro @C0 (And.intro @CY (And.intro @at0 (And.intro @at1 (And.intro @Ay (And.intro @CZ (And.intro @Aw (And.intro @xP (And.intro @jU (And.intro @Ax (And.intro @Ga (And.intro @PV.flat_strs (And.intro @cS (And.intro @C5 (And.intro @AE (And.intro @AB (And.intro @C2 (And.intro @AD (And.intro @C3 @C4))))))))))))))))))))))))))))))))))
end PV
namespace LW
open PySem L2 NX PV
theorem for_list {α:Type} {a:FG} {g:FS} {e:α->D} (l:List α) (P:Nat->PV.Env->Prop)
  (h:∀ k x env,l[k]?=some x->P k env->∃ F7,a (e x) env=.ok F7/\∃ Gh,g F7=.ok (.nx Gh)/\P (k + 1) Gh):∀ env,P 0 env->∃ env',kB a g (l.map e) env=.ok (.nx env')/\P l.length env':=by
 intro env h0
 have:=Az (a:=a) (g:=g) P (l.map e) (fun i d env hi hp=>by
  rw [List.getElem?_map,Sn] at hi
  obtain ⟨x,hx,rfl⟩:=hi
  obtain ⟨F7,h1,Gh,h2,h3⟩:=h i x env hx hp
  exact ⟨F7,h1,Gh,.inl h2,h3⟩) env h0
 rwa [RJ] at this
theorem my {a:FG} {g:FS} {e:Nat->D} (n:Nat) (P:Nat->PV.Env->Prop)
  (h:∀ k env,k < n->P k env->∃ F7,a (e k) env=.ok F7/\∃ Gh,g F7=.ok (.nx Gh)/\P (k + 1) Gh):∀ env,P 0 env->∃ env',kB a g ((List.range n).map e) env=.ok (.nx env')/\P n env':=by
 intro env h0
 have:=for_list (a:=a) (g:=g) (e:=e) (List.range n) P (fun k x env hk hp=>by
  obtain ⟨h1,h2⟩:=List.getElem?_eq_some_iff.mp hk
  rw [RX] at h1
  rw [List.getElem_range] at h2
  subst h2
  exact h k env h1 hp) env h0
 rwa [RX] at this
abbrev LNN:=List (List Nat)
theorem aU {α β:Type} {l:List α} (f:α->β):(l.map f).length=l.length:=RJ f
theorem fM:(false=true)=False:=S8
theorem j0 {α:Type} {l:List α} {i:Nat} {a:α} (h:l[i]?=some a):∃ h:i < l.length,l[i]=a:=List.getElem?_eq_some_iff.mp h
theorem iU {α:Type} {l:List α} {i:Nat} (h:i < l.length):l[i]?=some l[i]:=List.getElem?_eq_getElem h
theorem eC {α β:Type} {f:α->β} {a:α} {l:List α}:(a :: l).map f=f a :: l.map f:=R6
theorem jV {α:Type} {a b:α} (h:a∈[b]):a=b:=R4.mp h
theorem lp {α β:Type} {f:α->β} {l:List α} {b:β} (h:b∈l.map f):∃ a,a∈l/\f a=b:=Sq.mp h
theorem ko {α:Type} {a:α} {s t:List α} (h:a∈s++t):a∈s\/a∈t:=Sv.mp h
theorem i7 {α:Type} {s t:List α}:(s++t).length=s.length + t.length:=SD
theorem au {s t:FS} {env env':PV.Env} (h:s env=.ok (.nx env')):sSeq s t env=t env':=by rw [IH,h,HF]
theorem aM {ds:List D} (h:ds.length<=16777216):ds.length<=sizeLine:=line_le h
theorem gw {l:List Int} {k:Nat} (h:k < l.length):Ha (l.map D.int) (k:Int)=some (.int (l.getD k 0)):=dt (by rw [List.getElem?_map,List.getD_eq_getElem?_getD,iU h];rfl)
theorem si {l:LNN} {k:Nat} (h:k < l.length):Ha (l.map D.str) (k:Int)=some (.str l[k]):=dt (by rw [List.getElem?_map,iU h];rfl)
theorem at2 {α:Type} (a b c:α):Ha [a,b,c] (2:Int)=some c:=rfl
theorem fg:∀ l:LNN,gm (l.map D.str)=some l
 | []=>rfl
 | a :: l=>by
  rw [eC,gm,fg l]
  rfl
theorem qL (x y:D) (t1 t2:Option R) (eD:PV.Env):fO 2 (aA (aw 0) (aA (aw 1) b8)) (.tup [x,y]) (t1 :: t2 :: eD)=.ok (some (.f,x) :: some (.f,y) :: eD):=by
 rw [Kr,RO (by simp),Ht,HQ,RO (by simp),HF,Ht,HQ,RO (by simp),HF]
 rfl
theorem iF {α:Type} (lt:α->α->Bool) (l:List α):(b5 lt l).length=l.length:=(e8 lt l).length_eq
theorem wc (l:LNN) (h:l.length < 64):fV [.lst (l.map D.str)]=.ok (.l .f,.lst ((b5 KI l).map D.str)):=by
 unfold fV
 dsimp only
 rw [RO (by rw [aU];exact h)]
 unfold lQ
 cases l with
 | nil=>rfl
 | cons a l=>
  have e:dh ((a :: l).map D.str)=none:=rfl
  rw [e,fg]
def Jm:List Nat:=[97,98,99,100,101,102,103,104,105,106,107,108,109,110,111,112,113,114,115,116,117,118,119,120,121,122]
theorem C7 (j:Nat) (h:j < 26):Jm[j]?=some (97 + j):=by
 have:∀ j:_root_.Fin 26,Jm[j.1]?=some (97 + j.1):=by decide
 exact this ⟨j,h⟩
theorem C8 (j:Int) (h0:0<=j) (h:j < 26):Ha Jm j=some (97 + j.toNat):=by
 obtain ⟨n,rfl⟩:=R7 h0
 exact dt (C7 n (by lia))
theorem eV (x b:Int) (h:0 < b):0<=x % b/\x % b < b:=⟨Int.emod_nonneg _ (by lia),Int.emod_lt_of_pos _ h⟩
theorem E6 (n:Nat) (h:n<=200):tS (.int 10) (.int (n:Int))=.ok (.f,.int (10 ^ n)):=by
 rw [CS,RO (by lia),Sk]
theorem iR (x b:Int) (h:0 < b):fL (.int x) (.int b)=.ok (.f,.int (x % b)):=by rw [CQ,RO h]
theorem fN (x b:Int) (h:0 < b) (h2:b < 1073741824):eF (.int x) (.int b)=.ok (.f,.int (x / b)):=by rw [Ar,RO ⟨h,h2⟩]
theorem we (k:Nat) (h:k<=1000000):b9 (k:Int)=true:=by
 unfold b9
 rw [R0]
 lia
theorem FZ (x y:List Nat) (h:x.length + y.length<=1000):cJ (.str x) (.str y)=.ok (.f,.str (x++y)):=by rw [AF,RO (line_le (by lia))]
theorem oG {α:Type} (l:List α) (k:Nat):jz l none (some (k:Int))=l.take k:=by
 unfold jz
 rw [HT.qZ,HT.nv,VB,Nat.sub_zero]
 by_cases h:k<=l.length
 ·rw [UW h]
 ·rw [Nat.min_eq_right (by lia),Tz (RL _),Tz (by lia)]
theorem xU {α:Type} (l:List α) (k:Nat):jz l (some (k:Int)) none=l.drop k:=by
 unfold jz
 rw [HT.qZ,HT.nv]
 by_cases h:k<=l.length
 ·rw [UW h,Tz (by rw [T5];exact RL _)]
 ·rw [Nat.min_eq_right (by lia),List.drop_eq_nil_of_le (RL _),List.drop_eq_nil_of_le (by lia),List.take_nil]
theorem iG {α:Type} (f:Nat->α) (n:Nat) (h:∀ i j,i < n->j < n->f i=f j->i=j):((List.range n).map f).Nodup:=by
 rw [Uh,UE]
 refine List.pairwise_lt_range.imp_of_mem fun {a b} ha hb hl e=>?_
 have:=h a b (Sg.mp ha) (Sg.mp hb) e
 lia
theorem AG {α:Type} (l:List α) (a b:Nat) (h:a<=b) (hb:b<=l.length):jz l (some (a:Int)) (some (b:Int))=(l.drop a).take (b - a):=by
 unfold jz
 rw [HT.nv,HT.nv,UW hb,UW (SJ h hb)]
theorem mz (x:Int) (h : -1000000<=x) (h2:x<=1000000):b9 x=true:=by
 unfold b9
 rw [R0]
 lia
theorem wg (d:D) (h:plainD 40 d=true):HG d d=.ok (.f,.bl true):=by
 unfold HG
 rw [h,jB d 40 h]
 rfl
theorem jW (d:D) (h:plainD 40 d=true):Kc d d=.ok (.f,.bl false):=by
 unfold Kc
 rw [h,jB d 40 h]
 rfl
theorem xV (l:List Int):plainD 40 (.tup (l.map D.int))=true:=by
 rw [plainD,fe]
theorem wj (n k:Nat) (h:k < n):ixN n (k:Int)=some k:=by
 unfold ixN
 rw [RO (by lia),RO (by lia)]
 rfl
theorem C9 (l:List Int):Cg [.lst (l.map D.int)]=.ok (.f,.int l.sum):=by
 unfold Cg
 dsimp only
 have:(lI (D.lst (l.map D.int))).bind dh=some l:=ka l
 rw [this]
theorem addT (x y:List Int) (h:x.length + y.length<=100000):cJ (.tup (x.map D.int)) (.tup (y.map D.int))=.ok (.f,.tup ((x++y).map D.int)):=by rw [wb,RO (.inl (line_le (by rw [aU,aU];lia))),RP]
theorem F0 (b:Int):wU "bool" (.int b)=false:=rfl
theorem F1 (b:Int):wU "int" (.int b)=true:=rfl
theorem isT (ds:List D):wU "tuple" (.tup ds)=true:=rfl
theorem sj {α:Type} {a:FG} {g:FS} {e:α->D} (l:List α) (env:Option R->PV.Env) (h:∀ x∈l,∀ t,∃ t',a (e x) (env t)=.ok (env t')/\g (env t')=.ok (.nx (env t'))) (t:Option R):∃ t',kB a g (l.map e) (env t)=.ok (.nx (env t')):=by
 obtain ⟨env',ef,t',rfl⟩:=for_list (a:=a) (g:=g) (e:=e) l (fun _ E=>∃ t,E=env t) (by
  rintro k x E hk ⟨t,rfl⟩
  obtain ⟨t',h1,h2⟩:=h x (RW hk) t
  exact ⟨_,h1,_,h2,t',rfl⟩) _ ⟨t,rfl⟩
 exact ⟨t',ef⟩
theorem jX {c:FT} {g:FS} (P:Nat->PV.Env->Prop) (fin:PV.Env->Prop) (h:∀ k env,P k env->(∃ F7,c env=.ok (false,F7)/\fin F7)\/(∃ F7,c env=.ok (true,F7)/\∃ Gh k',g F7=.ok (.nx Gh)/\k' < k/\P k' Gh)) :
  ∀ n k env,k < n->P k env->∃ env',df c g n env=.ok (.nx env')/\fin env'
 | 0,k,env,hk,_=>absurd hk (Uy _)
 | n + 1,k,env,hk,hp=>by
  rcases h k env hp with ⟨F7,h1,h2⟩ | ⟨F7,h1,Gh,k',h2,h3,h4⟩
  ·exact ⟨F7,by rw [jT,h1,HF];rfl,h2⟩
  ·obtain ⟨env',e,hf⟩:=jX P fin h n k' Gh (by lia) h4
   refine ⟨env',?_,hf⟩
   rw [jT,h1,HF]
   dsimp only
   rw [RO rfl,h2,HF]
   exact e
theorem AH {α β:Type} (f:α->β) (l:List α) (lo hi:Option Int):jz (l.map f) lo hi=(jz l lo hi).map f:=by
 unfold jz
 rw [aU,<-List.map_drop,<-Uz]
theorem gx {α:Type} {l:List α} (h:l.length<=100000):l.length < sizeLine:=RZ (T6 _) (line_le (by lia))
section
variable (env:PV.Env) (f:FX) (fs:FOs) (fo:FO)
theorem EJ (i:Nat) (c:O) (F:Addr->List D->Res R):eFunW c F i fs env=Res.bnd (fs env) (f:=⟨fun p=>match p.1 with
 | .var j :: os=>if j=i then (match p.2[i]? with
  | some (some (ow,d0))=>if CD c ow then Res.bnd (mM (p.2.set i none) os) (f:=⟨fun ds=>Res.bnd (CF F c d0 ds) (f:=⟨fun x=>if cx x.1.1 x.1.2 && cx c x.2 then .ok (x.1,(p.2.set i none).set i (some (ow,x.2))) else .ok (x.1,((p.2.set i none).map frz).set i (some (ow,x.2)))⟩)⟩) else .bad
  | _=>.bad) else .bad
 | _=>.bad⟩):=id rfl
theorem DH (r:R):frz (some r)=some (.f,r.2):=id rfl
theorem DI:frz none=none:=id rfl
theorem sk (gg:List D->List D->Res R):CH gg fo fs env=Res.bnd (fo env) (f:=⟨fun p=>Res.bnd (HW p.2 p.1) (f:=⟨fun d=>match d with
 | .lst _=>Res.bnd (fs p.2) (f:=⟨fun q=>Res.bnd (HW q.2 p.1) (f:=⟨fun d2=>match d2 with
  | .lst l=>Res.bnd (pj q.2 q.1) (f:=⟨fun ds=>Res.bnd (gg l ds) (f:=⟨fun r=>.ok (r,q.2)⟩)⟩)
  | _=>.bad⟩)⟩)
 | _=>.bad⟩)⟩):=id rfl
theorem AI (g:FX):Ah f g env=Res.bnd (f env) (f:=⟨fun p=>Res.bnd (g p.2) (f:=⟨fun q=>match (lI p.1.2).bind dh,q.1.2 with | some ns,.int d=>.ok ((.f,.int (NX.minD ns d)),q.2) | _,_=>.bad⟩)⟩):=id rfl
end
theorem o_isnT (ds:List D):isnO (.tup ds) .non=.ok (.f,.bl true):=id rfl
theorem so:isnO .non .non=.ok (.f,.bl false):=id rfl
abbrev Gf:=Int×List Nat×Int
def eA (a:Gf):D:=.tup [.int a.1,.str a.2.1,.int a.2.2]
abbrev Nd:=Int×LNN
def met (T:List Gf):List Int:=0 :: T.map (·.2.2)
def ud (c:Int) (T:List Gf) (a:Gf):List Gf:=if a.1=c/\a.2.2∉met T then T++[a] else T
inductive Run (arcs:List Gf):Nat->List Gf->Prop where
 | z:Run arcs 0 []
 | s {i:Nat} {T:List Gf} {c:Int}:Run arcs i T->(met T)[i]?=some c->Run arcs (i + 1) (arcs.foldl (ud c) T)
theorem Run.inj {arcs:List Gf}:∀ {i:Nat} {T T':List Gf},Run arcs i T->Run arcs i T'->T=T'
 | 0,_,_,.z,.z=>rfl
 | i + 1,_,_,.s r h,.s r' h'=>by
  have e:=Run.inj r r'
  subst e
  rw [h] at h'
  cases h'
  rfl
theorem Run.before {arcs:List Gf}:∀ {j:Nat} {T:List Gf},Run arcs j T->∀ i,i < j->∃ T',Run arcs i T'/\i < (met T').length
 | 0,_,_,i,h=>absurd h (Uy _)
 | j + 1,_,.s r h,i,hi=>by
  by_cases e:i=j
  ·subst e
   exact ⟨_,r,(j0 h).1⟩
  ·exact Run.before r i (by lia)
structure Bfs (arcs:List Gf) (i:Nat) (pre:List Gf) (N:List Nd) (T:List Gf):Prop where
 z:N[0]?=some (0,[])
 len:N.length=T.length + 1
 nd:(N.map (·.1)).Nodup
 bd:∀ n∈N,0<=n.1/\n.1 < 12
 tr:∀ (j:Nat) (a:Gf),T[j]?=some a->a∈arcs/\∃ (k:Nat) (n:Nd),k<=j/\N[k]?=some n/\a.1=n.1/\N[j + 1]?=some (a.2.2,n.2++[a.2.1])
 mono:∀ (j k:Nat) (n m:Nd),j<=k->N[j]?=some n->N[k]?=some m->n.2.length<=m.2.length
 top:∀ n∈N,∀ c:Nd,N[i]?=some c->n.2.length<=c.2.length + 1
 clo:∀ k,k < i->∀ n:Nd,N[k]?=some n->∀ a∈arcs,a.1=n.1->∃ m∈N,m.1=a.2.2/\m.2.length<=n.2.length + 1
 cur:∀ a∈pre,∀ c:Nd,N[i]?=some c->a.1=c.1->∃ m∈N,m.1=a.2.2/\m.2.length<=c.2.length + 1
 nm:N.map (·.1)=met T
theorem Bfs.start (arcs:List Gf):Bfs arcs 0 [] [(0,[])] []:=by
 refine ⟨rfl,rfl,Se.mpr ⟨Sy,SX⟩,fun n hn=>?_,fun j a h=>by simp at h,fun j k n m _ h1 h2=>?_,fun n hn c hc=>?_,fun k hk=>absurd hk (Uy _),(fun a ha=>nomatch ha),rfl⟩
 ·rw [jV hn]
  exact ⟨VE _,by decide⟩
 ·rw [jV (RW h1)]
  exact So _
 ·rw [jV hn]
  exact So _
theorem gP {α:Type} {l:List α} {x:α} {j:Nat} {y:α} (h:l[j]?=some y):(l++[x])[j]?=some y:=by
 rw [List.getElem?_append_left (j0 h).1]
 exact h
theorem fm {α:Type} {l:List α} {x:α} {j:Nat} {y:α} (h:(l++[x])[j]?=some y):l[j]?=some y\/(j=l.length/\y=x):=by
 by_cases hj:j < l.length
 ·rw [List.getElem?_append_left hj] at h
  exact .inl h
 ·rw [List.getElem?_append_right (by lia)] at h
  by_cases e:j - l.length=0
  ·rw [e] at h
   exact .inr ⟨by lia,by simpa using h.symm⟩
  ·rw [List.getElem?_eq_none (by simp;lia)] at h
   cases h
theorem Bfs.skip {arcs:List Gf} {i:Nat} {pre:List Gf} {N:List Nd} {T:List Gf} (b:Bfs arcs i pre N T) {a:Gf} {c:Nd} (hc:N[i]?=some c) (h:a.1≠c.1\/a.2.2∈N.map (·.1)):Bfs arcs i (pre++[a]) N T:=by
 refine ⟨b.z,b.len,b.nd,b.bd,b.tr,b.mono,b.top,b.clo,fun x hx c' IV e=>?_,b.nm⟩
 rcases ko hx with hx | hx
 ·exact b.cur x hx c' IV e
 ·rw [jV hx] at e ⊢
  rw [hc] at IV
  cases IV
  rcases h with h | h
  ·exact absurd e h
  ·obtain ⟨m,hm,em⟩:=lp h
   exact ⟨m,hm,em,b.top m hm c hc⟩
theorem Bfs.take {arcs:List Gf} {i:Nat} {pre:List Gf} {N:List Nd} {T:List Gf} (b:Bfs arcs i pre N T) {a:Gf} {c:Nd} (hc:N[i]?=some c) (ha:a∈arcs) (Oy:0<=a.2.2/\a.2.2 < 12) (h1:a.1=c.1) (h2:a.2.2∉N.map (·.1)):Bfs arcs i (pre++[a]) (N++[(a.2.2,c.2++[a.2.1])]) (T++[a]):=by
 have hi:=(j0 hc).1
 have K5:(c.2++[a.2.1]).length=c.2.length + 1:=by rw [i7];rfl
 have up:∀ {x:Int} {B:Nat},(∃ m∈N,m.1=x/\m.2.length<=B)->∃ m∈N++[(a.2.2,c.2++[a.2.1])],m.1=x/\m.2.length<=B:=fun ⟨m,hm,q⟩=>⟨m,RV _ hm,q⟩
 refine ⟨gP b.z,by rw [i7,i7,b.len];rfl,?_,fun n hn=>?_,fun j x hx=>?_,fun j k n m hjk hn hm=>?_,fun n hn c' IV=>?_,fun k hk n hn x hx e=>?_,fun x hx c' IV e=>?_,by unfold met;rw [RP,RP,b.nm];rfl⟩
 ·rw [RP,Ss]
  refine ⟨b.nd,Se.mpr ⟨Sy,SX⟩,fun x hx y hy=>?_⟩
  have:y=a.2.2:=by simpa using hy
  rw [this]
  rintro rfl
  exact h2 hx
 ·rcases ko hn with hn | hn
  ·exact b.bd n hn
  ·rw [jV hn]
   exact Oy
 ·rcases fm hx with hx | ⟨rfl,rfl⟩
  ·obtain ⟨q,k,n,hk,hn,e,Lh⟩:=b.tr j x hx
   exact ⟨q,k,n,hk,gP hn,e,gP Lh⟩
  ·refine ⟨ha,i,c,?_,gP hc,h1,?_⟩
   ·have:=b.len
    lia
   ·rw [<-b.len,List.getElem?_append_right (RL _),UZ]
    rfl
 ·rcases fm hn with hn | ⟨rfl,rfl⟩
  ·rcases fm hm with hm | ⟨rfl,rfl⟩
   ·exact b.mono j k n m hjk hn hm
   ·show n.2.length<=(c.2++[a.2.1]).length
    rw [K5]
    exact b.top n (RW hn) c hc
  ·rcases fm hm with hm | ⟨rfl,rfl⟩
   ·have:=(j0 hm).1
    lia
   ·exact RL _
 ·have:c'=c:=by
   rw [gP hc] at IV
   exact (Sj IV).symm
  subst this
  rcases ko hn with hn | hn
  ·exact b.top n hn c' hc
  ·rw [jV hn]
   exact Vp K5
 ·rcases fm hn with hn | ⟨rfl,rfl⟩
  ·exact up (b.clo k hk n hn x hx e)
  ·lia
 ·have:c'=c:=by
   rw [gP hc] at IV
   exact (Sj IV).symm
  subst this
  rcases ko hx with hx | hx
  ·exact up (b.cur x hx c' hc e)
  ·rw [jV hx]
   exact ⟨_,RN _ RM,rfl,Vp K5⟩
theorem Bfs.next {arcs:List Gf} {i:Nat} {N:List Nd} {T:List Gf} (b:Bfs arcs i arcs N T) {c:Nd} (hc:N[i]?=some c):Bfs arcs (i + 1) [] N T:=by
 refine ⟨b.z,b.len,b.nd,b.bd,b.tr,b.mono,fun n hn c' IV=>?_,fun k hk n hn a ha e=>?_,(fun a ha=>nomatch ha),b.nm⟩
 ·have h1:=b.top n hn c hc
  have h2:=b.mono i (i + 1) c c' (Ua _) hc IV
  lia
 ·by_cases hki:k=i
  ·subst hki
   rw [hc] at hn
   cases hn
   exact b.cur a ha c hc e
  ·exact b.clo k (by lia) n hn a ha e
theorem lq:∀ (n:Nat) {l:List Int},l.Nodup->(∀ x∈l,0<=x/\x < (n:Int))->l.length<=n
 | 0,l,_,hb=>by
  cases l with
  | nil=>exact RL _
  | cons a l=>have:=hb a RM;lia
 | n + 1,l,nd,hb=>by
  have h1:=lq n (l:=l.erase (n:Int)) (nd.erase _) fun x hx=>by
   have h2:=(nd.mem_erase_iff.mp hx)
   have h3:=hb x h2.2
   have h4:=h2.1
   lia
  have:=List.length_erase_le (a:=(n:Int)) (l:=l)
  have h5:l.length<=(l.erase (n:Int)).length + 1:=by
   by_cases hm:(n:Int)∈l
   ·rw [List.length_erase_of_mem hm]
    have:=List.length_pos_of_mem hm
    lia
   ·rw [List.erase_of_not_mem hm]
    lia
  lia
theorem Bfs.le12 {arcs:List Gf} {i:Nat} {pre:List Gf} {N:List Nd} {T:List Gf} (b:Bfs arcs i pre N T):N.length<=12:=by
 have:=lq 12 b.nd fun x hx=>by
  obtain ⟨n,hn,rfl⟩:=lp hx
  exact b.bd n hn
 rw [aU] at this
 exact this
theorem wm (arcs:List Gf) (i:Nat) (pre:List Gf) (N:List Nd) (T:List Gf) (b:Bfs arcs i pre N T) (c:Nd) (hc:N[i]?=some c) (a:Gf) (ha:a∈arcs) (Oy:0<=a.2.2/\a.2.2 < 12) :
  ∃ N' T',T'=ud c.1 T a/\Bfs arcs i (pre++[a]) N' T'/\N'[i]?=some c/\fQ [some (.f,.lst (arcs.map eA)),some (.l .f,.lst ((N.map (·.1)).map D.int)),some (.l .f,.lst (T.map eA)),some (.f,.int (i:Int)),some (.f,eA a)]=.ok (.nx [some (.f,.lst (arcs.map eA)),some (.l .f,.lst ((N'.map (·.1)).map D.int)),some (.l .f,.lst (T'.map eA)),some (.f,.int (i:Int)),some (.f,eA a)]):=by
 have PB:=b.le12
 have GV:=(j0 hc).1
 have JD:Ha ((N.map (·.1)).map D.int) (i:Int)=some (.int c.1):=dt (by rw [List.getElem?_map,List.getElem?_map,hc];rfl)
 have z1:((N.map (·.1)).map D.int).length < sizeLine:=gx (by rw [aU,aU];lia)
 have z2:(T.map eA).length < sizeLine:=gx (by rw [aU];have:=b.len;lia)
 unfold fQ eA
 by_cases h1:a.1=c.1
 ·by_cases h2:a.2.2∈N.map (·.1)
  ·refine ⟨N,T,by unfold ud;rw [RY (by rw [<-b.nm];exact fun z=>z.2 h2)],b.skip hc (.inr h2),hc,?_⟩
   have e1:(a.1 == c.1)=true:=Si.mpr h1
   simp only [pv,seval,op,JD,e1,at2,h2,TM,SE,fM]
  ·refine ⟨_,_,by unfold ud;rw [RO (by rw [<-b.nm];exact ⟨h1,h2⟩)],b.take hc ha Oy h1 h2,gP hc,?_⟩
   have e1:(a.1 == c.1)=true:=Si.mpr h1
   have e:(fun a:Gf=>D.tup [D.int a.1,D.str a.2.1,D.int a.2.2])=eA:=rfl
   rw [e] at *
   simp only [pv,seval,op,JD,e1,at2,h2,Ti,Tg,z1,z2,RP]
   rfl
 ·refine ⟨N,T,by unfold ud;rw [RY (fun z=>h1 z.1)],b.skip hc (.inl h1),hc,?_⟩
  have e1:(a.1 == c.1)=false:=Sw.mpr h1
  simp only [pv,seval,op,JD,e1,fM]
theorem wo (arcs:List Gf) (hl:arcs.length<=1000) (hb:∀ a∈arcs,0<=a.2.2/\a.2.2 < 12):∃ N T,Bfs arcs N.length [] N T/\Run arcs N.length T/\di [.lst (arcs.map eA)]=.ok (.l .f,.lst (T.map eA)):=by
 unfold di pQ
 rw [a7 (h:=by rfl)]
 rw [au (env':=[some (.f,.lst (arcs.map eA)),some (.l .f,.lst [.int 0]),none,none,none]) (by simp only [pv,seval,op])]
 rw [au (env':=[some (.f,.lst (arcs.map eA)),some (.l .f,.lst [.int 0]),some (.l .f,.lst []),none,none]) (by simp only [pv,seval,op])]
 rw [au (env':=[some (.f,.lst (arcs.map eA)),some (.l .f,.lst [.int 0]),some (.l .f,.lst []),some (.f,.int 0),none]) (by simp only [pv,seval,op])]
 obtain ⟨env',ew,N,T,i,t4,b,hi,Ks,rfl⟩:=jX (c:=(GC (az K8 (ai 3) (aq (aZ ll (ag (ai 1) aB)))))) (g:=hX)
  (fun k env=>∃ N T i t4,Bfs arcs i [] N T/\i<=N.length/\Run arcs i T/\k=13 - i/\env=[some (.f,.lst (arcs.map eA)),some (.l .f,.lst ((N.map (·.1)).map D.int)),some (.l .f,.lst (T.map eA)),some (.f,.int ((i:Nat):Int)),t4]) (fun env=>∃ N T i t4,Bfs arcs i [] N T/\i=N.length/\Run arcs i T/\env=[some (.f,.lst (arcs.map eA)),some (.l .f,.lst ((N.map (·.1)).map D.int)),some (.l .f,.lst (T.map eA)),some (.f,.int ((i:Nat):Int)),t4]) (by
  rintro k env ⟨N,T,i,t4,b,hi,Ks,rfl,rfl⟩
  have PB:=b.le12
  by_cases GV:i < N.length
  ·refine .inr ⟨[some (.f,.lst (arcs.map eA)),some (.l .f,.lst ((N.map (·.1)).map D.int)),some (.l .f,.lst (T.map eA)),some (.f,.int ((i:Nat):Int)),t4],?_,?_⟩
   ·have:(i:Int) < (N.length:Int):=by lia
    simp only [pv,seval,op,aU,this,TM]
   ·obtain ⟨c,hc⟩:∃ c,N[i]?=some c:=⟨N[i],iU GV⟩
    have O6:=Run.s Ks (c:=c.1) (by rw [<-b.nm,List.getElem?_map,hc];rfl)
    obtain ⟨env',ef,N',T',Qu,b',IV,eT,rfl⟩:=for_list (a:=aw 4) (g:=fQ) (e:=eA) arcs (fun j env=>∃ N T2 t4,Bfs arcs i (arcs.take j) N T2/\N[i]?=some c/\T2=(arcs.take j).foldl (ud c.1) T/\env=[some (.f,.lst (arcs.map eA)),some (.l .f,.lst ((N.map (·.1)).map D.int)),some (.l .f,.lst (T2.map eA)),some (.f,.int ((i:Nat):Int)),t4]) (by
     rintro j a env hj ⟨N,T2,t4,b,hc,eT,rfl⟩
     have K9:=RW hj
     obtain ⟨N',T',eT',b',IV,e⟩:=wm arcs i _ N T2 b c hc a K9 (hb a K9)
     have ht:arcs.take (j + 1)=arcs.take j++[a]:=by rw [SH,hj];rfl
     exact ⟨_,rfl,_,e,N',T',some (.f,eA a),by rw [ht];exact b',IV,by rw [eT',eT,ht,U5];rfl,rfl⟩) _ ⟨N,T,t4,by rw [T8];exact b,hc,by rw [T8];rfl,rfl⟩
    rw [SQ] at b' eT
    have hlt':=(j0 IV).1
    refine ⟨_,13 - (i + 1),?_,by lia,N',T',i + 1,Qu,b'.next IV,by lia,by rw [eT];exact O6,rfl,rfl⟩
    unfold hX
    rw [au (env':=_) (by
     unfold lZ
     simp only [pv,seval,op]
     exact ef)]
    unfold kH
    simp only [pv,seval,op,Vx,U0]
  ·refine .inl ⟨_,?_,N,T,i,t4,b,by lia,Ks,rfl⟩
   have:¬ (i:Int) < (N.length:Int):=by lia
   simp only [pv,seval,op,aU,this,Ti]) 100000 13 _ (by decide) ⟨[(0,[])],[],0,none,Bfs.start arcs,So _,.z,rfl,rfl⟩
 subst hi
 rw [au (env':=_) (by
  unfold l5
  exact ew)]
 unfold kI
 exact ⟨N,T,b,Ks,by simp only [pv,seval,op]⟩
def eCh (names:LNN) (arcs:List Gf):D:=.tup [.tup (names.map D.str),.lst (arcs.map eA)]
theorem qM (a:Gf) (t1 t2 t3:Option R) (eD:PV.Env):fO 3 (aA (aw 0) (aA (aw 1) (aA (aw 2) b8))) (eA a) (t1 :: t2 :: t3 :: eD)=.ok (some (.f,.int a.1) :: some (.f,.str a.2.1) :: some (.f,.int a.2.2) :: eD):=by
 unfold eA
 rw [Kr,RO (by simp),Ht,HQ,RO (by simp),HF,Ht,HQ,RO (by simp),HF,Ht,HQ,RO (by simp),HF]
 rfl
theorem sr (l:List Int):(lI (.lst (l.map D.int))).bind dh=some l:=ka l
def mB (a:Gf):Int:=if a.1 < a.2.2 then a.2.2 else a.1
def bp (arcs:List Gf):Int:=1 + NX.maxD (arcs.map mB) 0
theorem xW {α:Type} {f:α->D} {l:List α} (h:∀ a,c9 (f a)=true):flatDs (l.map f)=true:=by
 rw [bG,SM,R3]
 intro a _
 exact h a
theorem qN (names:LNN) (arcs:List Gf) (hl:arcs.length<=16777216):dY [eCh names arcs]=.ok (.f,.int (bp arcs)):=by
 unfold dY lY
 rw [a7 (h:=by rfl)]
 simp only [pv,seval,op,eCh]
 rw [aX (r:=fun a:Gf=>D.int (mB a)) (fun env=>∃ t1 t2 t3,env=[t1,t2,t3]) arcs ?_ _ ⟨_,_,_,rfl⟩]
 ·rw [HF,RO (aM (by rw [aU];exact hl)),HF,xW fun a=>jU _]
  simp only [pv,seval,op]
  have e:(some (arcs.map fun a=>D.int (mB a))).bind dh=some (arcs.map mB):=by
   have:=sr (arcs.map mB)
   rw [RQ] at this
   exact this
  rw [e]
  rfl
 ·rintro a _ env ⟨t1,t2,t3,rfl⟩
  refine ⟨_,qM a t1 t2 t3 _,?_⟩
  simp only [pv,seval,op]
  exact ⟨_,_,rfl,_,_,_,rfl⟩
def su (n:Nd):D:=.tup (n.2.map D.str)
theorem qO:∀ (N:List Nd) (k:Nat) (n:Nd),(N.map (·.1)).Nodup->N[k]?=some n->getD (N.map fun n=>D.int n.1) (N.map su) (.int n.1)=some (su n)
 | [],_,_,_,h=>by simp at h
 | m :: N,0,n,_,h=>by
  simp at h
  subst h
  unfold getD
  rw [eC,eC,SV,List.find?_cons_of_pos (by show eqD (.int m.1) (.int m.1)=true;rw [eqD];exact SF _)]
  rfl
 | m :: N,k + 1,n,nd,h=>by
  rw [List.getElem?_cons_succ] at h
  rw [eC,Se] at nd
  have ih:=qO N k n nd.2 h
  unfold getD at ih ⊢
  have hne:n.1≠m.1:=fun e=>nd.1 (by rw [<-e];exact Sq.mpr ⟨n,RW h,rfl⟩)
  rw [eC,eC,SV,List.find?_cons_of_neg (by show ¬ eqD (.int n.1) (.int m.1)=true;rw [eqD,Si];exact hne)]
  exact ih
theorem AJ (N:List Nd) (n:Nd) (h:n.1∉N.map (·.1)):qx (N.map fun n=>D.int n.1) (N.map su) (.int n.1) (su n)=((N++[n]).map (fun n=>D.int n.1),(N++[n]).map su):=by
 have e:(N.map fun n=>D.int n.1).any (eqD (.int n.1))=false:=by
  rw [Th,U8]
  intro m hm
  show ¬ eqD (.int n.1) (.int m.1)=true
  rw [eqD,Si]
  intro e
  exact h (by rw [e];exact Sq.mpr ⟨m,hm,rfl⟩)
 unfold qx
 rw [e,RY RK,RP,RP]
 rfl
theorem AK (a:Gf):c9 (eA a)=true:=rfl
theorem kq (as:List Gf):flatDs (as.map eA)=true:=by
 rw [bG,SM,R3]
 exact fun p _=>AK p
theorem E7 (w:LNN) (m:List Nat) (h:w.length<=1000):cJ (.tup (w.map D.str)) (.tup [.str m])=.ok (.f,.tup ((w++[m]).map D.str)):=by
 rw [wb,RO (.inl (line_le (by rw [aU,Sb,SA];lia))),RP]
 rfl
structure Found (arcs:List Gf) (N:List Nd):Prop where
 z:N[0]?=some (0,[])
 nd:(N.map (·.1)).Nodup
 le:N.length<=12
 bd:∀ n∈N,0<=n.1/\n.1 < 12
 wl:∀ n∈N,n.2.length<=12
 par:∀ n∈N,n=(0,[])\/∃ a∈arcs,∃ m∈N,a.1=m.1/\n=(a.2.2,m.2++[a.2.1])
 clo:∀ n∈N,∀ a∈arcs,a.1=n.1->∃ m∈N,m.1=a.2.2/\m.2.length<=n.2.length + 1
theorem Bfs.wlen {arcs:List Gf} {i:Nat} {pre:List Gf} {N:List Nd} {T:List Gf} (b:Bfs arcs i pre N T):∀ (j:Nat) (n:Nd),N[j]?=some n->n.2.length<=j:=by
 intro j
 induction j using Nat.strongRecOn with
 | _ j ih=>
  intro n hn
  cases j with
  | zero=>
   rw [b.z] at hn
   cases hn
   exact RL _
  | succ j=>
   have GV:=(j0 hn).1
   have hl:=b.len
   obtain ⟨_,k,m,hk,hm,_,Lh⟩:=b.tr j T[j] (iU (by lia))
   rw [hn] at Lh
   cases Lh
   have:=ih k (by lia) m hm
   show (m.2++[_]).length<=_
   rw [i7,Sb,SA]
   lia
theorem Bfs.found {arcs:List Gf} {N:List Nd} {T:List Gf} (b:Bfs arcs N.length [] N T):Found arcs N:=by
 refine ⟨b.z,b.nd,b.le12,b.bd,fun n hn=>?_,fun n hn=>?_,fun n hn a ha e=>?_⟩
 ·obtain ⟨j,hj⟩:=Sr.mp hn
  have:=b.wlen j n hj
  have:=(j0 hj).1
  have:=b.le12
  lia
 ·obtain ⟨j,hj⟩:=Sr.mp hn
  cases j with
  | zero=>
   rw [b.z] at hj
   cases hj
   exact .inl rfl
  | succ j=>
   have GV:=(j0 hj).1
   have hl:=b.len
   obtain ⟨ha,k,m,hk,hm,e,Lh⟩:=b.tr j T[j] (iU (by lia))
   rw [hj] at Lh
   cases Lh
   exact .inr ⟨_,ha,m,RW hm,e,rfl⟩
 ·obtain ⟨j,hj⟩:=Sr.mp hn
  exact b.clo j (j0 hj).1 n hj a ha e
def bB (N:List Nd) (s:Int):LNN:=((N.find? fun n=>n.1 == s).map (·.2)).getD []
theorem oH {N:List Nd} (nd:(N.map (·.1)).Nodup) {n:Nd} (h:n∈N):bB N n.1=n.2:=by
 unfold bB
 induction N with
 | nil=>cases h
 | cons m N ih=>
  rw [eC,Se] at nd
  rcases RT.mp h with rfl | h
  ·rw [List.find?_cons_of_pos (by exact SF _)]
   rfl
  ·have hne:m.1≠n.1:=fun e=>nd.1 (by rw [e];exact Sq.mpr ⟨n,h,rfl⟩)
   rw [List.find?_cons_of_neg (by simpa using hne)]
   exact ih nd.2 h
theorem wq (names:LNN) (arcs:List Gf) (hl:arcs.length<=1000) (hb:∀ a∈arcs,0<=a.2.2/\a.2.2 < 12) (all:∀ N,Found arcs N->∀ s:Int,0<=s->s < bp arcs->s∈N.map (·.1)) (hs:0<=bp arcs/\bp arcs<=100) :
  ∃ N T,Bfs arcs N.length [] N T/\Run arcs N.length T/\di [.lst (arcs.map eA)]=.ok (.l .f,.lst (T.map eA))/\cU [eCh names arcs]=.ok (.l .f,.lst ((List.range (bp arcs).toNat).map fun (s:Nat)=>.tup ((bB N (s:Int)).map D.str))):=by
 obtain ⟨N,T,b,Ks,et⟩:=wo arcs hl hb
 refine ⟨N,T,b,Ks,et,?_⟩
 have F:=b.found
 unfold cU pR
 rw [a7 (h:=by rfl)]
 rw [au (env':=[some (.f,eCh names arcs),some (.d,.dct false [.int 0] [.tup []]),none,none,none]) (by simp only [pv,seval,op])]
 have hlen:=b.len
 have PB:=F.le
 obtain ⟨env',ef,t2,t3,t4,rfl⟩:=for_list (a:=fO 3 (aA (aw 2) (aA (aw 3) (aA (aw 4) b8)))) (g:=hZ) (e:=eA) T (fun j env=>∃ t2 t3 t4,env=[some (.f,eCh names arcs),some (.d,.dct false ((N.take (j + 1)).map fun n=>D.int n.1) ((N.take (j + 1)).map su)),t2,t3,t4]) (by
  rintro j a env hj ⟨t2,t3,t4,rfl⟩
  refine ⟨[some (.f,eCh names arcs),some (.d,.dct false ((N.take (j + 1)).map fun n=>D.int n.1) ((N.take (j + 1)).map su)),some (.f,.int a.1),some (.f,.str a.2.1),some (.f,.int a.2.2)],rfl,_,?_,some (.f,.int a.1),some (.f,.str a.2.1),some (.f,.int a.2.2),rfl⟩
  obtain ⟨_,k,n,hk,hn,e,Lh⟩:=b.tr j a hj
  have ht:N.take (j + 1 + 1)=N.take (j + 1)++[(a.2.2,n.2++[a.2.1])]:=by rw [SH,Lh];rfl
  have ndt:((N.take (j + 1)).map (·.1)).Nodup:=by rw [Uz];exact F.nd.take
  have Pr:(N.take (j + 1))[k]?=some n:=by rw [List.getElem?_take_of_lt (by lia)];exact hn
  have hg:=qO (N.take (j + 1)) k n ndt Pr
  have Md:a.2.2∉(N.take (j + 1)).map (·.1):=by
   have Rq:((N.take (j + 1 + 1)).map (·.1)).Nodup:=by rw [Uz];exact F.nd.take
   rw [ht,RP,Ss] at Rq
   intro hm
   exact Rq.2.2 _ hm a.2.2 (by simp) rfl
  have hp:=AJ (N.take (j + 1)) (a.2.2,n.2++[a.2.1]) Md
  have hw:=F.wl n (RW hn)
  have ha:=E7 n.2 a.2.1 (by lia)
  have hd:JS (.dct false ((N.take (j + 1)).map fun n=>D.int n.1) ((N.take (j + 1)).map su)) (.int a.1)=.ok (.f,.tup (n.2.map D.str)):=by
   unfold JS
   dsimp only
   rw [RO (show fB false (.int a.1)=true from rfl),e,hg]
   rfl
  have hz:(decide (((N.take (j + 1)).map fun n=>D.int n.1).length < sizeLine))=true:=Sm (gx (by rw [aU,Su];lia))
  unfold su at hp
  dsimp only at hp
  have ew:(fun n:Nd=>D.tup (n.2.map D.str))=su:=rfl
  rw [ew] at hp
  rw [ht]
  unfold hZ
  simp only [pv,seval,op,hd,ha,hz,Ue,hp]) _ ⟨none,none,none,rfl⟩
 rw [show N.take (T.length + 1)=N by rw [<-hlen];exact SQ] at ef
 have h0:N.take (0 + 1)=[(0,[])]:=by rw [SH,F.z];rfl
 rw [h0] at ef
 rw [au (env':=_) (by
  unfold l6
  unfold eCh at ef ⊢
  simp only [pv,seval,op,et,kq]
  exact ef)]
 clear ef
 unfold kJ
 have KD:=qN names arcs (by lia)
 have hc:bY (aw 0) cZ (az JS (ai 1) (ai 0)) ((List.range (bp arcs).toNat).map fun (k:Nat)=>D.int (k:Int)) [none,some (.f,.dct false (N.map fun n=>D.int n.1) (N.map su))]=.ok ((List.range (bp arcs).toNat).map fun (s:Nat)=>.tup ((bB N (s:Int)).map D.str)):=by
  refine aX (r:=fun s:Nat=>D.tup ((bB N (s:Int)).map D.str)) (fun env=>∃ t1,env=[t1,some (.f,.dct false (N.map fun n=>D.int n.1) (N.map su))]) (List.range (bp arcs).toNat) ?_ _ ⟨_,rfl⟩
  rintro s MN env ⟨t1,rfl⟩
  rw [Sg] at MN
  obtain ⟨n,hn,en⟩:=lp (all N F (s:Int) (by lia) (by lia))
  obtain ⟨k,hk⟩:=Sr.mp hn
  have hd:JS (.dct false (N.map fun n=>D.int n.1) (N.map su)) (.int (s:Int))=.ok (.f,.tup ((bB N (s:Int)).map D.str)):=by
   unfold JS
   dsimp only
   rw [RO (show fB false (.int (s:Int))=true from rfl),<-en,qO N k n F.nd hk,oH F.nd hn]
   rfl
  refine ⟨[some (.f,.int (s:Int)),some (.f,.dct false (N.map fun n=>D.int n.1) (N.map su))],rfl,?_⟩
  simp only [pv,seval,op,hd]
  exact ⟨_,_,rfl,_,rfl⟩
 have hf:flatDs ((List.range (bp arcs).toNat).map fun (s:Nat)=>D.tup ((bB N (s:Int)).map D.str))=true:=by
  rw [bG,SM,R3]
  intro s _
  show c9 (.tup _)=true
  rw [cS,PV.flat_strs]
 unfold eCh at KD
 simp only [pv,seval,op,KD]
 rw [RO (by lia)]
 simp only [pv,seval,op,hc]
 rw [RO (aM (by rw [aU,RX];lia)),hf]
 simp only [pv,seval,op]
def ak (a:Gf):List Key:=[.inl a.1,.inr (S a.2.1),.inl a.2.2]
def eJ (a b:Gf):Bool:=fK (ak a) (ak b)
theorem S_inj {a b:List Nat} (h:S a=S b):a=b:=by
 have:=SY (fun s:Str=>s.cps.toList) h
 simpa only [fu] using this
theorem EK (a:Gf):kT (ak a)=eA a:=by
 unfold kT ak eA
 simp only [eC,Sd,kD,fu]
theorem wt {α β:Type} (f:α->β) (lt:β->β->Bool) (x:α):∀ l:List α,ins lt (f x) (l.map f)=(ins (fun a b=>lt (f a) (f b)) x l).map f
 | []=>rfl
 | y :: ys=>by
  rw [eC,ins,ins]
  cases lt (f y) (f x) with
  | true=>rw [RO rfl,RO rfl,wt f lt x ys,eC]
  | false=>rw [RY RK,RY RK,eC,eC]
theorem p4 {α β:Type} (f:α->β) (lt:β->β->Bool):∀ l:List α,b5 lt (l.map f)=(b5 (fun a b=>lt (f a) (f b)) l).map f
 | []=>rfl
 | x :: l=>by
  show ins lt (f x) (b5 lt (l.map f))=_
  rw [p4 f lt l,wt]
  rfl
theorem wu (as:List Gf):as.map eA=(as.map ak).map kT:=by
 rw [RQ]
 exact SK fun a _=>(EK a).symm
theorem Dc (a b:Gf):eqD (eA a) (eA b)=decide (a=b):=by
 obtain ⟨x,y,z⟩:=a
 obtain ⟨x',y',z'⟩:=b
 unfold eA
 simp only [eqD,kc]
 rw [Sh]
 simp
theorem iH:∀ (l:List Int) (b:Int),b<=l.foldl max b/\(∀ x∈l,x<=l.foldl max b)/\(l.foldl max b=b\/l.foldl max b∈l)
 | [],b=>⟨VE _,fun _ h=>(nomatch h),.inl rfl⟩
 | a :: l,b=>by
  obtain ⟨h1,h2,h3⟩:=iH l (max b a)
  rw [TU]
  refine ⟨by lia,fun x hx=>?_,?_⟩
  ·rcases RT.mp hx with rfl | hx
   ·lia
   ·exact h2 x hx
  ·rcases h3 with h3 | h3
   ·rw [h3]
    by_cases h:b<=a
    ·exact .inr (by rw [Int.max_eq_right h];exact RM)
    ·exact .inl (Int.max_eq_left (by lia))
   ·exact .inr (RU _ h3)
theorem lr {ns:List Int} {x:Int} (h:x∈ns):x<=eL ns:=(iH ns _).2.1 x h
theorem sv {ns:List Int} (h:ns≠[]):eL ns∈ns:=by
 cases ns with
 | nil=>exact absurd rfl h
 | cons a l=>
  rcases (iH (a :: l) a).2.2 with e | e
  ·show List.foldl max a (a :: l)∈a :: l
   rw [e]
   exact RM
  ·exact e
theorem AL {ns:List Int} {d x:Int} (h:x∈ns):x<=NX.maxD ns d:=by
 unfold NX.maxD
 rw [RY (List.ne_nil_of_mem h)]
 exact lr h
theorem wx (ns:List Int) (d:Int):(ns=[]/\NX.maxD ns d=d)\/NX.maxD ns d∈ns:=by
 unfold NX.maxD
 by_cases h:ns=[]
 ·exact .inl ⟨h,RO h⟩
 ·rw [RY h]
  exact .inr (sv h)
theorem mC (a:Gf):a.1<=mB a/\a.2.2<=mB a/\(mB a=a.1\/mB a=a.2.2):=by
 unfold mB
 split
 ·exact ⟨by lia,by lia,.inr rfl⟩
 ·exact ⟨by lia,by lia,.inl rfl⟩
theorem wy {arcs:List Gf} {a:Gf} (h:a∈arcs):a.1 < bp arcs/\a.2.2 < bp arcs:=by
 have h1:=AL (d:=0) (Sq.mpr ⟨a,h,rfl⟩:mB a∈arcs.map mB)
 obtain ⟨h2,h3,_⟩:=mC a
 unfold bp
 lia
theorem ue {arcs:List Gf} (h:∀ a∈arcs,0<=a.1/\0<=a.2.2):1<=bp arcs:=by
 unfold bp
 rcases wx (arcs.map mB) 0 with ⟨_,e⟩ | e
 ·lia
 ·obtain ⟨a,ha,e2⟩:=lp e
  have:=h a ha
  obtain ⟨h1,h2,_⟩:=mC a
  lia
theorem p5 {α:Type} (lt:α->α->Bool) {l:List α} {a:α}:a∈b5 lt l<->a∈l:=(e8 lt l).mem_iff
theorem Found.zero {arcs:List Gf} {N:List Nd} (F:Found arcs N):(0:Int)∈N.map (·.1):=Sq.mpr ⟨(0,[]),RW F.z,rfl⟩
structure Ch (names:LNN) (arcs:List Gf):Prop where
 al:arcs.length<=60
 bd:∀ a∈arcs,(0<=a.1/\a.1 < 12)/\0<=a.2.2/\a.2.2 < 12
 nm:∀ a∈arcs,a.2.1∈names
 st:1<=bp arcs/\bp arcs<=12
 all:∀ N,Found arcs N->∀ s:Int,0<=s->s < bp arcs->s∈N.map (·.1)
structure Ra (names:LNN) (as:List Gf) (many:Nat):Prop where
 mm:1<=many/\many<=12
 len:as.length<=60
 bd:∀ a∈as,(0<=a.1/\a.1 < (many:Int))/\0<=a.2.2/\a.2.2 < (many:Int)
 nm:∀ a∈as,a.2.1∈names
 rc:∀ j:Nat,1<=j->j < many->∃ a∈as,a.2.2=(j:Int)/\∃ b:Nat,b < j/\a.1=(b:Int)
theorem p6 {arcs:List Gf} {many:Nat} (hm:1<=many) (h:∀ a∈arcs,(0<=a.1/\a.1 < (many:Int))/\0<=a.2.2/\a.2.2 < (many:Int)):1<=bp arcs/\bp arcs<=(many:Int):=by
 refine ⟨ue fun a ha=>?_,?_⟩
 ·have:=h a ha
  lia
 ·unfold bp
  rcases wx (arcs.map mB) 0 with ⟨_,e⟩ | e
  ·lia
  ·obtain ⟨a,ha,e2⟩:=lp e
   have:=h a ha
   obtain ⟨h1,h2,h3⟩:=mC a
   lia
theorem Ra.sort {names:LNN} {as:List Gf} {many:Nat} (r:Ra names as many):Ra names (b5 eJ as) many:=by
 have mem:∀ {a:Gf},a∈b5 eJ as<->a∈as:=p5 eJ
 refine ⟨r.mm,by rw [iF];exact r.len,fun a ha=>r.bd a (mem.mp ha),fun a ha=>r.nm a (mem.mp ha),fun j h1 h2=>?_⟩
 obtain ⟨a,ha,q⟩:=r.rc j h1 h2
 exact ⟨a,mem.mpr ha,q⟩
theorem Ra.ch {names:LNN} {as:List Gf} {many:Nat} (r:Ra names as many):Ch names as:=by
 have hm:=r.mm
 have KD:=p6 hm.1 r.bd
 refine ⟨r.len,fun a ha=>?_,r.nm,by lia,fun N F s h0 h1=>?_⟩
 ·have:=r.bd a ha
  lia
 ·have key:∀ j:Nat,j < many->(j:Int)∈N.map (·.1):=by
   intro j
   induction j using Nat.strongRecOn with
   | _ j ih=>
    intro hj
    cases j with
    | zero=>exact F.zero
    | succ j=>
     obtain ⟨a,ha,e1,b,Qv,e2⟩:=r.rc (j + 1) (by lia) hj
     obtain ⟨n,hn,en⟩:=lp (ih b Qv (by lia))
     obtain ⟨m,hm,em,_⟩:=F.clo n hn a ha (by rw [e2,en])
     exact Sq.mpr ⟨m,hm,by rw [em,e1]⟩
  obtain ⟨k,rfl⟩:=R7 h0
  exact key k (by lia)
theorem qP (as:List Gf) (h:as.length < 64):fV [.lst (as.map eA)]=.ok (.l .f,.lst ((b5 eJ as).map eA)):=by
 have key:lQ (as.map eA)=some ((b5 eJ as).map eA):=by
  cases as with
  | nil=>rfl
  | cons a as=>
   have e1:kC ((a :: as).map eA)=some ((a :: as).map ak):=by rw [wu,ke]
   have e2:sameKinds (ak a) (as.map ak)=true:=by
    unfold sameKinds
    rw [SM,R9,R3]
    exact ⟨rfl,fun b _=>rfl⟩
   unfold lQ
   rw [e1,eC,eC]
   dsimp only [eA,dh,gm]
   rw [RO e2,<-eC,p4 ak fK,wu]
   rfl
 unfold fV
 dsimp only
 rw [RO (by rw [aU];exact h),key]
def cell (ns:List Int) (k:Nat):Int:=ns.getD k 0
theorem jY (ns:List Int) (k:Nat):aE [.lst (ns.map D.int),.int (k:Int)]=.ok (.f,.int (cell ns k)):=by
 unfold aE iY cell
 rw [a7 (h:=by rfl)]
 simp only [pv,seval,op,aU]
 by_cases h:k < ns.length
 ·have h1:(k:Int) < (ns.length:Int):=by lia
  simp only [h1,TM,pv,seval,gw h]
 ·have h1:¬ (k:Int) < (ns.length:Int):=by lia
  simp only [h1,Ti,pv,seval,fM,List.getD_eq_getElem?_getD,List.getElem?_eq_none (Nat.le_of_not_lt h),Vg]
theorem yL (x y:Int) (h:b9 x=true):z9 (.int x) (.int y)=.ok (.f,.int (x * y)):=by rw [wa,h,VQ,RO rfl]
theorem DJ (x y:Int) (h:b9 y=true):z9 (.int x) (.int y)=.ok (.f,.int (x * y)):=by rw [wa,h,Bool.or_true,RO rfl]
theorem sH (x:Int) (h:0<=x) (h2:x<=4294967296):b9 x=true:=by
 unfold b9
 rw [R0]
 lia
def wz (c k:Int):Int:=((((c % 2147483647 + 48271 * (k + 1)) * (c % 2147483647 + 48271 * (k + 1)) + 69621 * k) % 2147483647) * (((c % 2147483647 + 48271 * (k + 1)) * (c % 2147483647 + 48271 * (k + 1)) + 69621 * k) % 2147483647) + 16807 * k + 1) % 2147483647
theorem mD (c k:Int) (hk:0<=k) (Pr:k<=1000):aW [.int c,.int k]=.ok (.f,.int (wz c k)):=by
 have b1:=eV c 2147483647 (by decide)
 have b2:=eV ((c % 2147483647 + 48271 * (k + 1)) * (c % 2147483647 + 48271 * (k + 1)) + 69621 * k) 2147483647 (by decide)
 unfold aW kN wz
 rw [a7 (h:=by rfl)]
 rw [au (env':=[some (.f,.int c),some (.f,.int k),some (.f,.int (c % 2147483647 + 48271 * (k + 1)))]) (by simp only [pv,seval,op,iR _ 2147483647 (by decide),yL 48271 (k + 1) (by decide)])]
 have hs:b9 (c % 2147483647 + 48271 * (k + 1))=true:=sH _ (by lia) (by lia)
 generalize c % 2147483647 + 48271 * (k + 1)=x at *
 rw [au (env':=[some (.f,.int c),some (.f,.int k),some (.f,.int ((x * x + 69621 * k) % 2147483647))]) (by simp only [pv,seval,op,iR _ 2147483647 (by decide),yL x x hs,yL 69621 k (by decide)])]
 generalize (x * x + 69621 * k) % 2147483647=y at *
 have hs:b9 y=true:=sH _ (by lia) (by lia)
 simp only [pv,seval,op,iR _ 2147483647 (by decide),yL y y hs,yL 16807 k (by decide)]
theorem sI:∀ l:List Nat,joinL [] (l.map fun c=>[c])=l
 | []=>rfl
 | [c]=>rfl
 | c :: d :: l=>by
  have ih:=sI (d :: l)
  show [c]++[]++joinL [] ((d :: l).map fun c=>[c])=_
  rw [ih]
  rfl
theorem wA:∀ l:List Nat,((l.map fun c=>[c]).map List.length).sum=l.length
 | []=>rfl
 | c :: l=>by
  rw [eC,eC,Ve,wA l]
  show 1 + l.length=l.length + 1
  lia
theorem AM (l:List Nat) (h:l.length<=1000):vU [] [.lst ((l.map fun c=>[c]).map D.str)]=.ok (.f,.str l):=by
 unfold vU
 dsimp only
 rw [fg]
 dsimp only
 rw [RO (by rw [wA,SA,Nat.mul_zero];lia),sI]
theorem sJ (a:List Nat) (l:LNN):K7 (.str a) (.lst (l.map D.str))=.ok (.f,.bl (decide (a∈l))):=by
 unfold K7
 dsimp only
 rw [nu,xR,plainD]
 all_goals simp
def La (base:List Int) (wd sp:Nat) (tk:Bool) (k:Nat):List Int:=if tk then base.take (k + 1) else (base.take wd).set sp ((base.getD sp 0 + (k:Int)) % 26)
def Jn (base:List Int) (wd sp:Nat) (tk:Bool) (k:Nat):List Nat:=(La base wd sp tk k).map fun j=>97 + j.toNat
theorem AN (l:List Int) (hb:∀ j∈l,0<=j/\j < 26):bY (aw 0) cZ (az Gi (ai 1) (ai 0)) (l.map D.int) [none,some (.f,.str Jm)]=.ok (((l.map fun j=>97 + j.toNat).map fun c=>[c]).map D.str):=by
 rw [aX (r:=fun j:Int=>D.str [97 + j.toNat]) (fun env=>∃ t,env=[t,some (.f,.str Jm)]) l ?_ _ ⟨none,rfl⟩]
 ·rw [RQ,RQ]
  rfl
 ·rintro j hj env ⟨t,rfl⟩
  obtain ⟨h0,h1⟩:=hb j hj
  refine ⟨[some (.f,.int j),some (.f,.str Jm)],rfl,.f,[some (.f,.int j),some (.f,.str Jm)],?_,_,rfl⟩
  simp only [pv,seval,op,C8 j h0 h1]
theorem EL (base:List Int) (hb:∀ j∈base,0<=j/\j < 26) (wd sp:Nat) (tk:Bool) (k:Nat):∀ j∈La base wd sp tk k,0<=j/\j < 26:=by
 intro j hj
 unfold La at hj
 split at hj
 ·exact hb j (UL hj)
 ·rcases List.mem_or_eq_of_mem_set hj with h | h
  ·exact hb j (UL h)
  ·rw [h]
   exact eV _ _ (by decide)
theorem wB (base:List Int) (hl:base.length=8) (wd sp:Nat) (tk:Bool) (k:Nat):(La base wd sp tk k).length<=8:=by
 unfold La
 split
 ·rw [Su];lia
 ·rw [TR,Su];lia
theorem De (Hi:Int) (base:List Int) (hl:base.length=8) (hb:∀ j∈base,0<=j/\j < 26) (wd sp:Nat) (hw:wd<=8) (hs:sp < wd) (tk:Bool) (PD:(Hi / 64 % 4 == 1)=tk) (l:LNN) (hll:l.length<=10) (k:Nat) (t7:Option R) :
  ∃ u7,dN [some (.f,.int Hi),some (.f,.str Jm),some (.l .f,.lst (base.map D.int)),some (.f,.int (wd:Int)),some (.f,.int (sp:Int)),some (.l .f,.lst (l.map D.str)),some (.f,.int (k:Int)),t7]=.ok (.nx [some (.f,.int Hi),some (.f,.str Jm),some (.l .f,.lst (base.map D.int)),some (.f,.int (wd:Int)),some (.f,.int (sp:Int)),some (.l .f,.lst ((l++[Jn base wd sp tk k]).map D.str)),some (.f,.int (k:Int)),u7]):=by
 have NO:jz (base.map D.int) none (some (wd:Int))=(base.take wd).map D.int:=by rw [oG,Uz]
 have JD:Ha ((base.take wd).map D.int) (sp:Int)=some (.int (base.getD sp 0)):=by
  rw [gw (by rw [Su];lia)]
  congr 2
  rw [List.getD_eq_getElem?_getD,List.getD_eq_getElem?_getD,List.getElem?_take_of_lt hs]
 have H0:ixN (base.take wd).length (sp:Int)=some sp:=wj _ _ (by rw [Su];lia)
 have Rr:=wB base hl wd sp tk k
 have ME:=AN (La base wd sp tk k) (EL base hb wd sp tk k)
 have hj:=AM (Jn base wd sp tk k) (by unfold Jn;rw [aU];lia)
 have hz:(l.map D.str).length < sizeLine:=gx (by rw [aU];lia)
 have Rt:(((Jn base wd sp tk k).map fun c=>[c]).map D.str).length<=sizeLine:=aM (by unfold Jn;rw [aU,aU,aU];lia)
 have Jo:=PV.flat_strs ((Jn base wd sp tk k).map fun c=>[c])
 have ME:bY (aw 0) cZ (az Gi (ai 1) (ai 0)) ((La base wd sp tk k).map D.int) [none,some (.f,.str Jm)]=.ok (((Jn base wd sp tk k).map fun c=>[c]).map D.str):=ME
 unfold dN
 rw [au (env':=[some (.f,.int Hi),some (.f,.str Jm),some (.l .f,.lst (base.map D.int)),some (.f,.int (wd:Int)),some (.f,.int (sp:Int)),some (.l .f,.lst (l.map D.str)),some (.f,.int (k:Int)),some (.l .f,.lst ((base.take wd).map D.int))]) (by simp only [pv,seval,op,NO])]
 rw [au (env':=[some (.f,.int Hi),some (.f,.str Jm),some (.l .f,.lst (base.map D.int)),some (.f,.int (wd:Int)),some (.f,.int (sp:Int)),some (.l .f,.lst (l.map D.str)),some (.f,.int (k:Int)),some (.l .f,.lst (((base.take wd).set sp ((base.getD sp 0 + (k:Int)) % 26)).map D.int))]) (by
  rw [List.map_set]
  simp only [pv,seval,op,JD,iR _ 26 (by decide),aU,H0])]
 rw [au (env':=[some (.f,.int Hi),some (.f,.str Jm),some (.l .f,.lst (base.map D.int)),some (.f,.int (wd:Int)),some (.f,.int (sp:Int)),some (.l .f,.lst (l.map D.str)),some (.f,.int (k:Int)),some (.l .f,.lst ((La base wd sp tk k).map D.int))]) (by
  unfold La
  cases tk with
  | true=>
   have LF:jz (base.map D.int) none (some ((k:Int) + 1))=(base.take (k + 1)).map D.int:=by rw [show (k:Int) + 1=((k + 1:Nat):Int) by lia,oG,Uz]
   simp only [pv,seval,op,fN _ 64 (by decide) (by decide),iR _ 4 (by decide),PD,LF]
  | false=>simp only [pv,seval,op,fN _ 64 (by decide) (by decide),iR _ 4 (by decide),PD,fM])]
 refine ⟨some (.l .f,.lst ((La base wd sp tk k).map D.int)),?_⟩
 generalize La base wd sp tk k=W at *
 generalize Jn base wd sp tk k=V at *
 rw [RP,eC,Sd]
 generalize (az Gi (ai 1) (ai 0))=GG at ME ⊢
 simp only [pv,seval,op,ME,Rt,Jo,hj,hz]
theorem AO (base:List Int) (hl:base.length=8) (hb:∀ j∈base,0<=j/\j < 26) (wd sp:Nat) (hw:wd<=8) (hs:sp < wd) (tk:Bool) (k k':Nat) (hk:k<=5) (hk':k'<=5) (e:Jn base wd sp tk k=Jn base wd sp tk k'):k=k':=by
 unfold Jn La at e
 cases tk with
 | true=>
  have:=SY List.length e
  simp only [Us,aU,Su] at this
  lia
 | false=>
  have e2:=SY (fun l=>l[sp]?) e
  have GV:sp < (base.take wd).length:=by rw [Su];lia
  simp only [fM,UH,List.getElem?_map,List.getElem?_set_self GV,Tx,UG] at e2
  have b1:=eV (base.getD sp 0 + (k:Int)) 26 (by decide)
  have b2:=eV (base.getD sp 0 + (k':Int)) 26 (by decide)
  generalize base.getD sp 0=z at *
  lia
theorem AQ (Hi:Int):∃ l:LNN,l.length=5/\l.Nodup/\l.Pairwise (fun a b=>KI b a=false)/\dF [.int Hi]=.ok (.l .f,.lst (l.map D.str)):=by
 unfold dF kO
 rw [a7 (h:=by rfl)]
 rw [au (env':=[some (.f,.int Hi),some (.f,.str Jm),none,none,none,none,none,none]) (by simp only [pv,seval,op];rfl)]
 have hc:bY (aw 0) cZ (az fL (aq (cw aW (ag (ai 1) (ag (ai 0) aB)))) (aq (aJ (.int 26)))) ((List.range 8).map fun (k:Nat)=>D.int (k:Int)) [none,some (.f,.int Hi)]=.ok (((List.range 8).map fun (k:Nat)=>wz Hi (k:Int) % 26).map D.int):=by
  rw [aX (r:=fun k:Nat=>D.int (wz Hi (k:Int) % 26)) (fun env=>∃ t,env=[t,some (.f,.int Hi)]) (List.range 8) ?_ _ ⟨none,rfl⟩]
  ·rw [RQ]
   rfl
  ·rintro k hk env ⟨t,rfl⟩
   have hk:=Sg.mp hk
   refine ⟨[some (.f,.int (k:Int)),some (.f,.int Hi)],rfl,.f,[some (.f,.int (k:Int)),some (.f,.int Hi)],?_,_,rfl⟩
   simp only [pv,seval,op,mD Hi (k:Int) (by lia) (by lia),iR _ 26 (by decide)]
 have MU:((List.range 8).map fun (k:Nat)=>wz Hi (k:Int) % 26).length=8:=rfl
 have Lg:∀ j∈((List.range 8).map fun (k:Nat)=>wz Hi (k:Int) % 26),0<=j/\j < 26:=by
  intro j hj
  obtain ⟨k,_,rfl⟩:=lp hj
  exact eV _ _ (by decide)
 generalize ((List.range 8).map fun (k:Nat)=>wz Hi (k:Int) % 26)=base at hc MU Lg
 have hlen:(base.map D.int).length<=sizeLine:=aM (by rw [aU];lia)
 have hff:=Ga base
 rw [au (env':=[some (.f,.int Hi),some (.f,.str Jm),some (.l .f,.lst (base.map D.int)),none,none,none,none,none]) (by
  generalize (az fL (aq (cw aW (ag (ai 1) (ag (ai 0) aB)))) (aq (aJ (.int 26))))=GG at hc ⊢
  simp only [pv,seval,op]
  rw [RO (by decide)]
  simp only [pv,seval,op,show (8:Int).toNat=8 from rfl,hc,hlen,hff])]
 have m8:=eV Hi 8 (by decide)
 obtain ⟨wd,ew⟩:=R7 (show 0<=1 + Hi % 8 by lia)
 have msp:=eV (Hi / 8) (wd:Int) (by lia)
 obtain ⟨sp,es⟩:=R7 msp.1
 rw [au (env':=[some (.f,.int Hi),some (.f,.str Jm),some (.l .f,.lst (base.map D.int)),some (.f,.int (wd:Int)),none,none,none,none]) (by simp only [pv,seval,op,iR _ 8 (by decide),ew])]
 rw [au (env':=[some (.f,.int Hi),some (.f,.str Jm),some (.l .f,.lst (base.map D.int)),some (.f,.int (wd:Int)),some (.f,.int (sp:Int)),none,none,none]) (by simp only [pv,seval,op,fN _ 8 (by decide) (by decide),iR _ (wd:Int) (by lia),es])]
 rw [au (env':=[some (.f,.int Hi),some (.f,.str Jm),some (.l .f,.lst (base.map D.int)),some (.f,.int (wd:Int)),some (.f,.int (sp:Int)),some (.l .f,.lst []),none,none]) (by simp only [pv,seval,op])]
 obtain ⟨tk,PD⟩:∃ tk,(Hi / 64 % 4 == 1)=tk:=⟨_,rfl⟩
 obtain ⟨env',ef,t6,t7,rfl⟩:=my (a:=aw 6) (g:=dN) (e:=fun k=>D.int (k:Int)) 5 (fun i env=>∃ (t6 t7:Option R),env=[some (.f,.int Hi),some (.f,.str Jm),some (.l .f,.lst (base.map D.int)),some (.f,.int (wd:Int)),some (.f,.int (sp:Int)),some (.l .f,.lst (((List.range i).map (Jn base wd sp tk)).map D.str)),t6,t7]) (by
  rintro k env hk ⟨t6,t7,rfl⟩
  obtain ⟨u7,e⟩:=De Hi base MU Lg wd sp (by lia) (by lia) tk PD ((List.range k).map (Jn base wd sp tk)) (by rw [aU,RX];lia) k t7
  rw [show ((List.range k).map (Jn base wd sp tk))++[Jn base wd sp tk k]=(List.range (k + 1)).map (Jn base wd sp tk) by rw [Vq,RP];rfl] at e
  exact ⟨_,rfl,_,e,_,_,rfl⟩) _ ⟨none,none,rfl⟩
 rw [List.range_zero,Sd,Sd] at ef
 rw [au (env':=_) (by
  unfold iZ
  simp only [pv,seval,op]
  rw [RO (by decide)]
  simp only [pv,seval,op,show (5:Int).toNat=5 from rfl]
  exact ef)]
 unfold ib
 have LG:((List.range 5).map (Jn base wd sp tk)).length=5:=by rw [aU,RX]
 have Nj:((List.range 5).map (Jn base wd sp tk)).Nodup:=iG _ 5 fun i j hi hj e=>AO base MU Lg wd sp (by lia) (by lia) tk i j (by lia) (by lia) e
 have Ru:∀ n∈((List.range 5).map (Jn base wd sp tk)),n.length<=8:=by
  intro n hn
  obtain ⟨k,_,rfl⟩:=lp hn
  unfold Jn
  rw [aU]
  exact wB base MU wd sp tk k
 generalize ((List.range 5).map (Jn base wd sp tk))=l at LG Nj Ru
 by_cases hm:[109,111,118,101,115]∈l
 ·have HU:bY (aw 0) cZ (az cJ (aq (aJ (.str [115]))) (ai 0)) (l.map D.str) [none]=.ok ((l.map fun n=>115 :: n).map D.str):=by
   rw [aX (r:=fun n:List Nat=>D.str (115 :: n)) (fun env=>∃ t,env=[t]) l ?_ _ ⟨none,rfl⟩]
   ·rw [RQ]
    rfl
   ·rintro n hn env ⟨t,rfl⟩
    have:=Ru n hn
    refine ⟨[some (.f,.str n)],rfl,.f,[some (.f,.str n)],?_,_,rfl⟩
    simp only [pv,seval,op,FZ [115] n (by rw [R5];lia)]
  have Qw:((l.map fun n=>115 :: n).map D.str).length<=sizeLine:=aM (by rw [aU,aU];lia)
  have hnd2:(l.map fun n=>115 :: n).Nodup:=by
   rw [Uh,UE]
   exact (Uh.mp Nj).imp fun {a b} h e=>h (Uu e).2
  have Jo:=PV.flat_strs (l.map fun n=>115 :: n)
  rw [au (env':=[some (.f,.int Hi),some (.f,.str Jm),some (.l .f,.lst (base.map D.int)),some (.f,.int (wd:Int)),some (.f,.int (sp:Int)),some (.l .f,.lst ((l.map fun n=>115 :: n).map D.str)),t6,t7]) (by
   generalize (az cJ (aq (aJ (.str [115]))) (ai 0))=GG at HU ⊢
   simp only [pv,seval,op,sJ,hm,TM,HU,Qw,Jo])]
  refine ⟨b5 KI (l.map fun n=>115 :: n),by rw [iF,aU];exact LG,(e8 KI _).nodup_iff.mpr hnd2,fP qw _,?_⟩
  simp only [pv,seval,op,wc (l.map fun n=>115 :: n) (by rw [aU];lia)]
 ·rw [au (env':=[some (.f,.int Hi),some (.f,.str Jm),some (.l .f,.lst (base.map D.int)),some (.f,.int (wd:Int)),some (.f,.int (sp:Int)),some (.l .f,.lst (l.map D.str)),t6,t7]) (by simp only [pv,seval,op,sJ,hm,Ti,fM])]
  refine ⟨b5 KI l,by rw [iF];exact LG,(e8 KI _).nodup_iff.mpr Nj,fP qw _,?_⟩
  simp only [pv,seval,op,wc l (by lia)]
theorem Dg (env:PV.Env) (fo:FO) (fp Gj fq:FP):EB fo fp Gj fq env=Res.bnd (fo env) (f:=⟨fun p=>Res.bnd (fp p.2) (f:=⟨fun q=>Res.bnd (Gj q.2) (f:=⟨fun t=>Res.bnd (fq t.2) (f:=⟨fun u=>Res.bnd (HW u.2 p.1) (f:=⟨fun d=>Res.bnd (CI d q.1 t.1 u.1) (f:=⟨fun r=>.ok (r,u.2)⟩)⟩)⟩)⟩)⟩)⟩):=id rfl
theorem AR (env:PV.Env) (fa fb fc:FX):Al fa fb fc env=Res.bnd (fa env) (f:=⟨fun p=>Res.bnd (fb p.2) (f:=⟨fun q=>Res.bnd (fc q.2) (f:=⟨fun t=>.ok ((.t [.f,q.1.1,t.1.1],.tup [p.1.2,q.1.2,t.1.2]),t.2)⟩)⟩)⟩):=id rfl
theorem xX {α β:Type} (f:α->β) (l:List α) (lo hi:Option Int) (c:Int):hW (l.map f) lo hi c=(hW l lo hi c).map f:=by
 unfold hW
 rw [aU,List.map_filterMap]
 congr 1
 funext i
 rw [List.getElem?_map]
theorem EM (ds:List D) (lo hi:Option Int):CI (.lst ds) lo hi (some 6)=.ok (.l .f,.lst (hW ds lo hi 6)):=id rfl
theorem Dh (ns:List Int) (first k:Int) (hk:0<=k/\k<=1000):∃ v:Int,d4 [.lst (ns.map D.int),.int first,.int k]=.ok (.f,.int v):=by
 unfold d4 l9
 rw [a7 (h:=by rfl)]
 rw [au (env':=[some (.f,.lst (ns.map D.int)),some (.f,.int first),some (.f,.int k),some (.f,.int (7 + k)),none]) (by simp only [pv,seval,op])]
 obtain ⟨env',ef,v,t4,rfl⟩:=for_list (a:=aw 4) (g:=fW) (e:=D.int) (hW ns (some (first + k)) (some (first + 84)) 6) (fun j env=>∃ (v:Int) (t4:Option R),env=[some (.f,.lst (ns.map D.int)),some (.f,.int first),some (.f,.int k),some (.f,.int v),t4]) (by
  rintro j c env hj ⟨v,t4,rfl⟩
  refine ⟨_,rfl,_,?_,wz (c + v) k,some (.f,.int c),rfl⟩
  unfold fW
  simp only [pv,seval,op,mD (c + v) k hk.1 hk.2]) _ ⟨7 + k,none,rfl⟩
 rw [au (env':=_) (by
  unfold jK
  simp only [pv,seval,op,Dg,EM,xX]
  exact ef)]
 unfold i4
 exact ⟨v,by simp only [pv,seval,op]⟩
def Tk (l:List Int) (cnt:Nat):Prop:=l.length=cnt/\∀ x∈l,0<=x/\x<=10
theorem Tk.app {l:List Int} {cnt:Nat} (h:Tk l cnt) {x:Int} (hx:0<=x/\x<=10):Tk (l++[x]) (cnt + 1):=by
 refine ⟨by rw [i7,h.1];rfl,fun y hy=>?_⟩
 rcases ko hy with hy | hy
 ·exact h.2 y hy
 ·rw [jV hy]
  exact hx
theorem AS (number:Int) (cnt:Nat) (hc:cnt<=10):∃ (b:Int) (ts gs:List Int),(0<=b/\b<=10)/\Tk ts cnt/\Tk gs cnt/\dG [.int number,.int (cnt:Int)]=.ok (.t [.f,.l .f,.l .f],.tup [.int b,.lst (ts.map D.int),.lst (gs.map D.int)]):=by
 unfold dG kP
 rw [a7 (h:=by rfl)]
 rw [au (env':=[some (.f,.int number),some (.f,.int (cnt:Int)),some (.l .f,.lst []),none,none,none,none,none]) (by simp only [pv,seval,op])]
 rw [au (env':=[some (.f,.int number),some (.f,.int (cnt:Int)),some (.l .f,.lst []),some (.l .f,.lst []),none,none,none,none]) (by simp only [pv,seval,op])]
 obtain ⟨env',ef,ts,gs,t4,t5,t6,t7,h1,h2,rfl⟩:=my (a:=aw 4) (g:=fC) (e:=fun k=>D.int (k:Int)) cnt (fun i env=>∃ (ts gs:List Int) (t4 t5 t6 t7:Option R),Tk ts i/\Tk gs i/\env=[some (.f,.int number),some (.f,.int (cnt:Int)),some (.l .f,.lst (ts.map D.int)),some (.l .f,.lst (gs.map D.int)),t4,t5,t6,t7]) (by
  rintro j env hj ⟨ts,gs,t4,t5,t6,t7,h1,h2,rfl⟩
  have z1:(ts.map D.int).length < sizeLine:=gx (by rw [aU,h1.1];lia)
  have z2:(gs.map D.int).length < sizeLine:=gx (by rw [aU,h2.1];lia)
  have K1:=mD number (j:Int) (by lia) (by lia)
  generalize wz number (j:Int)=x at K1
  have b1:=eV x 5 (by decide)
  have b2:=eV (x / 8) 4 (by decide)
  refine ⟨[some (.f,.int number),some (.f,.int (cnt:Int)),some (.l .f,.lst (ts.map D.int)),some (.l .f,.lst (gs.map D.int)),some (.f,.int (j:Int)),t5,t6,t7],rfl,_,?_,ts++[(if 0 < 0 - (x % 5 - 2) then 0 - (x % 5 - 2) else 0) + x / 8 % 4 / 3],gs++[(if 0 < x % 5 - 2 then x % 5 - 2 else 0) + x / 8 % 4 / 3],some (.f,.int (j:Int)),some (.f,.int x),some (.f,.int (x % 5 - 2)),some (.f,.int (x / 8 % 4 / 3)),h1.app ?_,h2.app ?_,rfl⟩
  ·unfold fC
   rw [au (env':=[some (.f,.int number),some (.f,.int (cnt:Int)),some (.l .f,.lst (ts.map D.int)),some (.l .f,.lst (gs.map D.int)),some (.f,.int (j:Int)),some (.f,.int x),t6,t7]) (by simp only [pv,seval,op,K1])]
   rw [au (env':=[some (.f,.int number),some (.f,.int (cnt:Int)),some (.l .f,.lst (ts.map D.int)),some (.l .f,.lst (gs.map D.int)),some (.f,.int (j:Int)),some (.f,.int x),some (.f,.int (x % 5 - 2)),t7]) (by simp only [pv,seval,op,iR _ 5 (by decide)])]
   generalize x % 5 - 2=y
   rw [au (env':=[some (.f,.int number),some (.f,.int (cnt:Int)),some (.l .f,.lst (ts.map D.int)),some (.l .f,.lst (gs.map D.int)),some (.f,.int (j:Int)),some (.f,.int x),some (.f,.int y),some (.f,.int (x / 8 % 4 / 3))]) (by simp only [pv,seval,op,iR _ 4 (by decide),fN _ 8 (by decide) (by decide),fN _ 3 (by decide) (by decide)])]
   generalize x / 8 % 4 / 3=z
   rw [RP,RP,eC,eC,Sd]
   rw [au (env':=[some (.f,.int number),some (.f,.int (cnt:Int)),some (.l .f,.lst (ts.map D.int++[.int ((if 0 < 0 - y then 0 - y else 0) + z)])),some (.l .f,.lst (gs.map D.int)),some (.f,.int (j:Int)),some (.f,.int x),some (.f,.int y),some (.f,.int z)]) (by simp only [pv,seval,op,z1])]
   simp only [pv,seval,op,z2]
  ·split <;> lia
  ·split <;> lia) _ ⟨[],[],none,none,none,none,⟨rfl,(fun _ h=>nomatch h)⟩,⟨rfl,(fun _ h=>nomatch h)⟩,rfl⟩
 rw [Sd] at ef
 rw [au (env':=_) (by
  unfold i5
  simp only [pv,seval,op]
  rw [RO (by lia)]
  simp only [pv,seval,op,Sk]
  exact ef)]
 unfold ig
 have b:=eV (number / 16) 4 (by decide)
 exact ⟨number / 16 % 4,ts,gs,by lia,h1,h2,by simp only [pv,seval,op,AR,fN _ 16 (by decide) (by decide),iR _ 4 (by decide)]⟩
abbrev Pl:=Int×List Int×List Int
def eP (p:Pl):D:=.tup [.int p.1,.tup (p.2.1.map D.int),.tup (p.2.2.map D.int)]
def Kt (p:Pl) (cnt:Nat):Prop:=p.2.1.length=cnt/\p.2.2.length=cnt
theorem Di (f:Int) (l:List Int) (h:∀ x∈l,0<=x/\x<=10):bY (aw 0) cZ (az iT (ai 1) (ai 0)) (l.map D.int) [none,some (.f,.int f)]=.ok ((l.map fun x=>f * x).map D.int):=by
 rw [aX (r:=fun x:Int=>D.int (f * x)) (fun env=>∃ t,env=[t,some (.f,.int f)]) l ?_ _ ⟨none,rfl⟩]
 ·rw [RQ]
  rfl
 ·rintro x hx env ⟨t,rfl⟩
  have:=h x hx
  refine ⟨[some (.f,.int x),some (.f,.int f)],rfl,.f,[some (.f,.int x),some (.f,.int f)],?_,_,rfl⟩
  simp only [pv,seval,op,DJ f x (mz x (by lia) (by lia))]
theorem sL (b:Int) (hb:0<=b/\b<=10) (ts gs:List Int) (cnt:Nat) (hc:cnt<=10) (h1:Tk ts cnt) (h2:Tk gs cnt) (Hi:Int):∃ p:Pl,Kt p cnt/\cB [.tup [.int b,.lst (ts.map D.int),.lst (gs.map D.int)],.int Hi]=.ok (.f,eP p):=by
 have p50:tS (.int 10) (.int 50)=.ok (.f,.int (10 ^ 50)):=E6 50 (by decide)
 have m50:=eV Hi (10 ^ 50) (by decide)
 unfold cB jL
 rw [a7 (h:=by rfl)]
 rw [au (env':=[some (.f,.tup [.int b,.lst (ts.map D.int),.lst (gs.map D.int)]),some (.f,.int Hi),some (.f,.int (1 + Hi % 10 ^ 50)),none,none,none]) (by simp only [pv,↓reduceIte,Nat.reduceAdd,Nat.reduceLT,Nat.reduceLeDiff,Nat.reduceEqDiff,op,p50,iR _ (10 ^ 50) (by decide)])]
 have hf:0 < 1 + Hi % 10 ^ 50:=by
  generalize Hi % 10 ^ 50=q at m50
  lia
 generalize 1 + Hi % 10 ^ 50=f at hf
 rw [au (env':=[some (.f,.tup [.int b,.lst (ts.map D.int),.lst (gs.map D.int)]),some (.f,.int Hi),some (.f,.int f),some (.f,.int b),some (.f,.lst (ts.map D.int)),some (.f,.lst (gs.map D.int))]) (by simp only [pv,seval,op])]
 have c1:=Di f ts h1.2
 have c2:=Di f gs h2.2
 have l1:((ts.map fun x=>f * x).map D.int).length<=sizeLine:=aM (by rw [aU,aU,h1.1];lia)
 have l2:((gs.map fun x=>f * x).map D.int).length<=sizeLine:=aM (by rw [aU,aU,h2.1];lia)
 have f1:=Ga (ts.map fun x=>f * x)
 have f2:=Ga (gs.map fun x=>f * x)
 refine ⟨(f * b + Hi / 7 % f,ts.map fun x=>f * x,gs.map fun x=>f * x),⟨by rw [aU];exact h1.1,by rw [aU];exact h2.1⟩,?_⟩
 unfold eP
 dsimp only
 generalize (ts.map fun x=>f * x).map D.int=T1 at *
 generalize (gs.map fun x=>f * x).map D.int=T2 at *
 have Rv:=DJ f b (mz b (by lia) (by lia))
 have O7:=iR (Hi / 7) f hf
 have hdiv:=fN Hi 7 (by decide) (by decide)
 generalize f * b=fb at Rv ⊢
 generalize (Hi / 7) % f=cf at O7 ⊢
 rw [au (env':=[some (.f,.tup [.int b,.lst (ts.map D.int),.lst (gs.map D.int)]),some (.f,.int Hi),some (.f,.int f),some (.f,.int b),some (.f,.tup T1),some (.f,.lst (gs.map D.int))]) (by
  generalize (az iT (ai 1) (ai 0))=GG at c1 ⊢
  simp only [pv,seval,op,c1,l1,f1])]
 have Rw:∀ GG,GG=(az iT (ai 1) (ai 0))->bY (aw 0) cZ GG (gs.map D.int) [none,some (.f,.int f)]=.ok T2:=fun GG h=>by rw [h];exact c2
 rw [show (dJ (jc (aI (az cJ (aq (az iT (ai 2) (ai 3))) (aq (az fL (aq (az eF (ai 1) (aq (aJ (.int 7))))) (ai 2)))) (aI (aO 4) (aI (aZ dg (ag (aq (cq (Hh (g0 5) (Hh (f9 (aO 5)) (gf (aO 5)))) [none,some 2] (aw 0) cZ (az iT (ai 1) (ai 0)))) aB)) bu)))))=(fun GG=>dJ (jc (aI (az cJ (aq (az iT (ai 2) (ai 3))) (aq (az fL (aq (az eF (ai 1) (aq (aJ (.int 7))))) (ai 2)))) (aI (aO 4) (aI (aZ dg (ag (aq (cq (Hh (g0 5) (Hh (f9 (aO 5)) (gf (aO 5)))) [none,some 2] (aw 0) cZ GG)) aB)) bu))))) (az iT (ai 1) (ai 0)) from rfl]
 generalize eGG:(az iT (ai 1) (ai 0))=GG
 have c2:=Rw GG eGG.symm
 clear eGG Rw
 simp only [pv,seval,op,Rv,O7,hdiv,c2,l2,f2]
theorem xY (ns:List Int) (first:Nat) (cnt:Nat) (hc:cnt<=10) (ps:List Pl) (Qx:∀ p∈ps,Kt p cnt) (hl:ps.length<=100) (k:Nat) (hk:k<=100) (t5 t6 t7:Option R) :
  ∃ (Oa:List Pl) (u5 u6 u7:Option R),(∀ p∈Oa,Kt p cnt)/\ps.length + 1<=Oa.length/\Oa.length<=ps.length + 2/\dm [some (.f,.lst (ns.map D.int)),some (.f,.int (first:Int)),some (.f,.int (cnt:Int)),some (.l .f,.lst (ps.map eP)),some (.f,.int (k:Int)),t5,t6,t7]=.ok (.nx [some (.f,.lst (ns.map D.int)),some (.f,.int (first:Int)),some (.f,.int (cnt:Int)),some (.l .f,.lst (Oa.map eP)),some (.f,.int (k:Int)),u5,u6,u7]):=by
 obtain ⟨v,ev⟩:=Dh ns (first:Int) (k:Int) (by lia)
 obtain ⟨b,ts,gs,hb,h1,h2,ep⟩:=AS v cnt hc
 have c1:=jY ns (first + k)
 rw [show ((first + k:Nat):Int)=(first:Int) + (k:Int) by lia] at c1
 have c2:=jY ns (first + 6 + k)
 rw [show ((first + 6 + k:Nat):Int)=(first:Int) + 6 + (k:Int) by lia] at c2
 obtain ⟨p1,PF,e1⟩:=sL b hb ts gs cnt hc h1 h2 (cell ns (first + k))
 have m4:=eV (v / 256) 4 (by decide)
 obtain ⟨p2,OA,e2⟩:=sL (v / 256 % 4) (by lia) gs ts cnt hc h2 h1 (cell ns (first + 6 + k))
 have K5:cx (.t [.f,.l .f,.l .f]) (.tup [.int b,.lst (ts.map D.int),.lst (gs.map D.int)])=true:=by
  have f1:=Ga ts
  have f2:=Ga gs
  simp only [cx,ph,c9]
  rw [<-bG,<-bG,f1,f2]
  rfl
 have NP:∀ p:Pl,c9 (eP p)=true:=fun p=>by
  unfold eP
  rw [cS]
  simp only [flatDs,cS,Ga,jU]
  rfl
 have Qy:(ps.map eP).length < sizeLine:=gx (by rw [aU];lia)
 have LU:(ps.map eP++[eP p1]).length < sizeLine:=gx (by rw [i7,aU,R5];lia)
 unfold dm
 rw [au (env':=[some (.f,.lst (ns.map D.int)),some (.f,.int (first:Int)),some (.f,.int (cnt:Int)),some (.l .f,.lst (ps.map eP)),some (.f,.int (k:Int)),some (.f,.int v),t6,t7]) (by simp only [pv,seval,op,ev])]
 rw [au (env':=[some (.f,.lst (ns.map D.int)),some (.f,.int (first:Int)),some (.f,.int (cnt:Int)),some (.l .f,.lst (ps.map eP)),some (.f,.int (k:Int)),some (.f,.int v),some (.t [.f,.l .f,.l .f],.tup [.int b,.lst (ts.map D.int),.lst (gs.map D.int)]),t7]) (by simp only [pv,seval,op,ep,K5])]
 rw [au (env':=[some (.f,.lst (ns.map D.int)),some (.f,.int (first:Int)),some (.f,.int (cnt:Int)),some (.l .f,.lst (ps.map eP++[eP p1])),some (.f,.int (k:Int)),some (.f,.int v),some (.t [.f,.l .f,.l .f],.tup [.int b,.lst (ts.map D.int),.lst (gs.map D.int)]),t7]) (by simp only [pv,seval,op,c1,e1,NP,Qy])]
 by_cases h3:0 < v / 64 % 3
 ·refine ⟨ps++[p1,p2],some (.f,.int v),some (.f,.tup [.int b,.lst (ts.map D.int),.lst (gs.map D.int)]),some (.f,.tup [.int (v / 256 % 4),.lst (gs.map D.int),.lst (ts.map D.int)]),fun p hp=>?_,by rw [i7];simp,by rw [i7];simp,?_⟩
  ·rcases ko hp with hp | hp
   ·exact Qx p hp
   ·rcases RT.mp hp with rfl | hp
    ·exact PF
    ·rw [jV hp]
     exact OA
  ·rw [RP,eC,eC,Sd,show ps.map eP++[eP p1,eP p2]=(ps.map eP++[eP p1])++[eP p2] by rw [SR];rfl]
   simp only [pv,seval,op,fN _ 64 (by decide) (by decide),fN _ 256 (by decide) (by decide),iR _ 3 (by decide),iR _ 4 (by decide),gt_iff_lt,h3,TM,at2,c2,e2,NP,LU]
 ·refine ⟨ps++[p1],some (.f,.int v),some (.t [.f,.l .f,.l .f],.tup [.int b,.lst (ts.map D.int),.lst (gs.map D.int)]),t7,fun p hp=>?_,by rw [i7];simp,by rw [i7];simp,?_⟩
  ·rcases ko hp with hp | hp
   ·exact Qx p hp
   ·rw [jV hp]
    exact PF
  ·rw [RP,eC,Sd]
   simp only [pv,seval,op,fN _ 64 (by decide) (by decide),iR _ 3 (by decide),gt_iff_lt,h3,Ti,fM]
theorem xZ (ns:List Int) (first:Nat) (cnt:Nat) (hc:cnt<=10):∃ ps:List Pl,(∀ p∈ps,Kt p cnt)/\ps≠[]/\ps.length<=8/\cY [.lst (ns.map D.int),.int (first:Int),.int (cnt:Int)]=.ok (.l .f,.lst (ps.map eP)):=by
 have c1:aE [.lst (ns.map D.int),.int 1]=.ok (.f,.int (cell ns 1)):=jY ns 1
 have m4:=eV (cell ns 1 / 4) 4 (by decide)
 unfold cY jM
 rw [a7 (h:=by rfl)]
 rw [au (env':=[some (.f,.lst (ns.map D.int)),some (.f,.int (first:Int)),some (.f,.int (cnt:Int)),some (.l .f,.lst []),none,none,none,none]) (by simp only [pv,seval,op])]
 obtain ⟨env',ef,ps,t4,t5,t6,t7,h1,h2,h3,rfl⟩:=my (a:=aw 4) (g:=dm) (e:=fun k=>D.int (k:Int)) (1 + cell ns 1 / 4 % 4).toNat (fun i env=>∃ (ps:List Pl) (t4 t5 t6 t7:Option R),(∀ p∈ps,Kt p cnt)/\i<=ps.length/\ps.length<=2 * i/\env=[some (.f,.lst (ns.map D.int)),some (.f,.int (first:Int)),some (.f,.int (cnt:Int)),some (.l .f,.lst (ps.map eP)),t4,t5,t6,t7]) (by
  rintro k env hk ⟨ps,t4,t5,t6,t7,h1,h2,h3,rfl⟩
  obtain ⟨Oa,u5,u6,u7,Qz,Pn,h3',e⟩:=xY ns first cnt hc ps h1 (by lia) k (by lia) t5 t6 t7
  exact ⟨_,rfl,_,e,Oa,_,_,_,_,Qz,by lia,by lia,rfl⟩) _ ⟨[],none,none,none,none,(fun _ h=>nomatch h),RL _,RL _,rfl⟩
 rw [Sd] at ef
 rw [au (env':=_) (by
  unfold ij
  simp only [pv,seval,op,c1,fN _ 4 (by decide) (by decide),iR _ 4 (by decide)]
  rw [RO (by lia)]
  simp only [pv,seval,op]
  exact ef)]
 unfold gR
 refine ⟨ps,h1,?_,by lia,by simp only [pv,seval,op]⟩
 intro h
 rw [h,SA] at h2
 lia
theorem Dj {α:Type} {l:List α} (h:l.Nodup) (lo hi:Option Int):(jz l lo hi).Nodup:=by
 unfold jz
 exact (h.sublist (List.drop_sublist _ _)).sublist (U2 _ _)
theorem Dk {α:Type} {l:List α} {r:α->α->Prop} (h:l.Pairwise r) (lo hi:Option Int):(jz l lo hi).Pairwise r:=by
 unfold jz
 exact (h.sublist (List.drop_sublist _ _)).sublist (U2 _ _)
theorem AU (ns:List Int):∃ names:LNN,names≠[]/\names.length<=3/\names.Nodup/\names.Pairwise (fun a b=>KI b a=false)/\dH [.lst (ns.map D.int)]=.ok (.f,.tup (names.map D.str)):=by
 have c0:aE [.lst (ns.map D.int),.int 0]=.ok (.f,.int (cell ns 0)):=jY ns 0
 have c1:aE [.lst (ns.map D.int),.int 1]=.ok (.f,.int (cell ns 1)):=jY ns 1
 obtain ⟨l,hl,Nj,hpw,en⟩:=AQ (cell ns 0)
 have m3:=eV (cell ns 1) 3 (by decide)
 unfold dH kQ
 rw [a7 (h:=by rfl)]
 rw [au (env':=[some (.f,.lst (ns.map D.int)),some (.l .f,.lst (l.map D.str)),none,none,none]) (by simp only [pv,seval,op,c0,en])]
 rw [au (env':=[some (.f,.lst (ns.map D.int)),some (.l .f,.lst (l.map D.str)),some (.f,.int (cell ns 1)),none,none]) (by simp only [pv,seval,op,c1])]
 rw [au (env':=[some (.f,.lst (ns.map D.int)),some (.l .f,.lst (l.map D.str)),some (.f,.int (cell ns 1)),some (.f,.int (1 + cell ns 1 % 3)),none]) (by simp only [pv,seval,op,iR _ 3 (by decide)])]
 obtain ⟨cnt,ec⟩:=R7 (show 0<=1 + cell ns 1 % 3 by lia)
 rw [ec]
 have ms:=eV (cell ns 1 / 32) (6 - (cnt:Int)) (by lia)
 obtain ⟨st,es⟩:=R7 ms.1
 rw [au (env':=[some (.f,.lst (ns.map D.int)),some (.l .f,.lst (l.map D.str)),some (.f,.int (cell ns 1)),some (.f,.int (cnt:Int)),some (.f,.int (st:Int))]) (by simp only [pv,seval,op,fN _ 32 (by decide) (by decide),iR _ (6 - (cnt:Int)) (by lia),es])]
 have NO:=AG l st (st + cnt) (by lia) (by lia)
 have hlen:(jz l (some (st:Int)) (some ((st + cnt:Nat):Int))).length=cnt:=by
  rw [NO,Su,T5]
  lia
 rw [show ((st + cnt:Nat):Int)=(st:Int) + (cnt:Int) by lia] at hlen
 refine ⟨jz l (some (st:Int)) (some ((st:Int) + (cnt:Int))),?_,by lia,Dj Nj _ _,Dk hpw _ _,?_⟩
 ·intro h
  rw [h,SA] at hlen
  lia
 ·simp only [pv,seval,op,AH]
theorem Dl {α:Type} {a:FG} {g:FS} {e:α->D} {r:R} {Z:Prop} (l:List α) (P:Nat->PV.Env->Prop) (h:∀ k x env,l[k]?=some x->P k env->∃ F7,a (e x) env=.ok F7/\((∃ Gh,g F7=.ok (.nx Gh)/\P (k + 1) Gh)\/(g F7=.ok (.rt r)/\Z))) :
  ∀ env,P 0 env->(∃ env',kB a g (l.map e) env=.ok (.nx env')/\P l.length env')\/(kB a g (l.map e) env=.ok (.rt r)/\Z):=by
 have key:∀ (l':List α) (k:Nat) (env:PV.Env),(∀ i x,l'[i]?=some x->l[k + i]?=some x)->P k env->(∃ env',kB a g (l'.map e) env=.ok (.nx env')/\P (k + l'.length) env')\/(kB a g (l'.map e) env=.ok (.rt r)/\Z):=by
  intro l'
  induction l' with
  | nil=>exact fun k env _ hp=>.inl ⟨env,rfl,hp⟩
  | cons d l' ih=>
   intro k env hd hp
   obtain ⟨F7,h1,⟨Gh,h2,h3⟩ | ⟨h2,hz⟩⟩:=h k d env (hd 0 d rfl) hp
   ·rw [eC,mx,h1,HF,h2,HF]
    rcases ih (k + 1) Gh (fun i x e=>by have:=hd (i + 1) x (by simpa using e);rw [show k + 1 + i=k + (i + 1) by lia];exact this) h3 with ⟨env',h4,h5⟩ | h4
    ·exact .inl ⟨env',h4,by rw [Sb,show k + (l'.length + 1)=k + 1 + l'.length by lia];exact h5⟩
    ·exact .inr h4
   ·right
    rw [eC,mx,h1,HF,h2,HF]
    exact ⟨rfl,hz⟩
 intro env hp
 have:=key l 0 env (fun i x e=>by rw [Vv];exact e) hp
 rwa [Vv] at this
theorem sM {c:FT} {g:FS} {r:R} {Z:Prop} (P:Nat->PV.Env->Prop) (fin:PV.Env->Prop) (h:∀ k env,P k env->(∃ F7,c env=.ok (false,F7)/\fin F7)\/(∃ F7,c env=.ok (true,F7)/\((∃ Gh k',g F7=.ok (.nx Gh)/\k' < k/\P k' Gh)\/(g F7=.ok (.rt r)/\Z)))) :
  ∀ n k env,k < n->P k env->(∃ env',df c g n env=.ok (.nx env')/\fin env')\/(df c g n env=.ok (.rt r)/\Z)
 | 0,k,env,hk,_=>absurd hk (Uy _)
 | n + 1,k,env,hk,hp=>by
  rcases h k env hp with ⟨F7,h1,h2⟩ | ⟨F7,h1,⟨Gh,k',h2,h3,h4⟩ | ⟨h2,hz⟩⟩
  ·exact .inl ⟨F7,by rw [jT,h1,HF];rfl,h2⟩
  ·have e:df c g (n + 1) env=df c g n Gh:=by
    rw [jT,h1,HF]
    dsimp only
    rw [RO rfl,h2,HF]
   rw [e]
   exact sM P fin h n k' Gh (by lia) h4
  ·right
   refine ⟨?_,hz⟩
   rw [jT,h1,HF]
   dsimp only
   rw [RO rfl,h2,HF]
def iI (k:Nat):List (Int×Pl)->Option (List Int)
 | []=>some []
 | z :: zs=>if z.1 < z.2.2.1.getD k 0 then none else (iI k zs).map fun r=>(z.1 - z.2.2.1.getD k 0 + z.2.2.2.getD k 0) :: r
theorem p7 (k:Nat):∀ {zs:List (Int×Pl)} {r:List Int},iI k zs=some r->r.length=zs.length
 | [],r,h=>by cases h;rfl
 | z :: zs,r,h=>by
  rw [iI] at h
  split at h
  ·cases h
  ·rw [Sn] at h
   obtain ⟨r',h1,rfl⟩:=h
   rw [Sb,Sb,p7 k h1]
theorem sN (k:Nat):∀ {zs:List (Int×Pl)} {r:List Int} {j:Nat} {z:Int×Pl},iI k zs=some r->zs[j]?=some z->¬ z.1 < z.2.2.1.getD k 0/\r[j]?=some (z.1 - z.2.2.1.getD k 0 + z.2.2.2.getD k 0)
 | [],r,j,z,h,e=>by cases e
 | y :: zs,r,j,z,h,e=>by
  rw [iI] at h
  split at h
  ·cases h
  ·rename_i hn
   rw [Sn] at h
   obtain ⟨r',h1,rfl⟩:=h
   cases j with
   | zero=>
    rw [List.getElem?_cons_zero] at e
    cases e
    exact ⟨hn,rfl⟩
   | succ j=>
    rw [List.getElem?_cons_succ] at e ⊢
    exact sN k h1 e
theorem Dm (A0 A1 A2:Option R) (k cnt:Nat) (hk:k < cnt) (acc:List Int) (hl:acc.length<=1000) (z:Int×Pl) (hz:Kt z.2 cnt):dk [A0,A1,A2,some (.f,.int (k:Int)),some (.l .f,.lst (acc.map D.int)),some (.f,.int z.1),some (.f,eP z.2)]=if z.1 < z.2.2.1.getD k 0 then .ok (.rt (.f,.non)) else .ok (.nx [A0,A1,A2,some (.f,.int (k:Int)),some (.l .f,.lst ((acc++[z.1 - z.2.2.1.getD k 0 + z.2.2.2.getD k 0]).map D.int)),some (.f,.int z.1),some (.f,eP z.2)]):=by
 have h1:Ha (z.2.2.1.map D.int) (k:Int)=some (.int (z.2.2.1.getD k 0)):=gw (by rw [hz.1];exact hk)
 have h2:Ha (z.2.2.2.map D.int) (k:Int)=some (.int (z.2.2.2.getD k 0)):=gw (by rw [hz.2];exact hk)
 have Qw:(acc.map D.int).length < sizeLine:=gx (by rw [aU];lia)
 unfold dk eP
 by_cases h:z.1 < z.2.2.1.getD k 0
 ·rw [RO h]
  simp only [pv,seval,op,h1,h,TM]
 ·rw [RY h,RP,eC,Sd]
  simp only [pv,seval,op,h1,h2,at2,h,Ti,fM,Qw]
theorem qa (A0 A1 A2:Option R) (k cnt:Nat) (hk:k < cnt):∀ (zs:List (Int×Pl)) (acc:List Int) (t5 t6:Option R),acc.length + zs.length<=1000->(∀ z∈zs,Kt z.2 cnt)->
  (iI k zs=none/\kB (fO 2 (aA (aw 5) (aA (aw 6) b8))) dk (zs.map fun z:Int×Pl=>D.tup [D.int z.1,eP z.2]) [A0,A1,A2,some (.f,.int (k:Int)),some (.l .f,.lst (acc.map D.int)),t5,t6]=.ok (.rt (.f,.non)))\/
  ∃ r u5 u6,iI k zs=some r/\kB (fO 2 (aA (aw 5) (aA (aw 6) b8))) dk (zs.map fun z:Int×Pl=>D.tup [D.int z.1,eP z.2]) [A0,A1,A2,some (.f,.int (k:Int)),some (.l .f,.lst (acc.map D.int)),t5,t6]=.ok (.nx [A0,A1,A2,some (.f,.int (k:Int)),some (.l .f,.lst ((acc++r).map D.int)),u5,u6])
 | [],acc,t5,t6,_,_=>.inr ⟨[],t5,t6,rfl,by rw [SW];rfl⟩
 | z :: zs,acc,t5,t6,hl,hp=>by
  have h1:=Dm A0 A1 A2 k cnt hk acc (by rw [Sb] at hl;lia) z (hp z RM)
  have ha:fO 2 (aA (aw 5) (aA (aw 6) b8)) (D.tup [D.int z.1,eP z.2]) [A0,A1,A2,some (.f,.int (k:Int)),some (.l .f,.lst (acc.map D.int)),t5,t6]=.ok [A0,A1,A2,some (.f,.int (k:Int)),some (.l .f,.lst (acc.map D.int)),some (.f,.int z.1),some (.f,eP z.2)]:=by simp only [pv,seval]
  rw [eC,mx,ha,HF,h1,iI]
  by_cases h:z.1 < z.2.2.1.getD k 0
  ·left
   rw [RO h,RO h]
   exact ⟨rfl,by rw [HF]⟩
  ·rw [RY h,RY h,HF]
   rcases qa A0 A1 A2 k cnt hk zs (acc++[z.1 - z.2.2.1.getD k 0 + z.2.2.2.getD k 0]) (some (.f,.int z.1)) (some (.f,eP z.2)) (by rw [Sb] at hl;rw [i7,R5];lia) (fun y hy=>hp y (RU _ hy)) with ⟨e1,e2⟩ | ⟨r,u5,u6,e1,e2⟩
   ·left
    exact ⟨by rw [e1];rfl,e2⟩
   ·right
    refine ⟨_,u5,u6,by rw [e1];rfl,?_⟩
    rw [SR] at e2
    exact e2
def eN (names:LNN) (ps:List Pl):D:=.tup [.tup (names.map D.str),.lst (ps.map eP)]
def eM (m:List Int):D:=.tup (m.map D.int)
theorem qQ {names : LNN} {m : List Nat} (h : m ∈ names) : mP (names.map D.str) [.str m] = .ok (.f, .int ((names.idxOf m : Nat) : Int)) := by
  first
    | (unfold mP
       dsimp only
       rw [fg]
       dsimp only
       rw [RO h])
    | (unfold mP
       simp only [fg, h, Us])
theorem jZ {α β:Type} (f:α->D) (g:β->D) (xs:List α) (ys:List β):((xs.map f).zip (ys.map g)).map (fun z=>D.tup [z.1,z.2])=(xs.zip ys).map fun z=>D.tup [f z.1,g z.2]:=by
 rw [List.zip_map,RQ]
 rfl
theorem Dn (names:LNN) (ps:List Pl) (hl:ps.length<=100) (hp:∀ p∈ps,Kt p names.length) (m:List Int) (mv:List Nat) (hm:mv∈names) :
  (iI (names.idxOf mv) (m.zip ps)=none/\dw [eN names ps,eM m,.str mv]=.ok (.f,.non))\/∃ r,iI (names.idxOf mv) (m.zip ps)=some r/\dw [eN names ps,eM m,.str mv]=.ok (.f,eM r):=by
 have H0:=qQ hm
 have hk:=SN hm
 generalize names.idxOf mv=k at H0 hk
 unfold dw l8 eN eM
 rw [a7 (h:=by rfl)]
 rw [au (env':=[some (.f,.tup [.tup (names.map D.str),.lst (ps.map eP)]),some (.f,.tup (m.map D.int)),some (.f,.str mv),some (.f,.int (k:Int)),none,none,none]) (by simp only [pv,seval,op,H0])]
 rw [au (env':=[some (.f,.tup [.tup (names.map D.str),.lst (ps.map eP)]),some (.f,.tup (m.map D.int)),some (.f,.str mv),some (.f,.int (k:Int)),some (.l .f,.lst []),none,none]) (by simp only [pv,seval,op])]
 rcases qa (some (.f,.tup [.tup (names.map D.str),.lst (ps.map eP)])) (some (.f,.tup (m.map D.int))) (some (.f,.str mv)) k names.length hk (m.zip ps) [] none none (by rw [SA,S9];lia) (fun z hz=>hp _ (Uq (show (z.1,z.2)∈m.zip ps from hz)).2) with ⟨e1,e2⟩ | ⟨r,u5,u6,e1,e2⟩
 ·left
  refine ⟨e1,?_⟩
  rw [Sd] at e2
  unfold gJ
  simp only [pv,seval,op,jZ,e2]
 ·right
  refine ⟨r,e1,?_⟩
  rw [Sd,UU] at e2
  unfold gJ i0
  simp only [pv,seval,op,jZ,e2]
theorem eqDs_ints:∀ a b:List Int,kc (a.map D.int) (b.map D.int)=decide (a=b)
 | [],[]=>rfl
 | [],_ :: _=>rfl
 | _ :: _,[]=>rfl
 | x :: a,y :: b=>by
  rw [eC,eC,kc,eqDs_ints a b,eqD,Sh]
  simp
theorem AV (a b:List Int):eqD (eM a) (eM b)=decide (a=b):=by
 unfold eM
 rw [eqD,eqDs_ints]
theorem oI (a:List Int):plainD 40 (eM a)=true:=xV a
theorem oJ (l:List (List Int)):plainDs 40 (l.map eM)=true:=by
 induction l with
 | nil=>rfl
 | cons a l ih=>
  rw [eC,plainDs,ih,VL]
  exact oI a
theorem QA {α:Type} [DecidableEq α] {e:α->D} (he:∀ a b,eqD (e a) (e b)=decide (a=b)) (hp:∀ l:List α,plainDs 40 (l.map e)=true) (hq:∀ a,plainD 40 (e a)=true) (l:List α) (a:α) (h:a∈l):∃ i:Nat,l[i]?=some a/\oj (l.map e) [e a]=.ok (.f,.int (i:Int)):=by
 have e1:(l.map e).any (fun d=>eqD d (e a))=true:=by
  rw [Th,SG]
  exact ⟨a,h,by show eqD (e a) (e a)=true;rw [he,Sm rfl]⟩
 have e2:(l.map e).findIdx (fun d=>eqD d (e a))=l.findIdx fun x=>decide (x=a):=by
  rw [List.findIdx_map]
  congr 1
  funext x
  exact he x a
 have h3:(l.findIdx fun x=>decide (x=a)) < l.length:=List.findIdx_lt_length_of_exists ⟨a,h,Sm rfl⟩
 have h4:=List.findIdx_getElem (p:=fun x=>decide (x=a)) (xs:=l) (w:=h3)
 refine ⟨l.findIdx fun x=>decide (x=a),by rw [iU h3];congr 1;simpa using h4,?_⟩
 unfold oj
 dsimp only
 rw [hq,hp,e1,e2]
 rfl
theorem mE {α:Type} [DecidableEq α] (a:α):∀ l:List α,a∉l->((l++[a]).findIdx fun x=>decide (x=a))=l.length
 | [],_=>by simp
 | x :: l,h=>by
  rw [RT,not_or] at h
  rw [Vj,List.findIdx_cons,mE a l h.2,Sf (fun e=>h.1 e.symm)]
  rfl
theorem EN {α:Type} [DecidableEq α] {e:α->D} (he:∀ a b,eqD (e a) (e b)=decide (a=b)) (hp:∀ l:List α,plainDs 40 (l.map e)=true) (hq:∀ a,plainD 40 (e a)=true) (l:List α) (a:α) (h:a∉l):oj (l.map e++[e a]) [e a]=.ok (.f,.int (l.length:Int)):=by
 have e0:l.map e++[e a]=(l++[a]).map e:=by rw [RP];rfl
 have e1:((l++[a]).map e).any (fun d=>eqD d (e a))=true:=by
  rw [Th,SG]
  exact ⟨a,RN _ (R4.mpr rfl),by show eqD (e a) (e a)=true;rw [he,Sm rfl]⟩
 have e2:((l++[a]).map e).findIdx (fun d=>eqD d (e a))=l.length:=by
  rw [List.findIdx_map]
  rw [<-mE a l h]
  congr 1
  funext x
  exact he x a
 unfold oj
 dsimp only
 rw [e0,hq,hp,e1,e2]
 rfl
theorem F2 {α:Type} [DecidableEq α] {e:α->D} (he:∀ a b,eqD (e a) (e b)=decide (a=b)) (hp:∀ l:List α,plainDs 40 (l.map e)=true) (hq:∀ a,plainD 40 (e a)=true) (l:List α) (a:α):uq (e a) (.lst (l.map e))=.ok (.f,.bl (!decide (a∈l))):=by
 have e1:uo (e a) (l.map e)=decide (a∈l):=by
  unfold uo
  rw [Th,Sh,SG,R0]
  constructor
  ·rintro ⟨x,hx,e1⟩
   have e1:eqD (e x) (e a)=true:=e1
   rw [he,R0] at e1
   rw [<-e1]
   exact hx
  ·intro h
   refine ⟨a,h,?_⟩
   show eqD (e a) (e a)=true
   rw [he,R0]
 unfold uq K7
 dsimp only
 rw [hq,hp,Ue,RO rfl,e1]
 rfl
structure Rm (names:LNN) (ps:List Pl) (S:List (List Int)) (A:List Gf) (m:Nat):Prop where
 nd:S.Nodup
 z:S[0]?=some (ps.map (·.1))
 ln:∀ s∈S,s.length=ps.length
 le:S.length<=8
 ab:∀ a∈A,a.2.1∈names/\∃ i j:Nat,i < m/\a.1=(i:Int)/\a.2.2=(j:Int)/\∃ s t,S[i]?=some s/\S[j]?=some t/\iI (names.idxOf a.2.1) (s.zip ps)=some t
 rc:∀ j:Nat,1<=j->j < S.length->∃ a∈A,a.2.2=(j:Int)/\∃ b:Nat,b < j/\a.1=(b:Int)
theorem Rm.more {names:LNN} {ps:List Pl} {S:List (List Int)} {A:List Gf} {m m':Nat} (r:Rm names ps S A m) (h:m<=m'):Rm names ps S A m':=⟨r.nd,r.z,r.ln,r.le,fun a ha=>by
 obtain ⟨h1,i,j,h2,h3⟩:=r.ab a ha
 exact ⟨h1,i,j,by lia,h3⟩,r.rc⟩
theorem Rm.old {names:LNN} {ps:List Pl} {S:List (List Int)} {A:List Gf} {d:Nat} (r:Rm names ps S A (d + 1)) {mv:List Nat} (hn:mv∈names) {s t:List Int} (hs:S[d]?=some s) {i:Nat} (ht:S[i]?=some t) (hf:iI (names.idxOf mv) (s.zip ps)=some t):Rm names ps S (A++[((d:Int),mv,(i:Int))]) (d + 1):=by
 refine ⟨r.nd,r.z,r.ln,r.le,fun a ha=>?_,fun j j1 j2=>?_⟩
 ·rcases ko ha with ha | ha
  ·exact r.ab a ha
  ·rw [jV ha]
   exact ⟨hn,d,i,by lia,rfl,rfl,s,t,hs,ht,hf⟩
 ·obtain ⟨a,ha,q⟩:=r.rc j j1 j2
  exact ⟨a,RV _ ha,q⟩
theorem Rm.new {names:LNN} {ps:List Pl} {S:List (List Int)} {A:List Gf} {d:Nat} (r:Rm names ps S A (d + 1)) {mv:List Nat} (hn:mv∈names) {s t:List Int} (hs:S[d]?=some s) (ht:t∉S) (hf:iI (names.idxOf mv) (s.zip ps)=some t) (h8:S.length < 8):Rm names ps (S++[t]) (A++[((d:Int),mv,(S.length:Int))]) (d + 1):=by
 have hd:=(j0 hs).1
 have hl:(S++[t]).length=S.length + 1:=by rw [i7];rfl
 have up:∀ {i:Nat} {x:List Int},S[i]?=some x->(S++[t])[i]?=some x:=fun {i x} h=>by
  rw [List.getElem?_append_left (j0 h).1]
  exact h
 refine ⟨Ss.mpr ⟨r.nd,Se.mpr ⟨Sy,SX⟩,fun x hx y hy=>?_⟩,up r.z,fun x hx=>?_,by lia,fun a ha=>?_,fun j j1 j2=>?_⟩
 ·rw [jV hy]
  rintro rfl
  exact ht hx
 ·rcases ko hx with hx | hx
  ·exact r.ln x hx
  ·rw [jV hx,p7 _ hf,S9,r.ln s (RW hs),Nat.min_self]
 ·rcases ko ha with ha | ha
  ·obtain ⟨h1,i,j,h2,h3,h4,x,y,h5,h6,h7⟩:=r.ab a ha
   exact ⟨h1,i,j,h2,h3,h4,x,y,up h5,up h6,h7⟩
  ·rw [jV ha]
   exact ⟨hn,d,S.length,by lia,rfl,rfl,s,t,up hs,by rw [List.getElem?_append_right (RL _),UZ];rfl,hf⟩
 ·by_cases e:j=S.length
  ·subst e
   exact ⟨_,RN _ (R4.mpr rfl),rfl,d,hd,rfl⟩
  ·obtain ⟨a,ha,q⟩:=r.rc j j1 (by lia)
   exact ⟨a,RV _ ha,q⟩
theorem Dp (t:List Int):c9 (eM t)=true:=by
 unfold eM
 rw [cS,Ga]
theorem Dq (names:LNN) (ps:List Pl) (hl:ps.length<=100) (hp:∀ p∈ps,Kt p names.length) (S:List (List Int)) (A:List Gf) (hA:A.length<=1000) (d:Nat) (r:Rm names ps S A (d + 1)) (hd:d < S.length) (mv:List Nat) (hn:mv∈names) (t6:Option R) :
  (∃ (S':List (List Int)) (A':List Gf) (u6:Option R),Rm names ps S' A' (d + 1)/\S.length<=S'.length/\A'.length<=A.length + 1/\dO [some (.f,eN names ps),some (.f,.int 8),some (.l .f,.lst (S.map eM)),some (.l .f,.lst (A.map eA)),some (.f,.int ((d:Nat):Int)),some (.f,.str mv),t6]=.ok (.nx [some (.f,eN names ps),some (.f,.int 8),some (.l .f,.lst (S'.map eM)),some (.l .f,.lst (A'.map eA)),some (.f,.int ((d:Nat):Int)),some (.f,.str mv),u6]))\/
  (dO [some (.f,eN names ps),some (.f,.int 8),some (.l .f,.lst (S.map eM)),some (.l .f,.lst (A.map eA)),some (.f,.int ((d:Nat):Int)),some (.f,.str mv),t6]=.ok (.rt (.f,.non))/\∃ S A m,Rm names ps S A m/\S.length=8):=by
 have QB:S[d]?=some S[d]:=iU hd
 have JD:Ha (S.map eM) (d:Int)=some (eM S[d]):=dt (by rw [List.getElem?_map,QB];rfl)
 have h8:=r.le
 have hzA:(A.map eA).length < sizeLine:=gx (by rw [aU];lia)
 have hzS:(S.map eM).length < sizeLine:=gx (by rw [aU];lia)
 have Ob:c9 .non=true:=rfl
 unfold dO
 rcases Dn names ps hl hp S[d] mv hn with ⟨hf,e⟩ | ⟨t,hf,e⟩
 ·refine .inl ⟨S,A,some (.f,.non),r,RL _,by lia,?_⟩
  rw [au (env':=[some (.f,eN names ps),some (.f,.int 8),some (.l .f,.lst (S.map eM)),some (.l .f,.lst (A.map eA)),some (.f,.int ((d:Nat):Int)),some (.f,.str mv),some (.f,.non)]) (by simp only [pv,seval,op,JD,e,Ob])]
  simp only [pv,seval,op,so,fM]
 ·have hft:=Dp t
  have NQ:=F2 AV oJ oI S t
  have QC:isnO (eM t) .non=.ok (.f,.bl true):=id rfl
  rw [au (env':=[some (.f,eN names ps),some (.f,.int 8),some (.l .f,.lst (S.map eM)),some (.l .f,.lst (A.map eA)),some (.f,.int ((d:Nat):Int)),some (.f,.str mv),some (.f,eM t)]) (by simp only [pv,seval,op,JD,e,hft])]
  by_cases hm:t∈S
  ·obtain ⟨i,hi,H0⟩:=QA AV oJ oI S t hm
   refine .inl ⟨S,A++[((d:Int),mv,(i:Int))],some (.f,eM t),r.old hn QB hi hf,RL _,by rw [i7];exact RL _,?_⟩
   rw [RP]
   simp only [pv,seval,op,QC,NQ,hm,TM,SE,fM,sk,H0,hzA]
   rfl
  ·by_cases h9:S.length=8
   ·right
    refine ⟨?_,S,A,d + 1,r,h9⟩
    have he:((S.length:Int) == 8)=true:=by rw [h9];rfl
    simp only [pv,seval,op,QC,NQ,hm,Ti,Tg,aU,he]
   ·have he:((S.length:Int) == 8)=false:=by
     rw [Sw]
     lia
    have H0:=EN AV oJ oI S t hm
    refine .inl ⟨S++[t],A++[((d:Int),mv,(S.length:Int))],some (.f,eM t),r.new hn QB hm hf (by lia),by rw [i7];lia,by rw [i7];exact RL _,?_⟩
    rw [RP,RP,eC,Sd]
    have hzS':S.length < sizeLine:=gx (by lia)
    have hzA':A.length < sizeLine:=gx (by lia)
    simp only [pv,seval,op,QC,NQ,hm,Ti,Tg,fM,aU,he,sk,H0,hzA',hzS']
    rfl
theorem AW (names:LNN) (hn:names.length<=3) (ps:List Pl) (hl:ps.length<=100) (hp:∀ p∈ps,Kt p names.length) :
  (∃ S A m,Rm names ps S A m/\A.length<=24/\bJ [eN names ps,.int 8]=.ok (.f,.tup [.lst ((b5 eJ A).map eA),.lst (S.map eM)]))\/(bJ [eN names ps,.int 8]=.ok (.f,.non)/\∃ S A m,Rm names ps S A m/\S.length=8):=by
 unfold bJ nr
 rw [a7 (h:=by rfl)]
 have hc:bY (fO 3 (aA (aw 0) (aA (aw 1) (aA (aw 2) b8)))) cZ (aO 0) (ps.map eP) [none,none,none]=.ok ((ps.map (·.1)).map D.int):=by
  rw [aX (r:=fun p:Pl=>D.int p.1) (fun env=>∃ t u w,env=[t,u,w]) ps ?_ _ ⟨none,none,none,rfl⟩]
  ·rw [RQ]
   rfl
  ·rintro p _ env ⟨t,u,w,rfl⟩
   exact ⟨[some (.f,.int p.1),some (.f,.tup (p.2.1.map D.int)),some (.f,.tup (p.2.2.map D.int))],by unfold eP;simp only [pv,seval],.f,_,rfl,_,_,_,rfl⟩
 have hlen:((ps.map (·.1)).map D.int).length<=sizeLine:=aM (by rw [aU,aU];lia)
 have Jo:=Ga (ps.map (·.1))
 rw [au (env':=[some (.f,eN names ps),some (.f,.int 8),some (.l .f,.lst [eM (ps.map (·.1))]),none,none,none,none]) (by
  unfold eN eM
  simp only [pv,seval,op,hc,hlen,Jo])]
 rw [au (env':=[some (.f,eN names ps),some (.f,.int 8),some (.l .f,.lst [eM (ps.map (·.1))]),some (.l .f,.lst []),none,none,none]) (by simp only [pv,seval,op])]
 rw [au (env':=[some (.f,eN names ps),some (.f,.int 8),some (.l .f,.lst [eM (ps.map (·.1))]),some (.l .f,.lst []),some (.f,.int 0),none,none]) (by simp only [pv,seval,op])]
 rcases sM (c:=(GC (az K8 (ai 4) (aq (aZ ll (ag (ai 2) aB)))))) (g:=dP) (r:=(.f,.non)) (Z:=∃ S A m,Rm names ps S A m/\S.length=8)
  (fun k env=>∃ S A d t5 t6,Rm names ps S A d/\d<=S.length/\A.length<=3 * d/\k=9 - d/\env=[some (.f,eN names ps),some (.f,.int 8),some (.l .f,.lst (S.map eM)),some (.l .f,.lst (A.map eA)),some (.f,.int ((d:Nat):Int)),t5,t6]) (fun env=>∃ S A d t5 t6,Rm names ps S A d/\d=S.length/\A.length<=3 * d/\env=[some (.f,eN names ps),some (.f,.int 8),some (.l .f,.lst (S.map eM)),some (.l .f,.lst (A.map eA)),some (.f,.int ((d:Nat):Int)),t5,t6]) (by
  rintro k env ⟨S,A,d,t5,t6,r,hd,hA,rfl,rfl⟩
  have h8:=r.le
  by_cases GV:d < S.length
  ·refine .inr ⟨[some (.f,eN names ps),some (.f,.int 8),some (.l .f,.lst (S.map eM)),some (.l .f,.lst (A.map eA)),some (.f,.int ((d:Nat):Int)),t5,t6],?_,?_⟩
   ·have:(d:Int) < (S.length:Int):=by lia
    simp only [pv,seval,op,aU,this,TM]
   ·rcases Dl (a:=aw 5) (g:=dO) (e:=D.str) (r:=(.f,.non)) (Z:=∃ S A m,Rm names ps S A m/\S.length=8) names (fun j env=>∃ S' A' t5 t6,Rm names ps S' A' (d + 1)/\S.length<=S'.length/\A'.length<=3 * d + j/\env=[some (.f,eN names ps),some (.f,.int 8),some (.l .f,.lst (S'.map eM)),some (.l .f,.lst (A'.map eA)),some (.f,.int ((d:Nat):Int)),t5,t6]) (by
     rintro j mv env hj ⟨S',A',t5,t6,r',MZ,hA',rfl⟩
     have Rc:=(j0 hj).1
     have h8:=r'.le
     refine ⟨[some (.f,eN names ps),some (.f,.int 8),some (.l .f,.lst (S'.map eM)),some (.l .f,.lst (A'.map eA)),some (.f,.int ((d:Nat):Int)),some (.f,.str mv),t6],rfl,?_⟩
     rcases Dq names ps hl hp S' A' (by lia) d r' (by lia) mv (RW hj) t6 with ⟨S2,A2,u6,r2,hd2,hA2,e⟩ | e
     ·exact .inl ⟨_,e,S2,A2,_,_,r2,by lia,by lia,rfl⟩
     ·exact .inr e) _ ⟨S,A,t5,t6,r.more (by lia),RL _,by lia,rfl⟩ with ⟨env',ef,S',A',QD,t6',r',MZ,hA',rfl⟩ | ⟨ef,hz⟩
    ·have h8':=r'.le
     refine .inl ⟨_,9 - (d + 1),?_,by lia,S',A',d + 1,QD,t6',r',by lia,by lia,rfl,rfl⟩
     unfold dP
     rw [au (env':=_) (by
      unfold ic
      unfold eN at ef ⊢
      simp only [pv,seval,op]
      exact ef)]
     unfold jI
     simp only [pv,seval,op,Vx,U0]
     rfl
    ·refine .inr ⟨?_,hz⟩
     unfold dP
     rw [IH]
     unfold ic
     unfold eN at ef ⊢
     simp only [pv,seval,op,ef]
  ·refine .inl ⟨_,?_,S,A,d,t5,t6,r,by lia,hA,rfl⟩
   have:¬ (d:Int) < (S.length:Int):=by lia
   simp only [pv,seval,op,aU,this,Ti]) 100000 9 _ (by decide) ⟨[ps.map (·.1)],[],0,none,none,⟨Se.mpr ⟨Sy,SX⟩,rfl,fun x hx=>by rw [jV hx,aU],by simp,(fun _ h=>nomatch h),fun j j1 j2=>by rw [R5] at j2;lia⟩,So _,RL _,rfl,rfl⟩ with ⟨env',ew,S,A,d,t5,t6,r,hd,hA,rfl⟩ | ⟨ew,hz⟩
 ·have h8:=r.le
  left
  refine ⟨S,A,d,r,by lia,?_⟩
  rw [au (env':=_) (by
   unfold ie
   exact ew)]
  unfold jJ
  simp only [pv,seval,op,qP A (by lia)]
 ·right
  refine ⟨?_,hz⟩
  rw [IH]
  unfold ie
  have ew2:(df (GC (az K8 (ai 4) (aq (aZ ll (ag (ai 2) aB))))) dP 100000) [some (.f,eN names ps),some (.f,.int 8),some (.l .f,.lst [eM (ps.map (·.1))]),some (.l .f,.lst []),some (.f,.int 0),none,none]=.ok (.rt (.f,.non)):=ew
  rw [ew2]
  simp only [pv,seval]
theorem Dr (p:Pl):c9 (eP p)=true:=by
 unfold eP
 rw [cS]
 simp only [flatDs,cS,Ga,jU]
 rfl
theorem AX (ps:List Pl):flatDs (ps.map eP)=true:=by
 rw [bG,SM,R3]
 exact fun p _=>Dr p
theorem qR {α:Type} [DecidableEq α]:∀ (l m:List α),l.Nodup->(∀ x∈l,x∈m)->l.length<=m.length
 | [],m,_,_=>So _
 | a :: l,m,nd,h=>by
  rw [Se] at nd
  have ha:=h a RM
  have:=qR l (m.erase a) nd.2 fun x hx=>(List.mem_erase_of_ne (fun e=>nd.1 (by rw [<-e];exact hx))).mpr (h x (RU _ hx))
  rw [List.length_erase_of_mem ha] at this
  have:=List.length_pos_of_mem ha
  rw [Sb]
  lia
def oN (names:LNN) (b:Int):Pl:=(b,names.map fun _=>1,names.map fun _=>0)
theorem sO (names:LNN) (c:Int) {k:Nat} (h:k < names.length):(names.map fun _=>c).getD k 0=c:=by
 rw [List.getD_eq_getElem?_getD,List.getElem?_map,iU h]
 rfl
theorem wC {names:LNN} {ps:List Pl} {b:Int} {k:Nat} (hk:k < names.length) {s t:List Int} (hs:s.length=(ps++[oN names b]).length) (hf:iI k (s.zip (ps++[oN names b]))=some t):1<=s.getD ps.length 0/\t.getD ps.length 0=s.getD ps.length 0 - 1:=by
 rw [i7,R5] at hs
 have GV:ps.length < s.length:=by lia
 have e:(s.zip (ps++[oN names b]))[ps.length]?=some (s[ps.length],oN names b):=by
  rw [List.getElem?_zip_eq_some]
  exact ⟨iU GV,by rw [List.getElem?_append_right (RL _),UZ];rfl⟩
 obtain ⟨h1,h2⟩:=sN k hf e
 have e1:(oN names b).2.1.getD k 0=1:=sO names 1 hk
 have e2:(oN names b).2.2.getD k 0=0:=sO names 0 hk
 dsimp only at h1 h2
 rw [e1] at h1
 rw [e1,e2] at h2
 have e3:s.getD ps.length 0=s[ps.length]:=by rw [List.getD_eq_getElem?_getD,iU GV];rfl
 rw [e3,List.getD_eq_getElem?_getD,h2]
 exact ⟨by lia,by show _=_;simp⟩
theorem x3 {names:LNN} {ps:List Pl} {S:List (List Int)} {A:List Gf} {m:Nat} (r:Rm names (ps++[oN names 1]) S A m):S.length<=1 + names.length:=by
 have hz:=r.z
 cases hS:S with
 | nil=>exact So _
 | cons s0 tl=>
  rw [hS,List.getElem?_cons_zero,UG] at hz
  have h0:s0.getD ps.length 0=1:=by
   rw [hz,List.getD_eq_getElem?_getD,List.getElem?_map,List.getElem?_append_right (RL _),UZ]
   rfl
  have key:∀ j:Nat,1<=j->∀ s,S[j]?=some s->s.getD ps.length 0=0/\∃ mv∈names,iI (names.idxOf mv) (s0.zip (ps++[oN names 1]))=some s:=by
   intro j
   induction j using Nat.strongRecOn with
   | _ j ih=>
    intro hj s hs
    obtain ⟨a,ha,e1,b,hb,e2⟩:=r.rc j hj (j0 hs).1
    obtain ⟨hn,i',j',_,e3,e4,x,y,hx,hy,hf⟩:=r.ab a ha
    have:i'=b:=by lia
    subst this
    have:j'=j:=by lia
    subst this
    rw [hs] at hy
    cases hy
    have hd:=wC (SN hn) (r.ln x (RW hx)) hf
    cases i' with
    | zero=>
     rw [hS,List.getElem?_cons_zero,UG] at hx
     subst hx
     exact ⟨by lia,_,hn,hf⟩
    | succ i'=>
     have:=(ih (i' + 1) hb (by lia) x hx).1
     lia
  have nd:=r.nd
  rw [hS] at nd
  have:=qR tl (names.filterMap fun mv=>iI (names.idxOf mv) (s0.zip (ps++[oN names 1]))) (Se.mp nd).2 fun s hs=>by
   obtain ⟨i,hi⟩:=Sr.mp hs
   obtain ⟨_,mv,PH,hf⟩:=key (i + 1) (by lia) s (by rw [hS,List.getElem?_cons_succ];exact hi)
   exact UX.mpr ⟨mv,PH,hf⟩
  have h2:=List.length_filterMap_le (fun mv=>iI (names.idxOf mv) (s0.zip (ps++[oN names 1]))) names
  rw [Sb]
  lia
theorem mF (names:LNN) (c:Int):bY (aw 0) cZ (aJ (.int c)) (names.map D.str) [none]=.ok ((names.map fun _=>c).map D.int):=by
 rw [aX (r:=fun _:List Nat=>D.int c) (fun env=>∃ t,env=[t]) names ?_ _ ⟨none,rfl⟩]
 ·rw [RQ]
  rfl
 ·rintro n _ env ⟨t,rfl⟩
  exact ⟨[some (.f,.str n)],rfl,.f,_,rfl,_,rfl⟩
theorem F3 (ps:List Pl) (hl:ps.length<=100) (d:D):cJ (.lst (ps.map eP)) (.lst [d])=.ok (.l .f,.lst (ps.map eP++[d])):=by
 rw [oF,RO (line_le (by rw [aU,R5];lia))]
structure Nt (names:LNN) (ps:List Pl) (S:List (List Int)) (A:List Gf):Prop where
 n0:names≠[]
 n3:names.length<=3
 nn:names.Nodup
 nw:names.Pairwise (fun a b=>KI b a=false)
 p0:ps≠[]
 p9:ps.length<=9
 po:∀ p∈ps,Kt p names.length
 al:A.length<=24
 rm:∃ m,Rm names ps S A m
theorem EO (ns:List Int) (first:Nat):∃ names ps S A,Nt names ps S A/\d5 [.lst (ns.map D.int),.int (first:Int)]=.ok (.f,eN names ps)/\bJ [eN names ps,.int 8]=.ok (.f,.tup [.lst ((b5 eJ A).map eA),.lst (S.map eM)]):=by
 obtain ⟨names,n0,n3,nn,nw,en⟩:=AU ns
 obtain ⟨ps,O8,hp0,hp8,ep⟩:=xZ ns first names.length (by lia)
 have NP:=AX ps
 have LY:c9 (.tup (names.map D.str))=true:=by rw [cS,PV.flat_strs]
 have Ob:c9 .non=true:=rfl
 have Lb:∀ (x y:List D),flatDs [.lst x,.lst y]=false:=fun _ _=>rfl
 unfold d5 nt
 rw [a7 (h:=by rfl)]
 rw [au (env':=[some (.f,.lst (ns.map D.int)),some (.f,.int (first:Int)),some (.f,.tup (names.map D.str)),none,none,none,none]) (by simp only [pv,seval,op,en,LY])]
 rw [au (env':=[some (.f,.lst (ns.map D.int)),some (.f,.int (first:Int)),some (.f,.tup (names.map D.str)),some (.f,.int (names.length:Int)),none,none,none]) (by simp only [pv,seval,op,aU])]
 rw [au (env':=[some (.f,.lst (ns.map D.int)),some (.f,.int (first:Int)),some (.f,.tup (names.map D.str)),some (.f,.int (names.length:Int)),some (.l .f,.lst (ps.map eP)),none,none]) (by simp only [pv,seval,op,ep,NP])]
 rcases AW names n3 ps (by lia) O8 with ⟨S,A,m,r,hA,er⟩ | ⟨er,_⟩
 ·refine ⟨names,ps,S,A,⟨n0,n3,nn,nw,hp0,by lia,O8,hA,m,r⟩,?_,er⟩
  unfold eN at er ⊢
  simp only [pv,seval,op,er,Lb,fM,o_isnT,DH,DI]
 ·unfold eN at er
  rw [au (env':=[some (.f,.lst (ns.map D.int)),some (.f,.int (first:Int)),some (.f,.tup (names.map D.str)),some (.f,.int (names.length:Int)),some (.f,.lst (ps.map eP)),none,none]) (by simp only [pv,seval,op,er,Ob,so,fM])]
  have c1:=mF names 1
  have c0:=mF names 0
  have l1:((names.map fun _=>(1:Int)).map D.int).length<=sizeLine:=aM (by rw [aU,aU];lia)
  have l0:((names.map fun _=>(0:Int)).map D.int).length<=sizeLine:=aM (by rw [aU,aU];lia)
  have f1:=Ga (names.map fun _=>(1:Int))
  have f0:=Ga (names.map fun _=>(0:Int))
  rw [au (env':=[some (.f,.lst (ns.map D.int)),some (.f,.int (first:Int)),some (.f,.tup (names.map D.str)),some (.f,.int (names.length:Int)),some (.f,.lst (ps.map eP)),some (.f,.tup ((names.map fun _=>(1:Int)).map D.int)),none]) (by simp only [pv,seval,op,c1,l1,f1])]
  rw [au (env':=[some (.f,.lst (ns.map D.int)),some (.f,.int (first:Int)),some (.f,.tup (names.map D.str)),some (.f,.int (names.length:Int)),some (.f,.lst (ps.map eP)),some (.f,.tup ((names.map fun _=>(1:Int)).map D.int)),some (.f,.tup ((names.map fun _=>(0:Int)).map D.int))]) (by simp only [pv,seval,op,c0,l0,f0])]
  have MV:∀ b:Int,(ps++[oN names b]).map eP=ps.map eP++[.tup [.int b,.tup ((names.map fun _=>(1:Int)).map D.int),.tup ((names.map fun _=>(0:Int)).map D.int)]]:=fun b=>by
   rw [RP]
   rfl
  have MF:∀ b:Int,∀ p∈ps++[oN names b],Kt p names.length:=fun b p hp=>by
   rcases ko hp with hp | hp
   ·exact O8 p hp
   ·rw [jV hp]
    exact ⟨aU _,aU _⟩
  have KL:∀ b:Int,(ps++[oN names b]).length<=9:=fun b=>by
   rw [i7,R5]
   lia
  have O9:∀ b:Int,ps++[oN names b]≠[]:=fun b h=>by simp at h
  have QF:=fun d=>F3 ps (by lia) d
  have lo:((ps.map eP).length)<=100:=by rw [aU];lia
  rcases AW names n3 (ps++[oN names 2]) (by have:=KL 2;lia) (MF 2) with ⟨S,A,m,r,hA,er2⟩ | ⟨er2,_⟩
  ·refine ⟨names,ps++[oN names 2],S,A,⟨n0,n3,nn,nw,O9 2,KL 2,MF 2,hA,m,r⟩,?_,er2⟩
   unfold eN at er2 ⊢
   rw [MV] at er2 ⊢
   simp only [pv,seval,op,QF,er2,Lb,fM,o_isnT,DH,DI]
  ·rcases AW names n3 (ps++[oN names 1]) (by have:=KL 1;lia) (MF 1) with ⟨S,A,m,r,hA,er3⟩ | ⟨_,S,A,m,r,h8⟩
   ·refine ⟨names,ps++[oN names 1],S,A,⟨n0,n3,nn,nw,O9 1,KL 1,MF 1,hA,m,r⟩,?_,er3⟩
    unfold eN at er2 ⊢
    rw [MV] at er2 ⊢
    rw [au (env':=[some (.f,.lst (ns.map D.int)),some (.f,.int (first:Int)),some (.f,.tup (names.map D.str)),some (.f,.int (names.length:Int)),some (.f,.lst (ps.map eP)),some (.f,.tup ((names.map fun _=>(1:Int)).map D.int)),some (.f,.tup ((names.map fun _=>(0:Int)).map D.int))]) (by simp only [pv,seval,op,QF,er2,Ob,so,fM])]
    simp only [pv,seval,op,QF]
   ·have:=x3 r
    lia
theorem Nt.ra {names:LNN} {ps:List Pl} {S:List (List Int)} {A:List Gf} (n:Nt names ps S A):Ra names A S.length:=by
 obtain ⟨m,r⟩:=n.rm
 have h8:=r.le
 have IQ:=n.al
 have h0:=(j0 r.z).1
 refine ⟨by lia,by lia,fun a ha=>?_,fun a ha=>(r.ab a ha).1,r.rc⟩
 obtain ⟨_,i,j,_,e1,e2,s,t,hs,ht,_⟩:=r.ab a ha
 have h1:=(j0 hs).1
 have h2:=(j0 ht).1
 lia
def wD (w:LNN):D:=.tup (w.map D.str)
theorem Ds (w:LNN) (m:List Nat):Bh (w.map D.str) [.str m]=.ok (.f,.int ((w.count m:Nat):Int)):=by
 unfold Bh
 dsimp only
 rw [fg]
def row (names w:LNN):List Int:=names.map fun m=>((w.count m:Nat):Int)
theorem mG (names w:LNN) (hl:names.length<=1000):dj [.tup (names.map D.str),.tup (w.map D.str)]=.ok (.f,.tup ((row names w).map D.int)):=by
 unfold dj pS
 rw [a7 (h:=by rfl)]
 have hc:bY (aw 0) cZ (xI Bh (ai 1) (ag (ai 0) aB)) (names.map D.str) [none,some (.f,.tup (w.map D.str))]=.ok ((row names w).map D.int):=by
  rw [aX (r:=fun m:List Nat=>D.int ((w.count m:Nat):Int)) (fun env=>∃ t1,env=[t1,some (.f,.tup (w.map D.str))]) names ?_ _ ⟨_,rfl⟩]
  ·unfold row
   rw [RQ]
   rfl
  ·rintro m _ env ⟨t1,rfl⟩
   refine ⟨[some (.f,.str m),some (.f,.tup (w.map D.str))],rfl,?_⟩
   simp only [pv,seval,op,Ds]
   exact ⟨_,_,rfl,_,rfl⟩
 simp only [pv,seval,op,hc]
 rw [RO (aM (by unfold row;rw [aU,aU];lia))]
 simp only [pv,seval,op]
theorem AY (ws:List (LNN)):flatDs (ws.map wD)=true:=by
 rw [bG,SM,R3]
 intro s _
 show c9 (.tup _)=true
 rw [cS,PV.flat_strs]
theorem Dt (l:List (Int×Int)) (hl:l.length<=1000):lX [.tup (l.map fun p=>.int p.1),.tup (l.map fun p=>.int p.2)]=.ok (.f,.tup ((l.map fun p=>p.1 - p.2).map D.int)):=by
 unfold lX yJ
 rw [a7 (h:=by rfl)]
 have ez:((l.map fun p=>D.int p.1).zip (l.map fun p=>D.int p.2)).map (fun z=>D.tup [z.1,z.2])=l.map fun p=>D.tup [.int p.1,.int p.2]:=by
  rw [List.zip_map',RQ]
  rfl
 have hc:bY (fO 2 (aA (aw 0) (aA (aw 1) b8))) cZ (az kY (ai 0) (ai 1)) (l.map fun p=>D.tup [.int p.1,.int p.2]) [none,none]=.ok ((l.map fun p=>p.1 - p.2).map D.int):=by
  rw [aX (r:=fun p:Int×Int=>D.int (p.1 - p.2)) (fun env=>∃ t1 t2,env=[t1,t2]) l ?_ _ ⟨_,_,rfl⟩]
  ·rw [RQ]
   rfl
  ·rintro p _ env ⟨t1,t2,rfl⟩
   refine ⟨_,qL _ _ t1 t2 [],?_⟩
   simp only [pv,seval,op]
   exact ⟨_,_,rfl,_,_,rfl⟩
 simp only [pv,seval,op,ez,hc]
 rw [RO (aM (by rw [aU,aU];lia))]
 simp only [pv,seval,op]
def uu (names:LNN) (N:List Nd) (a:Gf):List Int:=(names.map fun m=>((((bB N a.1++[a.2.1]).count m:Nat):Int),(((bB N a.2.2).count m:Nat):Int))).map fun p=>p.1 - p.2
theorem AZ (names w w':LNN) (hl:names.length<=1000):lX [.tup ((row names w).map D.int),.tup ((row names w').map D.int)]=.ok (.f,.tup (((names.map fun m=>(((w.count m:Nat):Int),((w'.count m:Nat):Int))).map fun p=>p.1 - p.2).map D.int)):=by
 have h:=Dt (names.map fun m=>(((w.count m:Nat):Int),((w'.count m:Nat):Int))) (by rw [aU];exact hl)
 rw [<-h]
 unfold row
 rw [RQ,RQ,RQ,RQ]
 rfl
theorem wF {N:List Nd} {many:Nat} {s:Int} (h0:0<=s) (h:s < (many:Int)):Ha (((List.range many).map fun (s:Nat)=>bB N (s:Int)).map wD) s=some (.tup ((bB N s).map D.str)):=by
 obtain ⟨k,rfl⟩:=R7 h0
 exact dt (by rw [List.getElem?_map,List.getElem?_map,List.getElem?_range (by lia)];rfl)
theorem kr (n:Nat) (arcs:List Gf):plainDs (n + 3) (arcs.map eA)=true:=by
 induction arcs with
 | nil=>rfl
 | cons a l ih=>
  rw [eC,plainDs,ih]
  rfl
theorem sP (T:List Gf) (a:Gf):uq (eA a) (.lst (T.map eA))=.ok (.f,.bl (!decide (a∈T))):=by
 have e:uo (eA a) (T.map eA)=decide (a∈T):=by
  unfold uo
  rw [Th,Sh,SG,R0]
  constructor
  ·rintro ⟨x,hx,e⟩
   have e:eqD (eA x) (eA a)=true:=e
   rw [Dc,R0] at e
   rw [<-e]
   exact hx
  ·intro h
   refine ⟨a,h,?_⟩
   show eqD (eA a) (eA a)=true
   rw [Dc,R0]
 unfold uq K7
 dsimp only
 rw [show plainD 40 (eA a)=true from rfl,kr 37 T,Ue,RO rfl,e]
 rfl
def Jp (names:LNN) (N:List Nd) (T arcs:List Gf):List (List Int):=(arcs.filter fun a=>!decide (a∈T)).map (uu names N)
theorem A3 (names:LNN) (N:List Nd) (T l:List Gf) (a:Gf):Jp names N T (l++[a])=if a∈T then Jp names N T l else Jp names N T l++[uu names N a]:=by
 unfold Jp
 rw [List.filter_append,RP]
 by_cases h:a∈T
 ·rw [RO h,List.filter_cons_of_neg (by simpa using h)]
  simp
 ·rw [RY h,List.filter_cons_of_pos (by simpa using h)]
  rfl
theorem wG (names:LNN) (N:List Nd) (T l:List Gf):(Jp names N T l).length<=l.length:=by
 unfold Jp
 rw [aU]
 exact UI _ _
theorem uf {names:LNN} {arcs:List Gf} {N:List Nd} {T:List Gf} {many:Nat} (ew:cU [eCh names arcs]=.ok (.l .f,.lst (((List.range many).map fun (s:Nat)=>bB N (s:Int)).map wD))) (et:di [.lst (arcs.map eA)]=.ok (.l .f,.lst (T.map eA)))
  (hb:∀ a∈arcs,(0<=a.1/\a.1 < (many:Int))/\0<=a.2.2/\a.2.2 < (many:Int)) (hw:∀ s:Int,(bB N s).length<=1000) (hn:names.length<=1000) (hl:arcs.length<=1000):dZ [eCh names arcs]=.ok (.l .f,.lst ((Jp names N T arcs).map fun r=>D.tup (r.map D.int))):=by
 unfold dZ nh
 rw [a7 (h:=by rfl)]
 have hf:=AY ((List.range many).map fun (s:Nat)=>bB N (s:Int))
 rw [au (env':=[some (.f,eCh names arcs),some (.l .f,.lst (((List.range many).map fun (s:Nat)=>bB N (s:Int)).map wD)),none,none,none]) (by simp only [pv,seval,op,ew,hf])]
 rw [au (env':=[some (.f,eCh names arcs),some (.l .f,.lst (((List.range many).map fun (s:Nat)=>bB N (s:Int)).map wD)),some (.l .f,.lst (T.map eA)),none,none]) (by unfold eCh;simp only [pv,seval,op,et,kq])]
 rw [au (env':=[some (.f,eCh names arcs),some (.l .f,.lst (((List.range many).map fun (s:Nat)=>bB N (s:Int)).map wD)),some (.l .f,.lst (T.map eA)),some (.l .f,.lst []),none]) (by simp only [pv,seval,op])]
 obtain ⟨env',ef,t4,rfl⟩:=for_list (a:=aw 4) (g:=gI) (e:=eA) arcs (fun j env=>∃ t4,env=[some (.f,eCh names arcs),some (.l .f,.lst (((List.range many).map fun (s:Nat)=>bB N (s:Int)).map wD)),some (.l .f,.lst (T.map eA)),some (.l .f,.lst ((Jp names N T (arcs.take j)).map fun r=>D.tup (r.map D.int))),t4]) (by
  rintro j a env hj ⟨t4,rfl⟩
  have K9:=RW hj
  have II:=hb a K9
  have ht:arcs.take (j + 1)=arcs.take j++[a]:=by rw [SH,hj];rfl
  refine ⟨[some (.f,eCh names arcs),some (.l .f,.lst (((List.range many).map fun (s:Nat)=>bB N (s:Int)).map wD)),some (.l .f,.lst (T.map eA)),some (.l .f,.lst ((Jp names N T (arcs.take j)).map fun r=>D.tup (r.map D.int))),some (.f,eA a)],rfl,_,?_,some (.f,eA a),rfl⟩
  have PJ:=sP T a
  rw [ht,A3]
  unfold gI
  by_cases h:a∈T
  ·rw [RO h]
   simp only [pv,seval,op,PJ,h,TM,SE,fM]
  ·rw [RY h]
   have w1:=wF (N:=N) (many:=many) (s:=a.1) II.1.1 II.1.2
   have w2:=wF (N:=N) (many:=many) (s:=a.2.2) II.2.1 II.2.2
   have hz:((Jp names N T (arcs.take j)).map fun r=>D.tup (r.map D.int)).length < sizeLine:=gx (by
    have:=wG names N T (arcs.take j)
    rw [Su] at this
    rw [aU]
    lia)
   have hr:=AZ names (bB N a.1++[a.2.1]) (bB N a.2.2) hn
   have PM:=mG names (bB N a.1++[a.2.1]) hn
   have HU:=mG names (bB N a.2.2) hn
   have ha:=E7 (bB N a.1) a.2.1 (hw _)
   have hrr:((names.map fun m=>((((bB N a.1++[a.2.1]).count m:Nat):Int),(((bB N a.2.2).count m:Nat):Int))).map fun p=>p.1 - p.2)=uu names N a:=rfl
   rw [hrr] at hr
   rw [RP,eC,Sd]
   generalize ((Jp names N T (arcs.take j)).map fun r=>D.tup (r.map D.int))=RR at hz ⊢
   generalize (((List.range many).map fun (s:Nat)=>bB N (s:Int)).map wD)=WW at w1 w2 ⊢
   generalize ((bB N a.1++[a.2.1]).map D.str)=WA at ha PM
   generalize (row names (bB N a.1++[a.2.1]))=R1 at hr PM
   generalize (row names (bB N a.2.2))=R2 at hr HU
   generalize T.map eA=TT at PJ ⊢
   unfold eCh
   rw [show eA a=.tup [.int a.1,.str a.2.1,.int a.2.2] from rfl] at PJ ⊢
   simp only [pv,seval,op,PJ,h,Ti,Tg,w1,w2,at2,ha,PM,HU,hr,hz]) _ ⟨none,rfl⟩
 rw [SQ] at ef
 rw [au (env':=_) (by
  unfold kK
  unfold eCh at ef ⊢
  simp only [pv,seval,op]
  exact ef)]
 unfold jH
 simp only [pv,seval,op]
theorem yM (names:LNN) (N:List Nd) (many:Nat):flatDs ((List.range many).map fun (s:Nat)=>D.tup ((row names (bB N (s:Int))).map D.int))=true:=by
 rw [bG,SM,R3]
 intro s _
 show c9 (.tup _)=true
 rw [cS,Ga]
theorem Du (N:List Nd) (many:Nat):flatDs ((List.range many).map fun (s:Nat)=>D.tup ((bB N (s:Int)).map D.str))=true:=by
 rw [bG,SM,R3]
 intro s _
 show c9 (.tup _)=true
 rw [cS,PV.flat_strs]
theorem qS {names:LNN} {arcs:List Gf} {N:List Nd} {many:Nat} (hm:many<=12) (hl:names.length<=1000) (ew:cU [eCh names arcs]=.ok (.l .f,.lst ((List.range many).map fun (s:Nat)=>D.tup ((bB N (s:Int)).map D.str)))):dv [eCh names arcs]=.ok (.l .f,.lst ((List.range many).map fun (s:Nat)=>D.tup ((row names (bB N (s:Int))).map D.int))):=by
 unfold dv l7
 rw [a7 (h:=by rfl)]
 have hc:bY (aw 0) cZ (cw dj (ag (aq (az Gi (ai 1) (aq (aJ (.int 0))))) (ag (ai 0) aB))) ((List.range many).map fun (s:Nat)=>D.tup ((bB N (s:Int)).map D.str)) [none,some (.f,eCh names arcs)]=.ok ((List.range many).map fun (s:Nat)=>D.tup ((row names (bB N (s:Int))).map D.int)):=by
  refine aX (r:=fun s:Nat=>D.tup ((row names (bB N (s:Int))).map D.int)) (fun env=>∃ t1,env=[t1,some (.f,eCh names arcs)]) (List.range many) ?_ _ ⟨_,rfl⟩
  rintro s _ env ⟨t1,rfl⟩
  refine ⟨[some (.f,.tup ((bB N (s:Int)).map D.str)),some (.f,eCh names arcs)],rfl,?_⟩
  unfold eCh
  simp only [pv,seval,op,mG names _ hl]
  exact ⟨_,_,rfl,_,rfl⟩
 simp only [pv,seval,op,ew,Du]
 rw [hc,HF,RO (aM (by rw [aU,RX];lia)),yM]
 simp only [pv,seval,op]
def pr (x y:List Int):Int:=((x.zip y).map fun p=>p.1 * p.2).sum
theorem qb (x y:List Int) (hl:y.length<=1000) (hs:∀ v∈y,b9 v=true):cK [.tup (x.map D.int),.tup (y.map D.int)]=.ok (.f,.int (pr x y)):=by
 unfold cK pP
 rw [a7 (h:=by rfl)]
 have hc:bY (fO 2 (aA (aw 0) (aA (aw 1) b8))) cZ (az iT (ai 0) (ai 1)) ((x.zip y).map fun z=>D.tup [D.int z.1,D.int z.2]) [none,none]=.ok (((x.zip y).map fun p=>p.1 * p.2).map D.int):=by
  rw [aX (r:=fun z:Int×Int=>D.int (z.1 * z.2)) (fun env=>∃ t u,env=[t,u]) (x.zip y) ?_ _ ⟨none,none,rfl⟩]
  ·rw [RQ]
   rfl
  ·rintro z hz env ⟨t,u,rfl⟩
   have Qy:=(Uq (show (z.1,z.2)∈x.zip y from hz)).2
   refine ⟨[some (.f,.int z.1),some (.f,.int z.2)],rfl,.f,[some (.f,.int z.1),some (.f,.int z.2)],?_,_,_,rfl⟩
   simp only [pv,seval,op,DJ z.1 z.2 (hs _ Qy)]
 have hlen:(((x.zip y).map fun p=>p.1 * p.2).map D.int).length<=sizeLine:=aM (by
  rw [aU,aU,S9]
  lia)
 have Jo:=Ga ((x.zip y).map fun p=>p.1 * p.2)
 simp only [pv,seval,op,jZ,hc,hlen,Jo,C9]
 rfl
theorem eW (a b:Int) (r s:List Int):pr (a :: r) (b :: s)=a * b + pr r s:=by
 unfold pr
 rw [SV,eC,Ve]
theorem wH (w:LNN) (m:List Nat):∀ (names:LNN) (uZ:List Int),names.Nodup->uZ.length=names.length->m∈names->pr uZ (row names (w++[m]))=pr uZ (row names w) + uZ.getD (names.idxOf m) 0
 | [],_,_,_,h=>nomatch h
 | x :: names,[],_,h,_=>by simp at h
 | x :: names,b :: uZ,nd,hl,hm=>by
  have nd:=Se.mp nd
  have e1:∀ v:LNN,row (x :: names) v=((v.count x:Nat):Int) :: row names v:=fun v=>rfl
  rw [e1,e1,eW,eW]
  by_cases hx:x=m
  ·subst hx
   have e2:row names (w++[x])=row names w:=by
    unfold row
    refine SK fun y hy=>?_
    have hne:y≠x:=fun h=>nd.1 (h▸hy)
    rw [U9,List.count_cons_of_ne (fun h=>hne h.symm),List.count_nil,VR]
   rw [e2,U9,List.count_singleton_self,List.idxOf_cons_self,List.getD_cons_zero]
   have:(((w.count x + 1:Nat)):Int)=(w.count x:Int) + 1:=by lia
   rw [this,VY]
   lia
  ·have hm:=(RT.mp hm).resolve_left fun h=>hx h.symm
   have ih:=wH w m names uZ nd.2 (by simpa using hl) hm
   rw [ih,U9,List.count_cons_of_ne (fun h=>hx h.symm),List.count_nil,VR,Vu,beq_false_of_ne hx,cond_false,List.getD_cons_succ]
   lia
theorem yN:∀ (uZ:List Int) (l:List (Int×Int)),pr uZ (l.map fun p=>p.1 - p.2)=pr uZ (l.map fun p=>p.1) - pr uZ (l.map fun p=>p.2)
 | [],l=>rfl
 | b :: uZ,[]=>rfl
 | b :: uZ,p :: l=>by
  rw [eC,eC,eC,eW,eW,eW,yN uZ l,Int.mul_sub]
  lia
theorem A4 (names:LNN) (N:List Nd) (a:Gf) (uZ:List Int) (nd:names.Nodup) (hl:uZ.length=names.length) (hm:a.2.1∈names):pr uZ (uu names N a)=pr uZ (row names (bB N a.1)) + uZ.getD (names.idxOf a.2.1) 0 - pr uZ (row names (bB N a.2.2)):=by
 rw [<-wH _ _ names uZ nd hl hm]
 unfold uu
 rw [yN,RQ,RQ]
 rfl
theorem wI:∀ (names:LNN) (uZ:List Int),pr uZ (row names [])=0
 | [],uZ=>by
  unfold pr row
  rw [Sd,List.zip_nil_right]
  rfl
 | x :: names,[]=>rfl
 | x :: names,b :: uZ=>by
  show pr (b :: uZ) (((0:Nat):Int) :: row names [])=0
  rw [eW,wI names uZ]
  simp
structure Ck (names:LNN) (arcs:List Gf) (many:Nat) (N:List Nd) (T:List Gf):Prop where
 m1:1<=many/\many<=12
 nn:names.Nodup
 n3:names.length<=1000
 al:arcs.length<=60
 nm:∀ a∈arcs,a.2.1∈names
 hb:∀ a∈arcs,(0<=a.1/\a.1 < (many:Int))/\0<=a.2.2/\a.2.2 < (many:Int)
 hw:∀ s:Int,(bB N s).length<=1000
 F:Found arcs N
 all:∀ s:Int,0<=s->s < (many:Int)->s∈N.map (·.1)
 er:dZ [eCh names arcs]=.ok (.l .f,.lst ((Jp names N T arcs).map fun r=>D.tup (r.map D.int)))
 ec:dv [eCh names arcs]=.ok (.l .f,.lst ((List.range many).map fun (s:Nat)=>D.tup ((row names (bB N (s:Int))).map D.int)))
theorem Ra.states {names:LNN} {as:List Gf} {many:Nat} (r:Ra names as many):bp as=(many:Int):=by
 have hm:=r.mm
 have h1:=p6 hm.1 r.bd
 by_cases h:many=1
 ·lia
 ·obtain ⟨a,ha,e,_⟩:=r.rc (many - 1) (by lia) (by lia)
  have:=wy ha
  lia
theorem Ra.ck {names:LNN} {as:List Gf} {many:Nat} (r:Ra names as many) (nn:names.Nodup) (n3:names.length<=1000):∃ N T,Ck names as many N T:=by
 have C:=r.ch
 have KD:=r.states
 have IQ:=C.al
 have hm:=r.mm
 obtain ⟨N,T,b,Ks,et,QH⟩:=wq names as (by lia) (fun a ha=>(C.bd a ha).2) C.all (by lia)
 have F:=b.found
 have N5:∀ s:Int,(bB N s).length<=1000:=by
  intro s
  unfold bB
  cases hf:(N.find? fun n=>n.1 == s) with
  | none=>exact So _
  | some n=>
   have:=F.wl n (List.mem_of_find?_eq_some hf)
   show n.2.length<=1000
   lia
 have em:(bp as).toNat=many:=by lia
 rw [em] at QH
 have e2:=qS (by lia) n3 QH
 have eww2:cU [eCh names as]=.ok (.l .f,.lst (((List.range many).map fun (s:Nat)=>bB N (s:Int)).map wD)):=by
  rw [QH,RQ]
  rfl
 have e1:=uf eww2 et r.bd N5 n3 (by lia)
 exact ⟨N,T,hm,nn,n3,IQ,r.nm,r.bd,N5,F,fun s h0 h1=>C.all N F s h0 (by lia),e1,e2⟩
theorem ug (names:LNN) (N:List Nd) (a:Gf) (hw:∀ s:Int,(bB N s).length<=1000):∀ x∈uu names N a,b9 x=true:=by
 intro x hx
 unfold uu at hx
 obtain ⟨p,hp,rfl⟩:=lp hx
 obtain ⟨m,_,rfl⟩:=lp hp
 have h1:=UM (a:=m) (l:=bB N a.1++[a.2.1])
 have h2:=UM (a:=m) (l:=bB N a.2.2)
 have h3:=hw a.1
 have h4:=hw a.2.2
 rw [i7,R5] at h1
 refine mz _ ?_ ?_ <;> dsimp only <;> lia
theorem wJ (names w:LNN) (hw:w.length<=1000):∀ x∈row names w,b9 x=true:=by
 intro x hx
 unfold row at hx
 obtain ⟨m,_,rfl⟩:=lp hx
 have h1:=UM (a:=m) (l:=w)
 exact we _ (by lia)
theorem qc (rows:List (List Int)):flatDs (rows.map fun r=>D.tup (r.map D.int))=true:=by
 rw [bG,SM,R3]
 intro s _
 show c9 (.tup _)=true
 rw [cS,Ga]
def th (names:LNN) (N:List Nd) (uZ:List Int) (s:Int):Int:=pr uZ (row names (bB N s))
theorem yO (bs:List Bool):Bf [.lst (bs.map D.bl)]=.ok (.f,.bl (bs.any id)):=by
 unfold Bf
 show (match mO (bs.map D.bl) with | some bs=>_ | none=>_)=_
 rw [px]
section
variable {names:LNN} {arcs:List Gf} {many:Nat} {N:List Nd} {T:List Gf}
theorem Ck.has_arcs (c:Ck names arcs many N T) (m:List Nat):dD [eCh names arcs,.str m]=.ok (.f,.bl (arcs.any fun a=>a.2.1 == m)):=by
 have IQ:=c.al
 unfold dD ni
 rw [a7 (h:=by rfl)]
 have hc:bY (fO 3 (aA (aw 0) (aA (aw 1) (aA (aw 2) b8)))) cZ (bq HG (ai 1) (ai 3)) (arcs.map eA) [none,none,none,some (.f,.str m)]=.ok ((arcs.map fun a=>a.2.1 == m).map D.bl):=by
  rw [aX (r:=fun a:Gf=>D.bl (a.2.1 == m)) (fun env=>∃ t u v,env=[t,u,v,some (.f,.str m)]) arcs ?_ _ ⟨none,none,none,rfl⟩]
  ·rw [RQ]
   rfl
  ·rintro a _ env ⟨t,u,v,rfl⟩
   refine ⟨[some (.f,.int a.1),some (.f,.str a.2.1),some (.f,.int a.2.2),some (.f,.str m)],by unfold eA;simp only [pv,seval],.f,[some (.f,.int a.1),some (.f,.str a.2.1),some (.f,.int a.2.2),some (.f,.str m)],?_,_,_,_,rfl⟩
   simp only [pv,seval,op]
 have hlen:((arcs.map fun a=>a.2.1 == m).map D.bl).length<=sizeLine:=aM (by rw [aU,aU];lia)
 have Jo:=oE (arcs.map fun a=>a.2.1 == m)
 unfold eCh
 generalize (bq HG (ai 1) (ai 3))=GG at hc ⊢
 simp only [pv,seval,op,hc,hlen,Jo,yO,Th]
 rfl
theorem Ck.stretch (c:Ck names arcs many N T) (uZ:List Int) (h1:∀ a∈arcs,pr uZ (uu names N a)=0) (h2:∀ z∈names.zip uZ,z.2=0\/∃ a∈arcs,a.2.1=z.1):cy [eCh names arcs,.tup (uZ.map D.int)]=.ok (.f,.bl true):=by
 have IQ:=c.al
 have LV:=c.n3
 have QJ:=wG names N T arcs
 have Lb:=qc (Jp names N T arcs)
 have er:=c.er
 unfold cy kM
 rw [a7 (h:=by rfl)]
 have hc:bY (aw 0) cZ (bq Kc (aq (cw cK (ag (ai 1) (ag (ai 0) aB)))) (aq (aJ (.int 0)))) ((Jp names N T arcs).map fun r=>D.tup (r.map D.int)) [none,some (.f,.tup (uZ.map D.int))]=.ok (((Jp names N T arcs).map fun _=>false).map D.bl):=by
  rw [aX (e:=fun r:List Int=>D.tup (r.map D.int)) (r:=fun _:List Int=>D.bl false) (fun env=>∃ t,env=[t,some (.f,.tup (uZ.map D.int))]) (Jp names N T arcs) ?_ _ ⟨none,rfl⟩]
  ·rw [RQ]
   rfl
  ·rintro r hr env ⟨t,rfl⟩
   obtain ⟨a,ha,rfl⟩:=lp hr
   have ha:=(UP.mp ha).1
   have hp:=qb uZ (uu names N a) (by unfold uu;rw [aU,aU];exact LV) (ug names N a c.hw)
   rw [h1 a ha] at hp
   refine ⟨[some (.f,.tup ((uu names N a).map D.int)),some (.f,.tup (uZ.map D.int))],rfl,.f,[some (.f,.tup ((uu names N a).map D.int)),some (.f,.tup (uZ.map D.int))],?_,_,rfl⟩
   simp only [pv,seval,op,hp]
   rfl
 have hlen:(((Jp names N T arcs).map fun _=>false).map D.bl).length<=sizeLine:=aM (by rw [aU,aU];lia)
 have Jo:=oE ((Jp names N T arcs).map fun _=>false)
 have Mb:((Jp names N T arcs).map fun _=>false).any id=false:=by
  rw [Th,U8]
  intro x _
  exact RK
 rw [au (env':=[some (.f,eCh names arcs),some (.f,.tup (uZ.map D.int))]) (by
  generalize (bq Kc (aq (cw cK (ag (ai 1) (ag (ai 0) aB)))) (aq (aJ (.int 0))))=GG at hc ⊢
  generalize ((Jp names N T arcs).map fun r=>D.tup (r.map D.int))=RR at er hc Lb
  generalize ((Jp names N T arcs).map fun _=>false)=BB at hc hlen Jo Mb
  simp only [pv,seval,op,er,Lb,hc,hlen,Jo,yO,Mb,fM])]
 have HU:bY (fO 2 (aA (aw 0) (aA (aw 1) b8))) cZ (OF (bq HG (ai 1) (aq (aJ (.int 0)))) (cw dD (ag (ai 2) (ag (ai 0) aB)))) ((names.zip uZ).map fun z=>D.tup [D.str z.1,D.int z.2]) [none,none,some (.f,eCh names arcs)]=.ok (((names.zip uZ).map fun _=>true).map D.bl):=by
  rw [aX (e:=fun z:List Nat×Int=>D.tup [D.str z.1,D.int z.2]) (r:=fun _:List Nat×Int=>D.bl true) (fun env=>∃ t u,env=[t,u,some (.f,eCh names arcs)]) (names.zip uZ) ?_ _ ⟨none,none,rfl⟩]
  ·rw [RQ]
   rfl
  ·rintro z hz env ⟨t,u,rfl⟩
   have hh:=c.has_arcs z.1
   refine ⟨[some (.f,.str z.1),some (.f,.int z.2),some (.f,eCh names arcs)],rfl,.f,[some (.f,.str z.1),some (.f,.int z.2),some (.f,eCh names arcs)],?_,_,_,rfl⟩
   by_cases h0:z.2=0
   ·have e0:(z.2 == 0)=true:=Si.mpr h0
    simp only [pv,seval,op,e0]
   ·have e0:(z.2 == 0)=false:=Sw.mpr h0
    obtain ⟨a,ha,e⟩:=(h2 z hz).resolve_left h0
    have e1:(arcs.any fun a=>a.2.1 == z.1)=true:=SG.mpr ⟨a,ha,Si.mpr e⟩
    rw [e1] at hh
    simp only [pv,seval,op,e0,hh]
 have Jg:(((names.zip uZ).map fun _=>true).map D.bl).length<=sizeLine:=aM (by rw [aU,aU,S9];lia)
 have K2:=oE ((names.zip uZ).map fun _=>true)
 have Hu:((names.zip uZ).map fun _=>true).all id=true:=by
  rw [SM,R3]
  exact fun _ _=>rfl
 generalize ((names.zip uZ).map fun _=>true)=BB at HU Jg K2 Hu
 unfold eCh at HU ⊢
 generalize (OF (bq HG (ai 1) (aq (aJ (.int 0)))) (cw dD (ag (ai 2) (ag (ai 0) aB))))=GG at HU ⊢
 simp only [pv,seval,op,jZ,HU,Jg,K2,Hu]
theorem iJ:∀ (l:List Int) (b:Int),l.foldl min b<=b/\(∀ x∈l,l.foldl min b<=x)/\(l.foldl min b=b\/l.foldl min b∈l)
 | [],b=>⟨VE _,(fun _ h=>nomatch h),.inl rfl⟩
 | a :: l,b=>by
  obtain ⟨h1,h2,h3⟩:=iJ l (min b a)
  rw [TU]
  refine ⟨by lia,fun x hx=>?_,?_⟩
  ·rcases RT.mp hx with rfl | hx
   ·lia
   ·exact h2 x hx
  ·rcases h3 with h3 | h3
   ·by_cases II:b<=a
    ·left
     rw [h3]
     lia
    ·right
     rw [h3]
     exact RT.mpr (.inl (by lia))
   ·exact .inr (RU _ h3)
theorem sQ {ns:List Int} {x:Int} (h:x∈ns):c5 ns<=x:=(iJ ns _).2.1 x h
theorem oK {ns:List Int} (h:ns≠[]):c5 ns∈ns:=by
 unfold c5
 rcases (iJ ns (ns.headD 0)).2.2 with e | e
 ·rw [e]
  cases ns with
  | nil=>exact absurd rfl h
  | cons a l=>exact RM
 ·exact e
theorem sR {l:List Int} (h:l≠[]):qy [.lst (l.map D.int)]=.ok (.f,.int (c5 l)):=by
 unfold qy
 dsimp only
 rw [sr]
 cases l with
 | nil=>exact absurd rfl h
 | cons a l=>rfl
theorem yP {l:List Int} (h:l≠[]):maxD [.lst (l.map D.int)]=.ok (.f,.int (eL l)):=by
 unfold PV.maxD
 dsimp only
 rw [sr]
 cases l with
 | nil=>exact absurd rfl h
 | cons a l=>rfl
def G0 (names:LNN) (N:List Nd) (uZ:List Int) (many:Nat):List Int:=(List.range many).map fun (s:Nat)=>th names N uZ (s:Int)
def GB (names:LNN) (N:List Nd) (uZ:List Int) (many:Nat):List Int:=(G0 names N uZ many).map fun h=>h - c5 (G0 names N uZ many)
theorem Ck.beads (c:Ck names arcs many N T) (uZ:List Int) (hs:cy [eCh names arcs,.tup (uZ.map D.int)]=.ok (.f,.bl true)):cu [eCh names arcs,.tup (uZ.map D.int)]=.ok (.l .f,.lst ((GB names N uZ many).map D.int)):=by
 have hm:=c.m1
 have LV:=c.n3
 have ec:=c.ec
 have Rx:=yM names N many
 unfold cu nj
 rw [a7 (h:=by rfl)]
 rw [au (env':=[some (.f,eCh names arcs),some (.f,.tup (uZ.map D.int)),none]) (by simp only [pv,seval,op,hs,SE,fM])]
 have hc:bY (aw 0) cZ (cw cK (ag (ai 1) (ag (ai 0) aB))) ((List.range many).map fun (s:Nat)=>D.tup ((row names (bB N (s:Int))).map D.int)) [none,some (.f,.tup (uZ.map D.int))]=.ok ((G0 names N uZ many).map D.int):=by
  rw [aX (r:=fun s:Nat=>D.int (th names N uZ (s:Int))) (fun env=>∃ t,env=[t,some (.f,.tup (uZ.map D.int))]) (List.range many) ?_ _ ⟨none,rfl⟩]
  ·unfold G0
   rw [RQ]
   rfl
  ·rintro s _ env ⟨t,rfl⟩
   have hp:=qb uZ (row names (bB N (s:Int))) (by unfold row;rw [aU];exact LV) (wJ names _ (c.hw _))
   refine ⟨[some (.f,.tup ((row names (bB N (s:Int))).map D.int)),some (.f,.tup (uZ.map D.int))],rfl,.f,[some (.f,.tup ((row names (bB N (s:Int))).map D.int)),some (.f,.tup (uZ.map D.int))],?_,_,rfl⟩
   simp only [pv,seval,op,hp]
   rfl
 have PN:(G0 names N uZ many).length=many:=by unfold G0;rw [aU,RX]
 have hlen:((G0 names N uZ many).map D.int).length<=sizeLine:=aM (by rw [aU];lia)
 have hne:G0 names N uZ many≠[]:=fun h=>by rw [h,SA] at PN;lia
 have Jo:=Ga (G0 names N uZ many)
 rw [au (env':=[some (.f,eCh names arcs),some (.f,.tup (uZ.map D.int)),some (.l .f,.lst ((G0 names N uZ many).map D.int))]) (by
  generalize (cw cK (ag (ai 1) (ag (ai 0) aB)))=GG at hc ⊢
  generalize ((List.range many).map fun (s:Nat)=>D.tup ((row names (bB N (s:Int))).map D.int))=RR at ec hc Rx
  simp only [pv,seval,op,ec,Rx,hc,hlen,Jo])]
 unfold GB
 generalize G0 names N uZ many=hh at *
 have Ku:=sR hne
 have HU:bY (aw 0) cZ (az kY (ai 0) (aq (aZ qy (ag (ai 1) aB)))) (hh.map D.int) [none,some (.f,.lst (hh.map D.int))]=.ok ((hh.map fun h=>h - c5 hh).map D.int):=by
  rw [aX (r:=fun h:Int=>D.int (h - c5 hh)) (fun env=>∃ t,env=[t,some (.f,.lst (hh.map D.int))]) hh ?_ _ ⟨none,rfl⟩]
  ·rw [RQ]
   rfl
  ·rintro x _ env ⟨t,rfl⟩
   refine ⟨[some (.f,.int x),some (.f,.lst (hh.map D.int))],rfl,.f,[some (.f,.int x),some (.f,.lst (hh.map D.int))],?_,_,rfl⟩
   simp only [pv,seval,op,Ku]
 have Jg:((hh.map fun h=>h - c5 hh).map D.int).length<=sizeLine:=aM (by rw [aU,aU];lia)
 have K2:=Ga (hh.map fun h=>h - c5 hh)
 generalize (az kY (ai 0) (aq (aZ qy (ag (ai 1) aB))))=GG at HU ⊢
 simp only [pv,seval,op,HU,Jg,K2]
def hv (B:Int->Int) (arcs:List Gf) (m:List Nat):List Int:=(arcs.filter fun a=>a.2.1 == m).map fun a=>B a.1
def tk (B:Int->Int) (arcs:List Gf) (bs:List Int) (m:List Nat):Int:=NX.minD (hv B arcs m) (eL bs + 1)
theorem Ck.taken (c:Ck names arcs many N T) (B:Int->Int) (bs:List Int) (MG:bs=(List.range many).map fun (s:Nat)=>B (s:Int)) (m:List Nat):ia [eCh names arcs,.lst (bs.map D.int),.str m]=.ok (.f,.int (tk B arcs bs m)):=by
 have hm:=c.m1
 have IQ:=c.al
 have MU:bs.length=many:=by rw [MG,aU,RX]
 have hne:bs≠[]:=fun h=>by rw [h,SA] at MU;lia
 have NR:=yP hne
 have JD:∀ s:Int,0<=s->s < (many:Int)->Ha (bs.map D.int) s=some (.int (B s)):=fun s h0 h1=>by
  obtain ⟨k,rfl⟩:=R7 h0
  exact dt (by rw [MG,List.getElem?_map,List.getElem?_map,List.getElem?_range (by lia)];rfl)
 unfold ia vY
 rw [a7 (h:=by rfl)]
 have hc:bY (fO 3 (aA (aw 0) (aA (aw 1) (aA (aw 2) b8)))) (GC (bq HG (ai 1) (ai 4))) (az Gi (ai 3) (ai 0)) (arcs.map eA) [none,none,none,some (.f,.lst (bs.map D.int)),some (.f,.str m)]=.ok ((hv B arcs m).map D.int):=by
  unfold hv
  rw [RQ]
  refine sf (e:=eA) (p:=fun a=>a.2.1 == m) (r:=fun a=>D.int (B a.1)) (fun env=>∃ t u v,env=[t,u,v,some (.f,.lst (bs.map D.int)),some (.f,.str m)]) arcs ?_ _ ⟨none,none,none,rfl⟩
  rintro a ha env ⟨t,u,v,rfl⟩
  have II:=(c.hb a ha).1
  refine ⟨[some (.f,.int a.1),some (.f,.str a.2.1),some (.f,.int a.2.2),some (.f,.lst (bs.map D.int)),some (.f,.str m)],by unfold eA;simp only [pv,seval],[some (.f,.int a.1),some (.f,.str a.2.1),some (.f,.int a.2.2),some (.f,.lst (bs.map D.int)),some (.f,.str m)],?_,?_⟩
  ·simp only [pv,seval,op]
  ·split
   ·refine ⟨.f,[some (.f,.int a.1),some (.f,.str a.2.1),some (.f,.int a.2.2),some (.f,.lst (bs.map D.int)),some (.f,.str m)],?_,_,_,_,rfl⟩
    simp only [pv,seval,op,JD a.1 II.1 II.2]
   ·exact ⟨_,_,_,rfl⟩
 have hlen:((hv B arcs m).map D.int).length<=sizeLine:=aM (by
  unfold hv
  rw [aU,aU]
  have:=UI (fun a:Gf=>a.2.1 == m) arcs
  lia)
 have Jo:=Ga (hv B arcs m)
 rw [au (env':=[some (.f,eCh names arcs),some (.f,.lst (bs.map D.int)),some (.f,.str m),some (.l .f,.lst ((hv B arcs m).map D.int))]) (by
  unfold eCh
  generalize (GC (bq HG (ai 1) (ai 4)))=G1 at hc ⊢
  generalize (az Gi (ai 3) (ai 0))=G2 at hc ⊢
  simp only [pv,seval,op,hc,hlen,Jo])]
 unfold tk
 generalize hv B arcs m=hh
 simp only [pv,seval,op,AI,NR,Option.bind_some,ka]
theorem Ck.place (c:Ck names arcs many N T) (uZ:List Int) (B:Int->Int) (bs:List Int) (MG:bs=(List.range many).map fun (s:Nat)=>B (s:Int)) (K3:cu [eCh names arcs,.tup (uZ.map D.int)]=.ok (.l .f,.lst (bs.map D.int))):dE [eCh names arcs,.tup (uZ.map D.int)]=.ok (.f,.tup [.int (B 0),.tup ((names.map (tk B arcs bs)).map D.int),.tup ((((names.map (tk B arcs bs)).zip uZ).map fun p=>p.1 + p.2).map D.int)]):=by
 have hm:=c.m1
 have LV:=c.n3
 have QK:=Ga bs
 have h0:Ha (bs.map D.int) 0=some (.int (B 0)):=by
  exact dt (j:=0) (by rw [MG,List.getElem?_map,List.getElem?_map,List.getElem?_range (by lia)];rfl)
 unfold dE nq
 rw [a7 (h:=by rfl)]
 rw [au (env':=[some (.f,eCh names arcs),some (.f,.tup (uZ.map D.int)),some (.l .f,.lst (bs.map D.int)),none]) (by simp only [pv,seval,op,K3,QK])]
 have hc:bY (aw 0) cZ (cw ia (ag (ai 1) (ag (ai 2) (ag (ai 0) aB)))) (names.map D.str) [none,some (.f,eCh names arcs),some (.f,.lst (bs.map D.int))]=.ok ((names.map (tk B arcs bs)).map D.int):=by
  rw [aX (r:=fun m:List Nat=>D.int (tk B arcs bs m)) (fun env=>∃ t,env=[t,some (.f,eCh names arcs),some (.f,.lst (bs.map D.int))]) names ?_ _ ⟨none,rfl⟩]
  ·rw [RQ]
   rfl
  ·rintro m _ env ⟨t,rfl⟩
   have ht:=c.taken B bs MG m
   refine ⟨[some (.f,.str m),some (.f,eCh names arcs),some (.f,.lst (bs.map D.int))],rfl,.f,[some (.f,.str m),some (.f,eCh names arcs),some (.f,.lst (bs.map D.int))],?_,_,rfl⟩
   simp only [pv,seval,op,ht]
 have QL:(names.map (tk B arcs bs)).length=names.length:=aU _
 generalize names.map (tk B arcs bs)=ts at *
 have hlen:(ts.map D.int).length<=sizeLine:=aM (by rw [aU];lia)
 have Jo:=Ga ts
 rw [au (env':=[some (.f,eCh names arcs),some (.f,.tup (uZ.map D.int)),some (.l .f,.lst (bs.map D.int)),some (.f,.tup (ts.map D.int))]) (by
  unfold eCh at hc ⊢
  generalize (cw ia (ag (ai 1) (ag (ai 2) (ag (ai 0) aB))))=GG at hc ⊢
  simp only [pv,seval,op,hc,hlen,Jo])]
 have HU:bY (fO 2 (aA (aw 0) (aA (aw 1) b8))) cZ (az cJ (ai 0) (ai 1)) ((ts.zip uZ).map fun z=>D.tup [D.int z.1,D.int z.2]) [none,none]=.ok (((ts.zip uZ).map fun p=>p.1 + p.2).map D.int):=by
  rw [aX (r:=fun z:Int×Int=>D.int (z.1 + z.2)) (fun env=>∃ t u,env=[t,u]) (ts.zip uZ) ?_ _ ⟨none,none,rfl⟩]
  ·rw [RQ]
   rfl
  ·rintro z hz env ⟨t,u,rfl⟩
   refine ⟨[some (.f,.int z.1),some (.f,.int z.2)],rfl,.f,[some (.f,.int z.1),some (.f,.int z.2)],?_,_,_,rfl⟩
   simp only [pv,seval,op]
 have Jg:(((ts.zip uZ).map fun p=>p.1 + p.2).map D.int).length<=sizeLine:=aM (by rw [aU,aU,S9];lia)
 have K2:=Ga ((ts.zip uZ).map fun p=>p.1 + p.2)
 generalize (az cJ (ai 0) (ai 1))=GG at HU ⊢
 simp only [pv,seval,op,h0,jZ,HU,Jg,K2]
end
theorem for_all {α:Type} {a:FG} {g:FS} {e:α->D} {r:R} (P:PV.Env->Prop) (ok:α->Bool):∀ (l:List α),(∀ x∈l,∀ env,P env->∃ F7,a (e x) env=.ok F7/\if ok x then ∃ Gh,g F7=.ok (.nx Gh)/\P Gh else g F7=.ok (.rt r))->
  ∀ env,P env->if l.all ok then ∃ env',kB a g (l.map e) env=.ok (.nx env')/\P env' else kB a g (l.map e) env=.ok (.rt r)
 | [],_,env,hp=>by rw [List.all_nil,RO rfl];exact ⟨env,rfl,hp⟩
 | x :: l,h,env,hp=>by
  obtain ⟨F7,h1,h2⟩:=h x RM env hp
  rw [UO,eC,mx,h1,HF]
  cases hk:ok x with
  | false=>
   rw [hk,RY RK] at h2
   rw [Bool.false_and,RY RK,h2,HF]
  | true=>
   rw [hk,RO rfl] at h2
   obtain ⟨Gh,h2,h3⟩:=h2
   rw [Bool.true_and,h2,HF]
   exact for_all P ok l (fun y hy=>h y (RU _ hy)) Gh h3
section
variable {names:LNN} {arcs:List Gf} {many:Nat} {N:List Nd} {T:List Gf}
theorem Ck.pot (c:Ck names arcs many N T) (uZ:List Int) (hl:uZ.length=names.length) (f:Int->Int) (hf:∀ a∈arcs,f a.2.2=f a.1 + uZ.getD (names.idxOf a.2.1) 0):∀ s:Int,0<=s->s < (many:Int)->th names N uZ s=f s - f 0:=by
 have key:∀ (k:Nat) (n:Nd),n∈N->n.2.length=k->pr uZ (row names n.2)=f n.1 - f 0:=by
  intro k
  induction k using Nat.strongRecOn with
  | _ k ih=>
   intro n hn hk
   rcases c.F.par n hn with rfl | ⟨a,ha,m,hm,e1,rfl⟩
   ·show pr uZ (row names [])=f 0 - f 0
    rw [wI]
    lia
   ·have:=ih m.2.length (by rw [<-hk];show _ < (m.2++[a.2.1]).length;rw [i7,R5];lia) m hm rfl
    show pr uZ (row names (m.2++[a.2.1]))=f a.2.2 - f 0
    rw [wH _ _ names uZ c.nn hl (c.nm a ha),this,hf a ha,e1]
    lia
 intro s h0 h1
 obtain ⟨n,hn,rfl⟩:=lp (c.all s h0 h1)
 unfold th
 rw [oH c.F.nd hn]
 exact key _ n hn rfl
def Lc (b:Int) (ts gs:List Int):D:=.tup [.int b,.tup (ts.map D.int),.tup (gs.map D.int)]
theorem sS (B:Int->Int) {s:Int} (h0:0<=s) (h1:s < (many:Int)):Ha (((List.range many).map fun (s:Nat)=>B (s:Int)).map D.int) s=some (.int (B s)):=by
 obtain ⟨k,rfl⟩:=R7 h0
 exact dt (by rw [List.getElem?_map,List.getElem?_map,List.getElem?_range (by lia)];rfl)
end
theorem eqD_I (a b:Int):eqD (.int a) (.int b)=decide (a=b):=by
 rw [eqD,Sh]
 simp
theorem wK (a:Int):plainD 40 (.int a)=true:=rfl
theorem sT (l:List Int):plainDs 40 (l.map D.int)=true:=fe _ _
structure Bd (names:LNN) (arcs:List Gf):Prop where
 b:∀ a∈arcs,(0<=a.1/\a.1 < 12)/\0<=a.2.2/\a.2.2 < 12
 n:∀ a∈arcs,a.2.1∈names
structure Od (arcs:List Gf) (O1:List Int) (d:Nat) (pre:List Gf):Prop where
 nd:O1.Nodup
 z:O1[0]?=some 0
 bd:∀ x∈O1,0<=x/\x < 12
 rc:∀ j:Nat,1<=j->∀ x,O1[j]?=some x->∃ a∈arcs,a.2.2=x/\∃ b:Nat,b < j/\O1[b]?=some a.1
 clo:∀ i:Nat,i < d->∀ x,O1[i]?=some x->∀ a∈arcs,a.1=x->a.2.2∈O1
 cur:∀ x,O1[d]?=some x->∀ a∈pre,a.1=x->a.2.2∈O1
theorem Od.le {arcs:List Gf} {O1:List Int} {d:Nat} {pre:List Gf} (o:Od arcs O1 d pre):O1.length<=12:=lq 12 o.nd o.bd
theorem Od.skip {arcs:List Gf} {O1:List Int} {d:Nat} {pre:List Gf} (o:Od arcs O1 d pre) {a:Gf} {c:Int} (hc:O1[d]?=some c) (h:a.1≠c\/a.2.2∈O1):Od arcs O1 d (pre++[a]):=by
 refine ⟨o.nd,o.z,o.bd,o.rc,o.clo,fun x hx b hb e=>?_⟩
 rw [hc,UG] at hx
 subst hx
 rcases ko hb with hb | hb
 ·exact o.cur c hc b hb e
 ·rw [R4] at hb
  subst hb
  exact h.resolve_left fun n=>n e
theorem Od.take {arcs:List Gf} {O1:List Int} {d:Nat} {pre:List Gf} (o:Od arcs O1 d pre) {a:Gf} {c:Int} (hc:O1[d]?=some c) (ha:a∈arcs) (hb:0<=a.2.2/\a.2.2 < 12) (h1:a.1=c) (h2:a.2.2∉O1):Od arcs (O1++[a.2.2]) d (pre++[a]):=by
 have up:∀ {i:Nat} {x:Int},O1[i]?=some x->(O1++[a.2.2])[i]?=some x:=fun h=>gP h
 have hd:=(j0 hc).1
 refine ⟨Ss.mpr ⟨o.nd,Se.mpr ⟨Sy,SX⟩,fun x hx y hy=>?_⟩,up o.z,fun x hx=>?_,fun j j1 x hx=>?_,fun i hi x hx b hb e=>?_,fun x hx b hb e=>?_⟩
 ·rw [jV hy]
  rintro rfl
  exact h2 hx
 ·rcases ko hx with hx | hx
  ·exact o.bd x hx
  ·rw [jV hx]
   exact hb
 ·rcases fm hx with hx | ⟨rfl,rfl⟩
  ·obtain ⟨b,hb,e1,k,hk,e2⟩:=o.rc j j1 x hx
   exact ⟨b,hb,e1,k,hk,up e2⟩
  ·exact ⟨a,ha,rfl,d,hd,by rw [h1];exact up hc⟩
 ·rw [List.getElem?_append_left (by lia)] at hx
  exact RV _ (o.clo i hi x hx b hb e)
 ·rw [List.getElem?_append_left hd] at hx
  rcases ko hb with hb | hb
  ·exact RV _ (o.cur x hx b hb e)
  ·rw [R4] at hb
   subst hb
   exact RN _ (R4.mpr rfl)
theorem Od.next {arcs:List Gf} {O1:List Int} {d:Nat} {L:List Gf} (o:Od arcs O1 d L) (hL:∀ a∈arcs,a∈L):Od arcs O1 (d + 1) []:=by
 refine ⟨o.nd,o.z,o.bd,o.rc,fun i hi x hx b hb e=>?_,fun x _ b hb=>nomatch hb⟩
 by_cases h:i=d
 ·subst h
  exact o.cur x hx b (hL b hb) e
 ·exact o.clo i (by lia) x hx b hb e
theorem Dv (arcs:List Gf) (O1:List Int) (hO:O1.length<=12) (d:Nat) (c:Int) (hc:O1[d]?=some c) (a:Gf):dq [some (.f,.lst (arcs.map eA)),some (.l .f,.lst (O1.map D.int)),some (.f,.int (d:Int)),some (.f,.int a.1),some (.f,.str a.2.1),some (.f,.int a.2.2),none,none]=.ok (.nx [some (.f,.lst (arcs.map eA)),some (.l .f,.lst ((if a.1=c/\a.2.2∉O1 then O1++[a.2.2] else O1).map D.int)),some (.f,.int (d:Int)),some (.f,.int a.1),some (.f,.str a.2.1),some (.f,.int a.2.2),none,none]):=by
 have JD:Ha (O1.map D.int) (d:Int)=some (.int c):=dt (by rw [List.getElem?_map,hc];rfl)
 have hz:(O1.map D.int).length < sizeLine:=gx (by rw [aU];lia)
 unfold dq
 by_cases h1:a.1=c
 ·have e1:(a.1 == c)=true:=Si.mpr h1
  by_cases h2:a.2.2∈O1
  ·rw [RY (fun z=>z.2 h2)]
   simp only [pv,seval,op,JD,e1,h2,TM,SE,fM]
  ·rw [RO ⟨h1,h2⟩,RP]
   simp only [pv,seval,op,JD,e1,h2,Ti,Tg,hz]
 ·rw [RY (fun z=>h1 z.1)]
  have e1:(a.1 == c)=false:=Sw.mpr h1
  simp only [pv,seval,op,JD,e1,fM]
theorem A5 (arcs:List Gf) (hl:arcs.length < 64) (hb:∀ a∈arcs,0<=a.2.2/\a.2.2 < 12):∃ O1 t3 t4 t5,Od arcs O1 O1.length []/\fD [some (.f,.lst (arcs.map eA)),some (.l .f,.lst [.int 0]),some (.f,.int 0),none,none,none,none,none]=.ok (.nx [some (.f,.lst (arcs.map eA)),some (.l .f,.lst (O1.map D.int)),some (.f,.int (O1.length:Int)),t3,t4,t5,none,none]):=by
 have mem:∀ {a:Gf},a∈b5 eJ arcs<->a∈arcs:=p5 eJ
 have Ry:=qP arcs hl
 generalize b5 eJ arcs=L at mem Ry
 obtain ⟨env',ew,O1,d,t3,t4,t5,o,hd,rfl⟩:=jX (c:=(GC (az K8 (ai 2) (aq (aZ ll (ag (ai 1) aB)))))) (g:=eQ)
  (fun k env=>∃ O1 d t3 t4 t5,Od arcs O1 d []/\d<=O1.length/\k=13 - d/\env=[some (.f,.lst (arcs.map eA)),some (.l .f,.lst (O1.map D.int)),some (.f,.int ((d:Nat):Int)),t3,t4,t5,none,none]) (fun env=>∃ O1 d t3 t4 t5,Od arcs O1 d []/\d=O1.length/\env=[some (.f,.lst (arcs.map eA)),some (.l .f,.lst (O1.map D.int)),some (.f,.int ((d:Nat):Int)),t3,t4,t5,none,none]) (by
  rintro k env ⟨O1,d,t3,t4,t5,o,hd,rfl,rfl⟩
  have PB:=o.le
  by_cases GV:d < O1.length
  ·refine .inr ⟨[some (.f,.lst (arcs.map eA)),some (.l .f,.lst (O1.map D.int)),some (.f,.int ((d:Nat):Int)),t3,t4,t5,none,none],?_,?_⟩
   ·have:(d:Int) < (O1.length:Int):=by lia
    simp only [pv,seval,op,aU,this,TM]
   ·obtain ⟨c,hc⟩:∃ c,O1[d]?=some c:=⟨O1[d],iU GV⟩
    obtain ⟨env',ef,O2,t3',Qu,QD,o',IV,rfl⟩:=for_list (a:=fO 3 (aA (aw 3) (aA (aw 4) (aA (aw 5) b8)))) (g:=dq) (e:=eA) L (fun j env=>∃ O1 t3 t4 t5,Od arcs O1 d (L.take j)/\O1[d]?=some c/\env=[some (.f,.lst (arcs.map eA)),some (.l .f,.lst (O1.map D.int)),some (.f,.int ((d:Nat):Int)),t3,t4,t5,none,none]) (by
     rintro j a env hj ⟨O1,t3,t4,t5,o,hc,rfl⟩
     have K9:=mem.mp (RW hj)
     have ht:L.take (j + 1)=L.take j++[a]:=by rw [SH,hj];rfl
     refine ⟨[some (.f,.lst (arcs.map eA)),some (.l .f,.lst (O1.map D.int)),some (.f,.int ((d:Nat):Int)),some (.f,.int a.1),some (.f,.str a.2.1),some (.f,.int a.2.2),none,none],by unfold eA;simp only [pv,seval],_,Dv arcs O1 o.le d c hc a,_,_,_,_,?_,?_,rfl⟩
     ·rw [ht]
      split
      ·rename_i h
       exact o.take hc K9 (hb a K9) h.1 h.2
      ·rename_i h
       exact o.skip hc (by
        by_cases h1:a.1=c
        ·exact .inr (Decidable.not_not.mp fun h2=>h ⟨h1,h2⟩)
        ·exact .inl h1)
     ·split
      ·exact gP hc
      ·exact hc) _ ⟨O1,t3,t4,t5,by rw [T8];exact o,hc,rfl⟩
    rw [SQ] at o'
    have hlt':=(j0 IV).1
    refine ⟨_,13 - (d + 1),?_,by lia,O2,d + 1,t3',Qu,QD,o'.next fun a ha=>mem.mpr ha,by lia,rfl,rfl⟩
    unfold eQ
    rw [au (env':=_) (by
     unfold il
     simp only [pv,seval,op,Ry]
     exact ef)]
    unfold gT
    simp only [pv,seval,op,Vx,U0]
  ·refine .inl ⟨_,?_,O1,d,t3,t4,t5,o,by lia,rfl⟩
   have:¬ (d:Int) < (O1.length:Int):=by lia
   simp only [pv,seval,op,aU,this,Ti]) 100000 13 _ (by decide) ⟨[0],0,none,none,none,⟨Se.mpr ⟨Sy,SX⟩,rfl,fun x hx=>by rw [jV hx];lia,fun j j1 x hx=>by
    have:=(j0 hx).1
    rw [R5] at this
    lia,fun i hi=>absurd hi (Uy _),fun x _ b hb=>nomatch hb⟩,So _,rfl,rfl⟩
 subst hd
 refine ⟨O1,t3,t4,t5,o,?_⟩
 unfold fD
 exact ew
structure Kp (names:LNN) (arcs:List Gf) (O1:List Int) (pre:List Gf) (K:List Gf):Prop where
 b:∀ a∈K,a.2.1∈names/\(0<=a.1/\a.1 < (O1.length:Int))/\0<=a.2.2/\a.2.2 < (O1.length:Int)
 h:∀ a∈pre,∀ i k:Nat,O1[i]?=some a.1->O1[k]?=some a.2.2->((i:Int),a.2.1,(k:Int))∈K
 l:K.length<=pre.length
theorem x4 {l:List Int} (nd:l.Nodup) {i j:Nat} {x:Int} (h1:l[i]?=some x) (h2:l[j]?=some x):i=j:=by
 obtain ⟨a1,e1⟩:=j0 h1
 obtain ⟨a2,e2⟩:=j0 h2
 have h3:=nd.idxOf_getElem i a1
 have h4:=nd.idxOf_getElem j a2
 rw [e1] at h3
 rw [e2] at h4
 exact h3.symm.trans h4
theorem Dw (names:LNN) (arcs:List Gf) (O1:List Int) (o:Od arcs O1 O1.length []) (pre K:List Gf) (kp:Kp names arcs O1 pre K) (Iq:pre.length<=100) (a:Gf) (ha:a∈arcs) (hn:a.2.1∈names) (D2 t7:Option R):∃ K' u7,Kp names arcs O1 (pre++[a]) K'/\dn [some (.f,.lst (arcs.map eA)),some (.l .f,.lst (O1.map D.int)),D2,some (.f,.int a.1),some (.f,.str a.2.1),some (.f,.int a.2.2),some (.l .f,.lst (K.map eA)),t7]=.ok (.nx [some (.f,.lst (arcs.map eA)),some (.l .f,.lst (O1.map D.int)),D2,some (.f,.int a.1),some (.f,.str a.2.1),some (.f,.int a.2.2),some (.l .f,.lst (K'.map eA)),u7]):=by
 have JL:=yK a.1 O1
 have PQ:=kp.l
 unfold dn
 by_cases h1:a.1∈O1
 ·rw [Sm h1] at JL
  obtain ⟨i,hi,ei⟩:=QA eqD_I sT wK O1 a.1 h1
  have h2:=o.clo i (j0 hi).1 _ hi a ha rfl
  obtain ⟨k,hk,ek⟩:=QA eqD_I sT wK O1 a.2.2 h2
  have li:=(j0 hi).1
  have lk:=(j0 hk).1
  have Kv:=sP K ((i:Int),a.2.1,(k:Int))
  have hz:(K.map eA).length < sizeLine:=gx (by rw [aU];lia)
  have ee:eA ((i:Int),a.2.1,(k:Int))=.tup [.int (i:Int),.str a.2.1,.int (k:Int)]:=rfl
  rw [ee] at Kv
  by_cases hm:((i:Int),a.2.1,(k:Int))∈K
  ·rw [Sm hm] at Kv
   refine ⟨K,some (.f,.tup [.int (i:Int),.str a.2.1,.int (k:Int)]),⟨kp.b,fun b hb i' k' e1 e2=>?_,by rw [i7];lia⟩,?_⟩
   ·rcases ko hb with hb | hb
    ·exact kp.h b hb i' k' e1 e2
    ·rw [R4] at hb
     subst hb
     rw [x4 o.nd e1 hi,x4 o.nd e2 hk]
     exact hm
   ·simp only [pv,seval,op,JL,sk,ei,ek,Kv,SE,fM]
  ·rw [Sf hm] at Kv
   refine ⟨K++[((i:Int),a.2.1,(k:Int))],some (.f,.tup [.int (i:Int),.str a.2.1,.int (k:Int)]),⟨fun b hb=>?_,fun b hb i' k' e1 e2=>?_,by rw [i7,i7];simp only [R5];lia⟩,?_⟩
   ·rcases ko hb with hb | hb
    ·exact kp.b b hb
    ·rw [jV hb]
     exact ⟨hn,by dsimp only;lia,by dsimp only;lia,by dsimp only;lia⟩
   ·rcases ko hb with hb | hb
    ·exact RV _ (kp.h b hb i' k' e1 e2)
    ·rw [R4] at hb
     subst hb
     rw [x4 o.nd e1 hi,x4 o.nd e2 hk]
     exact RN _ (R4.mpr rfl)
   ·rw [RP,eC,Sd,ee]
    simp only [pv,seval,op,JL,sk,ei,ek,Kv,Tg,hz]
 ·rw [Sf h1] at JL
  refine ⟨K,t7,⟨kp.b,fun b hb i' k' e1 e2=>?_,by rw [i7];lia⟩,?_⟩
  ·rcases ko hb with hb | hb
   ·exact kp.h b hb i' k' e1 e2
   ·rw [R4] at hb
    subst hb
    exact absurd (RW e1) h1
  ·simp only [pv,seval,op,JL,fM]
theorem sU (names:LNN) (arcs:List Gf) (hl:arcs.length<=60) (bd:Bd names arcs):∃ K many,Ra names K many/\K.length<=arcs.length/\cC [.lst (arcs.map eA)]=.ok (.l .f,.lst ((b5 eJ K).map eA)):=by
 obtain ⟨O1,t3,t4,t5,o,ew⟩:=A5 arcs (by lia) fun a ha=>(bd.b a ha).2
 have PB:=o.le
 have hz0:=(j0 o.z).1
 unfold cC jN
 rw [a7 (h:=by rfl)]
 rw [au (env':=[some (.f,.lst (arcs.map eA)),some (.l .f,.lst [.int 0]),none,none,none,none,none,none]) (by simp only [pv,seval,op])]
 rw [au (env':=[some (.f,.lst (arcs.map eA)),some (.l .f,.lst [.int 0]),some (.f,.int 0),none,none,none,none,none]) (by simp only [pv,seval,op])]
 rw [au ew]
 unfold gU
 rw [au (env':=[some (.f,.lst (arcs.map eA)),some (.l .f,.lst (O1.map D.int)),some (.f,.int (O1.length:Int)),t3,t4,t5,some (.l .f,.lst []),none]) (by simp only [pv,seval,op])]
 obtain ⟨env',ef,K,u3,u4,u5,u7,kp,rfl⟩:=for_list (a:=fO 3 (aA (aw 3) (aA (aw 4) (aA (aw 5) b8)))) (g:=dn) (e:=eA) arcs (fun j env=>∃ K t3 t4 t5 t7,Kp names arcs O1 (arcs.take j) K/\env=[some (.f,.lst (arcs.map eA)),some (.l .f,.lst (O1.map D.int)),some (.f,.int (O1.length:Int)),t3,t4,t5,some (.l .f,.lst (K.map eA)),t7]) (by
  rintro j a env hj ⟨K,t3,t4,t5,t7,kp,rfl⟩
  have K9:=RW hj
  have ht:arcs.take (j + 1)=arcs.take j++[a]:=by rw [SH,hj];rfl
  obtain ⟨K',u7,kp',e⟩:=Dw names arcs O1 o (arcs.take j) K kp (by rw [Su];lia) a K9 (bd.n a K9) (some (.f,.int (O1.length:Int))) t7
  exact ⟨_,by unfold eA;simp only [pv,seval],_,e,K',_,_,_,u7,by rw [ht];exact kp',rfl⟩) _ ⟨[],t3,t4,t5,none,⟨(fun _ h=>nomatch h),(fun _ h=>by rw [T8] at h;exact nomatch h),So _⟩,rfl⟩
 rw [SQ] at kp
 have PQ:=kp.l
 rw [Sd] at ef
 rw [au (env':=_) (by
  unfold ik
  simp only [pv,seval,op]
  exact ef)]
 unfold gS
 refine ⟨K,O1.length,⟨by lia,by lia,fun a ha=>(kp.b a ha).2,fun a ha=>(kp.b a ha).1,fun j j1 j2=>?_⟩,PQ,by simp only [pv,seval,op,qP K (by lia)]⟩
 obtain ⟨a,ha,e1,b,Qv,e2⟩:=o.rc j j1 _ (iU j2)
 exact ⟨_,kp.h a ha b j e2 (by rw [e1];exact iU j2),rfl,b,Qv,rfl⟩
theorem Dx (arcs:List Gf):HG (.lst (arcs.map eA)) (.lst [])=.ok (.f,.bl arcs.isEmpty):=by
 unfold HG
 rw [plainD,kr 36 arcs]
 cases arcs <;> rfl
theorem x5 (names:LNN) (h0:names≠[]) (x:Int):∃ m∈names,Gi (.tup (names.map D.str)) (.int (x % (names.length:Int)))=.ok (.f,.str m):=by
 have hp:=T3.mpr h0
 have hb:=eV x (names.length:Int) (by lia)
 obtain ⟨k,ek⟩:=R7 hb.1
 have hk:k < names.length:=by lia
 refine ⟨names[k],S4 hk,?_⟩
 rw [ek,Av,si hk]
theorem A6 (x y:List D) (h:x.length + y.length<=1000):cJ (.lst x) (.lst y)=.ok (.l .f,.lst (x++y)):=by
 rw [oF,RO (line_le (by lia))]
theorem Dy {l:List Int} (h:l≠[]):PV.maxD [.lst (l.map D.int)]=.ok (.f,.int (eL l)):=by
 unfold PV.maxD
 dsimp only
 rw [sr]
 cases l with
 | nil=>exact absurd rfl h
 | cons a l=>rfl
def mI (arcs:List Gf):List Int:=0 :: arcs.map mB
theorem Dz (names:LNN) (h0:names≠[]) (hn:names.length<=3) (arcs:List Gf) (hl:arcs.length<=55) (bd:Bd names arcs) (nb:Int):∃ Jt,Bd names Jt/\Jt.length<=arcs.length + 1/\d6 [.tup (names.map D.str),.lst (arcs.map eA),.int nb]=.ok (.l .f,.lst (Jt.map eA)):=by
 have hc:bY (aw 0) cZ (aZ PV.maxD (ag (aq (az Gi (ai 0) (aq (aJ (.int 0))))) (ag (aq (az Gi (ai 0) (aq (aJ (.int 2))))) aB))) (arcs.map eA) [none]=.ok ((arcs.map mB).map D.int):=by
  rw [aX (r:=fun a:Gf=>D.int (mB a)) (fun env=>∃ t,env=[t]) arcs ?_ _ ⟨none,rfl⟩]
  ·rw [RQ]
   rfl
  ·rintro a _ env ⟨t,rfl⟩
   refine ⟨[some (.f,eA a)],rfl,.f,[some (.f,eA a)],?_,_,rfl⟩
   unfold eA
   simp only [pv,seval,op,at2]
   rfl
 have K5:((arcs.map mB).map D.int).length<=sizeLine:=aM (by rw [aU,aU];lia)
 have Lb:=Ga (arcs.map mB)
 have LH:=A6 [.int 0] ((arcs.map mB).map D.int) (by rw [aU,aU,R5];lia)
 have K1:PV.maxD [.lst ([.int 0]++(arcs.map mB).map D.int)]=.ok (.f,.int (eL (mI arcs))):=Dy (l:=mI arcs) (by unfold mI;simp)
 have hM0:0<=eL (mI arcs):=lr (ns:=mI arcs) (x:=0) (by unfold mI;exact RM)
 have hM12:eL (mI arcs) < 12:=by
  have:=sv (ns:=mI arcs) (by unfold mI;simp)
  unfold mI at this
  rcases RT.mp this with e | e
  ·unfold mI
   lia
  ·obtain ⟨a,ha,e2⟩:=lp e
   have hb:=bd.b a ha
   have h3:=(mC a).2.2
   unfold mI
   lia
 have Rz:∀ a∈arcs,a.1<=eL (mI arcs)/\a.2.2<=eL (mI arcs):=fun a ha=>by
  have h1:mB a<=eL (mI arcs):=lr (by unfold mI;exact RU _ (Sq.mpr ⟨a,ha,rfl⟩))
  have h2:=mC a
  lia
 unfold d6 ma
 rw [a7 (h:=by rfl)]
 rw [au (env':=[some (.f,.tup (names.map D.str)),some (.f,.lst (arcs.map eA)),some (.f,.int nb),some (.f,.int (1 + eL (mI arcs))),none,none,none,none,none,none,none]) (by
  generalize (aZ PV.maxD (ag (aq (az Gi (ai 0) (aq (aJ (.int 0))))) (ag (aq (az Gi (ai 0) (aq (aJ (.int 2))))) aB)))=GG at hc ⊢
  generalize (arcs.map mB).map D.int=TT at *
  simp only [pv,seval,op,hc,K5,Lb]
  simp only [Vj,UU] at LH K1
  simp only [pv,seval,op,LH,K1])]
 have hcb:1<=1 + eL (mI arcs)/\1 + eL (mI arcs)<=12:=by lia
 have QM:∀ a∈arcs,a.1 < 1 + eL (mI arcs)/\a.2.2 < 1 + eL (mI arcs):=fun a ha=>by
  have:=Rz a ha
  lia
 generalize 1 + eL (mI arcs)=c at hcb QM
 clear hM0 hM12 Rz K1 LH hc K5 Lb
 have Ku:0 < (if 12 < c + 1 then 12 else c + 1)/\(if 12 < c + 1 then 12 else c + 1)<=12:=by split <;> lia
 have Nk:=eV (nb / 128) (if 12 < c + 1 then 12 else c + 1) Ku.1
 have RA:=iR (nb / 128) (if 12 < c + 1 then 12 else c + 1) Ku.1
 rw [au (env':=[some (.f,.tup (names.map D.str)),some (.f,.lst (arcs.map eA)),some (.f,.int nb),some (.f,.int c),some (.f,.int (nb / 128 % (if 12 < c + 1 then 12 else c + 1))),none,none,none,none,none,none]) (by simp only [pv,seval,op,fN _ 128 (by decide) (by decide),RA])]
 have hot:0<=nb / 128 % (if 12 < c + 1 then 12 else c + 1)/\nb / 128 % (if 12 < c + 1 then 12 else c + 1) < 12:=by lia
 generalize nb / 128 % (if 12 < c + 1 then 12 else c + 1)=ot at hot
 clear Nk RA Ku
 obtain ⟨mv,PH,emv⟩:=x5 names h0 (nb / 2048)
 have hp:=T3.mpr h0
 rw [au (env':=[some (.f,.tup (names.map D.str)),some (.f,.lst (arcs.map eA)),some (.f,.int nb),some (.f,.int c),some (.f,.int ot),some (.f,.str mv),none,none,none,none,none]) (by simp only [pv,seval,op,fN _ 2048 (by decide) (by decide),aU,iR _ (names.length:Int) (by lia),emv])]
 have Oc:=Dx arcs
 have m5:=iR nb 5 (by decide)
 have mc:=eV (nb / 8) c (by lia)
 have m8:=iR (nb / 8) c (by lia)
 have d8:=fN nb 8 (by decide) (by decide)
 have app:∀ (l:List Gf) (a:Gf),l.length<=60->cJ (.lst (l.map eA)) (.lst [eA a])=.ok (.l .f,.lst ((l++[a]).map eA)):=fun l a h=>by
  rw [A6 _ _ (by rw [aU,R5];lia),RP]
  rfl
 have NS:∀ (l:List Gf) (a:Gf),(∀ x∈l,x∈arcs)->((0<=a.1/\a.1 < 12)/\0<=a.2.2/\a.2.2 < 12)->a.2.1∈names->Bd names (l++[a]):=fun l a JO hb hnm=>by
  refine ⟨fun x hx=>?_,fun x hx=>?_⟩
  ·rcases ko hx with hx | hx
   ·exact bd.b x (JO x hx)
   ·rw [jV hx]
    exact hb
  ·rcases ko hx with hx | hx
   ·exact bd.n x (JO x hx)
   ·rw [jV hx]
    exact hnm
 by_cases h3:arcs.isEmpty=true\/(nb % 5 == 3)=true
 ·have ha:=app arcs (nb / 8 % c,mv,ot) (by lia)
  refine ⟨arcs++[(nb / 8 % c,mv,ot)],NS arcs _ (fun x hx=>hx) (by dsimp only;lia) PH,by rw [i7];exact RL _,?_⟩
  rw [show eA (nb / 8 % c,mv,ot)=.tup [.int (nb / 8 % c),.str mv,.int ot] from rfl] at ha
  cases hE:arcs.isEmpty with
  | true=>
   rw [hE] at Oc
   simp only [pv,seval,op,Oc,m8,d8,ha]
  | false=>
   rw [hE] at Oc h3
   have h3:=h3.resolve_left RK
   simp only [pv,seval,op,Oc,m5,h3,m8,d8,ha,fM]
 ·have hE:arcs.isEmpty=false:=Ug.mpr fun h=>h3 (.inl h)
  have e3:(nb % 5 == 3)=false:=Ug.mpr fun h=>h3 (.inr h)
  rw [hE] at Oc
  have hpos:0 < arcs.length:=by
   cases arcs with
   | nil=>cases hE
   | cons _ _=>exact Nat.succ_pos _
  rw [au (env':=[some (.f,.tup (names.map D.str)),some (.f,.lst (arcs.map eA)),some (.f,.int nb),some (.f,.int c),some (.f,.int ot),some (.f,.str mv),none,none,none,none,none]) (by simp only [pv,seval,op,Oc,m5,e3,fM])]
  have ms:=eV (nb / 16384) (arcs.length:Int) (by lia)
  obtain ⟨sp,es⟩:=R7 ms.1
  have Lf:sp < arcs.length:=by lia
  rw [au (env':=[some (.f,.tup (names.map D.str)),some (.f,.lst (arcs.map eA)),some (.f,.int nb),some (.f,.int c),some (.f,.int ot),some (.f,.str mv),some (.f,.int (sp:Int)),none,none,none,none]) (by simp only [pv,seval,op,fN _ 16384 (by decide) (by decide),aU,iR _ (arcs.length:Int) (by lia),es])]
  have JD:Ha (arcs.map eA) (sp:Int)=some (eA arcs[sp]):=dt (by rw [List.getElem?_map,iU Lf];rfl)
  have Nc:=S4 Lf
  generalize arcs[sp]=a at JD Nc
  rw [au (env':=[some (.f,.tup (names.map D.str)),some (.f,.lst (arcs.map eA)),some (.f,.int nb),some (.f,.int c),some (.f,.int ot),some (.f,.str mv),some (.f,.int (sp:Int)),some (.f,eA a),none,none,none]) (by simp only [pv,seval,op,JD])]
  have Pa:jz (arcs.map eA) none (some (sp:Int))=(arcs.take sp).map eA:=by rw [oG,Uz]
  have LF:jz (arcs.map eA) (some ((sp:Int) + 1)) none=(arcs.drop (sp + 1)).map eA:=by rw [show (sp:Int) + 1=((sp + 1:Nat):Int) by lia,xU,List.map_drop]
  have JO:∀ x∈arcs.take sp++arcs.drop (sp + 1),x∈arcs:=fun x hx=>by
   rcases ko hx with h | h
   ·exact UL h
   ·exact List.mem_of_mem_drop h
  have QJ:(arcs.take sp++arcs.drop (sp + 1)).length<=arcs.length:=by
   rw [i7,Su,T5]
   lia
  have Pb:=A6 ((arcs.take sp).map eA) ((arcs.drop (sp + 1)).map eA) (by rw [aU,aU];rw [i7] at QJ;lia)
  rw [<-RP] at Pb
  generalize arcs.take sp++arcs.drop (sp + 1)=eD at *
  rw [au (env':=[some (.f,.tup (names.map D.str)),some (.f,.lst (arcs.map eA)),some (.f,.int nb),some (.f,.int c),some (.f,.int ot),some (.f,.str mv),some (.f,.int (sp:Int)),some (.f,eA a),some (.l .f,.lst (eD.map eA)),none,none]) (by simp only [pv,seval,op,Pa,LF,Pb])]
  cases e0:(nb % 5 == 0) with
  | true=>
   refine ⟨eD,⟨fun x hx=>bd.b x (JO x hx),fun x hx=>bd.n x (JO x hx)⟩,by lia,?_⟩
   simp only [pv,seval,op,m5,e0]
  | false=>
   rw [au (env':=[some (.f,.tup (names.map D.str)),some (.f,.lst (arcs.map eA)),some (.f,.int nb),some (.f,.int c),some (.f,.int ot),some (.f,.str mv),some (.f,.int (sp:Int)),some (.f,eA a),some (.l .f,.lst (eD.map eA)),none,none]) (by simp only [pv,seval,op,m5,e0,fM])]
   have II:=bd.b a Nc
   have hna:=bd.n a Nc
   cases e1:(nb % 5 == 1) with
   | true=>
    have ha:=app eD (a.1,a.2.1,ot) (by lia)
    refine ⟨eD++[(a.1,a.2.1,ot)],NS eD _ JO (by dsimp only;lia) hna,by rw [i7,R5];lia,?_⟩
    rw [show eA (a.1,a.2.1,ot)=.tup [.int a.1,.str a.2.1,.int ot] from rfl] at ha
    rw [show eA a=.tup [.int a.1,.str a.2.1,.int a.2.2] from rfl]
    simp only [pv,seval,op,m5,e1,ha]
   | false=>
    rw [au (env':=[some (.f,.tup (names.map D.str)),some (.f,.lst (arcs.map eA)),some (.f,.int nb),some (.f,.int c),some (.f,.int ot),some (.f,.str mv),some (.f,.int (sp:Int)),some (.f,eA a),some (.l .f,.lst (eD.map eA)),none,none]) (by simp only [pv,seval,op,m5,e1,fM])]
    by_cases h2:(nb % 5 == 2)=true\/(c == 1)=true
    ·have ha:=app eD (a.1,mv,a.2.2) (by lia)
     refine ⟨eD++[(a.1,mv,a.2.2)],NS eD _ JO (by dsimp only;lia) PH,by rw [i7,R5];lia,?_⟩
     rw [show eA (a.1,mv,a.2.2)=.tup [.int a.1,.str mv,.int a.2.2] from rfl] at ha
     rw [show eA a=.tup [.int a.1,.str a.2.1,.int a.2.2] from rfl]
     cases e2:(nb % 5 == 2) with
     | true=>simp only [pv,seval,op,m5,e2,at2,ha]
     | false=>
      rw [e2] at h2
      have h2:=h2.resolve_left RK
      simp only [pv,seval,op,m5,e2,h2,at2,ha,fM]
    ·have e2:(nb % 5 == 2)=false:=Ug.mpr fun h=>h2 (.inl h)
     have ec:(c == 1)=false:=Ug.mpr fun h=>h2 (.inr h)
     have PM:c≠1:=Sw.mp ec
     rw [au (env':=[some (.f,.tup (names.map D.str)),some (.f,.lst (arcs.map eA)),some (.f,.int nb),some (.f,.int c),some (.f,.int ot),some (.f,.str mv),some (.f,.int (sp:Int)),some (.f,eA a),some (.l .f,.lst (eD.map eA)),none,none]) (by simp only [pv,seval,op,m5,e2,ec,fM])]
     have mg:=eV (nb / 8) (c - 1) (by lia)
     obtain ⟨gn,eg⟩:=R7 (show 0<=1 + nb / 8 % (c - 1) by lia)
     rw [au (env':=[some (.f,.tup (names.map D.str)),some (.f,.lst (arcs.map eA)),some (.f,.int nb),some (.f,.int c),some (.f,.int ot),some (.f,.str mv),some (.f,.int (sp:Int)),some (.f,eA a),some (.l .f,.lst (eD.map eA)),some (.f,.int (gn:Int)),none]) (by simp only [pv,seval,op,d8,iR _ (c - 1) (by lia),eg])]
     obtain ⟨cn,rfl⟩:=R7 (show 0<=c by lia)
     have hce:bY (aw 0) cZ (aO 0) ((List.range cn).map fun (k:Nat)=>D.int (k:Int)) [none]=.ok (((List.range cn).map fun (k:Nat)=>(k:Int)).map D.int):=by
      rw [aX (r:=fun k:Nat=>D.int (k:Int)) (fun env=>∃ t,env=[t]) (List.range cn) ?_ _ ⟨none,rfl⟩]
      ·rw [RQ]
       rfl
      ·rintro k _ env ⟨t,rfl⟩
       exact ⟨[some (.f,.int (k:Int))],rfl,.f,_,rfl,_,rfl⟩
     have hle:(((List.range cn).map fun (k:Nat)=>(k:Int)).map D.int).length<=sizeLine:=aM (by rw [aU,aU,RX];lia)
     have hfe:=Ga ((List.range cn).map fun (k:Nat)=>(k:Int))
     have hel:((List.range cn).map fun (k:Nat)=>(k:Int)).length=cn:=by rw [aU,RX]
     have hev:∀ x∈((List.range cn).map fun (k:Nat)=>(k:Int)),0<=x/\x < (cn:Int):=fun x hx=>by
      obtain ⟨k,hk,rfl⟩:=lp hx
      have:=Sg.mp hk
      lia
     generalize ((List.range cn).map fun (k:Nat)=>(k:Int))=en at *
     rw [au (env':=[some (.f,.tup (names.map D.str)),some (.f,.lst (arcs.map eA)),some (.f,.int nb),some (.f,.int (cn:Int)),some (.f,.int ot),some (.f,.str mv),some (.f,.int (sp:Int)),some (.f,eA a),some (.l .f,.lst (eD.map eA)),some (.f,.int (gn:Int)),some (.l .f,.lst (en.map D.int))]) (by
      simp only [pv,seval,op]
      rw [RO (by lia)]
      simp only [pv,seval,op,Sk,hce,hle,hfe])]
     have H0:ixN en.length (gn:Int)=some gn:=wj _ _ (by lia)
     have mo:=eV ot (cn:Int) (by lia)
     rw [au (env':=[some (.f,.tup (names.map D.str)),some (.f,.lst (arcs.map eA)),some (.f,.int nb),some (.f,.int (cn:Int)),some (.f,.int ot),some (.f,.str mv),some (.f,.int (sp:Int)),some (.f,eA a),some (.l .f,.lst (eD.map eA)),some (.f,.int (gn:Int)),some (.l .f,.lst ((en.set gn (ot % (cn:Int))).map D.int))]) (by
      rw [List.map_set]
      simp only [pv,seval,op,iR ot (cn:Int) (by lia),aU,H0])]
     have hsl:(en.set gn (ot % (cn:Int))).length=cn:=by rw [TR];exact hel
     have RB:∀ x∈en.set gn (ot % (cn:Int)),0<=x/\x < (cn:Int):=fun x hx=>by
      rcases List.mem_or_eq_of_mem_set hx with h | h
      ·exact hev x h
      ·rw [h]
       exact mo
     generalize en.set gn (ot % (cn:Int))=JE at hsl RB
     have MH:∀ s:Int,0<=s->s < (cn:Int)->Ha (JE.map D.int) s=some (.int (JE.getD s.toNat 0))/\0<=JE.getD s.toNat 0/\JE.getD s.toNat 0 < (cn:Int):=fun s hs0 hs1=>by
      obtain ⟨k,rfl⟩:=R7 hs0
      have hk:k < JE.length:=by lia
      rw [Sk]
      refine ⟨gw hk,?_⟩
      rw [List.getD_eq_getElem?_getD,iU hk]
      exact RB _ (S4 hk)
     have Oh:bY (fO 3 (aA (aw 0) (aA (aw 1) (aA (aw 2) b8)))) cZ (jc (aI (az Gi (ai 3) (ai 0)) (aI (aO 1) (aI (az Gi (ai 3) (ai 2)) bu)))) (arcs.map eA) [none,none,none,some (.f,.lst (JE.map D.int))]=.ok ((arcs.map fun a=>((JE.getD a.1.toNat 0,a.2.1,JE.getD a.2.2.toNat 0):Gf)).map eA):=by
      rw [aX (r:=fun a:Gf=>eA (JE.getD a.1.toNat 0,a.2.1,JE.getD a.2.2.toNat 0)) (fun env=>∃ t u v,env=[t,u,v,some (.f,.lst (JE.map D.int))]) arcs ?_ _ ⟨none,none,none,rfl⟩]
      ·rw [RQ]
       rfl
      ·rintro b hb env ⟨t,u,v,rfl⟩
       have Lg:=bd.b b hb
       have JM:=QM b hb
       have i1:=(MH b.1 Lg.1.1 JM.1).1
       have i2:=(MH b.2.2 Lg.2.1 JM.2).1
       refine ⟨[some (.f,.int b.1),some (.f,.str b.2.1),some (.f,.int b.2.2),some (.f,.lst (JE.map D.int))],by unfold eA;simp only [pv,seval],.f,[some (.f,.int b.1),some (.f,.str b.2.1),some (.f,.int b.2.2),some (.f,.lst (JE.map D.int))],?_,_,_,_,rfl⟩
       unfold eA
       simp only [pv,seval,op,i1,i2]
     refine ⟨arcs.map fun a=>((JE.getD a.1.toNat 0,a.2.1,JE.getD a.2.2.toNat 0):Gf),⟨fun x hx=>?_,fun x hx=>?_⟩,by rw [aU];lia,?_⟩
     ·obtain ⟨b,hb,rfl⟩:=lp hx
      have Lg:=bd.b b hb
      have JM:=QM b hb
      have i1:=(MH b.1 Lg.1.1 JM.1).2
      have i2:=(MH b.2.2 Lg.2.1 JM.2).2
      dsimp only
      lia
     ·obtain ⟨b,hb,rfl⟩:=lp hx
      exact bd.n b hb
     ·have NT:((arcs.map fun a=>((JE.getD a.1.toNat 0,a.2.1,JE.getD a.2.2.toNat 0):Gf)).map eA).length<=sizeLine:=aM (by rw [aU,aU];lia)
      have NU:=kq (arcs.map fun a=>((JE.getD a.1.toNat 0,a.2.1,JE.getD a.2.2.toNat 0):Gf))
      generalize (jc (aI (az Gi (ai 3) (ai 0)) (aI (aO 1) (aI (az Gi (ai 3) (ai 2)) bu))))=GG at Oh ⊢
      simp only [pv,seval,op,Oh,NT,NU]
theorem Ra.bd' {names:LNN} {as:List Gf} {many:Nat} (r:Ra names as many):Bd names as:=⟨fun a ha=>by
 have:=r.bd a ha
 have:=r.mm
 lia,r.nm⟩
theorem qe (ns:List Int) (first:Nat) (hf:first<=100) {names:LNN} {ps:List Pl} {S:List (List Int)} {A:List Gf} (n:Nt names ps S A) (er:bJ [eN names ps,.int 8]=.ok (.f,.tup [.lst ((b5 eJ A).map eA),.lst (S.map eM)])):∃ K many,Ra names K many/\bg [.lst (ns.map D.int),eN names ps,.int (first:Int)]=.ok (.f,eCh names (b5 eJ K)):=by
 have IQ:=n.al
 have Lb:∀ (x y:List D),flatDs [.lst x,.lst y]=false:=fun _ _=>rfl
 have b0:Bd names (b5 eJ A):=n.ra.sort.bd'
 unfold bg gq
 rw [a7 (h:=by rfl)]
 rw [au (env':=[some (.f,.lst (ns.map D.int)),some (.f,eN names ps),some (.f,.int (first:Int)),some (.f,.lst ((b5 eJ A).map eA)),none,none]) (by simp only [pv,seval,op,er,Lb,fM,DH,DI])]
 obtain ⟨env',ef,arcs,o3,t4,t5,ho,hl,bd,rfl⟩:=my (a:=aw 4) (g:=c7) (e:=fun k=>D.int ((first:Int) + (k:Int))) 3 (fun i env=>∃ (arcs:List Gf) (o3:O) (t4 t5:Option R),xy o3=true/\arcs.length<=24 + i/\Bd names arcs/\env=[some (.f,.lst (ns.map D.int)),some (.f,eN names ps),some (.f,.int (first:Int)),some (o3,.lst (arcs.map eA)),t4,t5]) (by
  rintro k env hk ⟨arcs,o3,t4,t5,ho,hl,bd,rfl⟩
  have ck:=jY ns (first + k)
  have K1:=mD (cell ns (first + k)) (((first + k:Nat)):Int) (by lia) (by lia)
  rw [show ((first + k:Nat):Int)=(first:Int) + (k:Int) by lia] at ck K1
  generalize wz (cell ns (first + k)) ((first:Int) + (k:Int))=x at K1
  refine ⟨[some (.f,.lst (ns.map D.int)),some (.f,eN names ps),some (.f,.int (first:Int)),some (o3,.lst (arcs.map eA)),some (.f,.int ((first:Int) + (k:Int))),t5],rfl,?_⟩
  unfold c7
  rw [au (env':=[some (.f,.lst (ns.map D.int)),some (.f,eN names ps),some (.f,.int (first:Int)),some (o3,.lst (arcs.map eA)),some (.f,.int ((first:Int) + (k:Int))),some (.f,.int x)]) (by simp only [pv,seval,op,ck,K1])]
  cases h3:(x / 64 % 3 == 0) with
  | false=>
   refine ⟨_,?_,arcs,o3,some (.f,.int ((first:Int) + (k:Int))),some (.f,.int x),ho,by lia,bd,rfl⟩
   simp only [pv,seval,op,fN _ 64 (by decide) (by decide),iR _ 3 (by decide),h3,fM]
  | true=>
   obtain ⟨Jt,bd',hl',eb⟩:=Dz names n.n0 n.n3 arcs (by lia) bd (x / 192)
   obtain ⟨K,many,ra,PQ,et⟩:=sU names Jt (by lia) bd'
   have f1:=kq Jt
   have f2:=kq (b5 eJ K)
   refine ⟨[some (.f,.lst (ns.map D.int)),some (.f,eN names ps),some (.f,.int (first:Int)),some (.l .f,.lst ((b5 eJ K).map eA)),some (.f,.int ((first:Int) + (k:Int))),some (.f,.int x)],?_,b5 eJ K,.l .f,some (.f,.int ((first:Int) + (k:Int))),some (.f,.int x),rfl,by rw [iF];lia,ra.sort.bd',rfl⟩
   unfold eN
   simp only [pv,seval,op,fN _ 64 (by decide) (by decide),fN _ 192 (by decide) (by decide),iR _ 3 (by decide),h3,eb,et,f1,f2,ho]) _ ⟨b5 eJ A,.f,none,none,rfl,by rw [iF];lia,b0,rfl⟩
 rw [au (env':=_) (by
  unfold fE
  simp only [pv,seval,op]
  rw [RO (by lia),show ((first:Int) + 3 - (first:Int)).toNat=3 by lia]
  simp only [pv,seval,op]
  exact ef)]
 unfold eX
 obtain ⟨K,many,ra,PQ,et⟩:=sU names arcs (by lia) bd
 have f2:=kq (b5 eJ K)
 refine ⟨K,many,ra,?_⟩
 unfold eN eCh
 simp only [pv,seval,op,et,f2,ho]
abbrev Lv:=List (Int×Int)
def lk (L:Lv) (s:Int):Int:=((L.find? fun z=>z.1 == s).map (·.2)).getD 0
def dL (L:Lv):D:=.dct false ((L.map (·.1)).map D.int) ((L.map (·.2)).map D.int)
theorem x6:∀ (L:Lv) (s:Int),getD ((L.map (·.1)).map D.int) ((L.map (·.2)).map D.int) (.int s)=(L.find? fun z=>z.1 == s).map fun z=>D.int z.2
 | [],s=>rfl
 | z :: L,s=>by
  have ih:=x6 L s
  unfold getD at ih ⊢
  rw [eC,eC,eC,eC,SV]
  by_cases e:z.1=s
  ·rw [List.find?_cons_of_pos (by show eqD (.int s) (.int z.1)=true;rw [eqD,Si];exact e.symm),List.find?_cons_of_pos (by simpa using e)]
   rfl
  ·rw [List.find?_cons_of_neg (by show ¬ eqD (.int s) (.int z.1)=true;rw [eqD,Si];exact fun q=>e q.symm),List.find?_cons_of_neg (by simpa using e)]
   exact ih
theorem sV {L:Lv} {s:Int} (h:s∈L.map (·.1)):(L.find? fun z=>z.1 == s)=some (s,lk L s):=by
 unfold lk
 cases hf:L.find? fun z=>z.1 == s with
 | none=>
  rw [List.find?_eq_none] at hf
  obtain ⟨z,hz,e⟩:=lp h
  exact absurd (Si.mpr e) (hf z hz)
 | some z=>
  have:=List.find?_some hf
  have:z.1=s:=by simpa using this
  rw [Tx,Vh,<-this]
theorem yQ {L:Lv} {s:Int} (h:s∉L.map (·.1)):(L.find? fun z=>z.1 == s)=none:=by
 rw [List.find?_eq_none]
 intro z hz e
 exact h (Sq.mpr ⟨z,hz,Si.mp e⟩)
theorem DK {L:Lv} {s:Int} (h:s∈L.map (·.1)):JS (dL L) (.int s)=.ok (.f,.int (lk L s)):=by
 unfold JS dL
 dsimp only
 rw [RO (show fB false (.int s)=true from rfl),x6,sV h]
 rfl
theorem F4 (L:Lv) (s:Int):Lx (.int s) (dL L)=.ok (.f,.bl (decide (s∈L.map (·.1)))):=by
 unfold Lx dL
 dsimp only
 rw [RO (show fB false (.int s)=true from rfl),x6]
 by_cases h:s∈L.map (·.1)
 ·rw [sV h,Sm h]
  rfl
 ·rw [yQ h,Sf h]
  rfl
theorem ER (L:Lv) (s:Int):ur (.int s) (dL L)=.ok (.f,.bl (!decide (s∈L.map (·.1)))):=by
 unfold ur dL
 dsimp only
 rw [RO (show fB false (.int s)=true from rfl),x6]
 by_cases h:s∈L.map (·.1)
 ·rw [sV h,Sm h]
  rfl
 ·rw [yQ h,Sf h]
  rfl
theorem ES {L:Lv} {s:Int} (h:s∉L.map (·.1)) (v:Int):qx ((L.map (·.1)).map D.int) ((L.map (·.2)).map D.int) (.int s) (.int v)=(((L++[(s,v)]).map (·.1)).map D.int,((L++[(s,v)]).map (·.2)).map D.int):=by
 have e:((L.map (·.1)).map D.int).any (eqD (.int s))=false:=by
  rw [Th,U8]
  intro x hx
  show ¬ eqD (.int s) (.int x)=true
  rw [eqD,Si]
  rintro rfl
  exact h hx
 unfold qx
 rw [e,RY RK,RP,RP,RP,RP]
 rfl
theorem A7 {L:Lv} (nd:(L.map (·.1)).Nodup) {z:Int×Int} (h:z∈L):lk L z.1=z.2:=by
 have hf:=sV (Sq.mpr ⟨z,h,rfl⟩)
 have hm:=List.mem_of_find?_eq_some hf
 clear hf
 induction L with
 | nil=>cases h
 | cons y L ih=>
  rw [eC,Se] at nd
  by_cases e:y.1=z.1
  ·have hy:z=y:=by
    rcases RT.mp h with h | h
    ·exact h
    ·exact absurd (Sq.mpr ⟨z,h,e.symm⟩) nd.1
   unfold lk
   rw [hy,List.find?_cons_of_pos (by simp)]
   rfl
  ·have e2:lk (y :: L) z.1=lk L z.1:=by
    unfold lk
    rw [List.find?_cons_of_neg (by simpa using e)]
   have hz:z∈L:=(RT.mp h).resolve_left fun q=>e (by rw [q])
   rw [e2]
   refine ih nd.2 hz ?_
   rw [e2] at hm
   exact (RT.mp hm).resolve_left fun q=>e (by rw [<-q])
structure Ls (arcs:List Gf) (st:Gf->Int) (many:Nat) (L:Lv):Prop where
 nd:(L.map (·.1)).Nodup
 z:(0,0)∈L
 bd:∀ x∈L.map (·.1),0<=x/\x < (many:Int)
 pt:∀ f:Int->Int,(∀ a∈arcs,f a.2.2=f a.1 + st a)->f 0=0->∀ y∈L,y.2=f y.1
theorem Ls.len {arcs:List Gf} {st:Gf->Int} {many:Nat} {L:Lv} (l:Ls arcs st many L):L.length<=many:=by
 have:=lq many l.nd l.bd
 rwa [aU] at this
theorem Ls.add {arcs:List Gf} {st:Gf->Int} {many:Nat} {L:Lv} (l:Ls arcs st many L) {a:Gf} (ha:a∈arcs) (h1:a.1∈L.map (·.1)) (h2:a.2.2∉L.map (·.1)) (hb:0<=a.2.2/\a.2.2 < (many:Int)):Ls arcs st many (L++[(a.2.2,lk L a.1 + st a)]):=by
 refine ⟨?_,RV _ l.z,fun x hx=>?_,fun f hf h0 y hy=>?_⟩
 ·rw [RP]
  refine Ss.mpr ⟨l.nd,Se.mpr ⟨Sy,SX⟩,fun x hx y hy=>?_⟩
  rw [eC,Sd,R4] at hy
  rw [hy]
  rintro rfl
  exact h2 hx
 ·rw [RP] at hx
  rcases ko hx with hx | hx
  ·exact l.bd x hx
  ·rw [eC,Sd,R4] at hx
   rw [hx]
   exact hb
 ·rcases ko hy with hy | hy
  ·exact l.pt f hf h0 y hy
  ·rw [jV hy]
   obtain ⟨z,hz,ez⟩:=lp h1
   have e1:=A7 l.nd hz
   have e2:=l.pt f hf h0 z hz
   rw [ez] at e1 e2
   dsimp only
   rw [hf a ha,e1,e2]
section
variable {names:LNN} {arcs:List Gf} {many:Nat} {N:List Nd} {T:List Gf}
def IS (names:LNN) (uZ:List Int) (a:Gf):Int:=uZ.getD (names.idxOf a.2.1) 0
theorem ET (c:Ck names arcs many N T) (uZ:List Int) (RD:D) (hR:∀ k:Nat,k < names.length->Gi RD (.int (k:Int))=.ok (.f,.int (uZ.getD k 0))) (L:Lv) (l:Ls arcs (IS names uZ) many L) (fr:Bool) (a:Gf) (ha:a∈arcs) (t7:Option R) :
  ∃ L' fr' u7,Ls arcs (IS names uZ) many L'/\((L'=L/\fr'=fr/\(a.1∈L.map (·.1)->a.2.2∈L.map (·.1)))\/(L'.length=L.length + 1/\fr'=true))/\dr [some (.f,eCh names arcs),some (.f,RD),some (.d,dL L),some (.f,.bl fr),some (.f,.int a.1),some (.f,.str a.2.1),some (.f,.int a.2.2),t7]=.ok (.nx [some (.f,eCh names arcs),some (.f,RD),some (.d,dL L'),some (.f,.bl fr'),some (.f,.int a.1),some (.f,.str a.2.1),some (.f,.int a.2.2),u7]):=by
 have hm:=c.nm a ha
 have H0:=qQ hm
 have hr:=hR _ (SN hm)
 have hlen:=l.len
 have hm1:=c.m1
 unfold dr
 have s1:(bM 7 (az Gi (ai 1) (aq (xI mP (aq (az Gi (ai 0) (aq (aJ (.int 0))))) (ag (ai 5) aB))))) [some (.f,eCh names arcs),some (.f,RD),some (.d,dL L),some (.f,.bl fr),some (.f,.int a.1),some (.f,.str a.2.1),some (.f,.int a.2.2),t7]=.ok (.nx [some (.f,eCh names arcs),some (.f,RD),some (.d,dL L),some (.f,.bl fr),some (.f,.int a.1),some (.f,.str a.2.1),some (.f,.int a.2.2),some (.f,.int (IS names uZ a))]):=by
  unfold eCh IS
  simp only [pv,seval,op,H0,hr]
 rw [au s1]
 have JL:=F4 L a.1
 have Kv:=ER L a.2.2
 by_cases h1:a.1∈L.map (·.1)
 ·rw [Sm h1] at JL
  by_cases h2:a.2.2∈L.map (·.1)
  ·rw [Sm h2] at Kv
   refine ⟨L,fr,some (.f,.int (IS names uZ a)),l,.inl ⟨rfl,rfl,fun _=>h2⟩,?_⟩
   simp only [pv,seval,op,JL,Kv,SE,fM]
  ·rw [Sf h2] at Kv
   have RC:=DK h1
   have hput:=ES h2 (lk L a.1 + IS names uZ a)
   have hz:decide (L.length < sizeLine)=true:=Sm (gx (by lia))
   refine ⟨L++[(a.2.2,lk L a.1 + IS names uZ a)],true,some (.f,.int (IS names uZ a)),l.add ha h1 h2 (c.hb a ha).2,.inr ⟨by rw [i7];rfl,rfl⟩,?_⟩
   simp only [pv,seval,op,JL,Kv,Tg]
   unfold dL at RC ⊢
   simp only [pv,seval,op,RC,aU,hz,Ue,hput]
 ·rw [Sf h1] at JL
  refine ⟨L,fr,some (.f,.int (IS names uZ a)),l,.inl ⟨rfl,rfl,fun h=>absurd h h1⟩,?_⟩
  simp only [pv,seval,op,JL,fM]
def MW (names:LNN) (N:List Nd) (uZ:List Int) (a:Gf):Bool:=th names N uZ a.2.2 == th names N uZ a.1 + IS names uZ a
theorem Ck.th0 (c:Ck names arcs many N T) (uZ:List Int):th names N uZ 0=0:=by
 unfold th
 have:=oH c.F.nd (RW c.F.z)
 dsimp only at this
 rw [this,wI]
theorem Ck.levels (c:Ck names arcs many N T) (uZ:List Int) (hl:uZ.length=names.length) (RD:D) (hR:∀ k:Nat,k < names.length->Gi RD (.int (k:Int))=.ok (.f,.int (uZ.getD k 0))):bj [eCh names arcs,RD]=if arcs.all (MW names N uZ) then .ok (.l .f,.lst (((List.range many).map fun (s:Nat)=>th names N uZ (s:Int)).map D.int)) else .ok (.f,.non):=by
 have hm1:=c.m1
 have IQ:=c.al
 unfold bj jO
 rw [a7 (h:=by rfl)]
 rw [au (env':=[some (.f,eCh names arcs),some (.f,RD),some (.d,dL [(0,0)]),none,none,none,none,none]) (by simp only [pv,seval,op];rfl)]
 rw [au (env':=[some (.f,eCh names arcs),some (.f,RD),some (.d,dL [(0,0)]),some (.f,.bl true),none,none,none,none]) (by simp only [pv,seval,op])]
 have l0:Ls arcs (IS names uZ) many [(0,0)]:=⟨Se.mpr ⟨Sy,SX⟩,R4.mpr rfl,fun x hx=>by
  rw [eC,Sd,R4] at hx
  lia,fun f hf h0 y hy=>by rw [jV hy];exact h0.symm⟩
 obtain ⟨env',ew,L,t4,t5,t6,t7,l,hclo,rfl⟩:=jX (c:=GC (aO 3)) (g:=eS)
  (fun k env=>∃ L fr t4 t5 t6 t7,Ls arcs (IS names uZ) many L/\(fr=false->∀ a∈arcs,a.1∈L.map (·.1)->a.2.2∈L.map (·.1))/\k=(if fr=true then 14 - L.length else 0)/\env=[some (.f,eCh names arcs),some (.f,RD),some (.d,dL L),some (.f,.bl fr),t4,t5,t6,t7]) (fun env=>∃ L t4 t5 t6 t7,Ls arcs (IS names uZ) many L/\(∀ a∈arcs,a.1∈L.map (·.1)->a.2.2∈L.map (·.1))/\env=[some (.f,eCh names arcs),some (.f,RD),some (.d,dL L),some (.f,.bl false),t4,t5,t6,t7]) (by
  rintro k env ⟨L,fr,t4,t5,t6,t7,l,K5,rfl,rfl⟩
  have hlen:=l.len
  cases fr with
  | false=>exact .inl ⟨[some (.f,eCh names arcs),some (.f,RD),some (.d,dL L),some (.f,.bl false),t4,t5,t6,t7],by simp only [pv,seval,op],L,t4,t5,t6,t7,l,K5 rfl,rfl⟩
  | true=>
   refine .inr ⟨[some (.f,eCh names arcs),some (.f,RD),some (.d,dL L),some (.f,.bl true),t4,t5,t6,t7],by simp only [pv,seval,op],?_⟩
   obtain ⟨env',ef,L2,MI,u4,u5,u6,u7,l2,hq,rfl⟩:=for_list (a:=fO 3 (aA (aw 4) (aA (aw 5) (aA (aw 6) b8)))) (g:=dr) (e:=eA) arcs (fun j env=>∃ L2 MI t4 t5 t6 t7,Ls arcs (IS names uZ) many L2/\((MI=false/\L2=L/\∀ a∈arcs.take j,a.1∈L.map (·.1)->a.2.2∈L.map (·.1))\/(MI=true/\L.length < L2.length))/\env=[some (.f,eCh names arcs),some (.f,RD),some (.d,dL L2),some (.f,.bl MI),t4,t5,t6,t7]) (by
    rintro j a env hj ⟨L2,MI,t4,t5,t6,t7,l2,hq,rfl⟩
    have K9:=RW hj
    have ht:arcs.take (j + 1)=arcs.take j++[a]:=by rw [SH,hj];rfl
    obtain ⟨L3,M3,u7,l3,hd,e⟩:=ET c uZ RD hR L2 l2 MI a K9 t7
    refine ⟨[some (.f,eCh names arcs),some (.f,RD),some (.d,dL L2),some (.f,.bl MI),some (.f,.int a.1),some (.f,.str a.2.1),some (.f,.int a.2.2),t7],by unfold eA;simp only [pv,seval],_,e,L3,M3,_,_,_,u7,l3,?_,rfl⟩
    rcases hd with ⟨rfl,rfl,hd⟩ | ⟨hd1,hd2⟩
    ·rcases hq with ⟨q1,rfl,q3⟩ | hq
     ·refine .inl ⟨q1,rfl,fun b hb h=>?_⟩
      rw [ht] at hb
      rcases ko hb with hb | hb
      ·exact q3 b hb h
      ·rw [R4] at hb
       subst hb
       exact hd h
     ·exact .inr hq
    ·refine .inr ⟨hd2,?_⟩
     rcases hq with ⟨_,rfl,_⟩ | hq
     ·lia
     ·lia) _ ⟨L,false,t4,t5,t6,t7,l,.inl ⟨rfl,rfl,fun a ha=>by rw [T8] at ha;exact nomatch ha⟩,rfl⟩
   rw [SQ] at hq
   have Jg:=l2.len
   refine ⟨_,(if MI=true then 14 - L2.length else 0),?_,?_,L2,MI,u4,u5,u6,u7,l2,?_,rfl,rfl⟩
   ·unfold eS
    rw [au (env':=[some (.f,eCh names arcs),some (.f,RD),some (.d,dL L),some (.f,.bl false),t4,t5,t6,t7]) (by simp only [pv,seval,op])]
    unfold iq
    unfold eCh at ef ⊢
    simp only [pv,seval,op]
    exact ef
   ·rw [RO rfl]
    split
    ·rename_i h2
     rcases hq with ⟨h,_⟩ | hq
     ·rw [h] at h2
      cases h2
     ·lia
    ·lia
   ·intro h
    rcases hq with ⟨_,rfl,q⟩ | ⟨q,_⟩
    ·exact q
    ·rw [q] at h
     cases h) 100000 13 _ (by decide) ⟨[(0,0)],true,none,none,none,none,l0,(fun h=>nomatch h),rfl,rfl⟩
 rw [au (env':=_) (by
  unfold ir
  exact ew)]
 have hlen:=l.len
 have Hu:∀ s:Int,0<=s->s < (many:Int)->s∈L.map (·.1):=by
  have key:∀ (k:Nat) (n:Nd),n∈N->n.2.length=k->n.1∈L.map (·.1):=by
   intro k
   induction k using Nat.strongRecOn with
   | _ k ih=>
    intro n hn hk
    rcases c.F.par n hn with rfl | ⟨a,ha,m,hm,e1,rfl⟩
    ·exact Sq.mpr ⟨_,l.z,rfl⟩
    ·refine hclo a ha ?_
     rw [e1]
     exact ih m.2.length (by rw [<-hk];show _ < (m.2++[a.2.1]).length;rw [i7,R5];lia) m hm rfl
  intro s h0 h1
  obtain ⟨n,hn,rfl⟩:=lp (c.all s h0 h1)
  exact key _ n hn rfl
 have hLl:L.length=many:=by
  have:=qR ((List.range many).map fun (k:Nat)=>(k:Int)) (L.map (·.1)) (iG _ _ fun i j _ _ e=>by lia) fun x hx=>by
   obtain ⟨k,hk,rfl⟩:=lp hx
   have:=Sg.mp hk
   exact Hu _ (by lia) (by lia)
  rw [aU,aU,RX] at this
  lia
 have hk0:lk L 0=0:=A7 l.nd l.z
 have key:=for_all (a:=fO 3 (aA (aw 4) (aA (aw 5) (aA (aw 6) b8)))) (g:=eR) (e:=eA) (r:=(.f,.non)) (fun env=>∃ t4 t5 t6 t7,env=[some (.f,eCh names arcs),some (.f,RD),some (.d,dL L),some (.f,.bl false),t4,t5,t6,t7]) (fun a=>lk L a.2.2 == lk L a.1 + IS names uZ a) arcs (by
  rintro a ha env ⟨t4,t5,t6,t7,rfl⟩
  have II:=c.hb a ha
  have hm:=c.nm a ha
  have H0:=qQ hm
  have hr:=hR _ (SN hm)
  have g1:=DK (Hu a.1 II.1.1 II.1.2)
  have g2:=DK (Hu a.2.2 II.2.1 II.2.2)
  refine ⟨[some (.f,eCh names arcs),some (.f,RD),some (.d,dL L),some (.f,.bl false),some (.f,.int a.1),some (.f,.str a.2.1),some (.f,.int a.2.2),t7],by unfold eA;simp only [pv,seval],?_⟩
  unfold eR
  have s1:(bM 7 (az Gi (ai 1) (aq (xI mP (aq (az Gi (ai 0) (aq (aJ (.int 0))))) (ag (ai 5) aB))))) [some (.f,eCh names arcs),some (.f,RD),some (.d,dL L),some (.f,.bl false),some (.f,.int a.1),some (.f,.str a.2.1),some (.f,.int a.2.2),t7]=.ok (.nx [some (.f,eCh names arcs),some (.f,RD),some (.d,dL L),some (.f,.bl false),some (.f,.int a.1),some (.f,.str a.2.1),some (.f,.int a.2.2),some (.f,.int (IS names uZ a))]):=by
   unfold eCh IS
   simp only [pv,seval,op,H0,hr]
  rw [au s1]
  cases hq:(lk L a.2.2 == lk L a.1 + IS names uZ a) with
  | true=>
   rw [RO rfl]
   refine ⟨_,?_,some (.f,.int a.1),some (.f,.str a.2.1),some (.f,.int a.2.2),some (.f,.int (IS names uZ a)),rfl⟩
   simp only [pv,seval,op,g1,g2,hq,SE,fM]
  | false=>
   rw [RY RK]
   simp only [pv,seval,op,g1,g2,hq,Tg]) _ ⟨t4,t5,t6,t7,rfl⟩
 unfold gX
 cases hall2:arcs.all (fun a=>lk L a.2.2 == lk L a.1 + IS names uZ a) with
 | true=>
  rw [hall2,RO rfl] at key
  obtain ⟨env',ef,u4,u5,u6,u7,rfl⟩:=key
  rw [R3] at hall2
  have NV:=c.pot uZ hl (lk L) (fun a ha=>by have:=hall2 a ha;exact Si.mp this)
  have NW:arcs.all (MW names N uZ)=true:=R3.mpr fun a ha=>by
   have II:=c.hb a ha
   have h1:=NV a.1 II.1.1 II.1.2
   have h2:=NV a.2.2 II.2.1 II.2.2
   have h3:=Si.mp (hall2 a ha)
   unfold MW
   rw [Si]
   lia
  rw [NW,RO rfl]
  rw [au (env':=_) (by
   unfold fF
   unfold eCh at ef ⊢
   simp only [pv,seval,op]
   exact ef)]
  have HU:bY (aw 0) cZ (az JS (ai 1) (ai 0)) ((List.range many).map fun (k:Nat)=>D.int (k:Int)) [none,some (.f,dL L)]=.ok (((List.range many).map fun (s:Nat)=>th names N uZ (s:Int)).map D.int):=by
   rw [aX (r:=fun s:Nat=>D.int (th names N uZ (s:Int))) (fun env=>∃ t,env=[t,some (.f,dL L)]) (List.range many) ?_ _ ⟨none,rfl⟩]
   ·rw [RQ]
    rfl
   ·rintro s hs env ⟨t,rfl⟩
    have hs:=Sg.mp hs
    have g:=DK (Hu (s:Int) (by lia) (by lia))
    have h1:=NV (s:Int) (by lia) (by lia)
    rw [hk0,Int.sub_zero] at h1
    rw [<-h1] at g
    refine ⟨[some (.f,.int (s:Int)),some (.f,dL L)],rfl,.f,[some (.f,.int (s:Int)),some (.f,dL L)],?_,_,rfl⟩
    simp only [pv,seval,op,g]
  have NT:(((List.range many).map fun (s:Nat)=>th names N uZ (s:Int)).map D.int).length<=sizeLine:=aM (by rw [aU,aU,RX];lia)
  have NU:=Ga ((List.range many).map fun (s:Nat)=>th names N uZ (s:Int))
  unfold gW
  generalize (az JS (ai 1) (ai 0))=GG at HU ⊢
  unfold dL at HU ⊢
  simp only [pv,seval,op,aU]
  rw [RO (by lia)]
  simp only [pv,seval,op,Sk,hLl,HU,NT,NU]
 | false=>
  rw [hall2,RY RK] at key
  have NW:arcs.all (MW names N uZ)=false:=by
   refine Ug.mpr fun h=>?_
   rw [R3] at h
   have hv:=l.pt (th names N uZ) (fun a ha=>by have:=h a ha;unfold MW at this;exact Si.mp this) (c.th0 uZ)
   have Px:∀ s:Int,0<=s->s < (many:Int)->lk L s=th names N uZ s:=fun s h0 h1=>by
    obtain ⟨z,hz,e⟩:=lp (Hu s h0 h1)
    rw [<-e,A7 l.nd hz]
    exact hv z hz
   have:arcs.all (fun a=>lk L a.2.2 == lk L a.1 + IS names uZ a)=true:=R3.mpr fun a ha=>by
    have II:=c.hb a ha
    have h3:=h a ha
    unfold MW at h3
    rw [Px a.1 II.1.1 II.1.2,Px a.2.2 II.2.1 II.2.2]
    exact h3
   rw [hall2] at this
   cases this
  rw [NW,RY RK,IH]
  unfold fF
  unfold eCh at key ⊢
  simp only [pv,seval,op,key]
end
theorem getD_of {α:Type} {l:List α} {i:Nat} {x d:α} (h:l[i]?=some x):l.getD i d=x:=by
 rw [List.getD_eq_getElem?_getD,h]
 rfl
theorem yR (c:Int):∀ (x r:List Int),pr (x.map fun v=>c * v) r=c * pr x r
 | [],r=>by
  unfold pr
  simp
 | a :: x,[]=>by
  unfold pr
  simp
 | a :: x,b :: r=>by
  rw [eC,eW,eW,yR c x r,VY,Int.mul_assoc]
theorem yS:∀ (x y r:List Int),x.length=y.length->pr ((x.zip y).map fun p=>p.1 + p.2) r=pr x r + pr y r
 | [],[],r,_=>by
  unfold pr
  simp
 | [],_ :: _,_,h=>by simp at h
 | _ :: _,[],_,h=>by simp at h
 | a :: x,b :: y,[],_=>by
  unfold pr
  simp
 | a :: x,b :: y,c :: r,h=>by
  rw [SV,eC,eW,eW,eW,yS x y r (by simpa using h),Int.add_mul]
  dsimp only
  lia
theorem sW {l:List Int} {m:Int} (hm:m∈l) (h:∀ x∈l,m<=x):c5 l=m:=by
 have h1:=sQ hm
 have h2:=h _ (oK (List.ne_nil_of_mem hm))
 lia
section
variable {names:LNN} {arcs:List Gf} {many:Nat} {N:List Nd} {T:List Gf}
structure St (names:LNN) (arcs:List Gf) (N:List Nd) (uZ:List Int):Prop where
 hl:uZ.length=names.length
 pt:∀ a∈arcs,th names N uZ a.2.2=th names N uZ a.1 + IS names uZ a
 us:∀ k:Nat,k < names.length->uZ.getD k 0≠0->names.getD k []∈arcs.map (·.2.1)
theorem St.is (s:St names arcs N uZ) (c:Ck names arcs many N T):cy [eCh names arcs,.tup (uZ.map D.int)]=.ok (.f,.bl true):=by
 refine c.stretch uZ (fun a ha=>?_) fun z hz=>?_
 ·rw [A4 names N a uZ c.nn s.hl (c.nm a ha)]
  have h3:=s.pt a ha
  unfold th IS at h3
  lia
 ·obtain ⟨k,hk⟩:=Sr.mp hz
  obtain ⟨k1,k2⟩:=List.getElem?_zip_eq_some.mp (show (names.zip uZ)[k]?=some (z.1,z.2) from hk)
  have GV:=(j0 k1).1
  by_cases h0:z.2=0
  ·exact .inl h0
  ·right
   have:=s.us k GV (by rw [getD_of k2];exact h0)
   rw [getD_of k1] at this
   obtain ⟨a,ha,e⟩:=lp this
   exact ⟨a,ha,e⟩
theorem St.bs (s:St names arcs N uZ) (c:Ck names arcs many N T):cu [eCh names arcs,.tup (uZ.map D.int)]=.ok (.l .f,.lst ((GB names N uZ many).map D.int)):=c.beads uZ (s.is c)
theorem St.mul {uZ:List Int} (s:St names arcs N uZ) (t:Int):St names arcs N (uZ.map fun v=>t * v):=by
 have h1:∀ x,th names N (uZ.map fun v=>t * v) x=t * th names N uZ x:=fun x=>yR t uZ _
 have h2:∀ k,(uZ.map fun v=>t * v).getD k 0=t * uZ.getD k 0:=fun k=>by
  rw [List.getD_eq_getElem?_getD,List.getElem?_map,List.getD_eq_getElem?_getD]
  cases uZ[k]? with
  | none=>exact (VT t).symm
  | some v=>rfl
 refine ⟨by rw [aU];exact s.hl,fun a ha=>?_,fun k hk hne=>s.us k hk fun h0=>hne ?_⟩
 ·have:=s.pt a ha
  unfold IS at this ⊢
  rw [h1,h1,h2,this,VY]
 ·rw [h2,h0,VT]
def sumL (x y:List Int):List Int:=(x.zip y).map fun p=>p.1 + p.2
theorem yT {x y:List Int} {k:Nat} (h1:k < x.length) (h2:k < y.length):(sumL x y).getD k 0=x.getD k 0 + y.getD k 0:=by
 have e:(x.zip y)[k]?=some (x[k],y[k]):=List.getElem?_zip_eq_some.mpr ⟨iU h1,iU h2⟩
 unfold sumL
 rw [getD_of (iU h1),getD_of (iU h2)]
 exact getD_of (by rw [List.getElem?_map,e];rfl)
theorem St.add {x y:List Int} (s:St names arcs N x) (s':St names arcs N y) (c:Ck names arcs many N T):St names arcs N (sumL x y)/\∀ v,th names N (sumL x y) v=th names N x v + th names N y v:=by
 have hx:=s.hl
 have hy:=s'.hl
 have h1:∀ v,th names N (sumL x y) v=th names N x v + th names N y v:=fun v=>yS x y _ (by lia)
 refine ⟨⟨by unfold sumL;rw [aU,S9];lia,fun a ha=>?_,fun k hk hne=>?_⟩,h1⟩
 ·have hk:=SN (c.nm a ha)
  have p1:=s.pt a ha
  have p2:=s'.pt a ha
  unfold IS at p1 p2 ⊢
  rw [h1,h1,yT (by lia) (by lia)]
  lia
 ·rw [yT (by lia) (by lia)] at hne
  by_cases h0:x.getD k 0=0
  ·exact s'.us k hk (by lia)
  ·exact s.us k hk h0
theorem wL (v:Int):th names N (names.map fun _=>0) v=0:=by
 have:∀ (l:LNN) (r:List Int),pr (l.map fun _=>(0:Int)) r=0
 :=fun l=>by
  induction l with
  | nil=>
   intro r
   unfold pr
   simp
  | cons a l ih=>
   intro r
   cases r with
   | nil=>
    unfold pr
    simp
   | cons b r=>rw [eC,eW,ih r,Int.zero_mul,Int.add_zero]
 exact this names _
theorem wM (l:LNN) (k:Nat):(l.map fun _=>(0:Int)).getD k 0=0:=by
 rw [List.getD_eq_getElem?_getD,List.getElem?_map]
 cases l[k]? <;> rfl
theorem St.zero (names:LNN) (arcs:List Gf) (N:List Nd):St names arcs N (names.map fun _=>0):=by
 refine ⟨aU _,fun a _=>?_,fun k _ h=>absurd (wM names k) h⟩
 unfold IS
 rw [wL,wL,wM]
 rfl
theorem qf (arcs:List Gf):bY (fO 3 (aA (aw 0) (aA (aw 1) (aA (aw 2) b8)))) cZ (aO 1) (arcs.map eA) [none,none,none]=.ok ((arcs.map (·.2.1)).map D.str):=by
 rw [aX (r:=fun a:Gf=>D.str a.2.1) (fun env=>∃ t u v,env=[t,u,v]) arcs ?_ _ ⟨none,none,none,rfl⟩]
 ·rw [RQ]
  rfl
 ·rintro a _ env ⟨t,u,v,rfl⟩
  exact ⟨[some (.f,.int a.1),some (.f,.str a.2.1),some (.f,.int a.2.2)],by unfold eA;simp only [pv,seval],.f,_,rfl,_,_,_,rfl⟩
theorem A8 (a:List Nat) (l:LNN):uq (.str a) (.lst (l.map D.str))=.ok (.f,.bl (!decide (a∈l))):=by
 unfold uq
 rw [sJ]
 rfl
theorem x9 (c:Ck names arcs many N T) (uZ:List Int) (hl:uZ.length=names.length):∃ bb:Bool,(bb=true->St names arcs N uZ)/\bS [eCh names arcs,.lst (uZ.map D.int)]=.ok (.f,.bl bb):=by
 have LV:=c.n3
 have IQ:=c.al
 have hm:=c.m1
 have M7:=qf arcs
 have QN:((arcs.map (·.2.1)).map D.str).length<=sizeLine:=aM (by rw [aU,aU];lia)
 have QQ:=PV.flat_strs (arcs.map (·.2.1))
 have JF:=c.levels uZ hl (.lst (uZ.map D.int)) fun k hk=>by rw [Au,gw (by lia)]
 unfold bS gr
 rw [a7 (h:=by rfl)]
 rw [au (env':=[some (.f,eCh names arcs),some (.f,.lst (uZ.map D.int)),some (.l .f,.lst ((arcs.map (·.2.1)).map D.str)),none]) (by
  unfold eCh
  simp only [pv,seval,op,M7,QN,QQ])]
 have key:=for_all (a:=aw 3) (g:=c8) (e:=fun (k:Nat)=>D.int (k:Int)) (r:=(.f,.bl false)) (fun env=>∃ t3,env=[some (.f,eCh names arcs),some (.f,.lst (uZ.map D.int)),some (.l .f,.lst ((arcs.map (·.2.1)).map D.str)),t3]) (fun k=>uZ.getD k 0 == 0 || decide (names.getD k []∈arcs.map (·.2.1))) (List.range uZ.length) (by
  rintro k hk env ⟨t3,rfl⟩
  have hk:=Sg.mp hk
  have q1:Ha (uZ.map D.int) (k:Int)=some (.int (uZ.getD k 0)):=gw hk
  have Oe:Ha (names.map D.str) (k:Int)=some (.str (names.getD k [])):=by
   rw [si (by lia),getD_of (iU (by lia))]
  have Kv:=A8 (names.getD k []) (arcs.map (·.2.1))
  refine ⟨[some (.f,eCh names arcs),some (.f,.lst (uZ.map D.int)),some (.l .f,.lst ((arcs.map (·.2.1)).map D.str)),some (.f,.int (k:Int))],rfl,?_⟩
  unfold c8 eCh
  cases h0:(uZ.getD k 0 == 0) with
  | true=>
   rw [VQ,RO rfl]
   refine ⟨_,?_,some (.f,.int (k:Int)),rfl⟩
   simp only [pv,seval,op,q1,h0,SE,fM]
  | false=>
   rw [Va]
   by_cases hu:names.getD k []∈arcs.map (·.2.1)
   ·rw [Sm hu] at Kv ⊢
    rw [RO rfl]
    refine ⟨_,?_,some (.f,.int (k:Int)),rfl⟩
    simp only [pv,seval,op,q1,h0,Oe,Kv,Tg,SE,fM]
   ·rw [Sf hu] at Kv ⊢
    rw [RY RK]
    simp only [pv,seval,op,q1,h0,Oe,Kv,Tg]) _ ⟨none,rfl⟩
 cases Hu:(List.range uZ.length).all (fun k=>uZ.getD k 0 == 0 || decide (names.getD k []∈arcs.map (·.2.1))) with
 | false=>
  rw [Hu,RY RK] at key
  refine ⟨false,(fun h=>nomatch h),?_⟩
  rw [IH]
  unfold dy
  simp only [pv,seval,op,aU]
  rw [RO (by lia)]
  simp only [pv,seval,op,Sk,key]
 | true=>
  rw [Hu,RO rfl] at key
  obtain ⟨env',ef,t3,rfl⟩:=key
  rw [R3] at Hu
  rw [au (env':=_) (by
   unfold dy
   simp only [pv,seval,op,aU]
   rw [RO (by lia)]
   simp only [pv,seval,op,Sk]
   exact ef)]
  unfold eY
  have Ob:c9 .non=true:=rfl
  cases NW:arcs.all (MW names N uZ) with
  | false=>
   rw [NW,RY RK] at JF
   exact ⟨false,(fun h=>nomatch h),by simp only [pv,seval,op,JF,Ob,so]⟩
  | true=>
   rw [NW,RO rfl] at JF
   have Jo:=Ga ((List.range many).map fun (s:Nat)=>th names N uZ (s:Int))
   generalize (((List.range many).map fun (s:Nat)=>th names N uZ (s:Int)).map D.int)=TT at JF Jo
   have hisL:isnO (.lst TT) .non=.ok (.f,.bl true):=id rfl
   refine ⟨true,fun _=>⟨hl,fun a ha=>Si.mp (R3.mp NW a ha),fun k hk hne=>?_⟩,by simp only [pv,seval,op,JF,Jo,hisL]⟩
   have:=Hu k (Sg.mpr (by lia))
   rw [Sw.mpr hne,Va,R0] at this
   exact this
end
theorem p_whole (i:Int):m__law_whole [.int i]=.ok (.f,.bl true):=by
 unfold m__law_whole kR
 rw [a7 (h:=by rfl)]
 simp only [pv,seval,op,F1,F0]
 rfl
theorem sX (b:Int) (ts gs:List Int):plainD 40 (.tup [.int b,.tup (ts.map D.int),.tup (gs.map D.int)])=true:=by
 show (true && (plainDs 38 (ts.map D.int) && (plainDs 38 (gs.map D.int) && true)))=true
 rw [fe,fe]
 rfl
theorem sY (l:List Int):plainD 40 (.lst (l.map D.int))=true:=by
 rw [plainD,fe]
theorem ya (names:LNN) (arcs:List Gf):plainD 40 (eCh names arcs)=true:=by
 unfold eCh
 rw [plainD,plainDs,plainD,nu,plainDs,plainD,kr 35 arcs]
 rfl
theorem A9 (l:List Int):bK [.lst (l.map D.int),.lst (l.map D.int)]=.ok (.f,.bl true):=by
 have hne:=jW _ (sY l)
 have isLs:wU "list" (.lst (l.map D.int))=true:=rfl
 unfold bK fT
 rw [a7 (h:=by rfl)]
 rw [au (env':=[some (.f,.lst (l.map D.int)),some (.f,.lst (l.map D.int)),none]) (by simp only [pv,seval,op,isLs,hne,SE,fM])]
 obtain ⟨t,ef⟩:=sj (a:=aw 2) (g:=cV) (e:=D.int) l (fun t=>[some (.f,.lst (l.map D.int)),some (.f,.lst (l.map D.int)),t]) (by
  intro v _ t
  refine ⟨some (.f,.int v),rfl,?_⟩
  unfold cV
  simp only [pv,seval,op,p_whole,SE,fM]) none
 rw [au (env':=_) (by
  unfold eZ
  simp only [pv,seval,op]
  exact ef)]
 unfold eG
 simp only [pv,seval,op]
theorem uh (b:Int) (ts gs:List Int) (hl:ts.length + gs.length<=1000):cv [Lc b ts gs,Lc b ts gs]=.ok (.f,.bl true):=by
 have hne:=jW _ (sX b ts gs)
 have LH:=addT ts gs (by lia)
 have hw:=p_whole b
 have it1:=isT [.int b,.tup (ts.map D.int),.tup (gs.map D.int)]
 have it2:=isT (ts.map D.int)
 have it3:=isT (gs.map D.int)
 unfold cv iu Lc
 rw [a7 (h:=by rfl)]
 rw [au (env':=[some (.f,.tup [.int b,.tup (ts.map D.int),.tup (gs.map D.int)]),some (.f,.tup [.int b,.tup (ts.map D.int),.tup (gs.map D.int)]),none]) (by simp only [pv,seval,op,it1,hne,hw,SE,fM])]
 rw [au (env':=[some (.f,.tup [.int b,.tup (ts.map D.int),.tup (gs.map D.int)]),some (.f,.tup [.int b,.tup (ts.map D.int),.tup (gs.map D.int)]),none]) (by simp only [pv,seval,op,it2,it3,at2,SE,fM])]
 obtain ⟨t,ef⟩:=sj (a:=aw 2) (g:=dQ) (e:=D.int) (ts++gs) (fun t=>[some (.f,.tup [.int b,.tup (ts.map D.int),.tup (gs.map D.int)]),some (.f,.tup [.int b,.tup (ts.map D.int),.tup (gs.map D.int)]),t]) (by
  intro v _ t
  refine ⟨some (.f,.int v),rfl,?_⟩
  unfold dQ
  simp only [pv,seval,op,p_whole,SE,fM]) none
 rw [au (env':=_) (by
  unfold gu
  simp only [pv,seval,op,at2,LH]
  exact ef)]
 unfold fS
 simp only [pv,seval,op]
section
variable {names:LNN} {arcs:List Gf} {many:Nat} {N:List Nd} {T:List Gf}
theorem Ck.hne (c:Ck names arcs many N T) (uZ:List Int):G0 names N uZ many≠[]:=fun h=>by
 have:=SY List.length h
 unfold G0 at this
 rw [aU,RX,SA] at this
 have:=c.m1
 lia
theorem St.lev {uZ:List Int} (s:St names arcs N uZ) (c:Ck names arcs many N T):bj [eCh names arcs,.tup (uZ.map D.int)]=.ok (.l .f,.lst ((G0 names N uZ many).map D.int)):=by
 have hl:=s.hl
 rw [c.levels uZ hl (.tup (uZ.map D.int)) fun k hk=>by rw [Av,gw (by lia)],RO (show arcs.all (MW names N uZ)=true from R3.mpr fun a ha=>Si.mpr (s.pt a ha))]
 rfl
def bF (names:LNN) (N:List Nd) (uZ:List Int) (many:Nat) (v:Int):Int:=th names N uZ v - c5 (G0 names N uZ many)
theorem Ba (x:List Int):GB names N x many=(List.range many).map fun (s:Nat)=>bF names N x many (s:Int):=by
 unfold GB
 rw [show G0 names N x many=(List.range many).map fun (s:Nat)=>th names N x (s:Int) from rfl,RQ]
 rfl
theorem yb (l:List Int) (c:Int):bY (aw 0) cZ (az kY (ai 0) (ai 1)) (l.map D.int) [none,some (.f,.int c)]=.ok ((l.map fun v=>v - c).map D.int):=by
 rw [aX (r:=fun v:Int=>D.int (v - c)) (fun env=>∃ u,env=[u,some (.f,.int c)]) l ?_ _ ⟨none,rfl⟩]
 ·rw [RQ]
  rfl
 ·rintro v _ env ⟨u,rfl⟩
  refine ⟨[some (.f,.int v),some (.f,.int c)],rfl,.f,[some (.f,.int v),some (.f,.int c)],?_,_,rfl⟩
  simp only [pv,seval,op]
theorem yc (l:List Int) (hl:l≠[]):bY (aw 0) cZ (az kY (ai 0) (aq (aZ qy (ag (ai 1) aB)))) (l.map D.int) [none,some (.f,.lst (l.map D.int))]=.ok ((l.map fun v=>v - c5 l).map D.int):=by
 have hm:=sR hl
 rw [aX (r:=fun v:Int=>D.int (v - c5 l)) (fun env=>∃ u,env=[u,some (.f,.lst (l.map D.int))]) l ?_ _ ⟨none,rfl⟩]
 ·rw [RQ]
  rfl
 ·rintro v _ env ⟨u,rfl⟩
  refine ⟨[some (.f,.int v),some (.f,.lst (l.map D.int))],rfl,.f,[some (.f,.int v),some (.f,.lst (l.map D.int))],?_,_,rfl⟩
  simp only [pv,seval,op,hm]
theorem Bb (l:List Int) (M:Int) (h:∀ x∈l,x<=M):c5 (l++[M + 1])=NX.minD l (M + 1):=by
 unfold NX.minD
 by_cases hl:l=[]
 ·rw [RO hl,hl]
  exact sW (R4.mpr rfl) fun x hx=>by rw [jV hx];exact VE _
 ·rw [RY hl]
  refine sW (RV _ (oK hl)) fun x hx=>?_
  rcases ko hx with hx | hx
  ·exact sQ hx
  ·have:=h _ (oK hl)
   rw [jV hx]
   lia
theorem qT (f:List Nat->Int) (names:LNN):((List.range names.length).map fun i=>f (names.getD i []))=names.map f:=by
 refine Tr fun k=>?_
 rw [List.getElem?_map,List.getElem?_map]
 by_cases hk:k < names.length
 ·rw [List.getElem?_range hk,iU hk,Tx,Tx,getD_of (iU hk)]
 ·rw [List.getElem?_eq_none (by rw [RX];lia),List.getElem?_eq_none (by lia)]
  rfl
theorem wN (f:List Nat->Int) (names:LNN) (uZ:List Int) (h:uZ.length=names.length):((List.range names.length).map fun i=>f (names.getD i []) + uZ.getD i 0)=((names.map f).zip uZ).map fun p=>p.1 + p.2:=by
 refine Tr fun k=>?_
 rw [List.getElem?_map,List.getElem?_map]
 by_cases hk:k < names.length
 ·have e:((names.map f).zip uZ)[k]?=some (f names[k],uZ[k]'(by lia)):=List.getElem?_zip_eq_some.mpr ⟨by rw [List.getElem?_map,iU hk];rfl,iU (by lia)⟩
  rw [List.getElem?_range hk,e,Tx,Tx,getD_of (iU hk),getD_of (iU (by lia))]
 ·rw [List.getElem?_eq_none (by rw [RX];lia),List.getElem?_eq_none (by rw [S9,aU];lia)]
  rfl
theorem EU (c:Ck names arcs many N T) (uZ:List Int) (hl:uZ.length=names.length) (k:Nat) (hk:k < names.length) (t8:Option R):∃ u8,cD [some (.f,eCh names arcs),some (.f,.tup (uZ.map D.int)),some (.l .f,.lst ((G0 names N uZ many).map D.int)),some (.f,.int (c5 (G0 names N uZ many))),some (.l .f,.lst ((GB names N uZ many).map D.int)),some (.l .f,.lst (((List.range k).map fun i=>tk (bF names N uZ many) arcs (GB names N uZ many) (names.getD i [])).map D.int)),some (.l .f,.lst (((List.range k).map fun i=>tk (bF names N uZ many) arcs (GB names N uZ many) (names.getD i []) + uZ.getD i 0).map D.int)),some (.f,.int (k:Int)),t8]=.ok (.nx [some (.f,eCh names arcs),some (.f,.tup (uZ.map D.int)),some (.l .f,.lst ((G0 names N uZ many).map D.int)),some (.f,.int (c5 (G0 names N uZ many))),some (.l .f,.lst ((GB names N uZ many).map D.int)),some (.l .f,.lst ((((List.range k).map fun i=>tk (bF names N uZ many) arcs (GB names N uZ many) (names.getD i []))++[tk (bF names N uZ many) arcs (GB names N uZ many) (names.getD k [])]).map D.int)),some (.l .f,.lst ((((List.range k).map fun i=>tk (bF names N uZ many) arcs (GB names N uZ many) (names.getD i []) + uZ.getD i 0)++[tk (bF names N uZ many) arcs (GB names N uZ many) (names.getD k []) + uZ.getD k 0]).map D.int)),some (.f,.int (k:Int)),u8]):=by
 have hm:=c.m1
 have IQ:=c.al
 have LV:=c.n3
 have MG:=Ba (names:=names) (N:=N) (many:=many) uZ
 have MU:(GB names N uZ many).length=many:=by rw [MG,aU,RX]
 have hbne:GB names N uZ many≠[]:=fun h=>by rw [h,SA] at MU;lia
 have NR:=yP hbne
 have JD:∀ {s:Int},0<=s->s < (many:Int)->Ha ((GB names N uZ many).map D.int) s=some (.int (bF names N uZ many s)):=fun h0 h1=>by
  rw [MG]
  exact sS (many:=many) (bF names N uZ many) h0 h1
 have hmem:∀ s:Int,0<=s->s < (many:Int)->bF names N uZ many s<=eL (GB names N uZ many):=fun s h0 h1=>by
  obtain ⟨j,rfl⟩:=R7 h0
  refine lr ?_
  rw [MG]
  exact Sq.mpr ⟨j,Sg.mpr (by lia),rfl⟩
 have Oe:Ha (names.map D.str) (k:Int)=some (.str (names.getD k [])):=by
  rw [si hk,getD_of (iU hk)]
 have QL:((List.range k).map fun i=>tk (bF names N uZ many) arcs (GB names N uZ many) (names.getD i [])).length=k:=by rw [aU,RX]
 have hgl:((List.range k).map fun i=>tk (bF names N uZ many) arcs (GB names N uZ many) (names.getD i []) + uZ.getD i 0).length=k:=by rw [aU,RX]
 have htop:=Bb (hv (bF names N uZ many) arcs (names.getD k [])) (eL (GB names N uZ many)) fun x hx=>by
  obtain ⟨a,ha,rfl⟩:=lp hx
  have hb:=c.hb a (UP.mp ha).1
  exact hmem _ hb.1.1 hb.1.2
 have htk:tk (bF names N uZ many) arcs (GB names N uZ many) (names.getD k [])=NX.minD (hv (bF names N uZ many) arcs (names.getD k [])) (eL (GB names N uZ many) + 1):=rfl
 have hc:bY (fO 3 (aA (aw 0) (aA (aw 1) (aA (aw 2) b8)))) (GC (bq HG (ai 1) (aq (az Gi (aq (az Gi (ai 5) (aq (aJ (.int 0))))) (ai 4))))) (az Gi (ai 3) (ai 0)) (arcs.map eA) [none,none,none,some (.f,.lst ((GB names N uZ many).map D.int)),some (.f,.int (k:Int)),some (.f,eCh names arcs)]=.ok ((hv (bF names N uZ many) arcs (names.getD k [])).map D.int):=by
  unfold hv
  rw [RQ]
  refine sf (e:=eA) (p:=fun a=>a.2.1 == names.getD k []) (r:=fun a=>D.int (bF names N uZ many a.1)) (fun env=>∃ t u v,env=[t,u,v,some (.f,.lst ((GB names N uZ many).map D.int)),some (.f,.int (k:Int)),some (.f,eCh names arcs)]) arcs ?_ _ ⟨none,none,none,rfl⟩
  rintro a ha env ⟨t,u,v,rfl⟩
  have II:=(c.hb a ha).1
  refine ⟨[some (.f,.int a.1),some (.f,.str a.2.1),some (.f,.int a.2.2),some (.f,.lst ((GB names N uZ many).map D.int)),some (.f,.int (k:Int)),some (.f,eCh names arcs)],by unfold eA;simp only [pv,seval],[some (.f,.int a.1),some (.f,.str a.2.1),some (.f,.int a.2.2),some (.f,.lst ((GB names N uZ many).map D.int)),some (.f,.int (k:Int)),some (.f,eCh names arcs)],?_,?_⟩
  ·unfold eCh
   simp only [pv,seval,op,Oe]
  ·split
   ·refine ⟨.f,[some (.f,.int a.1),some (.f,.str a.2.1),some (.f,.int a.2.2),some (.f,.lst ((GB names N uZ many).map D.int)),some (.f,.int (k:Int)),some (.f,eCh names arcs)],?_,_,_,_,rfl⟩
    simp only [pv,seval,op,JD II.1 II.2]
   ·exact ⟨_,_,_,rfl⟩
 have PN:(hv (bF names N uZ many) arcs (names.getD k [])).length<=60:=by
  unfold hv
  rw [aU]
  exact SJ (UI _ _) IQ
 generalize ((List.range k).map fun i=>tk (bF names N uZ many) arcs (GB names N uZ many) (names.getD i []))=tl at QL ⊢
 generalize ((List.range k).map fun i=>tk (bF names N uZ many) arcs (GB names N uZ many) (names.getD i []) + uZ.getD i 0)=gl at hgl ⊢
 rw [htk,<-htop]
 generalize hv (bF names N uZ many) arcs (names.getD k [])=hh at *
 generalize eL (GB names N uZ many)=M at *
 have NT:(hh.map D.int).length<=sizeLine:=aM (by rw [aU];lia)
 have NU:=Ga hh
 have LH:=oF (hh.map D.int) [.int (M + 1)]
 rw [RO (line_le (by rw [aU,R5];lia))] at LH
 have hmi:qy [.lst (hh.map D.int++[.int (M + 1)])]=.ok (.f,.int (c5 (hh++[M + 1]))):=by
  have:=sR (l:=hh++[M + 1]) (by simp)
  rw [RP] at this
  exact this
 generalize c5 (hh++[M + 1])=mt at *
 have z1:(tl.map D.int).length < sizeLine:=gx (by rw [aU];lia)
 have z2:(gl.map D.int).length < sizeLine:=gx (by rw [aU];lia)
 have a1:Ha (tl.map D.int++[.int mt]) (k:Int)=some (.int mt):=dt (by
  rw [List.getElem?_append_right (by rw [aU];lia),aU,QL,UZ]
  rfl)
 have a2:Ha (uZ.map D.int) (k:Int)=some (.int (uZ.getD k 0)):=gw (by lia)
 refine ⟨some (.l .f,.lst (hh.map D.int)),?_⟩
 rw [RP,RP,eC,Sd,eC,Sd]
 unfold cD
 rw [au (env':=[some (.f,eCh names arcs),some (.f,.tup (uZ.map D.int)),some (.l .f,.lst ((G0 names N uZ many).map D.int)),some (.f,.int (c5 (G0 names N uZ many))),some (.l .f,.lst ((GB names N uZ many).map D.int)),some (.l .f,.lst (tl.map D.int)),some (.l .f,.lst (gl.map D.int)),some (.f,.int (k:Int)),some (.l .f,.lst (hh.map D.int))]) (by
  unfold eCh at hc ⊢
  generalize (GC (bq HG (ai 1) (aq (az Gi (aq (az Gi (ai 5) (aq (aJ (.int 0))))) (ai 4)))))=G1 at hc ⊢
  generalize (az Gi (ai 3) (ai 0))=G2 at hc ⊢
  simp only [pv,seval,op,hc,NT,NU])]
 rw [au (env':=[some (.f,eCh names arcs),some (.f,.tup (uZ.map D.int)),some (.l .f,.lst ((G0 names N uZ many).map D.int)),some (.f,.int (c5 (G0 names N uZ many))),some (.l .f,.lst ((GB names N uZ many).map D.int)),some (.l .f,.lst (tl.map D.int++[.int mt])),some (.l .f,.lst (gl.map D.int)),some (.f,.int (k:Int)),some (.l .f,.lst (hh.map D.int))]) (by simp only [pv,seval,op,NR,LH,hmi,z1])]
 simp only [pv,seval,op,a1,a2,z2]
theorem St.due {uZ:List Int} (s:St names arcs N uZ) (c:Ck names arcs many N T):bL [eCh names arcs,.tup (uZ.map D.int)]=.ok (.f,Lc (bF names N uZ many 0) (names.map (tk (bF names N uZ many) arcs (GB names N uZ many))) (((names.map (tk (bF names N uZ many) arcs (GB names N uZ many))).zip uZ).map fun p=>p.1 + p.2)):=by
 have hl:=s.hl
 have hm:=c.m1
 have LV:=c.n3
 have JF:=s.lev c
 have hne:=c.hne uZ
 have Ku:=sR hne
 have QR:=yb (G0 names N uZ many) (c5 (G0 names N uZ many))
 have QU:(G0 names N uZ many).map (fun v=>v - c5 (G0 names N uZ many))=GB names N uZ many:=rfl
 rw [QU] at QR
 have PN:(G0 names N uZ many).length=many:=by unfold G0;rw [aU,RX]
 have hfh:=Ga (G0 names N uZ many)
 have hlb:((GB names N uZ many).map D.int).length<=sizeLine:=aM (by unfold GB;rw [aU,aU];lia)
 have QK:=Ga (GB names N uZ many)
 have h0:Ha ((GB names N uZ many).map D.int) 0=some (.int (bF names N uZ many 0)):=by
  rw [Ba]
  exact sS (many:=many) (bF names N uZ many) (s:=0) (by lia) (by lia)
 unfold bL gY
 rw [a7 (h:=by rfl)]
 rw [au (env':=[some (.f,eCh names arcs),some (.f,.tup (uZ.map D.int)),some (.l .f,.lst ((G0 names N uZ many).map D.int)),none,none,none,none,none,none]) (by simp only [pv,seval,op,JF,hfh])]
 rw [au (env':=[some (.f,eCh names arcs),some (.f,.tup (uZ.map D.int)),some (.l .f,.lst ((G0 names N uZ many).map D.int)),some (.f,.int (c5 (G0 names N uZ many))),none,none,none,none,none]) (by simp only [pv,seval,op,Ku])]
 rw [au (env':=[some (.f,eCh names arcs),some (.f,.tup (uZ.map D.int)),some (.l .f,.lst ((G0 names N uZ many).map D.int)),some (.f,.int (c5 (G0 names N uZ many))),some (.l .f,.lst ((GB names N uZ many).map D.int)),none,none,none,none]) (by
  generalize (az kY (ai 0) (ai 1))=GG at QR ⊢
  simp only [pv,seval,op,QR,hlb,QK])]
 rw [au (env':=[some (.f,eCh names arcs),some (.f,.tup (uZ.map D.int)),some (.l .f,.lst ((G0 names N uZ many).map D.int)),some (.f,.int (c5 (G0 names N uZ many))),some (.l .f,.lst ((GB names N uZ many).map D.int)),some (.l .f,.lst []),none,none,none]) (by simp only [pv,seval,op])]
 rw [au (env':=[some (.f,eCh names arcs),some (.f,.tup (uZ.map D.int)),some (.l .f,.lst ((G0 names N uZ many).map D.int)),some (.f,.int (c5 (G0 names N uZ many))),some (.l .f,.lst ((GB names N uZ many).map D.int)),some (.l .f,.lst []),some (.l .f,.lst []),none,none]) (by simp only [pv,seval,op])]
 obtain ⟨env',ef,t7,t8,rfl⟩:=my (a:=aw 7) (g:=cD) (e:=fun k=>D.int (k:Int)) names.length (fun k env=>∃ t7 t8,env=[some (.f,eCh names arcs),some (.f,.tup (uZ.map D.int)),some (.l .f,.lst ((G0 names N uZ many).map D.int)),some (.f,.int (c5 (G0 names N uZ many))),some (.l .f,.lst ((GB names N uZ many).map D.int)),some (.l .f,.lst (((List.range k).map fun i=>tk (bF names N uZ many) arcs (GB names N uZ many) (names.getD i [])).map D.int)),some (.l .f,.lst (((List.range k).map fun i=>tk (bF names N uZ many) arcs (GB names N uZ many) (names.getD i []) + uZ.getD i 0).map D.int)),t7,t8]) (by
  rintro k env hk ⟨t7,t8,rfl⟩
  obtain ⟨u8,e⟩:=EU c uZ hl k hk t8
  refine ⟨_,rfl,_,e,some (.f,.int (k:Int)),u8,?_⟩
  rw [Vq,RP (f:=fun i=>tk (bF names N uZ many) arcs (GB names N uZ many) (names.getD i [])),RP (f:=fun i=>tk (bF names N uZ many) arcs (GB names N uZ many) (names.getD i []) + uZ.getD i 0)]
  rfl) _ ⟨none,none,rfl⟩
 rw [List.range_zero,Sd,Sd,Sd] at ef
 rw [au (env':=_) (by
  unfold fR
  simp only [pv,seval,op,aU,hl]
  rw [RO (by lia)]
  simp only [pv,seval,op,Sk]
  exact ef)]
 unfold fG
 rw [qT (tk (bF names N uZ many) arcs (GB names N uZ many)) names,wN (tk (bF names N uZ many) arcs (GB names N uZ many)) names uZ hl]
 unfold Lc
 simp only [pv,seval,op,h0]
theorem St.plc {uZ:List Int} (s:St names arcs N uZ) (c:Ck names arcs many N T):dE [eCh names arcs,.tup (uZ.map D.int)]=.ok (.f,Lc (bF names N uZ many 0) (names.map (tk (bF names N uZ many) arcs (GB names N uZ many))) (((names.map (tk (bF names N uZ many) arcs (GB names N uZ many))).zip uZ).map fun p=>p.1 + p.2)):=by
 have h:=c.place uZ (bF names N uZ many) (GB names N uZ many) (Ba uZ) (s.bs c)
 unfold Lc
 with_reducible exact h
end
theorem sum_list (x y:List Int) (h:x.length=y.length):((List.range x.length).map fun k=>x.getD k 0 + y.getD k 0)=sumL x y:=by
 refine Tr fun k=>?_
 rw [List.getElem?_map]
 by_cases hk:k < x.length
 ·have e:(x.zip y)[k]?=some (x[k],y[k]'(by lia)):=List.getElem?_zip_eq_some.mpr ⟨iU hk,iU (by lia)⟩
  unfold sumL
  rw [List.getElem?_range hk,List.getElem?_map,e,Tx,Tx,getD_of (iU hk),getD_of (iU (by lia))]
 ·rw [List.getElem?_eq_none (by rw [RX];lia),List.getElem?_eq_none (by unfold sumL;rw [aU,S9];lia)]
  rfl
theorem yU (t:Int) (x:List Int) (k:Nat):(x.map fun v=>t * v).getD k 0=t * x.getD k 0:=by
 rw [List.getD_eq_getElem?_getD,List.getElem?_map,List.getD_eq_getElem?_getD]
 cases x[k]? with
 | none=>exact (VT t).symm
 | some v=>rfl
def LI (names:LNN) (arcs:List Gf) (p:Pl):List Int:=(List.range names.length).map fun k=>(p.2.2.getD k 0 - p.2.1.getD k 0) * (if decide (names.getD k []∈arcs.map (·.2.1))=true then 1 else 0)
section
variable {names:LNN} {arcs:List Gf} {many:Nat} {N:List Nd} {T:List Gf}
theorem yd (p:Pl) (hp:Kt p names.length):bY (aw 0) cZ (az iT (aq (az kY (aq (az Gi (ai 1) (ai 0))) (aq (az Gi (ai 2) (ai 0))))) (aq (aZ Bg (ag (aq (bq Lx (aq (az Gi (aq (az Gi (ai 4) (aq (aJ (.int 0))))) (ai 0))) (ai 3))) aB)))) ((List.range names.length).map fun (k:Nat)=>D.int (k:Int)) [none,some (.f,.tup (p.2.2.map D.int)),some (.f,.tup (p.2.1.map D.int)),some (.f,.lst ((arcs.map (·.2.1)).map D.str)),some (.f,eCh names arcs)]=.ok ((LI names arcs p).map D.int):=by
 rw [aX (r:=fun k:Nat=>D.int ((p.2.2.getD k 0 - p.2.1.getD k 0) * (if decide (names.getD k []∈arcs.map (·.2.1))=true then 1 else 0))) (fun env=>∃ t,env=[t,some (.f,.tup (p.2.2.map D.int)),some (.f,.tup (p.2.1.map D.int)),some (.f,.lst ((arcs.map (·.2.1)).map D.str)),some (.f,eCh names arcs)]) (List.range names.length) ?_ _ ⟨none,rfl⟩]
 ·unfold LI
  rw [RQ]
  rfl
 ·rintro k hk env ⟨t,rfl⟩
  have hk:=Sg.mp hk
  have q1:Ha (p.2.1.map D.int) (k:Int)=some (.int (p.2.1.getD k 0)):=gw (by rw [hp.1];exact hk)
  have q2:Ha (p.2.2.map D.int) (k:Int)=some (.int (p.2.2.getD k 0)):=gw (by rw [hp.2];exact hk)
  have Oe:Ha (names.map D.str) (k:Int)=some (.str (names.getD k [])):=by
   rw [si hk,getD_of (iU hk)]
  refine ⟨[some (.f,.int (k:Int)),some (.f,.tup (p.2.2.map D.int)),some (.f,.tup (p.2.1.map D.int)),some (.f,.lst ((arcs.map (·.2.1)).map D.str)),some (.f,eCh names arcs)],rfl,.f,[some (.f,.int (k:Int)),some (.f,.tup (p.2.2.map D.int)),some (.f,.tup (p.2.1.map D.int)),some (.f,.lst ((arcs.map (·.2.1)).map D.str)),some (.f,eCh names arcs)],?_,_,rfl⟩
  have JL:=sJ (names.getD k []) (arcs.map (·.2.1))
  generalize decide (names.getD k []∈arcs.map (·.2.1))=bb at JL
  have hsm:b9 (if bb=true then 1 else 0)=true:=by cases bb <;> rfl
  have hmu:=DJ (p.2.2.getD k 0 - p.2.1.getD k 0) (if bb=true then 1 else 0) hsm
  unfold eCh
  simp only [pv,seval,op,q1,q2,Oe,JL,hmu]
theorem DA (ns:List Int) (ps:List Pl) (c:Ck names arcs many N T) (hn:names.length<=3) (p:Pl) (hp:Kt p names.length) (rs:List (List Int)) (QJ:rs.length<=100) (hs:∀ r∈rs,St names arcs N r) (t8:Option R):∃ (HD:List (List Int)) (u8:Option R),(∀ r∈HD,St names arcs N r)/\rs.length<=HD.length/\HD.length<=rs.length + 1/\eE [some (.f,.lst (ns.map D.int)),some (.f,eCh names arcs),some (.f,eN names ps),some (.l .f,.lst ((arcs.map (·.2.1)).map D.str)),some (.l .f,.lst (rs.map fun r:List Int=>D.tup (r.map D.int))),some (.f,.int p.1),some (.f,.tup (p.2.1.map D.int)),some (.f,.tup (p.2.2.map D.int)),t8,none,none,none,none]=.ok (.nx [some (.f,.lst (ns.map D.int)),some (.f,eCh names arcs),some (.f,eN names ps),some (.l .f,.lst ((arcs.map (·.2.1)).map D.str)),some (.l .f,.lst (HD.map fun r:List Int=>D.tup (r.map D.int))),some (.f,.int p.1),some (.f,.tup (p.2.1.map D.int)),some (.f,.tup (p.2.2.map D.int)),u8,none,none,none,none]):=by
 have hc:=yd (arcs:=arcs) p hp
 have Rr:(LI names arcs p).length=names.length:=by unfold LI;rw [aU,RX]
 obtain ⟨bb,KD,e⟩:=x9 c (LI names arcs p) Rr
 have NT:((LI names arcs p).map D.int).length<=sizeLine:=aM (by rw [aU];lia)
 have NU:=Ga (LI names arcs p)
 have PF:=hp.1
 unfold eE
 rw [au (env':=[some (.f,.lst (ns.map D.int)),some (.f,eCh names arcs),some (.f,eN names ps),some (.l .f,.lst ((arcs.map (·.2.1)).map D.str)),some (.l .f,.lst (rs.map fun r:List Int=>D.tup (r.map D.int))),some (.f,.int p.1),some (.f,.tup (p.2.1.map D.int)),some (.f,.tup (p.2.2.map D.int)),some (.l .f,.lst ((LI names arcs p).map D.int)),none,none,none,none]) (by
  generalize (az iT (aq (az kY (aq (az Gi (ai 1) (ai 0))) (aq (az Gi (ai 2) (ai 0))))) (aq (aZ Bg (ag (aq (bq Lx (aq (az Gi (aq (az Gi (ai 4) (aq (aJ (.int 0))))) (ai 0))) (ai 3))) aB))))=GG at hc ⊢
  simp only [pv,seval,op,aU,PF]
  rw [RO (by lia)]
  simp only [pv,seval,op,Sk,hc,NT,NU])]
 have hz:(rs.map fun r:List Int=>D.tup (r.map D.int)).length < sizeLine:=gx (by rw [aU];lia)
 cases bb with
 | true=>
  refine ⟨rs++[LI names arcs p],some (.l .f,.lst ((LI names arcs p).map D.int)),fun r hr=>?_,by rw [i7];lia,by rw [i7];exact RL _,?_⟩
  ·rcases ko hr with hr | hr
   ·exact hs r hr
   ·rw [jV hr]
    exact KD rfl
  ·rw [RP,eC,Sd]
   simp only [pv,seval,op,e,hz]
 | false=>
  refine ⟨rs,some (.l .f,.lst ((LI names arcs p).map D.int)),hs,RL _,by lia,?_⟩
  simp only [pv,seval,op,e,fM]
theorem yV {rs:List (List Int)} (h0:rs≠[]) (v:Int):∃ r∈rs,Gi (.lst (rs.map fun r:List Int=>D.tup (r.map D.int))) (.int (v % (rs.length:Int)))=.ok (.f,.tup (r.map D.int)):=by
 have hp:=T3.mpr h0
 have hb:=eV v (rs.length:Int) (by lia)
 obtain ⟨k,ek⟩:=R7 hb.1
 have hk:k < rs.length:=by lia
 refine ⟨rs[k],S4 hk,?_⟩
 rw [ek,Au,show Ha (rs.map fun r:List Int=>D.tup (r.map D.int)) (k:Int)=some (.tup (rs[k].map D.int)) from dt (by rw [List.getElem?_map,iU hk];rfl)]
theorem wO (t0 t1:Int) (h0:b9 t0=true) (h1:b9 t1=true) (x y:List Int) (hl:x.length=y.length):bY (aw 0) cZ (az cJ (aq (az iT (aq (az Gi (ai 1) (aq (aJ (.int 0))))) (aq (az Gi (ai 2) (ai 0))))) (aq (az iT (aq (az Gi (ai 1) (aq (aJ (.int 1))))) (aq (az Gi (ai 3) (ai 0)))))) ((List.range x.length).map fun (k:Nat)=>D.int (k:Int)) [none,some (.f,.lst [.int t0,.int t1]),some (.f,.tup (x.map D.int)),some (.f,.tup (y.map D.int))]=.ok ((sumL (x.map fun v=>t0 * v) (y.map fun v=>t1 * v)).map D.int):=by
 rw [aX (r:=fun k:Nat=>D.int (t0 * x.getD k 0 + t1 * y.getD k 0)) (fun env=>∃ u,env=[u,some (.f,.lst [.int t0,.int t1]),some (.f,.tup (x.map D.int)),some (.f,.tup (y.map D.int))]) (List.range x.length) ?_ _ ⟨none,rfl⟩]
 ·rw [<-sum_list _ _ (by rw [aU,aU];exact hl),aU,RQ]
  refine SY Res.ok (SK fun k _=>?_)
  show _=D.int ((x.map fun v=>t0 * v).getD k 0 + (y.map fun v=>t1 * v).getD k 0)
  rw [yU,yU]
 ·rintro k hk env ⟨u,rfl⟩
  have hk:=Sg.mp hk
  have q1:Ha (x.map D.int) (k:Int)=some (.int (x.getD k 0)):=gw hk
  have q2:Ha (y.map D.int) (k:Int)=some (.int (y.getD k 0)):=gw (by lia)
  refine ⟨[some (.f,.int (k:Int)),some (.f,.lst [.int t0,.int t1]),some (.f,.tup (x.map D.int)),some (.f,.tup (y.map D.int))],rfl,.f,[some (.f,.int (k:Int)),some (.f,.lst [.int t0,.int t1]),some (.f,.tup (x.map D.int)),some (.f,.tup (y.map D.int))],?_,_,rfl⟩
  simp only [pv,seval,op,q1,q2,yL t0 _ h0,yL t1 _ h1]
theorem DB (ns:List Int) (ps:List Pl) (c:Ck names arcs many N T) (hn:names.length<=3) (Qx:ps.length<=9) (O8:∀ p∈ps,Kt p names.length):∃ rs:List (List Int),(∀ r∈rs,St names arcs N r)/\d7 [.lst (ns.map D.int),eCh names arcs,eN names ps]=.ok (.l .f,.lst (rs.map fun r:List Int=>D.tup (r.map D.int))):=by
 have IQ:=c.al
 have M7:=qf arcs
 have QN:((arcs.map (·.2.1)).map D.str).length<=sizeLine:=aM (by rw [aU,aU];lia)
 have QQ:=PV.flat_strs (arcs.map (·.2.1))
 have c0:=mF names 0
 have l0:((names.map fun _=>(0:Int)).map D.int).length<=sizeLine:=aM (by rw [aU,aU];lia)
 have f0:=Ga (names.map fun _=>(0:Int))
 unfold d7 me
 rw [a7 (h:=by rfl)]
 rw [au (env':=[some (.f,.lst (ns.map D.int)),some (.f,eCh names arcs),some (.f,eN names ps),some (.l .f,.lst ((arcs.map (·.2.1)).map D.str)),none,none,none,none,none,none,none,none,none]) (by
  unfold eCh
  simp only [pv,seval,op,M7,QN,QQ])]
 rw [au (env':=[some (.f,.lst (ns.map D.int)),some (.f,eCh names arcs),some (.f,eN names ps),some (.l .f,.lst ((arcs.map (·.2.1)).map D.str)),some (.l .f,.lst [.tup ((names.map fun _=>(0:Int)).map D.int)]),none,none,none,none,none,none,none,none]) (by
  unfold eCh
  simp only [pv,seval,op,c0,l0,f0])]
 obtain ⟨env',ef,rs,t5,t6,t7,t8,h1,h2,h3,rfl⟩:=for_list (a:=fO 3 (aA (aw 5) (aA (aw 6) (aA (aw 7) b8)))) (g:=eE) (e:=eP) ps (fun i env=>∃ (rs:List (List Int)) (t5 t6 t7 t8:Option R),(∀ r∈rs,St names arcs N r)/\1<=rs.length/\rs.length<=1 + i/\env=[some (.f,.lst (ns.map D.int)),some (.f,eCh names arcs),some (.f,eN names ps),some (.l .f,.lst ((arcs.map (·.2.1)).map D.str)),some (.l .f,.lst (rs.map fun r:List Int=>D.tup (r.map D.int))),t5,t6,t7,t8,none,none,none,none]) (by
  rintro i p env hi ⟨rs,t5,t6,t7,t8,h1,h2,h3,rfl⟩
  have GV:=(j0 hi).1
  obtain ⟨HD,u8,Qz,Pn,h3',e⟩:=DA ns ps c hn p (O8 p (RW hi)) rs (by lia) h1 t8
  exact ⟨_,by unfold eP;simp only [pv,seval],_,e,HD,_,_,_,_,Qz,by lia,by lia,rfl⟩) _ ⟨[names.map fun _=>0],none,none,none,none,fun r hr=>by rw [jV hr];exact St.zero names arcs N,RL _,RL _,rfl⟩
 rw [eC,Sd] at ef
 rw [au (env':=_) (by
  unfold jP
  unfold eN at ef ⊢
  simp only [pv,seval,op]
  exact ef)]
 clear ef
 have hne:rs≠[]:=fun h=>by rw [h,SA] at h2;lia
 unfold i6
 have p8:tS (.int 10) (.int 8)=.ok (.f,.int (10 ^ 8)):=E6 8 (by decide)
 have ck:∀ k:Nat,aE [.lst (ns.map D.int),.int (11 + (k:Int))]=.ok (.f,.int (cell ns (11 + k))):=fun k=>by
  have:=jY ns (11 + k)
  rw [show ((11 + k:Nat):Int)=11 + (k:Int) by lia] at this
  exact this
 have mu8:=yL 2 (10 ^ 8) (by decide)
 have mo8:∀ v:Int,fL (.int v) (.int (2 * 10 ^ 8))=.ok (.f,.int (v % (2 * 10 ^ 8))):=fun v=>iR v _ (by decide)
 have mu9:z9 (.int 2) (.int 100000000)=.ok (.f,.int 200000000):=by
  have h:=mu8
  rw [show (10:Int)^8=100000000 by decide,show (2:Int)*100000000=200000000 by decide] at h
  exact h
 have mo9:∀ v:Int,fL (.int v) (.int 200000000)=.ok (.f,.int (v % 200000000)):=fun v=>by
  have h:=mo8 v
  rw [show (2:Int)*10^8=200000000 by decide] at h
  exact h
 have RE:bY (aw 0) cZ (az kY (aq (az fL (aq (cw aE (ag (ai 1) (ag (aq (az cJ (aq (aJ (.int 11))) (ai 0))) aB)))) (aq (az iT (aq (aJ (.int 2))) (aq (az tS (aq (aJ (.int 10))) (aq (aJ (.int 8))))))))) (aq (az tS (aq (aJ (.int 10))) (aq (aJ (.int 8)))))) ((List.range 2).map fun (k:Nat)=>D.int (k:Int)) [none,some (.f,.lst (ns.map D.int))]=.ok [.int (cell ns 11 % (2 * 10 ^ 8) - 10 ^ 8),.int (cell ns 12 % (2 * 10 ^ 8) - 10 ^ 8)]:=by
  rw [aX (r:=fun k:Nat=>D.int (cell ns (11 + k) % (2 * 10 ^ 8) - 10 ^ 8)) (fun env=>∃ t,env=[t,some (.f,.lst (ns.map D.int))]) (List.range 2) ?_ _ ⟨none,rfl⟩]
  ·rfl
  ·rintro k _ env ⟨t,rfl⟩
   refine ⟨[some (.f,.int (k:Int)),some (.f,.lst (ns.map D.int))],rfl,.f,[some (.f,.int (k:Int)),some (.f,.lst (ns.map D.int))],?_,_,rfl⟩
   simp only [pv,seval,op,ck,p8,mu9,mo9]
 have b0:=eV (cell ns 11) (2 * 10 ^ 8) (by decide)
 have b1:=eV (cell ns 12) (2 * 10 ^ 8) (by decide)
 have s0:b9 (cell ns 11 % (2 * 10 ^ 8) - 10 ^ 8)=true:=by
  unfold b9
  rw [R0]
  lia
 have s1:b9 (cell ns 12 % (2 * 10 ^ 8) - 10 ^ 8)=true:=by
  unfold b9
  rw [R0]
  lia
 generalize cell ns 11 % (2 * 10 ^ 8) - 10 ^ 8=t0 at *
 generalize cell ns 12 % (2 * 10 ^ 8) - 10 ^ 8=t1 at *
 have hl2:2<=sizeLine:=line_le (by decide)
 have hf2:flatDs [D.int t0,D.int t1]=true:=rfl
 rw [au (env':=[some (.f,.lst (ns.map D.int)),some (.f,eCh names arcs),some (.f,.tup [.tup (names.map D.str),.lst (ps.map eP)]),some (.l .f,.lst ((arcs.map (·.2.1)).map D.str)),some (.l .f,.lst (rs.map fun r:List Int=>D.tup (r.map D.int))),t5,t6,t7,t8,some (.l .f,.lst [.int t0,.int t1]),none,none,none]) (by
  generalize (az kY (aq (az fL (aq (cw aE (ag (ai 1) (ag (aq (az cJ (aq (aJ (.int 11))) (ai 0))) aB)))) (aq (az iT (aq (aJ (.int 2))) (aq (az tS (aq (aJ (.int 10))) (aq (aJ (.int 8))))))))) (aq (az tS (aq (aJ (.int 10))) (aq (aJ (.int 8))))))=GG at RE ⊢
  simp only [pv,seval,op]
  rw [RO (by decide)]
  simp only [pv,seval,op,show (2:Int).toNat=2 from rfl,RE]
  rw [RO hl2,RO hf2]
  rfl)]
 have c13:aE [.lst (ns.map D.int),.int 13]=.ok (.f,.int (cell ns 13)):=jY ns 13
 have K1:=mD (cell ns 13) 2 (by decide) (by decide)
 generalize wz (cell ns 13) 2=nb at K1
 rw [au (env':=[some (.f,.lst (ns.map D.int)),some (.f,eCh names arcs),some (.f,.tup [.tup (names.map D.str),.lst (ps.map eP)]),some (.l .f,.lst ((arcs.map (·.2.1)).map D.str)),some (.l .f,.lst (rs.map fun r:List Int=>D.tup (r.map D.int))),t5,t6,t7,t8,some (.l .f,.lst [.int t0,.int t1]),some (.f,.int nb),none,none]) (by simp only [pv,seval,op,c13,K1])]
 obtain ⟨x,hx,ex⟩:=yV hne nb
 obtain ⟨y,hy,ey⟩:=yV hne (nb / 64)
 rw [au (env':=[some (.f,.lst (ns.map D.int)),some (.f,eCh names arcs),some (.f,.tup [.tup (names.map D.str),.lst (ps.map eP)]),some (.l .f,.lst ((arcs.map (·.2.1)).map D.str)),some (.l .f,.lst (rs.map fun r:List Int=>D.tup (r.map D.int))),t5,t6,t7,t8,some (.l .f,.lst [.int t0,.int t1]),some (.f,.int nb),some (.f,.tup (x.map D.int)),none]) (by simp only [pv,seval,op,aU,iR _ (rs.length:Int) (by lia),ex])]
 rw [au (env':=[some (.f,.lst (ns.map D.int)),some (.f,eCh names arcs),some (.f,.tup [.tup (names.map D.str),.lst (ps.map eP)]),some (.l .f,.lst ((arcs.map (·.2.1)).map D.str)),some (.l .f,.lst (rs.map fun r:List Int=>D.tup (r.map D.int))),t5,t6,t7,t8,some (.l .f,.lst [.int t0,.int t1]),some (.f,.int nb),some (.f,.tup (x.map D.int)),some (.f,.tup (y.map D.int))]) (by simp only [pv,seval,op,aU,fN _ 64 (by decide) (by decide),iR _ (rs.length:Int) (by lia),ey])]
 have sx:=h1 x hx
 have sy:=h1 y hy
 have hxl:=sx.hl
 have hyl:=sy.hl
 have JM:=wO t0 t1 s0 s1 x y (by lia)
 obtain ⟨sz,_⟩:=(sx.mul t0).add (sy.mul t1) c
 generalize sumL (x.map fun v=>t0 * v) (y.map fun v=>t1 * v)=z at JM sz
 have Rt:=sz.hl
 have lz:(z.map D.int).length<=sizeLine:=aM (by rw [aU];lia)
 have fz2:=Ga z
 have LH:=oF (rs.map fun r:List Int=>D.tup (r.map D.int)) [.tup (z.map D.int)]
 rw [RO (line_le (by rw [aU,R5];lia))] at LH
 refine ⟨rs++[z],fun r hr=>?_,?_⟩
 ·rcases ko hr with hr | hr
  ·exact h1 r hr
  ·rw [jV hr]
   exact sz
 ·rw [RP,eC,Sd]
  generalize (az cJ (aq (az iT (aq (az Gi (ai 1) (aq (aJ (.int 0))))) (aq (az Gi (ai 2) (ai 0))))) (aq (az iT (aq (az Gi (ai 1) (aq (aJ (.int 1))))) (aq (az Gi (ai 3) (ai 0))))))=GG at JM ⊢
  simp only [pv,seval,op,aU]
  rw [RO (by lia)]
  simp only [pv,seval,op,Sk,JM,lz,fz2,LH]
end
theorem law_1 (ns:List Int) {names:LNN} (ps:List Pl) {arcs:List Gf} {many:Nat} {N:List Nd} {T:List Gf} (c:Ck names arcs many N T) (hn:names.length<=3) (r:List Int) (s:St names arcs N r) (t5 t6 t7:Option R):∃ u5 u6 u7,g_law_1b [some (.f,.lst (ns.map D.int)),some (.f,eN names ps),some (.f,eCh names arcs),some (.f,eCh names arcs),some (.f,.tup (r.map D.int)),t5,t6,t7]=.ok (.nx [some (.f,.lst (ns.map D.int)),some (.f,eN names ps),some (.f,eCh names arcs),some (.f,eCh names arcs),some (.f,.tup (r.map D.int)),u5,u6,u7]):=by
 have hl:=s.hl
 have hm:=c.m1
 have JF:=s.lev c
 have K3:=s.bs c
 have RF:=s.due c
 have Iq:=s.plc c
 have NY:=yc (G0 names N r many) (c.hne r)
 have QU:(G0 names N r many).map (fun v=>v - c5 (G0 names N r many))=GB names N r many:=rfl
 rw [QU] at NY
 have PN:(G0 names N r many).length=many:=by unfold G0;rw [aU,RX]
 have fh:=Ga (G0 names N r many)
 have fb:=Ga (GB names N r many)
 have lb:((GB names N r many).map D.int).length<=sizeLine:=aM (by unfold GB;rw [aU,aU];lia)
 have Qm:=A9 (GB names N r many)
 have hnb:=jW _ (sY (GB names N r many))
 have hisp:=uh (bF names N r many 0) (names.map (tk (bF names N r many) arcs (GB names N r many))) (((names.map (tk (bF names N r many) arcs (GB names N r many))).zip r).map fun p=>p.1 + p.2) (by rw [aU,aU,S9,aU];lia)
 have hnp:Kc (Lc (bF names N r many 0) (names.map (tk (bF names N r many) arcs (GB names N r many))) (((names.map (tk (bF names N r many) arcs (GB names N r many))).zip r).map fun p=>p.1 + p.2)) (Lc (bF names N r many 0) (names.map (tk (bF names N r many) arcs (GB names N r many))) (((names.map (tk (bF names N r many) arcs (GB names N r many))).zip r).map fun p=>p.1 + p.2))=.ok (.f,.bl false):=jW _ (sX _ _ _)
 have NP:c9 (Lc (bF names N r many 0) (names.map (tk (bF names N r many) arcs (GB names N r many))) (((names.map (tk (bF names N r many) arcs (GB names N r many))).zip r).map fun p=>p.1 + p.2))=true:=by
  unfold Lc
  rw [cS]
  simp only [flatDs,cS,Ga,jU]
  rfl
 generalize Lc (bF names N r many 0) (names.map (tk (bF names N r many) arcs (GB names N r many))) (((names.map (tk (bF names N r many) arcs (GB names N r many))).zip r).map fun p=>p.1 + p.2)=PL at *
 generalize (GB names N r many).map D.int=BB at *
 generalize (G0 names N r many).map D.int=HH at *
 unfold g_law_1b
 rw [au (env':=[some (.f,.lst (ns.map D.int)),some (.f,eN names ps),some (.f,eCh names arcs),some (.f,eCh names arcs),some (.f,.tup (r.map D.int)),some (.l .f,.lst HH),t6,t7]) (by simp only [pv,seval,op,JF,fh])]
 rw [au (env':=[some (.f,.lst (ns.map D.int)),some (.f,eN names ps),some (.f,eCh names arcs),some (.f,eCh names arcs),some (.f,.tup (r.map D.int)),some (.l .f,.lst HH),some (.l .f,.lst BB),t7]) (by
  generalize (az kY (ai 0) (aq (aZ qy (ag (ai 1) aB))))=GG at NY ⊢
  simp only [pv,seval,op,NY,lb,fb])]
 rw [au (env':=[some (.f,.lst (ns.map D.int)),some (.f,eN names ps),some (.f,eCh names arcs),some (.f,eCh names arcs),some (.f,.tup (r.map D.int)),some (.l .f,.lst HH),some (.l .f,.lst BB),some (.l .f,.lst BB)]) (by simp only [pv,seval,op,K3,fb])]
 rw [au (env':=[some (.f,.lst (ns.map D.int)),some (.f,eN names ps),some (.f,eCh names arcs),some (.f,eCh names arcs),some (.f,.tup (r.map D.int)),some (.l .f,.lst HH),some (.l .f,.lst BB),some (.l .f,.lst BB)]) (by simp only [pv,seval,op,Qm,Iq,RF,NP,hisp,SE,fM])]
 rw [au (env':=[some (.f,.lst (ns.map D.int)),some (.f,eN names ps),some (.f,eCh names arcs),some (.f,eCh names arcs),some (.f,.tup (r.map D.int)),some (.l .f,.lst HH),some (.l .f,.lst BB),some (.l .f,.lst [])]) (by simp only [pv,seval,op,xT,C6])]
 refine ⟨some (.l .f,.lst HH),some (.l .f,.lst BB),some (.l .f,.lst []),?_⟩
 simp only [pv,seval,op,K3,fb,hnb,Iq,RF,NP,hnp,fM]
theorem wQ:∀ ns:List Int,ns.length<=63->∃ o,An [.lst (ns.map D.int)]=.ok (o,.bl true):=by
 intro ns _
 obtain ⟨names,ps,S,A,n,en,er⟩:=EO ns 5
 have en:d5 [.lst (ns.map D.int),.int 5]=.ok (.f,eN names ps):=en
 have LV:=n.n3
 have hp9:=n.p9
 obtain ⟨N0,T0,c0⟩:=n.ra.sort.ck n.nn (by lia)
 obtain ⟨K,many,ra,eb⟩:=qe ns 2 (by decide) n er
 have eb:bg [.lst (ns.map D.int),eN names ps,.int 2]=.ok (.f,eCh names (b5 eJ K)):=eb
 have c1:aE [.lst (ns.map D.int),.int 1]=.ok (.f,.int (cell ns 1)):=jY ns 1
 have Lb:∀ (x y:List D),flatDs [.lst x,.lst y]=false:=fun _ _=>rfl
 unfold An CL
 rw [a7 (h:=by rfl)]
 rw [au (env':=[some (.f,.lst (ns.map D.int)),some (.f,eN names ps),none,none,none,none,none,none]) (by
  simp only [pv,seval,op,en]
  cases c9 (eN names ps) <;> rfl)]
 rw [au (env':=[some (.f,.lst (ns.map D.int)),some (.f,eN names ps),some (.f,eCh names (b5 eJ A)),none,none,none,none,none]) (by
  unfold eN at er ⊢
  unfold eCh
  simp only [pv,seval,op,er,Lb,fM,DH,DI])]
 obtain ⟨arcs,many,N,T,c,s3⟩:∃ arcs many N T,Ck names arcs many N T/\(HE (GC (bq HG (aq (az fL (aq (az eF (aq (cw aE (ag (ai 0) (ag (aq (aJ (.int 1))) aB)))) (aq (aJ (.int 256))))) (aq (aJ (.int 2))))) (aq (aJ (.int 1)))))
  (bM 2 (cw bg (ag (ai 0) (ag (ai 1) (ag (aq (aJ (.int 2))) aB)))))
  cP) [some (.f,.lst (ns.map D.int)),some (.f,eN names ps),some (.f,eCh names (b5 eJ A)),none,none,none,none,none]=.ok (.nx [some (.f,.lst (ns.map D.int)),some (.f,eN names ps),some (.f,eCh names arcs),none,none,none,none,none]):=by
  cases h:(cell ns 1 / 256 % 2 == 1) with
  | false=>
   refine ⟨b5 eJ A,S.length,N0,T0,c0,?_⟩
   simp only [pv,seval,op,c1,fN _ 256 (by decide) (by decide),iR _ 2 (by decide),h,fM]
  | true=>
   obtain ⟨N,T,c⟩:=ra.sort.ck n.nn (by lia)
   refine ⟨b5 eJ K,many,N,T,c,?_⟩
   simp only [pv,seval,op,c1,fN _ 256 (by decide) (by decide),iR _ 2 (by decide),h,eb]
   cases c9 (eCh names (b5 eJ K)) <;> rfl
 rw [au s3]
 rw [au (env':=[some (.f,.lst (ns.map D.int)),some (.f,eN names ps),some (.f,eCh names arcs),some (.f,eCh names arcs),none,none,none,none]) (by
  unfold eCh
  simp only [pv,seval,op])]
 obtain ⟨rs,hrs,ers⟩:=DB ns ps c LV hp9 n.po
 have KC:=qc rs
 obtain ⟨env',ef,t4,t5,t6,t7,rfl⟩:=for_list (a:=aw 4) (g:=g_law_1b) (e:=fun r:List Int=>D.tup (r.map D.int)) rs (fun i env=>∃ t4 t5 t6 t7,env=[some (.f,.lst (ns.map D.int)),some (.f,eN names ps),some (.f,eCh names arcs),some (.f,eCh names arcs),t4,t5,t6,t7]) (by
  rintro i r env hi ⟨t4,t5,t6,t7,rfl⟩
  obtain ⟨u5,u6,u7,e⟩:=law_1 ns ps c LV r (hrs r (RW hi)) t5 t6 t7
  exact ⟨_,rfl,_,e,_,_,_,_,rfl⟩) _ ⟨none,none,none,none,rfl⟩
 rw [au (env':=_) (by
  unfold vZ
  simp only [pv,seval,op,ers,KC]
  exact ef)]
 unfold r9
 have hee:=wg _ (ya names arcs)
 exact ⟨.f,by simp only [pv,seval,op,hee]⟩
end LW
namespace FIN
open PySem PySem.Spec PyProof.Rows L2 NX PV LW
theorem DD {l:PySem.W.OpenLaw} {w:World} {K:W.Frag} {h:Heap} {mg:Str->Option Value} {fa f:Addr} {od an:Option Addr} {sl:Array (Option Value)} {oc kV dc pm cd ct:Value} (X:K.In h) (G:h.Ns mainGlobals mg) (hfa:mg "law" = some (.ref fa))
  (aL:PySem.W.nsIn K mainGlobals "law" = some (some (.ref f))) (lL:K.lookup f=some ⟨oc,od,.func (PySem.W.fnOf "law" "law" (g5 oC) (ft oC) (defScope oC) .none kV dc pm an cd ct),sl⟩) (cL:PySem.W.codeIn K cd "law" = true) (kL:PySem.W.keepIn K (.ref f)=true)
  (IJ:Def K mg "product" mf) (Kw:Def K mg "less" v5) (HI:Def K mg "states_of" ji) (IK:Def K mg "tree_of" mh) (IL:Def K mg "ways_of" ml) (IM:Def K mg "counted" mn) (HJ:Def K mg "counts_of" jj) (Ig:Def K mg "rings_of" kg) (Ih:Def K mg "has_arcs" kh) (Hw:Def K mg "is_stretch" iw) (Ii:Def K mg "beads_of" ki) (JG:Def K mg "taken" qF) (Ij:Def K mg "place_of" kj) (He:Def K mg "_law_cell_at" fX) (Hx:Def K mg "_law_mixed" iy) (Hy:Def K mg "_law_names" iz) (HK:Def K mg "_law_step" jl) (Ik:Def K mg "_law_run" kl) (HL:Def K mg "_law_fold" jm) (Hz:Def K mg "_law_place" iA) (Hl:Def K mg "_law_scaled" gL) (Hm:Def K mg "_law_places" gM) (HA:Def K mg "_law_moves" iC) (Il:Def K mg "_law_net" km) (Hn:Def K mg "_law_tidied" gN) (HM:Def K mg "_law_bent" jo) (GJ:Def K mg "_law_bent_chart" eh) (Ho:Def K mg "_law_levels" gO) (GK:Def K mg "_law_is_stretch" eB) (GR:Def K mg "_law_place_due" eU) (HB:Def K mg "_law_whole" iE) (GW:Def K mg "_law_is_place" fI) (HN:Def K mg "_law_rows" jq) (GI:Def K mg "_law_beads_right" dU)
  (JV:PySem.W.nsIn K mainGlobals "all" = some none) (Jc:PySem.W.nsIn K mainGlobals "any" = some none) (Jd:PySem.W.nsIn K mainGlobals "bool" = some none) (Je:PySem.W.nsIn K mainGlobals "int" = some none) (Gn:PySem.W.nsIn K mainGlobals "isinstance" = some none) (Gw:PySem.W.nsIn K mainGlobals "len" = some none) (Ic:PySem.W.nsIn K mainGlobals "list" = some none) (GX:PySem.W.nsIn K mainGlobals "max" = some none) (Hj:PySem.W.nsIn K mainGlobals "min" = some none) (Gm:PySem.W.nsIn K mainGlobals "range" = some none) (GF:PySem.W.nsIn K mainGlobals "sorted" = some none) (JT:PySem.W.nsIn K mainGlobals "sum" = some none) (Ge:PySem.W.nsIn K mainGlobals "tuple" = some none) (Hr:PySem.W.nsIn K mainGlobals "zip" = some none) :
  ∃ fd:FuncData,(∀ (s:Shared) (v:Value),BindsTo s fd ⟨[v],[]⟩ [("_law_script",v)])/\∀ base:Heap,K.In base->base.Ns mainGlobals mg->FnOk l.prog w K mg base Li 7 fa fd ["_law_script"] (xH K):=by
 have e:=hfa.symm.trans (PySem.W.mg_of X G aL)
 cases e
 have F:=yk (st:=oC) lL cL kL
 have Pc:=Sl X G JV
 have MX:=Sl X G Jc
 have y_bool:=Sl X G Jd
 have MY:=Sl X G Je
 have HC:=Sl X G Gn
 have HZ:=Sl X G Gw
 have LJ:=Sl X G Ic
 have J2:=Sl X G GX
 have J3:=Sl X G Hj
 have GS:=Sl X G Gm
 have Jh:=Sl X G GF
 have Pd:=Sl X G JT
 have GL:=Sl X G Ge
 have J4:=Sl X G Hr
 refine ⟨PySem.W.fnOf "law" "law" (g5 oC) (ft oC) (defScope oC) .none kV dc pm an cd ct,fun s v=>.of_eq rfl,fun base _ _=>?_⟩
 have Ju:Ct l.prog w K mg base "product" 1 (spF K cK):=tZ IJ Pd J4
 have NZ:Ct l.prog w K mg base "less" 1 (spF K lX):=Aq Kw GL J4
 have J5:Ct l.prog w K mg base "states_of" 1 (spF K dY):=pU HI J2
 have Jv:Ct l.prog w K mg base "tree_of" 1 (spF K di):=t9 IK HZ
 have Jw:Ct l.prog w K mg base "ways_of" 2 (spF K cU):=ua IL J5 Jv GS
 have Jx:Ct l.prog w K mg base "counted" 1 (spF K dj):=uc IM GL
 have J6:Ct l.prog w K mg base "counts_of" 3 (spF K dv):=pW HJ Jx Jw
 have Kx:Ct l.prog w K mg base "rings_of" 3 (spF K dZ):=qB Ig Jx NZ Jv Jw
 have Ky:Ct l.prog w K mg base "has_arcs" 1 (spF K dD):=qD Ih MX
 have JH:Ct l.prog w K mg base "is_stretch" 4 (spF K cy):=oq Hw Ky Ju Kx Pc MX J4
 have Ji:Ct l.prog w K mg base "beads_of" 5 (spF K cu):=qE Ii J6 JH Ju J3
 have MJ:Ct l.prog w K mg base "taken" 1 (spF K ia):=xN JG J2 J3
 have Kz:Ct l.prog w K mg base "place_of" 6 (spF K dE):=qG Ij Ji MJ GL J4
 have GA:Ct l.prog w K mg base "_law_cell_at" 1 (spF K aE):=mw He HZ
 have GN:Ct l.prog w K mg base "_law_mixed" 1 (spF K aW):=ou Hx
 have JI:Ct l.prog w K mg base "_law_names" 2 (spF K dF):=ox Hy GN GS Jh
 have J7:Ct l.prog w K mg base "_law_step" 1 (spF K dw):=pX HK GL J4
 have Im:Ct l.prog w K mg base "_law_run" 2 (spF K bJ):=qH Ik J7 HZ Jh GL
 have J8:Ct l.prog w K mg base "_law_fold" 2 (spF K d4):=pY HL GN
 have JJ:Ct l.prog w K mg base "_law_place" 2 (spF K dG):=oy Hz GN J2 GS
 have Jq:Ct l.prog w K mg base "_law_scaled" 1 (spF K cB):=mQ Hl GL
 have Jr:Ct l.prog w K mg base "_law_places" 3 (spF K cY):=mR Hm GA J8 JJ Jq GS
 have JK:Ct l.prog w K mg base "_law_moves" 3 (spF K dH):=oz HA GA JI GL
 have KA:Ct l.prog w K mg base "_law_net" 4 (spF K d5):=qI Il JK Jr Im HZ GL
 have Js:Ct l.prog w K mg base "_law_tidied" 1 (spF K cC):=mS Hn HZ Jh
 have J9:Ct l.prog w K mg base "_law_bent" 1 (spF K d6):=pZ HM HZ J2 J3 GS
 have Iw:Ct l.prog w K mg base "_law_bent_chart" 3 (spF K bg):=jQ GJ J9 GA GN Im Js GS
 have Hq:Ct l.prog w K mg base "_law_levels" 1 (spF K bj):=mT Ho HZ GS
 have Iy:Ct l.prog w K mg base "_law_is_stretch" 2 (spF K bS):=jR GK Hq HZ GS
 have IP:Ct l.prog w K mg base "_law_place_due" 2 (spF K bL):=kn GR Hq HZ J2 J3 GS GL
 have Iz:Ct l.prog w K mg base "_law_whole" 1 (spF K m__law_whole):=oB HB y_bool MY HC
 have IU:Ct l.prog w K mg base "_law_is_place" 2 (spF K cv):=k7 GW Iz HC GL
 have Ka:Ct l.prog w K mg base "_law_rows" 3 (spF K d7):=p3 HN GA Iy GN MY HZ GS GL
 have Io:Ct l.prog w K mg base "_law_beads_right" 2 (spF K bK):=jr GI Iz HC LJ
 exact (CM F Io Iw GA IU Hq KA IP Ka Im Ji Kz LJ J3).imp (Cv wQ)
end FIN
def PySem.W.Fast.tw16461694007520662049:=0
def PySem.W.Fast.tw8543278163716372188:=0
def PySem.W.Fast.tw14869342138227395338:=0
def PySem.W.Fast.tw1099606119121687389:=0
def PySem.W.Fast.tw10942686133633337603:=0
def PySem.W.Fast.tw517245184861581361:=0
def PySem.W.Fast.tw9646384786313976882:=0
def PySem.W.Fast.tw17948435831439877821:=0
def PySem.W.Fast.tw8203423806941570575:=0
def PySem.W.Fast.tw8855600672064048906:=0
def PySem.W.Fast.tw16800286008148674481:=0
def PySem.W.Fast.tw1039959974053086047:=0
def PySem.W.Fast.tw16589395173819824965:=0
def PySem.W.Fast.tw5266326824885131013:=0
def PySem.W.Fast.tw2009050853596550653:=0
def PySem.W.Fast.tw5665210168395137039:=0
def PySem.W.Fast.tw9867961727001436472:=0
def PySem.W.Fast.tw17862739936541105649:=0
def PySem.W.Fast.tw4857784519797280626:=0
def PySem.W.Fast.tw13471521681205976601:=0
def PySem.W.Fast.tw7236314510924153087:=0
def PySem.W.Fast.tw15222924012826875968:=0
def PySem.W.Fast.tw13503893785262542620:=0
def PySem.W.Fast.tw1642474316046076211:=0
open PySem PySem.W PyProof.Rows
set_option maxRecDepth 100000 in
set_option maxHeartbeats 0 in
theorem PySem.Challenge.cw_netfinder_k52_beads_and_places_holds : PySem.Challenge.rw_netfinder_k52_beads_and_places.Holds := by
  w_on; o_law; k_head; (case hw => w_witness2)
  k_fill
  refine PV.FN (l := PySem.Challenge.rw_netfinder_k52_beads_and_places) (k := 7) (x := "_law_script") rfl rfl ⟨rfl, by decide, by decide⟩ (fun w h Y => PySem.W.kIn_of Y) ?F
  case F =>
    intro w mg fa h KX G Ot
    refine' FIN.DD KX G Ot ?aL ?lL ?cL ?kL ?IJ ?Kw ?HI ?IK ?IL ?IM ?HJ ?Ig ?Ih ?Hw ?Ii ?JG ?Ij ?He ?Hx ?Hy ?HK ?Ik ?HL ?Hz ?Hl ?Hm ?HA ?Il ?Hn ?HM ?GJ ?Ho ?GK ?GR ?HB ?GW ?HN ?GI ?JV ?Jc ?Jd ?Je ?Gn ?Gw ?Ic ?GX ?Hj ?Gm ?GF ?JT ?Ge ?Hr
    (case aL => k_is); (case lL => k_is); (case cL => k_is); (case kL => k_is)
    (case IJ => (refine' PV.bI KX G ?a ?l ?c ?k; (case a => k_is); (case l => k_is); (case c => k_is); (case k => k_is)))
    (case Kw => (refine' PV.bI KX G ?a ?l ?c ?k; (case a => k_is); (case l => k_is); (case c => k_is); (case k => k_is)))
    (case HI => (refine' PV.bI KX G ?a ?l ?c ?k; (case a => k_is); (case l => k_is); (case c => k_is); (case k => k_is)))
    (case IK => (refine' PV.bI KX G ?a ?l ?c ?k; (case a => k_is); (case l => k_is); (case c => k_is); (case k => k_is)))
    (case IL => (refine' PV.bI KX G ?a ?l ?c ?k; (case a => k_is); (case l => k_is); (case c => k_is); (case k => k_is)))
    (case IM => (refine' PV.bI KX G ?a ?l ?c ?k; (case a => k_is); (case l => k_is); (case c => k_is); (case k => k_is)))
    (case HJ => (refine' PV.bI KX G ?a ?l ?c ?k; (case a => k_is); (case l => k_is); (case c => k_is); (case k => k_is)))
    (case Ig => (refine' PV.bI KX G ?a ?l ?c ?k; (case a => k_is); (case l => k_is); (case c => k_is); (case k => k_is)))
    (case Ih => (refine' PV.bI KX G ?a ?l ?c ?k; (case a => k_is); (case l => k_is); (case c => k_is); (case k => k_is)))
    (case Hw => (refine' PV.bI KX G ?a ?l ?c ?k; (case a => k_is); (case l => k_is); (case c => k_is); (case k => k_is)))
    (case Ii => (refine' PV.bI KX G ?a ?l ?c ?k; (case a => k_is); (case l => k_is); (case c => k_is); (case k => k_is)))
    (case JG => (refine' PV.bI KX G ?a ?l ?c ?k; (case a => k_is); (case l => k_is); (case c => k_is); (case k => k_is)))
    (case Ij => (refine' PV.bI KX G ?a ?l ?c ?k; (case a => k_is); (case l => k_is); (case c => k_is); (case k => k_is)))
    (case He => (refine' PV.bI KX G ?a ?l ?c ?k; (case a => k_is); (case l => k_is); (case c => k_is); (case k => k_is)))
    (case Hx => (refine' PV.bI KX G ?a ?l ?c ?k; (case a => k_is); (case l => k_is); (case c => k_is); (case k => k_is)))
    (case Hy => (refine' PV.bI KX G ?a ?l ?c ?k; (case a => k_is); (case l => k_is); (case c => k_is); (case k => k_is)))
    (case HK => (refine' PV.bI KX G ?a ?l ?c ?k; (case a => k_is); (case l => k_is); (case c => k_is); (case k => k_is)))
    (case Ik => (refine' PV.bI KX G ?a ?l ?c ?k; (case a => k_is); (case l => k_is); (case c => k_is); (case k => k_is)))
    (case HL => (refine' PV.bI KX G ?a ?l ?c ?k; (case a => k_is); (case l => k_is); (case c => k_is); (case k => k_is)))
    (case Hz => (refine' PV.bI KX G ?a ?l ?c ?k; (case a => k_is); (case l => k_is); (case c => k_is); (case k => k_is)))
    (case Hl => (refine' PV.bI KX G ?a ?l ?c ?k; (case a => k_is); (case l => k_is); (case c => k_is); (case k => k_is)))
    (case Hm => (refine' PV.bI KX G ?a ?l ?c ?k; (case a => k_is); (case l => k_is); (case c => k_is); (case k => k_is)))
    (case HA => (refine' PV.bI KX G ?a ?l ?c ?k; (case a => k_is); (case l => k_is); (case c => k_is); (case k => k_is)))
    (case Il => (refine' PV.bI KX G ?a ?l ?c ?k; (case a => k_is); (case l => k_is); (case c => k_is); (case k => k_is)))
    (case Hn => (refine' PV.bI KX G ?a ?l ?c ?k; (case a => k_is); (case l => k_is); (case c => k_is); (case k => k_is)))
    (case HM => (refine' PV.bI KX G ?a ?l ?c ?k; (case a => k_is); (case l => k_is); (case c => k_is); (case k => k_is)))
    (case GJ => (refine' PV.bI KX G ?a ?l ?c ?k; (case a => k_is); (case l => k_is); (case c => k_is); (case k => k_is)))
    (case Ho => (refine' PV.bI KX G ?a ?l ?c ?k; (case a => k_is); (case l => k_is); (case c => k_is); (case k => k_is)))
    (case GK => (refine' PV.bI KX G ?a ?l ?c ?k; (case a => k_is); (case l => k_is); (case c => k_is); (case k => k_is)))
    (case GR => (refine' PV.bI KX G ?a ?l ?c ?k; (case a => k_is); (case l => k_is); (case c => k_is); (case k => k_is)))
    (case HB => (refine' PV.bI KX G ?a ?l ?c ?k; (case a => k_is); (case l => k_is); (case c => k_is); (case k => k_is)))
    (case GW => (refine' PV.bI KX G ?a ?l ?c ?k; (case a => k_is); (case l => k_is); (case c => k_is); (case k => k_is)))
    (case HN => (refine' PV.bI KX G ?a ?l ?c ?k; (case a => k_is); (case l => k_is); (case c => k_is); (case k => k_is)))
    (case GI => (refine' PV.bI KX G ?a ?l ?c ?k; (case a => k_is); (case l => k_is); (case c => k_is); (case k => k_is)))
    (case JV => k_is)
    (case Jc => k_is)
    (case Jd => k_is)
    (case Je => k_is)
    (case Gn => k_is)
    (case Gw => k_is)
    (case Ic => k_is)
    (case GX => k_is)
    (case Hj => k_is)
    (case Gm => k_is)
    (case GF => k_is)
    (case JT => k_is)
    (case Ge => k_is)
    (case Hr => k_is)
