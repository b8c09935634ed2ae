import PyProof.Rows.All
import Wide.All
import OpenK.AllK
import Wide.FinOn
import Lean
import PyProof.EqAt
import PyProof.EqKinds
import PyProof.TupleCall
import PySem.Challenge.RW_netfinder_k75_places_left_out
set_option Elab.async false
set_option linter.all false
set_option maxRecDepth 100000
set_option compiler.extract_closed false
set_option bootstrap.genMatcherCode false
noncomputable section
abbrev Yu:=PySem.Value
abbrev Yw:=PySem.Shared
abbrev Yx:=PySem.Addr
abbrev Yy:=PySem.Program
abbrev Yz:=PySem.Around
abbrev YB:=PySem.Heap
def Zz{a b:Prop}(x:a)(y:b):a∧b:=⟨x,y⟩
def UX:=@PySem.wpAny_bind
def UY:=@List.mem_cons_self
def UZ:=@List.length_map
def U0:=@List.size_toArray
def U1:=@PySem.wpAny_pure
def U2:=@List.mem_append_right
def U3:=@Bool.false_ne_true
def U4:=@List.mem_cons_of_mem
def U5:=@if_pos
def U6:=@Nat.le_refl
def U7:=@List.mem_append_left
def U8:=@if_neg
def U9:=@PySem.Heap.lt_size
def Va:=@Bool.and_eq_true
def Vb:=@List.mem_cons
def Vc:=@List.length_cons
def Vd:=@Nat.lt_of_lt_of_le
def Ve:=@decide_eq_true_eq
def Vf:=@List.map_cons
def Vg:=@Option.some.inj
def Vh:=@List.map_append
def Vi:=@List.length_range
def Vj:=@List.map_map
def Vk:=@Nat.ne_of_lt
def Vl:=@Int.eq_ofNat_of_zero_le
def Vm:=@List.mem_of_getElem?
def Vn:=@List.mem_singleton
def Vo:=@List.append_nil
def Vp:=@Bool.eq_iff_iff
def Vq:=@decide_eq_false
def Vr:=@List.length_append
def Vs:=@List.nodup_append
def Vt:=@List.length_take
def Vu:=@decide_eq_true
def Vv:=@List.mem_append
def Vx:=@Nat.le_trans
def Vy:=@List.all_eq_true
def Vz:=@List.nodup_cons
def VA:=@Option.map_eq_some_iff
def VB:=@Option.bind_eq_some_iff
def VC:=@List.length_singleton
def VD:=@Nat.zero_le
def VE:=@PySem.PassesOwn.never
def VF:=@List.mem_range
def VG:=@Int.toNat_natCast
def VH:=@List.append_assoc
def VI:=@List.map_nil
def VJ:=@PySem.W.mg_none_of
def VL:=@beq_iff_eq
def VM:=@PyProof.Rows.callWith_type1
def VN:=@PySem.wpAny_newObj_type
def VO:=@List.length_set
def VP:=@List.mem_iff_getElem?
def VQ:=@PySem.wpAny_call_entry
def VR:=@List.eq_nil_of_length_eq_zero
def VS:=@List.mem_of_mem_eraseIdx
def VT:=@PySem.sizeLine_eq
def VU:=@PySem.wpAny_field
def VW:=@List.map_congr_left
def VX:=@List.mem_map
def VY:=@List.idxOf_lt_length_of_mem
def VZ:=@decide_eq_false_iff_not
def V0:=@List.zip_cons_cons
def V1:=@List.lookup_cons
def V2:=@beq_eq_false_iff_ne
def V3:=@Array.length_toList
def V4:=@Option.isSome_iff_exists
def V5:=@congrArg
def V6:=@PySem.wpAny_seqItems
def V7:=@Bool.false_eq_true
def V8:=@List.length_nil
def V9:=@Bool.not_true
def Wa:=@List.length_drop
def Wb:=@List.not_mem_nil
def Wc:=@List.take_of_length_le
def Wd:=@PyProof.Rows.slot_tuple_getitem
def We:=@List.replicate_succ
def Wf:=@Bool.and_self
def Wg:=@beq_self_eq_true
def Wh:=@PySem.wpAny_typeNameOfWhole_keyiter
def Wi:=@List.any_eq_true
def Wj:=@PySem.F.slot_dict_keyiterator_next
def Wl:=@List.set_set
def Wm:=@List.all_map
def Wn:=@PySem.wpAny_truthy_bool
def Wo:=@List.flatten_cons
def Wq:=@PySem.mem_of_lookup
def Wr:=@PyProof.Rows.KeyOrd.kle_refl
def Ws:=@PySem.W.kia_one
def Wt:=@Ne.symm
def Wu:=@PySem.F.slot_tuple_iterator_next
def Wv:=@Option.getD_none
def Wx:=@PySem.F.plain_max_loop
def Wy:=@List.cons_append
def Wz:=@PySem.wpAny_pyIter_tuple
def WA:=@PySem.wpAny_holding
def WB:=@PySem.wpAny_setField_rec
def WC:=@List.cons.inj
def WD:=@Bool.and_true
def WE:=@decide_false
def WG:=@List.pairwise_iff_getElem
def WH:=@List.nodup_nil
def WI:=@PySem.wpAny_passesOwn
def WJ:=@PySem.wpAny_pyIter_list
def WK:=@List.of_mem_zip
def WL:=@PySem.F.slot_tuple_index
def WM:=@List.filterMap_cons_none
def WN:=@List.filterMap_cons_some
def WO:=@Nat.lt_irrefl
def WQ:=@List.getElem_of_mem
def WR:=@List.all_cons
def WS:=@PySem.F.plainAttrs_list
def WT:=@List.length_eraseIdx_le
def WU:=@Nat.lt_succ_self
def WV:=@List.getElem_mem
def WW:=@PySem.Heap.size_push
def WX:=@PySem.wpAny_Call_Name_kw
def WY:=@List.pairwise_cons
def WZ:=@List.mem_filter
def W0:=@List.foldl_cons
def W2:=@Nat.le_succ
def W3:=@PySem.wpAny_of_eq
def W4:=@List.nil_append
def W5:=@decide_true
def W6:=@of_decide_eq_true
def W7:=@List.nodup_iff_pairwise_ne
def W8:=@if_true
def W9:=@PySem.Around.under_plainId
def Xa:=@PySem.Calls.call_function_entry
def Xb:=@List.drop_eq_getElem_cons
def Xc:=@Bool.not_false
def Xd:=@Option.getD_some
def Xe:=@PySem.wpAny_letGo
def Xf:=@PySem.Heap.SameBut.update
def Xg:=@PySem.wpAny_mono
def Xh:=@PySem.F.args_tuple_add_2
def Xi:=@PySem.wpAny_typeOf
def Xj:=@List.any_map
def Xk:=@PySem.F.type_tuple_index
def Xl:=@PySem.F.entry_tuple_add
def Xm:=@PySem.Obj.data_mapFields
def Xn:=@PySem.tupleKind_room_in1
def Xo:=@List.length_zip
def Xp:=@Nat.min_eq_left
def Xq:=@Option.isNone_some
def Xr:=@PySem.wpAny_pyIter_rangeiter
def Xs:=@PySem.F.slot_tuple_add
def Xt:=@PySem.Calls.callWith_builtin
def Xu:=@List.range_succ_eq_map
def Xv:=@List.length_pos_of_mem
def Xw:=@PyProof.Rows.KeyOrd.kle_of_klt
def Xx:=@List.ext_getElem?
def Xy:=@PySem.wpAny_dictEntries
def Xz:=@List.pairwise_map
def XA:=@Bool.false_and
def XB:=@if_false
def XC:=@PySem.wpAny_tryCatch
def XD:=@PySem.F.args_dict_keyiterator_next_1
def XE:=@List.take_append_drop
def XF:=@PyProof.Rows.KeyOrd.kle_trans
def XG:=@PySem.F.entry_dict_keyiterator_next
def XH:=@PySem.wpAny_updateSeq_pair
def XI:=@List.mem_of_mem_take
def XJ:=@PySem.Paired.length
def XM:=@PySem.plainId_quiet
def XN:=@PySem.F.args_tuple_iterator_next_1
def XO:=@List.dropLast_cons_of_ne_nil
def XQ:=@List.map_take
def XR:=@List.filterMap_cons
def XS:=@PySem.wpAny_execs_nil
def XT:=@List.toList_toArray
def XU:=@PySem.codeAny_builtin
def XW:=@List.length_pos_iff
def XX:=@PySem.F.entry_tuple_iterator_next
def XY:=@PySem.F.slot_zip_next
def XZ:=@Array.getD_eq_getD_getElem?
def X0:=@Int.natCast_add
def X1:=@PySem.Calls.Name_function_global
def X2:=@PySem.F.plain_reversed_new
def X3:=@List.mem_filterMap
def X4:=@List.getElem_range
def X5:=@Int.cast_ofNat_Int
def X6:=@PySem.wpAny_setField
def X7:=@Bool.and_false
def X8:=@List.take_sublist
def X9:=@PySem.wpAny_getItem_list_slice
def Ya:=@PySem.call_meets
def Yb:=@bne_self_eq_false
def Yc:=@PySem.wpAny_comprehension_free
def Yd:=@Nat.lt_succ_of_lt
def Ye:=@PySem.wpAny_rule
def Yf:=@Option.isSome_map
def Yg:=@PySem.AutoSeq1.sub_tuple_tuple
def Yh:=@List.length_erase_of_mem
def Yi:=@Option.some.injEq
def Yj:=@List.findIdx_cons
def Yk:=@Nat.lt_trichotomy
def Yl:=@PySem.wpAny_onRaise
def Ym:=@PySem.wpAny_attempt
def Yn:=@List.not_lt
def Yo:=@PySem.F.slot_list_index
def Yp:=@PySem.noFill_tuple_add
def Yq:=@PySem.F.entry_max_loop
def Yr:=@PySem.wpAny_forIn_list
def Ys:=@List.drop_length
def Yt:=@List.cons_ne_nil
def Yv:=@PySem.W.cellsFrom_some
def YA:=@List.Perm.append_right
def YC:=@List.drop_eq_nil_of_le
def YD:=@Nat.le_of_lt
def YF:=@PySem.concat_meets
def YG:=@List.forIn_cons
def YH:=@Bool.or_eq_true
def YI:=@PySem.wpAny_updateSeq
def YK:=@PySem.wpAny_dictEpoch
def YM:=@List.Perm.append_left
def YN:=@List.perm_append_comm
def YO:=@Classical.choose_spec
def YQ:=@Option.map_some
def YR:=@Nat.sub_self
def YS:=@PySem.typeIs_str
def YT:=@PySem.typeIs_int
def YX:=@List.getElem_toArray
def YY:=@List.findIdx_getElem
def YZ:=@List.drop_zero
def Y0:=@List.take_zero
def Y4:=@List.take_succ_cons
def Y5:=@List.drop_succ_cons
def Za:=@PySem.wpAny_standAt
def Zb:=@PySem.seq_tuple_add
def Ze:=@Nat.lt_of_le_of_lt
def Zg:=@PySem.wpAny_newList
def Zh:=@of_decide_eq_false
def Zi:=@List.any_cons
def Zj:=@List.sum_cons
def Zk:=@List.take_nil
def Zl:=@Int.emod_lt_of_pos
def Zm:=@List.map_drop
def Zn:=@Bool.true_and
def Zo:=@Option.isNone_none
def ZG:=@Nat.ne_of_gt
def ZK:=@Nat.le_of_eq
def ZL:=@Nat.mul_comm
def ZM:=@Nat.zero_add
def Z5:=@or_false
namespace L2
open PySem PySem.Spec PyProof.Rows
def IsTupN(h:YB)(a:Yx)(items:Array Yu):Prop:=∃o,h.get? a=some o/\o.cls=.type "tuple"/\(∃n,o.data=.seq items n)/\o.dict=none
def IsTupN.tup{h:YB}{a:Yx}{items:Array Yu}(p:IsTupN h a items):IsTup h a items:=by
 obtain⟨o,e,c,n,_⟩:=p;exact⟨o,e,c,n⟩
def IsTupN.new(h:YB)(items:Array Yu):IsTupN (h.push {cls:=.type "tuple",data:=.seq items}) h.objs.size items:=⟨_,Heap.get?_push_size _ rfl,rfl,⟨_,rfl⟩,rfl⟩
abbrev Key:=Sum Int Str
def pV:Key->Yu->Bool
 | .inl k,v=>Value.isInt k v
 | .inr x,v=>Value.isStrOf x v
def HJ(w:World):Key->Int
 | .inl k=>hashInt k
 | .inr x=>hashStr w x
def b7:∀{k:Key}{v:Yu},pV k v=true->(∃i t,k=Sum.inl i/\v=Value.int i t)\/(∃x t,k=Sum.inr x/\v=Value.str x t)
 | .inl i,v,h=>by
  obtain⟨t,e⟩:=Value.isInt_shape (k:=i) (v:=v) h;exact .inl ⟨i,t,rfl,e⟩
 | .inr x,v,h=>by
  obtain⟨t,e⟩:=Value.isStrOf_shape (x:=x) (v:=v) h;exact .inr ⟨x,t,rfl,e⟩
def uA(i:Int)(t:Tok):pV (.inl i) (.int i t)=true:=by simp[pV,Value.isInt]
def uB(x:Str)(t:Tok):pV (.inr x) (.str x t)=true:=by simp[pV,Value.isStrOf]
def CL(a b:Int):decide ((Sum.inl a:Key)=Sum.inl b)=(a==b):=by
 by_cases e:a=b
 .subst e;simp
 .have h:¬ (Sum.inl a:Key)=Sum.inl b:=fun q=>e (Sum.inl.inj q)
  rw[Vq h];exact(V2.mpr e).symm
def CM(a b:Str):decide ((Sum.inr a:Key)=Sum.inr b)=decide (a=b):=by
 by_cases e:a=b
 .subst e;simp
 .have h:¬ (Sum.inr a:Key)=Sum.inr b:=fun q=>e (Sum.inr.inj q)
  rw[Vq h,Vq e]
def CN(a:Int)(b:Str):decide ((Sum.inl a:Key)=Sum.inr b)=false:=Vq (fun q=>nomatch q)
def CO(a:Str)(b:Int):decide ((Sum.inr a:Key)=Sum.inl b)=false:=Vq (fun q=>nomatch q)
noncomputable def mixKind(prog:Yy)(w:World):PySem.KeyKind prog w Key where
 is:=pV
 hash:=HJ w
 inj:=fun v a b ha hb=>by
  rcases b7 ha with⟨i,t,rfl,rfl⟩|⟨x,t,rfl,rfl⟩
  .rcases b7 hb with⟨j,u,rfl,e⟩|⟨y,u,rfl,e⟩
   .injection e with e1 _;rw[e1]
   .exact nomatch e
  .rcases b7 hb with⟨j,u,rfl,e⟩|⟨y,u,rfl,e⟩
   .exact nomatch e
   .injection e with e1 _;rw[e1]
 byValue:=fun k v h=>by
  rcases b7 h with⟨i,t,rfl,rfl⟩|⟨x,t,rfl,rfl⟩ <;> rfl
 pyHash:=fun hv h=>by
  rcases b7 hv with⟨i,t,rfl,rfl⟩|⟨x,t,rfl,rfl⟩
  .exact wpAny_pyHash_int h
  .exact wpAny_pyHash_str h
 eqBool:=fun hu hv h=>by
  rcases b7 hu with⟨i,t,rfl,rfl⟩|⟨x,t,rfl,rfl⟩
  .rcases b7 hv with⟨j,u,rfl,rfl⟩|⟨y,u,rfl,rfl⟩
   .rw[CL]at h;exact wpAny_eqBool_int h
   .rw[CN]at h;exact SeqAt.EqAt.int_str i t y u _ _ _ _ h
  .rcases b7 hv with⟨j,u,rfl,rfl⟩|⟨y,u,rfl,rfl⟩
   .rw[CO]at h;exact SeqAt.EqAt.str_int x t j u _ _ _ _ h
   .rw[CM]at h;exact wpAny_eqBool_str h
 «strs»:=fun k x t v h=>by
  rcases b7 h with⟨i,u,rfl,e⟩|⟨y,u,rfl,e⟩
  .exact nomatch e
  .injection e with e1 _;subst e1;cases v <;> rfl
def sZ(prog:Yy)(w:World)(k:Key)(v:Yu):(mixKind prog w).is k v=pV k v:=rfl
def pW(prog:Yy)(w:World)(i:Int)(t:Tok):(mixKind prog w).is (.inl i) (.int i t)=true:=uA i t
def pX(prog:Yy)(w:World)(x:Str)(t:Tok):(mixKind prog w).is (.inr x) (.str x t)=true:=uB x t
inductive V where
 |non|bl (b:Bool)|int (i:Int)|str (x:Str)|byt (b:Array UInt8)|flt (b:UInt64)|ref (a:Yx)|ty (n:String)
 deriving DecidableEq
noncomputable def RelV:V->Yu->Prop
 | .non,u=>u=Value.none
 | .bl b,u=>u=Value.bool b
 | .int i,u=>∃t,u=Value.int i t
 | .str x,u=>∃t,u=Value.str x t
 | .byt b,u=>∃t,u=Value.bytes b t
 | .flt b,u=>∃t,u=Value.float b t
 | .ref a,u=>u=Value.ref a
 | .ty n,u=>u=Value.type n
abbrev Vals:List V->List Yu->Prop:=Paired RelV
theorem Vals.length{xs:List V}{us:List Yu}(r:Vals xs us):xs.length=us.length:=XJ r
theorem Vals.get:∀{xs:List V}{us:List Yu}{i:Nat}{x:V},Vals xs us->xs[i]?=some x->∃u,us[i]?=some u/\RelV x u
 |_,_,_,_,.nil,e=>by simp at e
 |_,_,0,_,.cons r _,e=>by simp at e;subst e;exact⟨_,rfl,r⟩
 |_,_,i+1,x,.cons _ t,e=>by
  obtain⟨u,h1,h2⟩:=Vals.get (i:=i) (x:=x) t (by simpa using e);exact⟨u,by simpa using h1,h2⟩
theorem Vals.set{x:V}{u:Yu}(r:RelV x u):∀{xs:List V}{us:List Yu}(i:Nat),Vals xs us->Vals (xs.set i x) (us.set i u)
 |_,_,_,.nil=>.nil
 |_,_,0,.cons _ t=>.cons r t
 |_,_,i+1,.cons q t=>.cons q (Vals.set r i t)
theorem Vals.append:∀{xs ys:List V}{us ws:List Yu},Vals xs us->Vals ys ws->Vals (xs++ys) (us++ws)
 |_,_,_,_,.nil,s=>s
 |_,_,_,_,.cons r t,s=>.cons r (Vals.append t s)
theorem Vals.take:∀{xs:List V}{us:List Yu}(n:Nat),Vals xs us->Vals (xs.take n) (us.take n)
 |_,_,0,_=>.nil
 |_,_,_+1,.nil=>.nil
 |_,_,n+1,.cons r t=>.cons r (Vals.take n t)
theorem Vals.drop:∀{xs:List V}{us:List Yu}(n:Nat),Vals xs us->Vals (xs.drop n) (us.drop n)
 |_,_,0,r=>r
 |_,_,_+1,.nil=>.nil
 |_,_,n+1,.cons _ t=>Vals.drop n t
def Vals.none_of:∀{xs:List V}{us:List Yu}{i:Nat},Vals xs us->xs[i]?=none->us[i]?=none:=fun{xs us i} r e=>by
 have h1:=r.length;have h2:xs.length<=i:=List.getElem?_eq_none_iff.mp e;exact List.getElem?_eq_none_iff.mpr (by lia)
def RelO:Option V->Option Yu->Prop
 |some v,some u=>RelV v u
 |none,none=>True
 |_,_=>False
def KV{κ:Type}:List (κ×V)->List (κ×Yu)->Prop:=Paired fun(p:κ×V) (q:κ×Yu)=>p.1=q.1/\RelV p.2 q.2
def kV:Key->V
 | .inl i=>.int i
 | .inr x=>.str x
inductive HO where
 |lst (xs:List V)
 |tup (xs:List V)
 |dK (kvs:List (Key×V))|dT (kvs:List (List Key×V))
 |set (S:Int->Bool) (n:Nat)
 |ins (C dx:Yx) (fs:List (Str×V))
 |own (x:Yx)
 |xd (fs:List (Str×V))
 |met (f x:Yx)
 |rng (lo hi:Int)
 |frz (o:Obj) (u:HO)
 |tbl (ps:Array Yu)
 |ext (φ:YB->Prop)
abbrev Hp:=Yx->Option HO
def upd(H:Hp)(a:Yx)(o:HO):Hp:=fun b=>if b=a then some o else H b
def aU{H:Hp}{a:Yx}{o:HO}:upd H a o a=some o:=by unfold upd;rw[U5 rfl]
def aF{H:Hp}{a b:Yx}{o:HO}(h:b≠a):upd H a o b=H b:=by unfold upd;rw[U8 h]
def FJ{H:Hp}{a b:Yx}{o u:HO}(h:H a=some o)(h':H b=some u)(d:o≠u):a≠b:=by
 intro e;subst e;rw[h]at h';exact d (Vg h')
def bo{H:Hp}{a b:Yx}{o:HO}(h:H a=some o)(h':H b=none):a≠b:=by
 intro e;subst e;rw[h]at h';cases h'
section
variable(P:Yy)(w:World)
noncomputable def ObjOk(H:Hp)(h:YB)(a:Yx):HO->Prop
 | .lst xs=>xs.length<=sizeLine/\∃(Je:List Yu) (n:Nat),Vals xs Je/\h.get? a=some {cls:=.type "list",data:=.seq Je.toArray n}
 | .tup xs=>xs.length<=sizeLine/\∃Je:List Yu,Vals xs Je/\IsTupN h a Je.toArray
 | .dK kvs=>kvs.length<=sizeLine/\(a==sysModules)=false/\∃vs,KV kvs vs/\h.DictOf (mixKind P w) a vs
 | .dT kvs=>kvs.length<=sizeLine/\(a==sysModules)=false/\∃xs:List (List Key×Yx×Yu),
   Paired (fun(p:List Key×V) (q:List Key×Yx×Yu)=>p.1=q.1/\H q.2.1=some (.tup (p.1.map kV))/\RelV p.2 q.2.2) kvs xs/\
   ∃o es ep,h.get? a=some o/\o.ExactDict/\o.data=.dict es ep/\es.toList=xs.map (entryOfKey (tupleKind (mixKind P w)))/\(xs.map (·.1)).Nodup
 | .set S n=>h.SetOf (intKind P w) a S n
 | .ins C dx fs=>H dx=some (.own a)/\fs.length<=1000/\dx≠a/\h.get? a=some (PySem.W.instObj C dx)/\
   ∃mA,h.Ns1 dx mA/\(∀f,RelO (fs.lookup f) (mA f))/\PySem.Within mA (fs.map (·.1))
 | .own _=>∃o,h.get? a=some o
 | .xd fs=>∃mA,h.Ns1 a mA/\∀f,RelO (fs.lookup f) (mA f)
 | .rng lo hi=>∃t u v,h.get? a=some {cls:=.type "range",data:=.fields #[.int lo t,.int hi u,.int 1 v]}
 | .frz o u=>h.get? a=some o/\ObjOk H h a u
 | .tbl ps=>h.get? a=some {cls:=.none,data:=.fields ps}
 | .met f x=>h.get? a=some (PySem.W.methodObj (.ref f) (.ref x))
 | .ext φ=>φ h/\(∃o,h.get? a=some o)/\∀h1 h2:YB,φ h1->(∀o,h1.get? a=some o->h2.get? a=some o)->φ h2
def HOk(H:Hp)(h:YB):Prop:=∀a o,H a=some o->ObjOk P w H h a o
end
section
variable{P:Yy}{w:World}{H H':Hp}{h h':YB}{a:Yx}{o:HO}
theorem ObjOk.lt(x:ObjOk P w H h a o):a<h.objs.size:=by
 cases o with
 |lst xs=>obtain⟨_,_,_,_,e⟩:=x;exact U9 e
 |tup xs=>obtain⟨_,_,_,p⟩:=x;exact p.tup.lt
 |dK kvs=>obtain⟨_,_,_,_,o,_,_,e,_⟩:=x;exact U9 e
 |dT kvs=>obtain⟨_,_,_,_,o,_,_,e,_⟩:=x;exact U9 e
 |set S n=>obtain⟨o,_,_,_,e,_⟩:=x;exact U9 e
 |ins C dx fs=>obtain⟨_,_,_,e,_⟩:=x;exact U9 e
 |own y=>obtain⟨_,e⟩:=x;exact U9 e
 |xd fs=>obtain⟨_,⟨_,_,_,e,_⟩,_⟩:=x;exact U9 e
 |rng lo hi=>obtain⟨_,_,_,e⟩:=x;exact U9 e
 |frz ob u=>obtain⟨e,_⟩:=x;exact U9 e
 |tbl ps=>exact U9 (show h.get? a=some _ from x)
 |met f y=>exact U9 (show h.get? a=some _ from x)
 |ext φ=>obtain⟨_,⟨_,e⟩,_⟩:=x;exact U9 e
theorem Paired.mapP{α β:Type}{F G:α->β->Prop}:∀{l₁:List α}{l₂:List β},Paired F l₁ l₂->(∀a b,F a b->G a b)->Paired G l₁ l₂
 |_,_,.nil,_=>.nil
 |_,_,.cons r t,f=>.cons (f _ _ r) (Paired.mapP t f)
theorem ObjOk.stay(x:ObjOk P w H h a o)(k:∀b u,(b=a\/H b=some (.own a))->h.get? b=some u->h'.get? b=some u)
  (ho:∀b,H b=some (.own a)->H' b=some (.own a)) (ht:∀b xs,H b=some (.tup xs)->H' b=some (.tup xs)):ObjOk P w H' h' a o:=by
 induction o with
 |lst xs=>obtain⟨z,Je,n,r,e⟩:=x;exact⟨z,Je,n,r,k _ _ (.inl rfl) e⟩
 |tup xs=>obtain⟨z,Je,r,ob,e,c⟩:=x;exact⟨z,Je,r,ob,k _ _ (.inl rfl) e,c⟩
 |dK kvs=>obtain⟨z,y,vs,r,ob,es,ep,e,c⟩:=x;exact⟨z,y,vs,r,ob,es,ep,k _ _ (.inl rfl) e,c⟩
 |dT kvs=>
  obtain⟨z,y,xs,r,ob,es,ep,e,c⟩:=x;exact⟨z,y,xs,Paired.mapP r fun p q z=>⟨z.1,ht _ _ z.2.1,z.2.2⟩,ob,es,ep,k _ _ (.inl rfl) e,c⟩
 |set S n=>obtain⟨ob,es,ep,t,e,c⟩:=x;exact⟨ob,es,ep,t,k _ _ (.inl rfl) e,c⟩
 |ins C dx fs=>
  obtain⟨d,z,ne,e,mA,⟨od,es,ep,e2,c⟩,r⟩:=x;exact⟨ho _ d,z,ne,k _ _ (.inl rfl) e,mA,⟨od,es,ep,k _ _ (.inr d) e2,c⟩,r⟩
 |own y=>obtain⟨ob,e⟩:=x;exact⟨ob,k _ _ (.inl rfl) e⟩
 |xd fs=>obtain⟨mA,⟨od,es,ep,e,c⟩,r⟩:=x;exact⟨mA,⟨od,es,ep,k _ _ (.inl rfl) e,c⟩,r⟩
 |rng lo hi=>obtain⟨t,u,v,e⟩:=x;exact⟨t,u,v,k _ _ (.inl rfl) e⟩
 |frz ob u ih=>obtain⟨e,q⟩:=x;exact⟨k _ _ (.inl rfl) e,ih q⟩
 |tbl ps=>
  have e:h.get? a=some {cls:=.none,data:=.fields ps}:=x;show h'.get? a=some {cls:=.none,data:=.fields ps};exact k a _ (.inl rfl) e
 |met f y=>
  have e:h.get? a=some (PySem.W.methodObj (.ref f) (.ref y)):=x;show h'.get? a=some (PySem.W.methodObj (.ref f) (.ref y));exact k a _ (.inl rfl) e
 |ext φ=>obtain⟨p,⟨o,e⟩,st⟩:=x;exact⟨st _ _ p fun o q=>k _ _ (.inl rfl) q,⟨o,k _ _ (.inl rfl) e⟩,st⟩
theorem HOk.lt(x:HOk P w H h)(e:H a=some o):a<h.objs.size:=(x a o e).lt
theorem HOk.fresh(x:HOk P w H h)(e:h.objs.size<=a):H a=none:=by
 cases q:H a with
 |none=>rfl
 |some u=>exact absurd (Vd (x.lt q) e) (WO _)
theorem HOk.kept(x:HOk P w H h)(k:∀b u,h.get? b=some u->h'.get? b=some u):HOk P w H h':=fun a o e=>
 (x a o e).stay (fun b u _ q=>k b u q) (fun _ q=>q) fun _ _ q=>q
theorem HOk.laid(x:HOk P w H h)(k:∀b u,h.get? b=some u->h'.get? b=some u)(hp:h.objs.size<=a)(new:ObjOk P w (upd H a o) h' a o):HOk P w (upd H a o) h':=fun b u e=>by
 have hn:=x.fresh hp;by_cases hb:b=a
 .subst hb;rw[aU]at e;cases e;exact new
 .rw[aF hb]at e;exact(x b u e).stay (fun c v _ q=>k c v q) (fun c q=>by rw[aF (bo q hn)];exact q) fun c xs q=>by rw[aF (bo q hn)];exact q
end
def Rd(H:Hp)(a:Yx)(u:HO):Prop:=H a=some u\/∃o,H a=some (.frz o u)
def Rd.ok{P:Yy}{w:World}{H:Hp}{h:YB}{a:Yx}{u:HO}(r:Rd H a u)(x:HOk P w H h):ObjOk P w H h a u:=by
 rcases r with r|⟨o,r⟩
 .exact x a u r
 .obtain⟨_,q⟩:=x a _ r;exact q
def Q2:Option HO->Prop
 |some (.lst _)=>True
 |some (.dK _)=>True
 |some (.dT _)=>True
 |some (.set _ _)=>True
 |some (.ins _ _ _)=>True
 |some (.ext _)=>True
 |_=>False
section
variable{P:Yy}{w:World}{H:Hp}{h h':YB}{x e:Yx}{o':HO}
theorem HOk.write(ok:HOk P w H h)(mu:Q2 (H x))(he:e=x\/H e=some (.own x))(k:∀b u,b≠e->h.get? b=some u->h'.get? b=some u)(QD:∃u,h'.get? e=some u)
  (new:ObjOk P w (upd H x o') h' x o'):HOk P w (upd H x o') h':=fun b u q=>by
 have MW:∀c y,H c=some (.own y)->c≠x:=fun c y r z=>by subst z;rw[r]at mu;exact mu
 have ntup:∀c xs,H c=some (.tup xs)->c≠x:=fun c xs r z=>by subst z;rw[r]at mu;exact mu
 by_cases hb:b=x
 .subst hb;rw[aU]at q;cases q;exact new
 .rw[aF hb]at q;by_cases hbe:b=e
  .have q':H b=some (.own x):=by
    rcases he with z|z
    .exact absurd (hbe.trans z) hb
    .rw[hbe];exact z
   rw[q]at q';cases q';obtain⟨v,hv⟩:=QD;exact⟨v,by rw[hbe];exact hv⟩
  .refine(ok b u q).stay (fun c v hc r=>k c v ?_ r) (fun c r=>by rw[aF (MW c b r)];exact r) fun c xs r=>by rw[aF (ntup c xs r)];exact r
   rcases hc with rfl|hc
   .exact hbe
   .rintro rfl;rcases he with z|z
    .exact MW c b hc z
    .rw[hc]at z;cases z;exact hb rfl
end
structure Un(fs ex:List Yx)(H H':Hp)(h h':YB):Prop where
 keep:∀b o,h.get? b=some o->H b=none->b∉fs->b∉ex->h'.get? b=some o
 slot:∀b o,h.get? b=some o->H b=none->b∈fs->b∉ex->∃sl,h'.get? b=some {o with slots:=sl}
 free:∀b o,h.get? b=some o->H b=none->b∉ex->H' b=none
 there:∀b o,h.get? b=some o->b∉ex->∃o',h'.get? b=some o'
 tups:∀b xs,H b=some (.tup xs)->H' b=some (.tup xs)
 frzs:∀b o u,H b=some (.frz o u)->H' b=some (.frz o u)
 tbls:∀b ps,H b=some (.tbl ps)->∃more,H' b=some (.tbl (ps++more))
section
variable{fs fs' ex ex':List Yx}{H H1 H2:Hp}{h h1 h2 h':YB}{a x e:Yx}{o:HO}
theorem Un.any(u:Un fs ex H H1 h h1){b:Yx}{ob:Obj}(q:h.get? b=some ob)(n:H b=none)(hx:b∉ex):∃sl,h1.get? b=some {ob with slots:=sl}:=by
 by_cases hb:b∈fs
 .exact u.slot b ob q n hb hx
 .exact⟨ob.slots,u.keep b ob q n hb hx⟩
theorem Un.kept(k:∀b u,h.get? b=some u->h'.get? b=some u):Un fs ex H H h h':=
 ⟨fun b ob q _ _ _=>k b ob q,fun b ob q _ _ _=>⟨ob.slots,k b ob q⟩,fun _ _ _ n _=>n,fun b ob q _=>⟨ob,k b ob q⟩,fun _ _ q=>q,fun _ _ _ q=>q,fun _ ps q=>⟨#[],by rw[q];simp⟩⟩
theorem Un.refl:Un fs ex H H h h:=Un.kept fun _ _ q=>q
theorem Un.laid(k:∀b u,h.get? b=some u->h'.get? b=some u)(hp:h.objs.size<=a)(hn:H a=none):Un fs ex H (upd H a o) h h' where
 keep:=fun b u q _ _ _=>k b u q
 slot:=fun b u q _ _ _=>⟨u.slots,k b u q⟩
 free:=fun b u q n _=>by rw[aF (Vk (Vd (U9 q) hp))];exact n
 there:=fun b u q _=>⟨u,k b u q⟩
 tups:=fun b xs q=>by rw[aF (bo q hn)];exact q
 frzs:=fun b u xs q=>by rw[aF (bo q hn)];exact q
 tbls:=fun b ps q=>⟨#[],by rw[aF (bo q hn),q];simp⟩
theorem Un.write(mu:Q2 (H x))(he:e=x\/H e=some (.own x))(k:∀b u,b≠e->h.get? b=some u->h'.get? b=some u)(QD:∃u,h'.get? e=some u):Un fs ex H (upd H x o) h h':=by
 have hx:∀b,H b=none->b≠x:=fun b n z=>by subst z;rw[n]at mu;exact mu
 have hb:∀b,H b=none->b≠e:=fun b n z=>by
  subst z;rcases he with r|r
  .exact hx b n r
  .rw[n]at r;cases r
 have hm:∀b u,H b=some u->¬ Q2 (some u)->b≠x:=fun b u q nm z=>by subst z;rw[q]at mu;exact nm mu
 refine⟨fun b u q n _ _=>k b u (hb b n) q,fun b u q n _ _=>⟨u.slots,k b u (hb b n) q⟩,fun b u q n _=>by rw[aF (hx b n)];exact n,fun b u q _=>?_,
  fun b xs q=>by rw[aF (hm b _ q fun z=>z)];exact q,fun b u xs q=>by rw[aF (hm b _ q fun z=>z)];exact q,fun b ps q=>⟨#[],by rw[aF (hm b _ q fun z=>z),q];simp⟩⟩
 by_cases hbe:b=e
 .subst hbe;exact QD
 .exact⟨u,k b u hbe q⟩
end
def trk(h:YB)(H:Hp):List Yx:=(List.range h.objs.size).filter fun a=>(H a).isSome
def xC(h:YB)(H:Hp):YB:=PySem.W.hideAll h (trk h H)
def uC(h:YB)(H:Hp):(xC h H).objs.size=h.objs.size:=PySem.W.hideAll_size _ _
def xD{h:YB}{H:Hp}{b:Yx}{o:Obj}(e:h.get? b=some o)(n:H b=none):(xC h H).get? b=some o:=
 PySem.W.hideAll_get _ e fun hm=>by
  have q:(H b).isSome=true:=(WZ.mp hm).2;rw[n]at q;simp at q
def z8{h:YB}{H:Hp}{b:Yx}{o:Obj}(e:(xC h H).get? b=some o):h.get? b=some o/\H b=none:=by
 have e':h.get? b=some o:=PySem.W.of_hideAll (trk h H) e;refine⟨e',?_⟩;cases q:H b with
 |none=>rfl
 |some x=>
  have hm:b∈trk h H:=WZ.mpr ⟨VF.mpr (U9 e'),by simp[q]⟩;have z:(xC h H).get? b=none:=PySem.W.hideAll_none (trk h H) hm;rw[z]at e;cases e
def z9(g h:YB)(L:Yx):List (Yx×Obj):=(List.range h.objs.size).filterMap fun a=>if a=L\/(g.get? a).isSome=true then none else(h.get? a).map fun o=>(a,o)
def dX(g h:YB)(L d:Yx):List (Yx×Obj):=(z9 g h L).filter fun p=>decide (p.1≠d)
structure Mod(K:W.Frag)(mg:Str->Option Yu)(base:YB):Prop where
 kin:K.In base
 glob:base.Ns mainGlobals mg
 blt:∃mb,base.Ns builtinsNs mb/\∀x:Str,x≠"__name__"->mb x=bootBuiltins x
 nolimit:base.NoLimit
structure Cx where
 prog:Yy
 w:World
 K:W.Frag
 mg:Str->Option Yu
 base:YB
 A:Yz
 N:List Str
 s₀:Yw
 H₀:Hp
 env:Env
 outer:List Env
 stack:List Env
 ex:List Yx
 fn:Str->Bool
 calm:Bool
 pn:List (Yx×Obj)
 xe:Yu->Yw->Prop
def MJ(l:List Env):List Yx:=l.filterMap (·.frame)
abbrev Cx.fs(X:Cx):List Yx:=MJ X.outer
def S1(sc:Scope)(x:Str):Prop:=sc.names.lookup x=some .local\/sc.names.lookup x=some .cell\/sc.names.lookup x=some .free
def Loc(sc:Scope)(x:Str):Prop:=sc.names.lookup x=some .local\/sc.names.lookup x=some .cell
def Ho(sc:Scope)(x:Str):Bool:=match sc.names.lookup x with
 |some .local=>true
 |some .cell=>true
 |_=>false
def lo{sc:Scope}{x:Str}(h:Ho sc x=true):Loc sc x:=by
 unfold Ho at h;split at h
 .exact .inl (by assumption)
 .exact .inr (by assumption)
 .cases h

def HK(env:Env)(h:YB)(m:Str->Option Yu)(x:Str)(u:Yu):Prop:=
 (env.kindOf x=some .local/\m x=some u)\/((env.kindOf x=some .cell\/env.kindOf x=some .free)/\∃c,env.cells.lookup x=some c/\h.IsCell c (some u))
structure Cx.Ok(X:Cx):Prop where
 mod:Mod X.K X.mg X.base
 kind:X.env.scope.kind=.function
 glob:X.env.globals=mainGlobals
 blt:X.env.builtins=builtinsNs
 above:X.s₀.heap.objs.size<=X.env.locals
 inj:∀x y c,X.env.cells.lookup x=some c->X.env.cells.lookup y=some c->x=y
 has:∀x,(X.env.kindOf x=some .cell\/X.env.kindOf x=some .free)->∃c,X.env.cells.lookup x=some c
 cab:∀x c,X.fn x=true->X.env.cells.lookup x=some c->X.s₀.heap.objs.size<=c
 hd:X.calm=true->X.A.handled=none
 frames:X.A.frames=some X.stack
 stk:X.stack=X.outer\/(X.stack=X.env::X.outer/\X.env.frame=some X.env.locals)
 exf:∀b∈X.ex,b≠X.env.locals/\∀x c,X.env.cells.lookup x=some c->c≠b
 bs:∀b o,X.base.get? b=some o->X.s₀.heap.get? b=some o/\X.H₀ b=none
 bsz:X.base.objs.size<=X.s₀.heap.objs.size
 noex:∀b o,X.base.get? b=some o->b∉X.ex
 exfs:∀b∈X.ex,b∉X.fs
 funs:X.s₀.heap.FunFrames X.base X.outer
 frf:∀b∈X.fs,X.H₀ b=none
structure Inv(X:Cx)(pr:List (Yx×Obj))(σ:List (Option V))(H:Hp)(s:Yw):Prop where
 ok:X.Ok
 os:s.os=X.s₀.os
 bare:AllBare s.gens
 base:Un X.fs X.ex X.H₀ H X.s₀.heap s.heap
 loc:∃m,s.heap.Ns X.env.locals m/\∀(i:Nat) (x:Str) (v:V),X.N[i]?=some x->σ[i]?=some (some v)->S1 X.env.scope x->∃u,RelV v u/\HK X.env s.heap m x u
 cell:∀x c,X.env.cells.lookup x=some c->∃v,s.heap.IsCell c v
 free:H X.env.locals=none
 freeC:∀x c,X.env.cells.lookup x=some c->H c=none
 pin:∀p∈X.pn++pr,s.heap.get? p.1=some p.2/\H p.1=none/\p.1≠X.env.locals/\p.1∉X.fs/\∀v,p.2.data≠.cell v
 hok:HOk X.prog X.w H s.heap
 len:σ.length=X.N.length
section
variable{X:Cx}{pr:List (Yx×Obj)}{σ:List (Option V)}{H H':Hp}{s:Yw}{h':YB}
theorem Cx.Ok.nofr(ok:X.Ok){b:Yx}{o:Obj}(e:X.base.get? b=some o):b∉X.fs:=fun hb=>by
 have:=(ok.funs.mem hb).1;rw[e]at this;cases this
theorem Inv.bs(I:Inv X pr σ H s):∀b o,X.base.get? b=some o->s.heap.get? b=some o/\H b=none:=fun b o e=>
 ⟨I.base.keep b o (I.ok.bs b o e).1 (I.ok.bs b o e).2 (I.ok.nofr e) (I.ok.noex b o e),I.base.free b o (I.ok.bs b o e).1 (I.ok.bs b o e).2 (I.ok.noex b o e)⟩
theorem Inv.bk(I:Inv X pr σ H s):∀b o,X.base.get? b=some o->s.heap.get? b=some o:=fun b o e=>(I.bs b o e).1
theorem Inv.mod(I:Inv X pr σ H s):Mod X.K X.mg X.base:=I.ok.mod
theorem Inv.kIn(I:Inv X pr σ H s):X.K.In s.heap:=I.ok.mod.kin.keeps I.bk
theorem Inv.lt(I:Inv X pr σ H s):X.env.locals<s.heap.objs.size:=let⟨_,hn,_⟩:=I.loc;hn.lt
theorem Inv.sz(I:Inv X pr σ H s):X.s₀.heap.objs.size<=s.heap.objs.size:=Vx I.ok.above (YD I.lt)
theorem Inv.nofs(I:Inv X pr σ H s){a:Yx}(h:s.heap.objs.size<=a):a∉X.fs:=fun hb=>by
 obtain⟨_,o,ho,_⟩:=I.ok.funs.mem hb;exact absurd (Vd (U9 ho) (Vx I.sz h)) (WO _)
theorem Inv.cne(I:Inv X pr σ H s):∀x c,X.env.cells.lookup x=some c->c≠X.env.locals:=fun x c e z=>by
 obtain⟨v,o,ho,hd⟩:=I.cell x c e;obtain⟨m,⟨o',es,ep,N9,Q3,_⟩,_⟩:=I.loc;rw[z,N9]at ho;cases ho;rw[Q3]at hd;cases hd
theorem Inv.funs(I:Inv X pr σ H s):s.heap.FunFrames X.base X.outer:=by
 have all:∀(l:List Env),(∀b∈MJ l,b∈X.fs)->X.s₀.heap.FunFrames X.base l->s.heap.FunFrames X.base l:=by
  intro l;induction l with
  |nil=>intro _ _;trivial
  |cons env r ih=>
   intro hs hl;obtain⟨hk,⟨L,o,hf,hn,ho,hd⟩,hr⟩:=hl;have hL:L∈X.fs:=hs L (by unfold MJ;rw[XR,hf];exact UY);obtain⟨sl,e⟩:=I.base.slot L o ho (I.ok.frf L hL) hL fun z=>I.ok.exfs L z hL
   exact⟨hk,⟨L,_,hf,hn,e,hd⟩,ih (fun b hb=>hs b (by unfold MJ;rw[XR,hf];exact U4 _ hb)) hr⟩
 exact all X.outer (fun _ hb=>hb) I.ok.funs
theorem Inv.stack(I:Inv X pr σ H s):s.heap.FunFrames X.base X.stack:=by
 rcases I.ok.stk with e|⟨e,hf⟩
 .rw[e];exact I.funs
 .rw[e];obtain⟨m,hn,_⟩:=I.loc;refine .cons (by rw[I.ok.kind];decide) hf hn ?_ I.funs;exact Heap.get?_none_of_le (Vx I.ok.bsz I.ok.above)
theorem Inv.stkSub(I:Inv X pr σ H s):∀b∈MJ X.stack,b∈X.env.locals::X.fs:=fun b hb=>by
 rcases I.ok.stk with e|⟨e,hf⟩
 .rw[e]at hb;exact U4 _ hb
 .rw[e]at hb;unfold MJ at hb;rw[XR,hf]at hb;exact hb
theorem Inv.stkFree(I:Inv X pr σ H s):∀b∈MJ X.stack,H b=none:=fun b hb=>by
 rcases Vb.mp (I.stkSub b hb) with e|hb
 .rw[e];exact I.free
 .obtain⟨_,o,ho,_⟩:=I.ok.funs.mem hb;exact I.base.free b o ho (I.ok.frf b hb) fun z=>I.ok.exfs b z hb
theorem Inv.step{g':Array GenState}{t':Nat}{d':Drawn}{ch:List Yx}(I:Inv X pr σ H s)
  (NZ:∀b∈ch,(b∈X.ex\/X.s₀.heap.objs.size<=b)/\b≠X.env.locals/\(∀x c,X.env.cells.lookup x=some c->c≠b)/\∀p∈X.pn++pr,p.1≠b)
  (keep:∀b o,b≠X.env.locals->b∉X.fs->b∉ch->s.heap.get? b=some o->H b=none->h'.get? b=some o)
  (slot:∀b o,b≠X.env.locals->b∈X.fs->b∉ch->s.heap.get? b=some o->H b=none->∃sl,h'.get? b=some {o with slots:=sl}) (free:∀b o,b∉ch->s.heap.get? b=some o->H b=none->H' b=none)
  (there:∀b o,b∉ch->s.heap.get? b=some o->∃o',h'.get? b=some o')
  (tups:∀b xs,H b=some (.tup xs)->H' b=some (.tup xs)) (frzs:∀b o u,H b=some (.frz o u)->H' b=some (.frz o u)) (tbls:∀b ps,H b=some (.tbl ps)->∃more,H' b=some (.tbl (ps++more)))
  (ns:∀m,s.heap.Ns X.env.locals m->h'.Ns X.env.locals m) (hok:HOk X.prog X.w H' h') (hg:AllBare g'):
  Inv X pr σ H' {s with heap:=h',gens:=g',drawn:=d',toks:=t'}:=by
 have T6:∀b o,X.s₀.heap.get? b=some o->b≠X.env.locals:=fun b o e=>Vk (Vd (U9 e) I.ok.above)
 have Sk:∀b o,X.s₀.heap.get? b=some o->b∉X.ex->b∉ch:=fun b o e hx hb=>by
  rcases(NZ b hb).1 with z|z
  .exact hx z
  .exact absurd (Vd (U9 e) z) (WO _)
 have cellK:∀x c,X.env.cells.lookup x=some c->∀v,s.heap.IsCell c v->h'.IsCell c v:=fun x c e v Jo=>by
  obtain⟨o,ho,hd⟩:=Jo;have Q4:c∉ch:=fun z=>(NZ c z).2.2.1 x c e rfl
  by_cases hc:c∈X.fs
  .obtain⟨sl,q⟩:=slot c o (I.cne x c e) hc Q4 ho (I.freeC x c e);exact⟨_,q,hd⟩
  .exact⟨o,keep c o (I.cne x c e) hc Q4 ho (I.freeC x c e),hd⟩
 refine⟨I.ok,I.os,hg,⟨fun b o e n hb hx=>?_,fun b o e n hb hx=>?_,fun b o e n hx=>?_,fun b o e hx=>?_,fun b xs e=>tups b xs (I.base.tups b xs e),fun b o xs e=>frzs b o xs (I.base.frzs b o xs e),fun b ps e=>?_⟩,?_,fun x c e=>?_,?_,fun x c e=>?_,fun p hp=>?_,hok,I.len⟩
 .exact keep b o (T6 b o e) hb (Sk b o e hx) (I.base.keep b o e n hb hx) (I.base.free b o e n hx)
 .obtain⟨sl,e1⟩:=I.base.slot b o e n hb hx;obtain⟨sl',e2⟩:=slot b _ (T6 b o e) hb (Sk b o e hx) e1 (I.base.free b o e n hx);exact⟨sl',e2⟩
 .obtain⟨o',e1⟩:=I.base.there b o e hx;exact free b o' (Sk b o e hx) e1 (I.base.free b o e n hx)
 .obtain⟨o',e1⟩:=I.base.there b o e hx;exact there b o' (Sk b o e hx) e1
 .obtain⟨m1,e1⟩:=I.base.tbls b ps e;obtain⟨m2,e2⟩:=tbls b _ e1;exact⟨m1++m2,by rw[e2,Array.append_assoc]⟩
 .obtain⟨m,hn,hl⟩:=I.loc;refine⟨m,ns m hn,fun i x v e1 e2 e3=>?_⟩;obtain⟨u,r,l⟩:=hl i x v e1 e2 e3;refine⟨u,r,?_⟩;rcases l with l|⟨k,c,e,z⟩
  .exact .inl l
  .exact .inr ⟨k,c,e,cellK x c e _ z⟩
 .obtain⟨v,z⟩:=I.cell x c e;exact⟨v,cellK x c e v z⟩
 .obtain⟨m,⟨o,_,_,ho,_⟩,_⟩:=I.loc;exact free _ o (fun z=>(NZ _ z).2.1 rfl) ho I.free
 .obtain⟨v,o,ho,hd⟩:=I.cell x c e;exact free c o (fun z=>(NZ c z).2.2.1 x c e rfl) ho (I.freeC x c e)
 .obtain⟨e,n,ne,nf,d⟩:=I.pin p hp;have Q4:p.1∉ch:=fun z=>(NZ p.1 z).2.2.2 p hp rfl
  exact⟨keep p.1 p.2 ne nf Q4 e n,free p.1 p.2 Q4 e n,ne,nf,d⟩
theorem Inv.un{t':Nat}(I:Inv X pr σ H s)(u:Un X.fs [] H H' s.heap h')(hok:HOk X.prog X.w H' h'):Inv X pr σ H' {s with heap:=h',toks:=t'}:=by
 obtain⟨m,⟨o,es,ep,ho,r⟩,_⟩:=id I.loc;obtain⟨sl,hL⟩:=u.any ho I.free (by simp);exact I.step (g':=s.gens) (d':=s.drawn) (ch:=[]) (fun _ z=>nomatch z) (fun b o _ hb _ e n=>u.keep b o e n hb (by simp)) (fun b o _ hb _ e n=>u.slot b o e n hb (by simp)) (fun b o _ e n=>u.free b o e n (by simp)) (fun b o _ e=>u.there b o e (by simp)) u.tups u.frzs u.tbls (fun m' hm=>by
  obtain⟨o',L3,Po,N9,r'⟩:=hm;rw[ho]at N9;cases N9;exact⟨_,L3,Po,hL,r'⟩) hok I.bare
theorem Inv.call{g':Array GenState}{t':Nat}{d':Drawn}{ch:List Yx}(I:Inv X pr σ H s)(u:Un (MJ X.stack) ch H H' s.heap h')(hok:HOk X.prog X.w H' h')(hg:AllBare g')
  (NZ:∀b∈ch,(b∈X.ex\/X.s₀.heap.objs.size<=b)/\b≠X.env.locals/\(∀x c,X.env.cells.lookup x=some c->c≠b)/\∀p∈X.pn++pr,p.1≠b):
  Inv X pr σ H' {s with heap:=h',gens:=g',drawn:=d',toks:=t'}:=by
 obtain⟨m,⟨o,es,ep,ho,r⟩,_⟩:=id I.loc;obtain⟨sl,hL⟩:=u.any ho I.free fun z=>(NZ _ z).2.1 rfl
 exact I.step (ch:=ch) NZ (fun b o hL hb hc e n=>u.keep b o e n (fun z=>(Vb.mp (I.stkSub b z)).elim hL hb) hc) (fun b o _ _ hc e n=>u.any e n hc) (fun b o hc e n=>u.free b o e n hc) (fun b o hc e=>u.there b o e hc) u.tups u.frzs u.tbls (fun m' hm=>by
  obtain⟨o',L3,Po,N9,r'⟩:=hm;rw[ho]at N9;cases N9;exact⟨_,L3,Po,hL,r'⟩) hok hg
theorem Inv.turned{t':Nat}{it:Yx}(I:Inv X pr σ H s)(k:∀b o,b≠it->s.heap.get? b=some o->h'.get? b=some o)(hn:H it=none)(hL:it≠X.env.locals)
  (h1:it∈X.ex\/X.s₀.heap.objs.size<=it) (h2:∀x c,X.env.cells.lookup x=some c->c≠it) (h3:∀p∈X.pn++pr,p.1≠it):Inv X pr σ H {s with heap:=h',toks:=t'}:=by
 have T7:∀b u,H b=some u->b≠it:=fun b u e z=>by rw[z,hn]at e;cases e
 refine I.step (g':=s.gens) (d':=s.drawn) (ch:=[it]) (fun b hb=>?_) (fun b o _ _ hc e _=>k b o (fun z=>hc (by simp[z])) e) (fun b o _ _ hc e _=>⟨o.slots,k b o (fun z=>hc (by simp[z])) e⟩) (fun _ _ _ _ n=>n)
  (fun b o hc e=>⟨o,k b o (fun z=>hc (by simp[z])) e⟩) (fun _ _ e=>e) (fun _ _ _ e=>e) (fun b ps e=>⟨#[],by rw[e];simp⟩) (fun m hm=>?_) (fun b u e=>?_) I.bare
 .have e:b=it:=by simpa using hb
  subst e;exact⟨h1,hL,h2,h3⟩
 .obtain⟨o,es,ep,ho,r⟩:=hm;exact⟨o,es,ep,k _ o (Wt hL) ho,r⟩
 .refine(I.hok b u e).stay (fun c v hc q=>k c v ?_ q) (fun _ q=>q) fun _ _ q=>q
  rcases hc with z|z
  .rw[z];exact T7 b u e
  .exact T7 c _ z
theorem Inv.tok(I:Inv X pr σ H s)(t:Nat):Inv X pr σ H {s with toks:=t}:=I.un (h':=s.heap) (t':=t) Un.refl I.hok
theorem Inv.kept{t':Nat}(I:Inv X pr σ H s)(k:∀b u,s.heap.get? b=some u->h'.get? b=some u):Inv X pr σ H {s with heap:=h',toks:=t'}:=I.un (Un.kept k) (I.hok.kept k)
theorem Inv.laid{a:Yx}{o:HO}{t':Nat}(I:Inv X pr σ H s)(k:∀b u,s.heap.get? b=some u->h'.get? b=some u)(hp:s.heap.objs.size<=a)(new:ObjOk X.prog X.w (upd H a o) h' a o):
  Inv X pr σ (upd H a o) {s with heap:=h',toks:=t'}:=I.un (Un.laid k hp (I.hok.fresh hp)) (I.hok.laid k hp new)
theorem Inv.write{x e:Yx}{o:HO}{t':Nat}(I:Inv X pr σ H s)(mu:Q2 (H x))(he:e=x\/H e=some (.own x))(k:∀b u,b≠e->s.heap.get? b=some u->h'.get? b=some u)(QD:∃u,h'.get? e=some u)
  (new:ObjOk X.prog X.w (upd H x o) h' x o):Inv X pr σ (upd H x o) {s with heap:=h',toks:=t'}:=I.un (Un.write mu he k QD) (I.hok.write mu he k QD new)
theorem Inv.pins_of{O9:List (Yx×Obj)}(I:Inv X pr σ H s)(h:∀p∈O9,s.heap.get? p.1=some p.2/\H p.1=none/\p.1≠X.env.locals/\p.1∉X.fs/\∀v,p.2.data≠.cell v):Inv X O9 σ H s:=
 ⟨I.ok,I.os,I.bare,I.base,I.loc,I.cell,I.free,I.freeC,fun p hp=>(Vv.mp hp).elim (fun z=>I.pin p (U7 _ z)) (h p),I.hok,I.len⟩
theorem qQ{N:List Str}(hN:N.Nodup){i j:Nat}{x:Str}(a:N[i]?=some x)(b:N[j]?=some x):i=j:=by
 obtain⟨h1,e1⟩:=List.getElem?_eq_some_iff.mp a;obtain⟨h2,e2⟩:=List.getElem?_eq_some_iff.mp b;exact(List.getElem_inj hN).mp (e1.trans e2.symm)
theorem nW{M:Model}{A:Yz}{E:Yu->Yw->Prop}{i:Nat}{x:Str}{v:V}{u:Yu}{Q:Unit->Yw->Prop}(I:Inv X pr σ H s)(hN:X.N.Nodup)(hi:X.N[i]?=some x)(hx:Loc X.env.scope x)(r:RelV v u)
  (h:∀s',Inv X pr (σ.set i (some v)) H s'->(∃a,Heap.SameBut a s.heap s'.heap/\(a=X.env.locals\/X.env.cells.lookup x=some a))->Q () s') (hf:X.fn x=true\/X.env.scope.names.lookup x=some .local:=by first|exact .inl rfl|exact .inr rfl|assumption):wpAny M A (storeName X.env x u) Q E s:=by
 obtain⟨m,hn,hl⟩:=id I.loc;have hcls:(X.env.scope.kind==.class||(X.env.scope.kind==.module&&X.env.locals != X.env.globals))=false:=by rw[I.ok.kind];rfl
 have hiσ:i<σ.length:=by rw[I.len];exact(List.getElem?_eq_some_iff.mp hi).1
 have cne:=I.cne;have tracked:∀{a:Yx}{h':YB},(∃o,s.heap.get? a=some o/\H a=none)->Heap.SameBut a s.heap h'->HOk X.prog X.w H h':=fun{a h'} ha hs b ob e=>by
  obtain⟨_,_,Pa⟩:=ha;refine(I.hok b ob e).stay (fun c w' hc q=>(hs.2 c ?_).trans q) (fun _ q=>q) fun _ _ q=>q
  rintro rfl;rcases hc with rfl|hc
  .rw[Pa]at e;cases e
  .rw[Pa]at hc;cases hc
 rcases hx with hk|hk
 .refine wpAny_storeName_local hk hn (fun h' Pp hs=>?_) hcls;obtain⟨oL,_,_,hoL,_⟩:=id hn;refine h _ ⟨I.ok,I.os,I.bare,⟨fun b o e n hb hx=>?_,fun b o e n hb hx=>?_,I.base.free,fun b o e hx=>?_,I.base.tups,I.base.frzs,I.base.tbls⟩,⟨_,Pp,fun j y v' e1 e2 e3=>?_⟩,fun y c e=>?_,I.free,I.freeC,fun p hp=>?_,tracked ⟨oL,hoL,I.free⟩ hs,by simpa using I.len⟩ ⟨_,hs,.inl rfl⟩
  .exact(hs.2 b (Vk (Vd (U9 e) I.ok.above))).trans (I.base.keep b o e n hb hx)
  .obtain⟨sl,e1⟩:=I.base.slot b o e n hb hx;exact⟨sl,(hs.2 b (Vk (Vd (U9 e) I.ok.above))).trans e1⟩
  .obtain⟨o',e1⟩:=I.base.there b o e hx;exact⟨o',(hs.2 b (Vk (Vd (U9 e) I.ok.above))).trans e1⟩
  .by_cases hj:j=i
   .subst hj;rw[hi]at e1;cases e1;rw[List.getElem?_set_self hiσ]at e2;cases e2;exact⟨u,r,.inl ⟨hk,by simp⟩⟩
   .rw[List.getElem?_set_ne (Wt hj)]at e2;obtain⟨u',r',q⟩:=hl j y v' e1 e2 e3;refine⟨u',r',?_⟩;rcases q with⟨k,e⟩|⟨k,c,e,z⟩
    .refine .inl ⟨k,?_⟩;have:y≠x:=fun e=>hj (qQ hN e1 (e▸hi))
     simp[this,e]
    .exact .inr ⟨k,c,e,z.sameBut hs (cne y c e)⟩
  .obtain⟨w',z⟩:=I.cell y c e;exact⟨w',z.sameBut hs (cne y c e)⟩
  .obtain⟨e,n,ne,nf,d⟩:=I.pin p hp;exact⟨(hs.2 p.1 ne).trans e,n,ne,nf,d⟩
 .have Oa:X.fn x=true:=by
   rcases hf with z|z
   .exact z
   .rw[z]at hk;cases hk
  obtain⟨c,hc⟩:=I.ok.has x (.inl hk);obtain⟨w',z⟩:=I.cell x c hc;refine wpAny_storeName_cell I.ok.kind hk hc z (fun h' Sl hs=>?_);obtain⟨oc,T8,hocd⟩:=id z;refine h {s with heap:=h'} ⟨I.ok,I.os,I.bare,⟨fun b o e n hb hx=>?_,fun b o e n hb hx=>?_,I.base.free,fun b o e hx=>?_,I.base.tups,I.base.frzs,I.base.tbls⟩,⟨m,hn.sameBut hs (Wt (cne x c hc)),fun j y v' e1 e2 e3=>?_⟩,fun y c' e=>?_,I.free,I.freeC,fun p hp=>?_,tracked ⟨oc,T8,I.freeC x c hc⟩ hs,by simpa using I.len⟩ ⟨c,hs,.inr hc⟩
  .exact(hs.2 b (Vk (Vd (U9 e) (I.ok.cab x c Oa hc)))).trans (I.base.keep b o e n hb hx)
  .obtain⟨sl,e1⟩:=I.base.slot b o e n hb hx;exact⟨sl,(hs.2 b (Vk (Vd (U9 e) (I.ok.cab x c Oa hc)))).trans e1⟩
  .obtain⟨o',e1⟩:=I.base.there b o e hx;exact⟨o',(hs.2 b (Vk (Vd (U9 e) (I.ok.cab x c Oa hc)))).trans e1⟩
  .by_cases hj:j=i
   .subst hj;rw[hi]at e1;cases e1;rw[List.getElem?_set_self hiσ]at e2;cases e2;exact⟨u,r,.inr ⟨.inl hk,c,hc,Sl⟩⟩
   .rw[List.getElem?_set_ne (Wt hj)]at e2;obtain⟨u',r',q⟩:=hl j y v' e1 e2 e3;refine⟨u',r',?_⟩;rcases q with q|⟨k,c',e,z'⟩
    .exact .inl q
    .refine .inr ⟨k,c',e,z'.sameBut hs ?_⟩;rintro rfl;exact hj (qQ hN e1 (I.ok.inj _ _ _ e hc▸hi))
  .by_cases hcc:c'=c
   .subst hcc;exact⟨_,Sl⟩
   .obtain⟨w2,z2⟩:=I.cell y c' e;exact⟨w2,z2.sameBut hs hcc⟩
  .obtain⟨e,n,ne,nf,d⟩:=I.pin p hp;refine⟨(hs.2 p.1 ?_).trans e,n,ne,nf,d⟩;intro q;rw[q,T8]at e;have q':oc=p.2:=Vg e;exact d w' (by rw[<-q'];exact hocd)
theorem qR{M:Model}{A:Yz}{E:Yu->Yw->Prop}{i:Nat}{x:Str}{v:V}{u:Yu}{Q:Unit->Yw->Prop}(I:Inv X pr σ H s)(hN:X.N.Nodup)(hi:X.N[i]?=some x)(hx:Loc X.env.scope x)(r:RelV v u)
  (h:∀s',Inv X pr (σ.set i (some v)) H s'->Q () s') (hf:X.fn x=true\/X.env.scope.names.lookup x=some .local:=by first|exact .inl rfl|exact .inr rfl|assumption):wpAny M A (storeName X.env x u) Q E s:=
 nW I hN hi hx r (fun s' I' _=>h s' I') hf
theorem Inv.call'{s':Yw}{ch:List Yx}(I:Inv X pr σ H s)(ho:s'.os=s.os)(u:Un (MJ X.stack) ch H H' s.heap s'.heap)(hok:HOk X.prog X.w H' s'.heap)(hg:AllBare s'.gens)
  (NZ:∀b∈ch,(b∈X.ex\/X.s₀.heap.objs.size<=b)/\b≠X.env.locals/\(∀x c,X.env.cells.lookup x=some c->c≠b)/\∀p∈X.pn++pr,p.1≠b):Inv X pr σ H' s':=by
 obtain⟨h',g',d',t',o'⟩:=s';have e:o'=s.os:=ho;subst e;exact I.call (g':=g') (t':=t') (d':=d') u hok hg NZ
end
abbrev XK:=Yu->Option Yx->Hp->Prop
abbrev St:=List (Option V)
abbrev VK:=V->Hp->Prop
abbrev TE:=St->Hp->VK->Prop
abbrev TT:=St->Hp->(Bool->Hp->Prop)->Prop
abbrev TA:=St->Hp->(List V->Hp->Prop)->Prop
structure Ends where
 nx:St->Hp->Prop
 rt:VK
 bk:St->Hp->Prop:=fun _ _=>False
 ct:St->Hp->Prop:=fun _ _=>False
abbrev TS:=Ends->St->Hp->Prop
def EP(X:Cx)(pr:List (Yx×Obj))(σ:St)(Q:VK)(u:Yu)(s':Yw):Prop:=∃v H',Inv X pr σ H' s'/\RelV v u/\Q v H'
def TP(X:Cx)(pr:List (Yx×Obj))(σ:St)(Q:Bool->Hp->Prop)(b:Bool)(s':Yw):Prop:=∃H',Inv X pr σ H' s'/\Q b H'
def AP(X:Cx)(pr:List (Yx×Obj))(σ:St)(Q:List V->Hp->Prop)(us:List Yu)(s':Yw):Prop:=∃vs H',Inv X pr σ H' s'/\Vals vs us/\Q vs H'
def SP(X:Cx)(pr:List (Yx×Obj))(D:Ends)(f:Flow)(s':Yw):Prop:=
 match f with
 | .next=>∃σ' H',Inv X pr σ' H' s'/\D.nx σ' H'
 | .brk=>∃σ' H',Inv X pr σ' H' s'/\D.bk σ' H'
 | .cont=>∃σ' H',Inv X pr σ' H' s'/\D.ct σ' H'
 | .ret u=>∃v σ' H',Inv X pr σ' H' s'/\RelV v u/\D.rt v H'
def PE(X:Cx)(e:Expr)(t:TE):Prop:=
 ∀(pr:List (Yx×Obj)) (s:Yw) (σ:St) (H:Hp) (Q:VK),Inv X pr σ H s->t σ H Q->wpAny (model X.prog X.w) X.A (eval e X.env) (EP X pr σ Q) X.xe s
def PT(X:Cx)(e:Expr)(t:TT):Prop:=
 ∀(pr:List (Yx×Obj)) (s:Yw) (σ:St) (H:Hp) (Q:Bool->Hp->Prop),Inv X pr σ H s->t σ H Q->wpAny (model X.prog X.w) X.A (isTrue e X.env (eval e X.env)) (TP X pr σ Q) X.xe s
def PW(X:Cx)(e:Expr)(t:TT):Prop:=
 ∀(whole:Sem Yu) (pr:List (Yx×Obj)) (s:Yw) (σ:St) (H:Hp) (Q:Bool->Hp->Prop),Inv X pr σ H s->t σ H Q->wpAny (model X.prog X.w) X.A (isTrue e X.env whole) (TP X pr σ Q) X.xe s
def PW.pt{X:Cx}{e:Expr}{t:TT}(h:PW X e t):PT X e t:=h _
def PA(X:Cx)(es:List Expr)(t:TA):Prop:=
 ∀(pos:Pos) (pr:List (Yx×Obj)) (s:Yw) (σ:St) (H:Hp) (Q:List V->Hp->Prop),Inv X pr σ H s->t σ H Q->wpAny (model X.prog X.w) X.A (spliced (backTo pos (starEach es X.env))) (AP X pr σ Q) X.xe s
def PS(X:Cx)(st:Stmt)(t:TS):Prop:=
 ∀(pr:List (Yx×Obj)) (s:Yw) (σ:St) (H:Hp) (D:Ends),Inv X pr σ H s->t D σ H->wpAny (model X.prog X.w) X.A (exec st X.env) (SP X pr D) X.xe s
def PSs(X:Cx)(st:List Stmt)(t:TS):Prop:=
 ∀(pr:List (Yx×Obj)) (s:Yw) (σ:St) (H:Hp) (D:Ends),Inv X pr σ H s->t D σ H->wpAny (model X.prog X.w) X.A (execs st X.env) (SP X pr D) X.xe s
def Jt{α:Type}{t:Sem α}{Q Q':α->Yw->Prop}{M:Model}{A:Yz}{E:Yu->Yw->Prop}{s:Yw}(h:wpAny M A t Q E s)(hQ:∀a s,Q a s->Q' a s):wpAny M A t Q' E s:=Xg h hQ fun _ _ x=>x
section
variable{X:Cx}
theorem bin{a b:Expr}{ta tb:TE}(ha:PE X a ta)(hb:PE X b tb){pr:List (Yx×Obj)}{s:Yw}{σ:St}{H:Hp}{R:V->V->Hp->Prop}(I:Inv X pr σ H s)(h:ta σ H fun x H1=>tb σ H1 fun y H2=>R x y H2)
  {α:Type}{Q:α->Yw->Prop}{f:Yu->Yu->Sem α}
  (hf:∀v u s2 x y H2,Inv X pr σ H2 s2->RelV x v->RelV y u->R x y H2->wpAny (model X.prog X.w) X.A (f v u) Q X.xe s2):
  wpAny (model X.prog X.w) X.A (eval a X.env) (fun v s₁=>wpAny (model X.prog X.w) X.A (eval b X.env) (fun u s₂=>wpAny (model X.prog X.w) X.A (f v u) Q X.xe s₂) X.xe s₁) X.xe s:=by
 refine Jt (ha pr s σ H _ I h) fun v s1 Jx=>?_
 obtain⟨x,H1,I1,r1,q1⟩:=Jx;refine Jt (hb pr s1 σ H1 _ I1 q1) fun u s2 Jx=>?_
 obtain⟨y,H2,I2,r2,q2⟩:=Jx;exact hf v u s2 x y H2 I2 r1 r2 q2
def tf(i:Nat):TE:=fun σ H Q=>∃v,σ[i]?=some (some v)/\Q v H
def tC(v:V):TE:=fun _ H Q=>Q v H
theorem CP{i:Nat}{x:Str}{pos:Pos}(hN:X.N[i]?=some x)(hv:S1 X.env.scope x)(hd:(x==("__debug__" : Str))=false:=by decide)(Nr:(x==("__classdict__" : Str))=false:=by decide):PE X (.Name x pos) (tf i):=by
 intro pr s σ H Q I h;obtain⟨v,e,h⟩:=h;obtain⟨m,hn,hl⟩:=I.loc;obtain⟨u,r,l⟩:=hl i x v hN e hv;have fin:EP X pr σ Q u s:=⟨v,H,I,r,h⟩
 rcases l with⟨hk,hm⟩|⟨hk,c,hc,JW⟩
 .exact wpAny_Name (wpAny_loadName_local I.ok.kind hk hn hm fin) hd
 .rcases hk with hk|hk
  .exact wpAny_Name (wpAny_loadName_cell I.ok.kind hk hc JW fin) hd
  .exact wpAny_Name (wpAny_loadName_free I.ok.kind hk hc JW fin Nr) hd
theorem zb{i j pos}:PE X (.Constant (.int i) j pos) (tC (.int i)):=fun _ _ _ H _ I h=>wpAny_Constant_int ⟨.int i,H,I.tok _,⟨_,rfl⟩,h⟩
theorem FK{b j pos}:PE X (.Constant (.bool b) j pos) (tC (.bl b)):=fun _ _ _ H _ I h=>Constant_bool ⟨.bl b,H,I,rfl,h⟩
theorem CQ{j pos}:PE X (.Constant .none j pos) (tC .non):=fun _ _ _ H _ I h=>Constant_none ⟨.non,H,I,rfl,h⟩
theorem CS{x j pos}:PE X (.Constant (.str x) j pos) (tC (.str x)):=fun _ _ _ H _ I h=>Calls.Constant_str ⟨.str x,H,I.tok _,⟨_,rfl⟩,h⟩
def Gl(X:Cx)(x:Str):Prop:=X.env.kindOf x=some .globalImplicit
theorem Aa{E:Yu->Yw->Prop}{pr:List (Yx×Obj)}{s:Yw}{σ:St}{H:Hp}{x:Str}{u:Yu}{pos:Pos}{Q:Yu->Yw->Prop}(I:Inv X pr σ H s)(hg:Gl X x)(hm:X.mg x=some u)(h:Q u s)
  (hd:(x==("__debug__" : Str))=false:=by decide):wpAny (model X.prog X.w) X.A (eval (.Name x pos) X.env) Q E s:=
 X1 I.ok.kind hg (Calls.loadGlobal_global (by rw[I.ok.glob];exact I.mod.glob.keeps I.bk) hm h) hd
theorem g8{E:Yu->Yw->Prop}{pr:List (Yx×Obj)}{s:Yw}{σ:St}{H:Hp}{x:Str}{u:Yu}{pos:Pos}{Q:Yu->Yw->Prop}(I:Inv X pr σ H s)(hg:Gl X x)(hm:X.mg x=none)(hv:bootBuiltins x=some u)(h:Q u s)
  (hn:x≠"__name__":=by decide) (hd:(x==("__debug__" : Str))=false:=by decide):wpAny (model X.prog X.w) X.A (eval (.Name x pos) X.env) Q E s:=by
 obtain⟨mb,h1,h2⟩:=I.mod.blt;exact X1 I.ok.kind hg (Calls.loadGlobal_builtin (by rw[I.ok.glob];exact I.mod.glob.keeps I.bk) hm (by rw[I.ok.blt];exact h1.keeps I.bk) ((h2 x hn).trans hv) h) hd
theorem Ab{x:Str}{v:V}{u:Yu}{pos:Pos}(hg:Gl X x)(hm:X.mg x=none)(hv:bootBuiltins x=some u)(r:RelV v u)(hn:x≠"__name__":=by decide)(hd:(x==("__debug__" : Str))=false:=by decide):PE X (.Name x pos) (tC v):=
 fun _ _ _ H _ I h=>g8 I hg hm hv ⟨v,H,I,r,h⟩ hn hd
variable{a b:Expr}{ta tb:TE}{pos:Pos}
def PC(X:Cx)(op:CmpOp)(a b:Expr)(t:TE):Prop:=
 ∀(pr:List (Yx×Obj)) (s:Yw) (σ:St) (H:Hp) (Q:VK),Inv X pr σ H s->t σ H Q->
  wpAny (model X.prog X.w) X.A (eval a X.env) (fun v s₁=>wpAny (model X.prog X.w) X.A (eval b X.env) (fun u s₂=>wpAny (model X.prog X.w) X.A (compareOp op v u) (EP X pr σ Q) X.xe s₂) X.xe s₁) X.xe s
theorem xE(b:Expr){op:CmpOp}(h:op≠.In)(h2:op≠.NotIn):behindInMarks op b=false:=by
 have e1:(op==CmpOp.In)=false:=by cases op <;> first|rfl|exact absurd rfl h
 have e2:(op==CmpOp.NotIn)=false:=by cases op <;> first|rfl|exact absurd rfl h2
 cases b <;> simp[behindInMarks,e1,e2]
def tB(t:TE):TT:=fun σ H Q=>t σ H fun x H1=>∃c,x=.bl c/\Q c H1
theorem Hq{op:CmpOp}{t:TE}(h:PC X op a b t)(h1:behindInMarks op b=false:=by first|exact xE _ (by decide) (by decide)|rfl):PT X (.Compare a [op] [b] pos) (tB t):=by
 intro pr s σ H Q I hw;refine wpAny_isTrue_Compare1 (Jt (h pr s σ H _ I hw) fun v s1 h1=>Jt h1 fun u s2 h2=>Jt h2 fun c s3 ⟨x,H1,I1,r1,q1⟩=>?_) h1;obtain⟨d,rfl,q⟩:=q1;cases r1;exact Wn ⟨H1,I1,q⟩
theorem CT{e:Expr}{t:TE}(h:PE X e t)(he:∀whole,isTrue e X.env whole=(do let v <-whole;standAt e.pos;holding [v] (truthy v)):=by intro _;rfl):PT X e (tB t):=by
 intro pr s σ H Q I hw;refine isTrue_plain (Jt (h pr s σ H _ I hw) fun v s1 ⟨x,H1,I1,r1,q1⟩=>?_) (he _);obtain⟨d,rfl,q⟩:=q1;cases r1;exact Wn ⟨H1,I1,q⟩
variable{tA Sm:TT}{dX:List Expr}
def HL(t u:TT):TT:=fun σ H Q=>t σ H fun c H1=>if c=true then u σ H1 Q else Q false H1
def tOr(t u:TT):TT:=fun σ H Q=>t σ H fun c H1=>if c=true then Q true H1 else u σ H1 Q
def HM(t:TT):TT:=fun σ H Q=>t σ H fun c H1=>Q (!c) H1
theorem Ac(ha:PT X a tA):PW X (.BoolOp .And [a] pos) tA:=by
 intro wh pr s σ H Q I h;refine isTrue_and (Jt (ha pr s σ H Q I h) fun c s1 e=>?_);cases c with
 |true=>exact isTrue_and_nil e
 |false=>exact e
theorem CU(ha:PT X a tA):PW X (.BoolOp .Or [a] pos) tA:=by
 intro wh pr s σ H Q I h;refine isTrue_or (Jt (ha pr s σ H Q I h) fun c s1 e=>?_);cases c with
 |false=>exact isTrue_or_nil e
 |true=>exact e
theorem CV(ha:PT X a tA)(hb:PW X (.BoolOp .And (b::dX) pos) Sm):PW X (.BoolOp .And (a::b::dX) pos) (HL tA Sm):=by
 intro wh pr s σ H Q I h;refine isTrue_and (Jt (ha pr s σ H _ I h) fun c s1 Jx=>?_);obtain⟨H1,I1,q1⟩:=Jx;cases c with
 |true=>exact hb wh pr s1 σ H1 Q I1 q1
 |false=>exact⟨H1,I1,q1⟩
theorem FN(ha:PT X a tA)(hb:PW X (.BoolOp .Or (b::dX) pos) Sm):PW X (.BoolOp .Or (a::b::dX) pos) (tOr tA Sm):=by
 intro wh pr s σ H Q I h;refine isTrue_or (Jt (ha pr s σ H _ I h) fun c s1 Jx=>?_);obtain⟨H1,I1,q1⟩:=Jx;cases c with
 |true=>exact⟨H1,I1,q1⟩
 |false=>exact hb wh pr s1 σ H1 Q I1 q1
theorem CW(ha:PT X a tA):PT X (.UnaryOp .Not a pos) (HM tA):=by
 intro pr s σ H Q I h;exact isTrue_not (ha pr s σ H (fun c H1=>Q (!c) H1) I h)
def FQ(ta tb:TE):TE:=fun σ H Q=>ta σ H fun x H1=>∃c,x=.bl c/\if c=true then tb σ H1 Q else Q (.bl false) H1
def FR(ta:TE):TE:=fun σ H Q=>ta σ H fun x H1=>∃c,x=.bl c/\Q (.bl (!c)) H1
theorem CY{op}{t:TE}(h:PE X a t):PE X (.BoolOp op [a] pos) t:=fun pr s σ H Q I hw=>BoolOp_one (h pr s σ H Q I hw)
theorem CZ(ha:PE X a ta)(hb:PE X (.BoolOp .And (b::dX) pos) tb):PE X (.BoolOp .And (a::b::dX) pos) (FQ ta tb):=by
 intro pr s σ H Q I h;refine BoolOp_and (Jt (ha pr s σ H _ I h) fun v s1 Jx=>?_);obtain⟨x,H1,I1,r1,q1⟩:=Jx;obtain⟨c,rfl,q1⟩:=q1;cases r1;refine Wn ?_;cases c with
 |true=>exact hb pr s1 σ H1 Q I1 q1
 |false=>exact⟨.bl false,H1,I1,rfl,q1⟩
theorem C0(ha:PE X a ta):PE X (.UnaryOp .Not a pos) (FR ta):=by
 intro pr s σ H Q I h;refine UnaryOp_ (Jt (ha pr s σ H _ I h) fun v s1 Jx=>?_);obtain⟨x,H1,I1,r1,q1⟩:=Jx;obtain⟨c,rfl,q1⟩:=q1;cases r1;exact not_of (Wn ⟨.bl (!c),H1,I1,rfl,q1⟩)
end
def SqL(K:W.Frag)(H:Hp)(a:Yx)(xs:List V):Prop:=
 Rd H a (.lst xs)\/
  ∃(o:Obj) (Je:Array Yu) (n:Nat),K.lookup a=some o/\o.cls=.type "list"/\o.dict=none/\o.data=.seq Je n/\Je.size<=sizeLine/\Vals xs Je.toList
def SqT(K:W.Frag)(H:Hp)(a:Yx)(xs:List V):Prop:=
 Rd H a (.tup xs)\/
  ∃(o:Obj) (Je:Array Yu) (n:Nat),K.lookup a=some o/\o.cls=.type "tuple"/\o.dict=none/\o.data=.seq Je n/\Je.size<=sizeLine/\Vals xs Je.toList
def HN:Yu->Option V
 | .none=>some .non
 | .bool b=>some (.bl b)
 | .int i _=>some (.int i)
 | .str x _=>some (.str x)
 | .bytes b _=>some (.byt b)
 | .float b _=>some (.flt b)
 | .ref a=>some (.ref a)
 | .type n=>some (.ty n)
 |_=>none
def RelV.abs{x:V}{u:Yu}(r:RelV x u):HN u=some x:=by
 cases x with
 |non=>cases r;rfl
 |bl _=>cases r;rfl
 |int _=>obtain⟨t,rfl⟩:=r;rfl
 |str _=>obtain⟨t,rfl⟩:=r;rfl
 |byt _=>obtain⟨t,rfl⟩:=r;rfl
 |flt _=>obtain⟨t,rfl⟩:=r;rfl
 |ref _=>cases r;rfl
 |ty _=>cases r;rfl
def RelV.inj{x y:V}{u:Yu}(r:RelV x u)(q:RelV y u):x=y:=Vg (r.abs.symm.trans q.abs)
theorem Vals.inj:∀{xs ys:List V}{us:List Yu},Vals xs us->Vals ys us->xs=ys
 |_,_,_,.nil,.nil=>rfl
 |_,_,_,.cons r t,.cons r' t'=>by rw[r.inj r',Vals.inj t t']
section
variable{X:Cx}{pr:List (Yx×Obj)}{σ:St}{H:Hp}{s:Yw}{a:Yx}{xs ys:List V}
theorem SqL.of{K:W.Frag}(h:H a=some (.lst xs)):SqL K H a xs:=.inl (.inl h)
theorem SqT.of{K:W.Frag}(h:H a=some (.tup xs)):SqT K H a xs:=.inl (.inl h)
theorem Inv.list(I:Inv X pr σ H s)(h:SqL X.K H a xs):∃Je:List Yu,Vals xs Je/\PlainL s.heap a Je.toArray/\xs.length<=sizeLine:=by
 rcases h with h|⟨o,Je,n,hk,hc,hd,hs,hz,r⟩
 .obtain⟨z,Je,n,r,e⟩:=h.ok I.hok;exact⟨Je,r,⟨_,n,e,rfl,rfl,rfl⟩,z⟩
 .refine⟨Je.toList,r,⟨o,n,I.kIn a o hk,hc,hd,by simpa using hs⟩,?_⟩;have e:=r.length;simp only[V3]at e;lia
theorem Inv.tupleN(I:Inv X pr σ H s)(h:SqT X.K H a xs):∃Je:List Yu,Vals xs Je/\IsTupN s.heap a Je.toArray/\xs.length<=sizeLine:=by
 rcases h with h|⟨o,Je,n,hk,hc,hdn,hs,hz,r⟩
 .obtain⟨z,Je,r,p⟩:=h.ok I.hok;exact⟨Je,r,p,z⟩
 .refine⟨Je.toList,r,⟨o,I.kIn a o hk,hc,⟨n,by simpa using hs⟩,hdn⟩,?_⟩;have e:=r.length;simp only[V3]at e;lia
theorem Inv.tuple(I:Inv X pr σ H s)(h:SqT X.K H a xs):∃Je:List Yu,Vals xs Je/\IsTup s.heap a Je.toArray/\xs.length<=sizeLine:=by
 obtain⟨Je,r,p,z⟩:=I.tupleN h;exact⟨Je,r,p.tup,z⟩
theorem Inv.list_inj(I:Inv X pr σ H s)(h:SqL X.K H a xs)(h':SqL X.K H a ys):xs=ys:=by
 obtain⟨Je,r,⟨o,n,e,_,_,d⟩,_⟩:=I.list h;obtain⟨its',r',⟨o',n',e',_,_,d'⟩,_⟩:=I.list h';rw[e]at e';cases e';rw[d]at d';injection d' with d1 _;have:Je=its':=by simpa using V5 Array.toList d1
 subst this;exact r.inj r'
theorem Inv.tuple_inj(I:Inv X pr σ H s)(h:SqT X.K H a xs)(h':SqT X.K H a ys):xs=ys:=by
 obtain⟨Je,r,⟨o,e,_,n,d⟩,_⟩:=I.tuple h;obtain⟨its',r',⟨o',e',_,n',d'⟩,_⟩:=I.tuple h';rw[e]at e';cases e';rw[d]at d';injection d' with d1 _;have:Je=its':=by simpa using V5 Array.toList d1
 subst this;exact r.inj r'
end
abbrev Cx.wish(X:Cx)(E:Yu->Yw->Prop):Cx:={X with xe:=E}
abbrev Cx.nox(X:Cx):Cx:=X.wish fun _ _=>False
theorem Cx.Ok.wish{X:Cx}(ok:X.Ok)(E:Yu->Yw->Prop):(X.wish E).Ok:=
 ⟨ok.mod,ok.kind,ok.glob,ok.blt,ok.above,ok.inj,ok.has,ok.cab,ok.hd,ok.frames,ok.stk,ok.exf,ok.bs,ok.bsz,ok.noex,ok.exfs,ok.funs,ok.frf⟩
def Cx.Ok.unwish{X:Cx}{E:Yu->Yw->Prop}(ok:(X.wish E).Ok):X.Ok:=
 ⟨ok.mod,ok.kind,ok.glob,ok.blt,ok.above,ok.inj,ok.has,ok.cab,ok.hd,ok.frames,ok.stk,ok.exf,ok.bs,ok.bsz,ok.noex,ok.exfs,ok.funs,ok.frf⟩
section
variable{X:Cx}{pr:List (Yx×Obj)}{σ:St}{H:Hp}{s:Yw}{E:Yu->Yw->Prop}
theorem Inv.wish(I:Inv X pr σ H s)(E:Yu->Yw->Prop):Inv (X.wish E) pr σ H s:=⟨I.ok.wish E,I.os,I.bare,I.base,I.loc,I.cell,I.free,I.freeC,I.pin,I.hok,I.len⟩
theorem Inv.unwish(I:Inv (X.wish E) pr σ H s):Inv X pr σ H s:=⟨I.ok.unwish,I.os,I.bare,I.base,I.loc,I.cell,I.free,I.freeC,I.pin,I.hok,I.len⟩
theorem SP.unwish{D:Ends}{f:Flow}{s':Yw}(h:SP (X.wish E) pr D f s'):SP X pr D f s':=by
 cases f with
 |next=>obtain⟨σ',H',I,q⟩:=h;exact⟨σ',H',I.unwish,q⟩
 |brk=>obtain⟨σ',H',I,q⟩:=h;exact⟨σ',H',I.unwish,q⟩
 |cont=>obtain⟨σ',H',I,q⟩:=h;exact⟨σ',H',I.unwish,q⟩
 |ret u=>obtain⟨v,σ',H',I,r,q⟩:=h;exact⟨v,σ',H',I.unwish,r,q⟩
theorem PSs.nox{st:List Stmt}{t:TS}(h:PSs X.nox st t):PSs X st t:=fun pr s σ H D I hw=>
 Xg (h pr s σ H D (I.wish _) hw) (fun _ _ q=>q.unwish) fun _ _ z=>False.elim z
end
section
variable{X:Cx}{st:Stmt}{dX:List Stmt}{t u:TS}{e:Expr}{te:TE}{pos:Pos}
def FU:TS:=fun D σ H=>D.nx σ H
def HP(t u:TS):TS:=fun D σ H=>t {D with nx:=u D} σ H
theorem Ad:PSs X [] FU:=fun _ _ σ H _ I h=>XS ⟨σ,H,I,h⟩
theorem xF(h1:PS X st t)(h2:PSs X dX u):PSs X (st::dX) (HP t u):=by
 intro pr s σ H D I h;refine wpAny_execs_cons (Jt (h1 pr s σ H {D with nx:=u D} I h) fun f s1 q=>?_);cases f with
 |next=>
  obtain⟨σ',H',I',q⟩:=q;exact h2 pr s1 σ' H' D I' q
 |ret v=>exact q
 |brk=>exact q
 |cont=>exact q
theorem Ae(h1:PS X st t):PSs X [st] t:=by
 intro pr s σ H D I h;refine wpAny_execs_cons (Jt (h1 pr s σ H D I h) fun f s1 q=>?_);cases f with
 |next=>exact XS q
 |ret v=>exact q
 |brk=>exact q
 |cont=>exact q
theorem Inv.quiet{pr:List (Yx×Obj)}{σ:St}{H:Hp}{s:Yw}(I:Inv X pr σ H s):interactive X.env=false:=by simp[interactive,I.ok.kind]
def FV(te:TE):TS:=fun D σ H=>te σ H fun _ H1=>D.nx σ H1
theorem Af(he:PE X e te)(hs:swapsWith e none pos.line X.env=pure false:=by rfl):PS X (.Expr e pos) (FV te):=by
 intro pr s σ H D I h;exact wpAny_Expr_any (Jt (he pr s σ H _ I h) fun v s1 ⟨x,H1,I1,r1,q1⟩=>⟨σ,H1,I1,q1⟩) I.quiet hs
def HQ(te:TE):TS:=fun D σ H=>te σ H D.rt
theorem zc(he:PE X e te):PS X (.Return (some e) pos) (HQ te):=by
 intro pr s σ H D I h;exact wpAny_Return_some (Jt (he pr s σ H _ I h) fun v s1 ⟨x,H1,I1,r1,q1⟩=>⟨x,σ,H1,I1,r1,q1⟩)
def HR(c:TT)(t u:TS):TS:=fun D σ H=>c σ H fun b H1=>if b=true then t D σ H1 else u D σ H1
theorem FW{c:Expr}{a b:List Stmt}{tc:TT}(hc:PT X c tc)(ha:PSs X a t)(hb:PSs X b u):PS X (.If c a b pos) (HR tc t u):=by
 intro pr s σ H D I h;refine wpAny_If (Jt (hc pr s σ H _ I h) fun d s1 Jx=>?_);obtain⟨H1,I1,q1⟩:=Jx;cases d with
 |true=>exact ha pr s1 σ H1 D I1 q1
 |false=>exact hb pr s1 σ H1 D I1 q1
def C1:TS:=fun _ _ _=>False
theorem xG:PS X st C1:=fun _ _ _ _ _ _ h=>h.elim
end
abbrev TG:=V->St->Hp->(St->Hp->Prop)->Prop
abbrev Pb:=List V->St->Hp->(St->Hp->Prop)->Prop
def PG(X:Cx)(target:Expr)(t:TG):Prop:=
 ∀(pr:List (Yx×Obj)) (s:Yw) (σ:St) (H:Hp) (v:V) (u:Yu) (Q:St->Hp->Prop),Inv X pr σ H s->RelV v u->t v σ H Q->
  wpAny (model X.prog X.w) X.A (assign target X.env u) (fun _ s'=>∃σ' H',Inv X pr σ' H' s'/\Q σ' H') X.xe s
def Pq(X:Cx)(ts:List Expr)(t:Pb):Prop:=
 ∀(pr:List (Yx×Obj)) (s:Yw) (σ:St) (H:Hp) (vs:List V) (us:List Yu) (Q:St->Hp->Prop),Inv X pr σ H s->Vals vs us->t vs σ H Q->
  wpAny (model X.prog X.w) X.A (assignInOrder ((assignEach ts X.env).map (·.2)) us) (fun _ s'=>∃σ' H',Inv X pr σ' H' s'/\Q σ' H') X.xe s
abbrev HS:=V->V->V->Hp->(Hp->Prop)->Prop
def HU(X:Cx)(t:HS):Prop:=
 ∀(pr:List (Yx×Obj)) (s:Yw) (σ:St) (H:Hp) (o i v:V) (ov iv u:Yu) (Q:Hp->Prop),Inv X pr σ H s->RelV o ov->RelV i iv->RelV v u->t o i v H Q->
  wpAny (model X.prog X.w) X.A (setItem ov iv u) (fun _ s'=>∃H',Inv X pr σ H' s'/\Q H') X.xe s
section
variable{X:Cx}{pos:Pos}
def C2(i:Nat):TG:=fun v σ H Q=>Q (σ.set i (some v)) H
theorem Ag{i:Nat}{x:Str}(hN:X.N.Nodup)(hi:X.N[i]?=some x)(hx:Loc X.env.scope x)(hf:X.fn x=true\/X.env.scope.names.lookup x=some .local:=by first|exact .inl rfl|exact .inr rfl|assumption):PG X (.Name x pos) (C2 i):=by
 intro pr s σ H v u Q I r h;exact wpAny_assign_Name (qR I hN hi hx r (fun s' I'=>⟨_,H,I',h⟩) hf)
def HV:Pb:=fun vs σ H Q=>vs=[]/\Q σ H
def FY(t:TG)(u:Pb):Pb:=fun vs σ H Q=>∃v r,vs=v::r/\t v σ H fun σ' H'=>u r σ' H' Q
theorem Ah:Pq X [] HV:=by
 intro pr s σ H vs us Q I r h;obtain⟨e,h⟩:=h;subst e;cases r;exact assignInOrder_nil ⟨σ,H,I,h⟩
theorem xH{e:Expr}{es:List Expr}{t:TG}{u:Pb}(h1:PG X e t)(h2:Pq X es u)
  (hs:(assignEach (e::es) X.env).map (·.2)=assign e X.env::(assignEach es X.env).map (·.2):=by rfl):Pq X (e::es) (FY t u):=by
 intro pr s σ H vs us Q I r h;obtain⟨v,vr,e1,h⟩:=h;subst e1;cases r with
 |cons r rr=>
  rw[hs];refine assignInOrder_cons (Jt (h1 pr s σ H _ _ _ I r h) fun _ s1 Jx=>?_);obtain⟨σ1,H1,I1,q1⟩:=Jx;exact h2 pr s1 σ1 H1 _ _ Q I1 rr q1
def HW(K:W.Frag)(n:Nat)(t:Pb):TG:=fun v σ H Q=>∃a xs,v=.ref a/\SqT K H a xs/\xs.length=n/\t xs σ H Q
theorem C3{es:List Expr}{k:Nat}{t:Pb}{n:Nat}(hc:X.calm=true)(h:Pq X es t)
  (hn:(assignEach es X.env).length=n:=by rfl) (MX:(assignEach es X.env).findIdx? (·.1)=none:=by rfl):PG X (.Tuple es k pos) (HW X.K n t):=by
 intro pr s σ H v u Q I r hw;obtain⟨a,xs,e1,hq,hl,hw⟩:=hw;subst e1;cases r;obtain⟨Je,rv,ht,hz⟩:=I.tuple hq;refine assign_Tuple_tuple (I.ok.hd hc) ht (by simp[hn,<-hl,rv.length]) MX fun h' hx=>?_
 have I1:Inv X pr σ H {s with heap:=h'}:=I.kept (t':=s.toks) fun b o e=>hx b o (Vk (U9 e)) e
 exact h pr _ σ H xs _ Q I1 (by simpa using rv) hw
def Hr(te:TE)(g:TG):TS:=fun D σ H=>te σ H fun x H1=>g x σ H1 D.nx
theorem C4{tg e:Expr}{te:TE}{g:TG}(he:PE X e te)(hg:PG X tg g)(hs:swapsWithSole [tg] e pos.line X.env=pure false:=by rfl)(hw:swappedStores [tg] e X.env=pure none:=by rfl)
  (h1:(assignEach [tg] X.env).map (·.2)=[assign tg X.env]:=by rfl):PS X (.Assign [tg] e pos) (Hr te g):=by
 intro pr s σ H D I h;refine wpAny_Assign_stores (Jt (he pr s σ H _ I h) fun v s1 ⟨x,H1,I1,r1,q1⟩=>?_) hs hw;rw[h1];exact Jt (hg pr s1 σ H1 x v _ I1 r1 q1) fun _ s2 q=>q
theorem C5{i:Nat}{x:Str}{e:Expr}{te:TE}{pos':Pos}(hN:X.N.Nodup)(hi:X.N[i]?=some x)(hx:Loc X.env.scope x)(he:PE X e te)(hs:swapsWith e (some (.Name x pos')) pos.line X.env=pure false:=by rfl)(hf:X.fn x=true\/X.env.scope.names.lookup x=some .local:=by first|exact .inl rfl|exact .inr rfl|assumption):
  PS X (.Assign [.Name x pos'] e pos) (Hr te (C2 i)):=by
 intro pr s σ H D I h;refine wpAny_Assign_Name (Jt (he pr s σ H _ I h) fun v s1 ⟨y,H1,I1,r1,q1⟩=>?_) hs;exact qR I1 hN hi hx r1 (fun s2 I2=>⟨_,H1,I2,q1⟩) hf
end
section
variable{X:Cx}{pos:Pos}
def C6(c:TT)(tb:TS):TS:=fun D σ H=>∃W:Nat->St->Hp->Prop,(∃m,W m σ H)/\∀m σ H,W m σ H->
 c σ H fun b H1=>if b=true then ∃N:St->Hp->Prop,(∀σ' H',N σ' H'->∃m',m'<m/\W m' σ' H')/\tb {D with nx:=N,ct:=N,bk:=D.nx} σ H1 else D.nx σ H1
theorem xI{c:Expr}{body:List Stmt}{tc:TT}{tb:TS}(hp:PassesOwn (model X.prog X.w) X.A X.env X.xe)(hc:PT X c tc)(hb:PSs X body tb):PS X (.While c body [] pos) (C6 tc tb):=by
 intro pr s σ H D I h;obtain⟨W,⟨m0,w0⟩,turn⟩:=h;refine wpAny_While (codeAny_whileLoop (fun n s'=>∃σ' H',Inv X pr σ' H' s'/\W n σ' H') ?_ m0 ⟨σ,H,I,w0⟩);rintro n s1 ⟨σ1,H1,I1,w1⟩;refine WI hp (Jt (hc pr s1 σ1 H1 _ I1 (turn n σ1 H1 w1)) fun b s2 Jx=>?_);obtain⟨H2,I2,q2⟩:=Jx;cases b with
 |true=>
  obtain⟨N,hN,q2⟩:=q2;rw[U5 rfl];refine WI hp (Jt (hb pr s2 σ1 H2 _ I2 q2) fun f s3 q3=>?_);cases f with
  |next=>
   obtain⟨σ3,H3,I3,n3⟩:=q3;obtain⟨m',hm,w3⟩:=hN σ3 H3 n3;exact⟨m',hm,σ3,H3,I3,w3⟩
  |cont=>
   obtain⟨σ3,H3,I3,n3⟩:=q3;obtain⟨m',hm,w3⟩:=hN σ3 H3 n3;exact⟨m',hm,σ3,H3,I3,w3⟩
  |brk=>exact q3
  |ret v=>exact q3
 |false=>
  rw[U8 U3];exact XS ⟨σ1,H2,I2,q2⟩
end
structure It where
 go:Nat->Hp->Prop
 yld:Nat->Hp->V->Hp->Prop
 stop:Nat->Hp->Prop
def uy(X:Cx)(pr:List (Yx×Obj))(H:Hp)(b:Yx):Prop:=
 H b=none/\b≠X.env.locals/\b∉X.fs/\(b∈X.ex\/X.s₀.heap.objs.size<=b)/\(∀x c,X.env.cells.lookup x=some c->c≠b)/\∀p∈X.pn++pr,p.1≠b
def Inv.fpOk{X:Cx}{pr:List (Yx×Obj)}{σ:St}{H H':Hp}{s:Yw}{b:Yx}(I:Inv X pr σ H s)(hb:s.heap.objs.size<=b)(hn:H' b=none):uy X pr H' b:=by
 refine⟨hn,ZG (Vd I.lt hb),I.nofs hb,.inr (Vx I.sz hb),fun x c e z=>?_,fun p hp z=>?_⟩
 .obtain⟨v,q⟩:=I.cell x c e;exact absurd (Vd q.lt (by rw[z];exact hb)) (WO _)
 .exact absurd (Vd (U9 (I.pin p hp).1) (by rw[z];exact hb)) (WO _)
structure Turn(P:Yy)(w:World)(K:W.Frag)(tg:Expr)(J:It)(fp:List Yx)(it:Yx)(tn:Nat->YB->Prop):Prop where
 mem:it∈fp
 obj:∀i h,tn i h->∀b∈fp,∃o,h.get? b=some o/\∀v,o.data≠.cell v
 keep:∀i h h',tn i h->(∀b∈fp,∀o,h.get? b=some o->h'.get? b=some o)->tn i h'
 item:∀(X:Cx),X.prog=P->X.w=w->X.K=K->X.calm=true->∀(i:Nat) (pr:List (Yx×Obj)) (s:Yw) (σ:St) (H:Hp) (E:Yu->Yw->Prop),Inv X pr σ H s->(∀b∈fp,uy X pr H b)->tn i s.heap->J.go i H->
  wpAny (model P w) X.A (pyNext (.ref it)) (fun r s1=>∃u,r=some u/\
   wpAny (model P w) X.A (letOwnedTupleGo tg (.ref it) u) (fun _ s2=>∃x H',Inv X pr σ H' s2/\RelV x u/\J.yld i H x H'/\tn (i+1) s2.heap/\∀b∈fp,H' b=none) E s1) E s
 done:∀(X:Cx),X.prog=P->X.w=w->X.K=K->X.calm=true->∀(i:Nat) (pr:List (Yx×Obj)) (s:Yw) (σ:St) (H:Hp) (E:Yu->Yw->Prop),Inv X pr σ H s->(∀b∈fp,uy X pr H b)->tn i s.heap->J.stop i H->
  wpAny (model P w) X.A (pyNext (.ref it)) (fun r s1=>r=none/\Inv X pr σ H s1) E s
 self:∀(A:Yz) (i:Nat) (s:Yw) (Q:Yu->Yw->Prop) (E:Yu->Yw->Prop),tn i s.heap->Q (.ref it) s->wpAny (model P w) A (pyIter (.ref it)) Q E s
abbrev TI:=St->Hp->(It->Hp->Prop)->Prop
def S2(X:Cx)(pr:List (Yx×Obj))(σ:St)(tg:Expr)(R:It->Hp->Prop)(Sn:Yu)(s2:Yw):Prop:=
 ∃(it:Yx) (fp:List Yx) (tn:Nat->YB->Prop) (J:It) (H':Hp),Sn=.ref it/\Inv X pr σ H' s2/\Turn X.prog X.w X.K tg J fp it tn/\tn 0 s2.heap/\(∀b∈fp,uy X pr H' b)/\R J H'
def PI(X:Cx)(tg iter:Expr)(wi:TI):Prop:=
 ∀(pr:List (Yx×Obj)) (s:Yw) (σ:St) (H:Hp) (R:It->Hp->Prop),Inv X pr σ H s->wi σ H R->
  wpAny (model X.prog X.w) X.A (eval iter X.env) (fun v s1=>wpAny (model X.prog X.w) X.A (pyIter v) (S2 X pr σ tg R) X.xe s1) X.xe s
def tj {M : Model} {A : Yz} {E : Yu -> Yw -> Prop} {s : Yw} {tg : Expr} {it : Yx} {u : Yu} {o : Obj} {n : String} {vs : Array Yu} {Q : Unit -> Yw -> Prop} (ho : s.heap.get? it = some o) (hc : o.cls = .type n) (hd : o.data = .fields vs)
    (hn : ["enumerate", "zip", "dict_itemiterator", "dict_reverseitemiterator", "odict_iterator", "itertools.zip_longest", "itertools.pairwise"].contains n = false) (hQ : Q () s) : wpAny M A (letOwnedTupleGo tg (.ref it) u) Q E s := by
  unfold letOwnedTupleGo
  cases tg <;> first
    | exact U1 hQ
    | (cases u <;> first
        | exact U1 hQ
        | (refine UX (wpAny_load ho ?_)
           rw [hc, hd]
           show wpAny M A (if (["enumerate", "zip", "dict_itemiterator", "dict_reverseitemiterator", "odict_iterator", "itertools.zip_longest", "itertools.pairwise"].contains n && vs[0]? == some (rawInt _)) = true then _ else _) Q E s
           rw [U8 (by intro h; rw [hn, XA] at h; cases h)]
           exact U1 hQ))
def QF(K:W.Frag)(a:Yx):It:=
 ⟨fun i H=>∃xs x,SqL K H a xs/\xs[i]?=some x,fun i H x H'=>H'=H/\∀xs,SqL K H a xs->xs[i]?=some x,fun i H=>∃xs,SqL K H a xs/\xs.length<=i⟩
def S3(K:W.Frag)(a:Yx):It:=
 ⟨fun i H=>∃xs x,SqT K H a xs/\xs[i]?=some x,fun i H x H'=>H'=H/\∀xs,SqT K H a xs->xs[i]?=some x,fun i H=>∃xs,SqT K H a xs/\xs.length<=i⟩
def Q5(lo:Int)(n:Nat):It:=⟨fun i _=>i<n,fun i H x H'=>H'=H/\x=.int (lo+i),fun i _=>n<=i⟩
def uD{P:Yy}{w:World}{K:W.Frag}{tg:Expr}(a it:Yx):Turn P w K tg (QF K a) [it] it (fun i h=>h.IsListIter it a i) where
 mem:=by simp
 obj:=fun i h st b hb=>by
  have e:b=it:=by simpa using hb
  subst e;obtain⟨o,e,c,d⟩:=st;exact⟨o,e,fun v z=>by rw[d]at z;cases z⟩
 keep:=fun i h h' st k=>st.at fun o e=>k it (by simp) o e
 item:=by
  intro X hP hw hK hc i pr s σ H E I hf st hg;subst hP hw hK;obtain⟨xs,x,hq,hx⟩:=hg;obtain⟨Je,rv,p,hz⟩:=I.list hq;obtain⟨u,hu,ru⟩:=rv.get hx;obtain⟨f0,f1,f2,f3,f4,f5⟩:=hf it (by simp);refine wpAny_pyNext_list_item st p.isList (x:=u) (by simpa using hu) fun h' Kx sb=>?_
  have I1:Inv X pr σ H {s with heap:=h'}:=I.turned (t':=s.toks) (fun b o hb e=>(sb.2 b hb).trans e) f0 f1 f3 f4 f5;obtain⟨o,e,c,d⟩:=id Kx;exact⟨u,rfl,tj (s:={s with heap:=h'}) e c d (by decide) ⟨x,H,I1,ru,⟨rfl,fun ys hy=>by rw[I.list_inj hy hq];exact hx⟩,Kx,fun b hb=>(hf b hb).1⟩⟩
 done:=by
  intro X hP hw hK hc i pr s σ H E I hf st hg;subst hP hw hK;obtain⟨xs,hq,hx⟩:=hg;obtain⟨Je,rv,p,hz⟩:=I.list hq;obtain⟨f0,f1,f2,f3,f4,f5⟩:=hf it (by simp);have hl:=rv.length;exact wpAny_pyNext_list_end (I.ok.hd hc) st p.isList (by simp;lia) fun h' eb=>⟨rfl,I.turned (t':=s.toks) (fun b o hb e=>eb b o hb e) f0 f1 f3 f4 f5⟩
 self:=fun _ _ _ _ _ st h=>wpAny_pyIter_listiter st h
def tm{P:Yy}{w:World}{K:W.Frag}{tg:Expr}(a it:Yx):Turn P w K tg (S3 K a) [it] it (fun i h=>h.IsTupleIter it a i) where
 mem:=by simp
 obj:=fun i h st b hb=>by
  have e:b=it:=by simpa using hb
  subst e;obtain⟨o,e,c,d⟩:=st;exact⟨o,e,fun v z=>by rw[d]at z;cases z⟩
 keep:=fun i h h' st k=>st.at fun o e=>k it (by simp) o e
 item:=by
  intro X hP hw hK hc i pr s σ H E I hf st hg;subst hP hw hK;obtain⟨xs,x,hq,hx⟩:=hg;obtain⟨Je,rv,p,hz⟩:=I.tuple hq;obtain⟨u,hu,ru⟩:=rv.get hx;obtain⟨f0,f1,f2,f3,f4,f5⟩:=hf it (by simp);refine wpAny_pyNext_tuple_item st (show s.heap.IsTuple a Je.toArray from p) (x:=u) (by simpa using hu) fun h' Kx sb=>?_
  have I1:Inv X pr σ H {s with heap:=h'}:=I.turned (t':=s.toks) (fun b o hb e=>(sb.2 b hb).trans e) f0 f1 f3 f4 f5;obtain⟨o,e,c,d⟩:=id Kx;exact⟨u,rfl,tj (s:={s with heap:=h'}) e c d (by decide) ⟨x,H,I1,ru,⟨rfl,fun ys hy=>by rw[I.tuple_inj hy hq];exact hx⟩,Kx,fun b hb=>(hf b hb).1⟩⟩
 done:=by
  intro X hP hw hK hc i pr s σ H E I hf st hg;subst hP hw hK;obtain⟨xs,hq,hx⟩:=hg;obtain⟨Je,rv,p,hz⟩:=I.tuple hq;obtain⟨f0,f1,f2,f3,f4,f5⟩:=hf it (by simp);have hl:=rv.length;exact wpAny_pyNext_tuple_end (I.ok.hd hc) st (show s.heap.IsTuple a Je.toArray from p) (by simp;lia) fun h' eb=>⟨rfl,I.turned (t':=s.toks) (fun b o hb e=>eb b o hb e) f0 f1 f3 f4 f5⟩
 self:=fun _ _ _ _ _ st h=>wpAny_pyIter_tupleiter st h
def tq{P:Yy}{w:World}{K:W.Frag}{tg:Expr}(it:Yx)(lo:Int)(n:Nat):Turn P w K tg (Q5 lo n) [it] it (fun i h=>IsRangeIter h it (lo+(i:Nat)*1) ((n:Int)-(i:Nat)) 1) where
 mem:=by simp
 obj:=fun i h st b hb=>by
  have e:b=it:=by simpa using hb
  subst e;exact⟨_,st,fun v z=>by
   have z':Data.fields _=Data.cell v:=z;cases z'⟩
 keep:=fun i h h' st k=>k it (by simp) _ st
 item:=by
  intro X hP hw hK hc i pr s σ H E I hf st hg;subst hP hw hK;obtain⟨f0,f1,f2,f3,f4,f5⟩:=hf it (by simp);have W:=Walks.range (prog:=X.prog) (w:=X.w) (I.ok.hd hc) it lo 1 n;refine W.item i s _ _ hg st fun v h' tk hv Kx kk=>?_
  obtain⟨t,rfl⟩:=hv;have I1:Inv X pr σ H {s with heap:=h',toks:=tk}:=I.turned (fun b o hb e=>kk b o (by simpa using hb) e) f0 f1 f3 f4 f5;refine⟨_,rfl,tj (s:={s with heap:=h',toks:=tk}) (n:="range_iterator") Kx rfl rfl (by decide) ⟨.int (lo+i),H,I1,⟨t,?_⟩,⟨rfl,rfl⟩,Kx,fun b hb=>(hf b hb).1⟩⟩;rw[Int.mul_one]
 done:=by
  intro X hP hw hK hc i pr s σ H E I hf st hg;subst hP hw hK;obtain⟨f0,f1,f2,f3,f4,f5⟩:=hf it (by simp);exact wpAny_pyNext_range_end (I.ok.hd hc) st (by have:n<=i:=hg;lia) fun h' eb=>⟨rfl,I.turned (t':=s.toks) (fun b o hb e=>eb b o hb e) f0 f1 f3 f4 f5⟩
 self:=fun _ _ _ _ _ st h=>Xr st h
section
variable{X:Cx}{tg:Expr}
def FZ(K:W.Frag)(tl:TE):TI:=fun σ H R=>tl σ H fun x H1=>∃a,x=.ref a/\(∃xs,SqL K H1 a xs)/\R (QF K a) H1
def HX(K:W.Frag)(tl:TE):TI:=fun σ H R=>tl σ H fun x H1=>∃a,x=.ref a/\(∃xs,SqT K H1 a xs)/\R (S3 K a) H1
theorem uE{l:Expr}{tl:TE}(hl:PE X l tl):PI X tg l (FZ X.K tl):=by
 intro pr s σ H R I h;refine Jt (hl pr s σ H _ I h) fun v s1 Jx=>?_
 obtain⟨x,H1,I1,r1,q1⟩:=Jx;obtain⟨a,e,⟨xs,hq⟩,q⟩:=q1;subst e;cases r1;obtain⟨Je,rv,p,hz⟩:=I1.list hq;refine WJ p.isList ?_;refine⟨s1.heap.objs.size,[s1.heap.objs.size],_,_,H1,rfl,I1.kept (t':=s1.toks) fun b o e=>Heap.get?_push_of_some _ e,uD a _,⟨_,Heap.get?_push_size _ rfl,rfl,rfl⟩,fun b hb=>?_,q⟩;have e:b=s1.heap.objs.size:=by simpa using hb
 subst e;exact I1.fpOk (U6 _) (I1.hok.fresh (U6 _))
theorem C7{l:Expr}{tl:TE}(hl:PE X l tl):PI X tg l (HX X.K tl):=by
 intro pr s σ H R I h;refine Jt (hl pr s σ H _ I h) fun v s1 Jx=>?_
 obtain⟨x,H1,I1,r1,q1⟩:=Jx;obtain⟨a,e,⟨xs,hq⟩,q⟩:=q1;subst e;cases r1;obtain⟨Je,rv,p,hz⟩:=I1.tuple hq;refine Wz (show s1.heap.IsTuple a Je.toArray from p) ?_;refine⟨s1.heap.objs.size,[s1.heap.objs.size],_,_,H1,rfl,I1.kept (t':=s1.toks) fun b o e=>Heap.get?_push_of_some _ e,tm a _,⟨_,Heap.get?_push_size _ rfl,rfl,rfl⟩,fun b hb=>?_,q⟩;have e:b=s1.heap.objs.size:=by simpa using hb
 subst e;exact I1.fpOk (U6 _) (I1.hok.fresh (U6 _))
theorem qS{pr:List (Yx×Obj)}{σ:St}{H:Hp}{s:Yw}{R:It->Hp->Prop}{E:Yu->Yw->Prop}{lo hi:Int}{t u v:Tok}{tk:Nat}(I:Inv X pr σ H s)(h1:-(2 ^ 62)<=lo)(h2:lo<2 ^ 62)(h3:-(2 ^ 62)<=hi)(h4:hi<2 ^ 62)
  (q:R (Q5 lo (hi-lo).toNat) H):wpAny (model X.prog X.w) X.A (pyIter (.ref s.heap.objs.size)) (S2 X pr σ tg R) E {s with heap:=s.heap.push {cls:=.type "range",data:=.fields #[.int lo t,.int hi u,.int 1 v]},toks:=tk}:=by
 refine wpAny_pyIter_range (IsRange.new ..) (small_one h1 h2 h3 h4) ?_;have I1:Inv X pr σ H {s with heap:=s.heap.push {cls:=.type "range",data:=.fields #[.int lo t,.int hi u,.int 1 v]},toks:=tk}:=I.kept fun b o e=>Heap.get?_push_of_some _ e
 refine⟨(s.heap.push {cls:=.type "range",data:=.fields #[.int lo t,.int hi u,.int 1 v]}).objs.size,[(s.heap.push {cls:=.type "range",data:=.fields #[.int lo t,.int hi u,.int 1 v]}).objs.size],_,_,H,rfl,
  I1.kept (t':=tk) fun b o e=>Heap.get?_push_of_some _ e,tq _ lo (hi-lo).toNat,?_,fun b hb=>?_,q⟩
 .have e1:lo+((0:Nat):Int)*1=lo:=by simp
  have e2:(((hi-lo).toNat:Nat):Int)-((0:Nat):Int)=Builtin.Range.rangeSize lo hi 1:=by rw[rangeSize_one];split <;> lia
  show IsRangeIter _ _ (lo+((0:Nat):Int)*1) ((((hi-lo).toNat:Nat):Int)-((0:Nat):Int)) 1;rw[e1,e2];exact Heap.get?_push_size _ rfl
 .have e:b=(s.heap.push {cls:=.type "range",data:=.fields #[.int lo t,.int hi u,.int 1 v]}).objs.size:=by simpa using hb
  subst e;exact I1.fpOk (U6 _) (I1.hok.fresh (U6 _))
def F0(ta:TA):TI:=fun σ H R=>ta σ H fun vs H1=>∃j:Int,vs=[.int j]/\-(2 ^ 62)<=j/\j<2 ^ 62/\R (Q5 0 j.toNat) H1
def F1(ta:TA):TI:=fun σ H R=>ta σ H fun vs H1=>∃i j:Int,vs=[.int i,.int j]/\(-(2 ^ 62)<=i/\i<2 ^ 62/\-(2 ^ 62)<=j/\j<2 ^ 62)/\R (Q5 i (j-i).toNat) H1
theorem uF{a:Expr}{ta:TA}{p pos:Pos}(hg:Gl X "range")(hm:X.mg "range" = none)(ha:PA X [a] ta)(hs:starEach [a] X.env=[(false,eval a X.env)]:=by rfl):PI X tg (.Call (.Name "range" p) [a] [] pos) (F0 ta):=by
 intro pr s σ H R I h;refine Call_ (g8 I hg hm boot_range (VM (Jt (ha pos pr s σ H _ I h) fun us s1 ⟨vs,H1,I1,r1,q1⟩=>?_) hs rfl));obtain⟨j,e,q1,q2,q⟩:=q1;subst e;cases r1 with
 |cons r rr=>
  cases rr;obtain⟨t,rfl⟩:=r;exact call_range_1 (qS I1 (by lia) (by lia) q1 q2 (by simpa using q))
theorem uG{a b:Expr}{ta:TA}{p pos:Pos}(hg:Gl X "range")(hm:X.mg "range" = none)(ha:PA X [a,b] ta)(hs:starEach [a,b] X.env=[(false,eval a X.env),(false,eval b X.env)]:=by rfl)(MY:starEach [b] X.env=[(false,eval b X.env)]:=by rfl):
  PI X tg (.Call (.Name "range" p) [a,b] [] pos) (F1 ta):=by
 intro pr s σ H R I h;refine Call_ (g8 I hg hm boot_range (VM (Jt (ha pos pr s σ H _ I h) fun us s1 ⟨vs,H1,I1,r1,q1⟩=>?_) (by rw[hs,MY]) (by rw[MY];rfl)));obtain⟨i,j,e,⟨q1,q2,q3,q4⟩,q⟩:=q1;subst e;cases r1 with
 |cons r rr=>
  cases rr with
  |cons r' rr=>
   cases rr;obtain⟨t,rfl⟩:=r;obtain⟨t',rfl⟩:=r';exact call_range_2 (qS I1 q1 q2 q3 q4 q)
noncomputable def HY(wi:TI)(g:TG)(tb:TS):TS:=fun D σ H=>wi σ H fun J H1=>∃W:Nat->Nat->St->Hp->Prop,(∃m,W 0 m σ H1)/\∀i m σ H,W i m σ H->
 (J.stop i H/\D.nx σ H)\/(J.go i H/\∃N:St->Hp->Prop,(∀σ' H',N σ' H'->∃m',m'<m/\W (i+1) m' σ' H')/\∀x H',J.yld i H x H'->g x σ H' fun σ2 H2=>tb {D with nx:=N,ct:=N,bk:=D.nx} σ2 H2)
def nX(fp:List Yx)(h:YB):List (Yx×Obj):=fp.filterMap fun b=>(h.get? b).map fun o=>(b,o)
theorem gN{fp:List Yx}{h:YB}{b:Yx}{o:Obj}(hb:b∈fp)(e:h.get? b=some o):(b,o)∈nX fp h:=X3.mpr ⟨b,hb,by rw[e];rfl⟩
theorem uH{fp:List Yx}{h:YB}{p:Yx×Obj}(hp:p∈nX fp h):p.1∈fp/\h.get? p.1=some p.2:=by
 obtain⟨b,hb,e⟩:=X3.mp hp;cases q:h.get? b with
 |none=>rw[q]at e;cases e
 |some o=>
  rw[q]at e;have e':(b,o)=p:=Vg e;subst e';exact⟨hb,q⟩
theorem Inv.pinned{pr:List (Yx×Obj)}{σ:St}{H:Hp}{s:Yw}{fp:List Yx}(I:Inv X pr σ H s)(hf:∀b∈fp,uy X pr H b)(ho:∀b∈fp,∃o,s.heap.get? b=some o/\∀v,o.data≠.cell v):Inv X (pr++nX fp s.heap) σ H s:=
 I.pins_of fun p hp=>(Vv.mp hp).elim (fun z=>I.pin p (U2 _ z)) fun z=>by
  obtain⟨hb,e⟩:=uH z;obtain⟨f0,f1,f2,_⟩:=hf p.1 hb;obtain⟨o,e',d⟩:=ho p.1 hb;rw[e]at e';cases e';exact⟨e,f0,f1,f2,d⟩
theorem Inv.unpinned{pr pl:List (Yx×Obj)}{σ:St}{H:Hp}{s:Yw}(I:Inv X (pr++pl) σ H s):Inv X pr σ H s:=I.pins_of fun p hp=>I.pin p (U2 _ (U7 _ hp))
theorem zd{iter:Expr}{body:List Stmt}{wi:TI}{g:TG}{tb:TS}{pos:Pos}(hp:PassesOwn (model X.prog X.w) X.A X.env X.xe)(hc:X.calm=true)(hi:PI X tg iter wi)(hg:PG X tg g)(hb:PSs X body tb)
  (hs:∀x,foldedSetIterable iter X.env x=pure x:=by intro _;rfl):PS X (.For tg iter body [] pos) (HY wi g tb):=by
 intro pr s σ H D I h;refine wpAny_For (Jt (hi pr s σ H _ I h) fun v s1 h1=>Jt h1 fun Sn s2 h2=>?_) hs;obtain⟨it,fp,tn,J,H2,e,I2,T,Jj,f2,W,⟨m0,w0⟩,turn⟩:=h2;subst e;have Mn:∀{H':Hp},(∀b∈fp,H' b=none)->∀b∈fp,uy X pr H' b:=fun hn b hb=>⟨hn b hb,(f2 b hb).2⟩
 refine codeAny_forLoop_any (fun n s'=>∃i σ' H',Inv X pr σ' H' s'/\tn i s'.heap/\(∀b∈fp,H' b=none)/\W i n σ' H') ?_ m0 ⟨0,σ,H2,I2,Jj,fun b hb=>(f2 b hb).1,w0⟩;rintro n s3 ⟨i,σ3,H3,I3,JB,Q6,w3⟩;rcases turn i n σ3 H3 w3 with⟨stop,qn⟩|⟨go,N,hN,step⟩
 .refine WI hp (Jt (T.done X rfl rfl rfl hc i pr s3 σ3 H3 X.xe I3 (Mn Q6) JB stop) fun r s4 Jx=>?_);obtain⟨hr,I4⟩:=Jx;subst hr;exact XS ⟨σ3,H3,I4,qn⟩
 .refine WI hp (Jt (T.item X rfl rfl rfl hc i pr s3 σ3 H3 X.xe I3 (Mn Q6) JB go) fun r s4 Jx=>?_);obtain⟨u,hr,h4⟩:=Jx;subst hr;refine WI hp (Jt h4 fun _ s5 Jx=>?_);obtain⟨x,H5,I5,r5,y5,Lh,S4⟩:=Jx;have S5:=I5.pinned (Mn S4) (T.obj _ _ Lh);refine WI hp (Jt (hg _ s5 σ3 H5 x u _ S5 r5 (step x H5 y5)) fun _ s6 Jx=>?_);obtain⟨σ6,H6,I6,q6⟩:=Jx;refine WI hp (Jt (hb _ s6 σ6 H6 _ I6 q6) fun f s7 q7=>?_);have again:∀{σ7:St}{H7:Hp},Inv X (pr++nX fp s5.heap) σ7 H7 s7->N σ7 H7->∃m,m<n/\∃i σ' H',Inv X pr σ' H' s7/\tn i s7.heap/\(∀b∈fp,H' b=none)/\W i m σ' H':=fun{σ7 H7} I7 n7=>by
   obtain⟨m',hm,w7⟩:=hN σ7 H7 n7;refine⟨m',hm,i+1,σ7,H7,I7.unpinned,T.keep _ _ _ Lh fun b hb o e=>(I7.pin (b,o) (U2 _ (U2 _ (gN hb e)))).1,fun b hb=>?_,w7⟩;obtain⟨o,e,d⟩:=T.obj _ _ Lh b hb;exact(I7.pin (b,o) (U2 _ (U2 _ (gN hb e)))).2.1
  cases f with
  |next=>obtain⟨σ7,H7,I7,n7⟩:=q7;exact again I7 n7
  |cont=>obtain⟨σ7,H7,I7,n7⟩:=q7;exact again I7 n7
  |brk=>obtain⟨σ7,H7,I7,q7⟩:=q7;exact⟨σ7,H7,I7.unpinned,q7⟩
  |ret v=>obtain⟨x7,σ7,H7,I7,r7,q7⟩:=q7;exact⟨x7,σ7,H7,I7.unpinned,r7,q7⟩
end
def for_list{K:W.Frag}{a:Yx}{xs:List V}{g:TG}{tb:TS}{D:Ends}{σ:St}{H:Hp}(Pv:Nat->St->Hp->Prop)(h0:Pv 0 σ H)(hl:∀i σ H,i<=xs.length->Pv i σ H->SqL K H a xs)
  (hs:∀i x σ H,xs[i]?=some x->Pv i σ H->g x σ H fun σ2 H2=>tb {D with nx:=Pv (i+1),ct:=Pv (i+1),bk:=D.nx} σ2 H2) (hd:∀σ H,Pv xs.length σ H->D.nx σ H):
  ∃W:Nat->Nat->St->Hp->Prop,(∃m,W 0 m σ H)/\∀i m σ H,W i m σ H->
   ((QF K a).stop i H/\D.nx σ H)\/((QF K a).go i H/\∃N:St->Hp->Prop,(∀σ' H',N σ' H'->∃m',m'<m/\W (i+1) m' σ' H')/\∀x H',(QF K a).yld i H x H'->g x σ H' fun σ2 H2=>tb {D with nx:=N,ct:=N,bk:=D.nx} σ2 H2):=by
 refine⟨fun i m σ H=>m=xs.length-i/\i<=xs.length/\Pv i σ H,⟨xs.length,by simp,VD _,h0⟩,?_⟩;rintro i m σ H ⟨rfl,hi,p⟩;have q:=hl i σ H hi p;by_cases JL:i<xs.length
 .refine .inr ⟨⟨xs,xs[i],q,by simp[JL]⟩,Pv (i+1),fun σ' H' p'=>⟨xs.length-(i+1),by lia,rfl,JL,p'⟩,fun x H' y=>?_⟩;obtain⟨e,y⟩:=y;subst e;exact hs i x σ _ (y xs q) p
 .have e:i=xs.length:=by lia
  subst e;exact .inl ⟨⟨xs,q,U6 _⟩,hd σ H p⟩
abbrev R2:=V->V->Hp->VK->Prop
def JT(X:Cx)(f:Yu->Yu->Sem Yu)(r:R2):Prop:=
 ∀(pr:List (Yx×Obj)) (s:Yw) (σ:St) (H:Hp) (x y:V) (v u:Yu) (Q:VK),Inv X pr σ H s->RelV x v->RelV y u->r x y H Q->
  wpAny (model X.prog X.w) X.A (f v u) (EP X pr σ Q) X.xe s
def S6(X:Cx)(f:Yu->Sem Yu)(r:V->Hp->VK->Prop):Prop:=
 ∀(pr:List (Yx×Obj)) (s:Yw) (σ:St) (H:Hp) (x:V) (v:Yu) (Q:VK),Inv X pr σ H s->RelV x v->r x H Q->
  wpAny (model X.prog X.w) X.A (f v) (EP X pr σ Q) X.xe s
def dS(X:Cx)(f:Yu)(r:List V->Hp->VK->Prop):Prop:=
 ∀(pr:List (Yx×Obj)) (s:Yw) (σ:St) (H:Hp) (xs:List V) (us:List Yu) (Q:VK),Inv X pr σ H s->Vals xs us->r xs H Q->
  wpAny (model X.prog X.w) X.A (call f us) (EP X pr σ Q) X.xe s
def QH(r:R2)(ta tb:TE):TE:=fun σ H Q=>ta σ H fun x H1=>tb σ H1 fun y H2=>r x y H2 Q
def tUn(r:V->Hp->VK->Prop)(ta:TE):TE:=fun σ H Q=>ta σ H fun x H1=>r x H1 Q
def rI(C:Int->Int->Prop)(g:Int->Int->V):R2:=fun x y H Q=>∃i j,x=.int i/\y=.int j/\C i j/\Q (g i j) H
def Pr(g:Int->Int->V):R2:=fun x y H Q=>∃i j,x=.int i/\y=.int j/\Q (g i j) H
def rU(g:Int->V):V->Hp->VK->Prop:=fun x H Q=>∃i,x=.int i/\Q (g i) H
section
variable{X:Cx}{a b c:Expr}{ta tb tc:TE}{pos:Pos}
theorem F2(ha:PE X a ta)(hb:PE X b tb){pr:List (Yx×Obj)}{s:Yw}{σ:St}{H:Hp}{R:V->V->Hp->Prop}(I:Inv X pr σ H s)
  (h:ta σ H fun x H1=>tb σ H1 fun y H2=>R x y H2) {Q:Yu->Yw->Prop}{f:Yu->Yu->Sem Yu}
  (hf:∀v u s2 x y H2,Inv X pr σ H2 s2->RelV x v->RelV y u->R x y H2->wpAny (model X.prog X.w) X.A (f v u) Q X.xe s2):
  wpAny (model X.prog X.w) X.A (eval a X.env) (fun v s₁=>wpAny (model X.prog X.w) X.A (eval b X.env) (fun u s₂=>wpAny (model X.prog X.w) X.A (f v u) Q X.xe s₂) X.xe s₁) X.xe s:=by
 refine Jt (ha pr s σ H _ I h) fun v s1 Jx=>?_
 obtain⟨x,H1,I1,r1,q1⟩:=Jx;refine Jt (hb pr s1 σ H1 _ I1 q1) fun u s2 Jx=>?_
 obtain⟨y,H2,I2,r2,q2⟩:=Jx;exact hf v u s2 x y H2 I2 r1 r2 q2
theorem F3{op:Operator}{r:R2}(ho:JT X (binaryOp op) r)(ha:PE X a ta)(hb:PE X b tb):PE X (.BinOp a op b pos) (QH r ta tb):=by
 intro pr s σ H Q I h;exact wpAny_BinOp (F2 ha hb I h fun v u s2 x y H2 I2 rx ry q=>ho pr s2 σ H2 x y v u Q I2 rx ry q)
theorem F4{op:UnaryOp}{r:V->Hp->VK->Prop}(ho:S6 X (unaryOp op) r)(ha:PE X a ta):PE X (.UnaryOp op a pos) (tUn r ta):=by
 intro pr s σ H Q I h;exact UnaryOp_ (Jt (ha pr s σ H _ I h) fun v s1 ⟨x,H1,I1,r1,q1⟩=>ho pr s1 σ H1 x v Q I1 r1 q1)
theorem Q7{f:Yu->Yu->Sem Yu}{C:Int->Int->Prop}{g:Int->Int->Int}
  (rule:∀(i j:Int) (t u:Tok) (s:Yw) (Q:Yu->Yw->Prop) (E:Yu->Yw->Prop),C i j->Q (.int (g i j) s.toks) {s with toks:=s.toks+1}->wpAny (model X.prog X.w) X.A (f (.int i t) (.int j u)) Q E s):
  JT X f (rI C fun i j=>.int (g i j)):=by
 intro pr s σ H x y v u Q I rx ry h;obtain⟨i,j,rfl,rfl,hc,q⟩:=h;obtain⟨t,rfl⟩:=rx;obtain⟨t',rfl⟩:=ry;exact rule i j t t' s _ _ hc ⟨.int (g i j),H,I.tok _,⟨_,rfl⟩,q⟩
theorem Hs{f:Yu->Yu->Sem Yu}{g:Int->Int->Int}
  (rule:∀(i j:Int) (t u:Tok) (s:Yw) (Q:Yu->Yw->Prop) (E:Yu->Yw->Prop),Q (.int (g i j) s.toks) {s with toks:=s.toks+1}->wpAny (model X.prog X.w) X.A (f (.int i t) (.int j u)) Q E s):
  JT X f (Pr fun i j=>.int (g i j)):=by
 intro pr s σ H x y v u Q I rx ry h;obtain⟨i,j,rfl,rfl,q⟩:=h;obtain⟨t,rfl⟩:=rx;obtain⟨t',rfl⟩:=ry;exact rule i j t t' s _ _ ⟨.int (g i j),H,I.tok _,⟨_,rfl⟩,q⟩
theorem F5{f:Yu->Yu->Sem Yu}{g:Int->Int->Bool}
  (rule:∀(i j:Int) (t u:Tok) (s:Yw) (Q:Yu->Yw->Prop) (E:Yu->Yw->Prop),Q (.bool (g i j)) s->wpAny (model X.prog X.w) X.A (f (.int i t) (.int j u)) Q E s):
  JT X f (Pr fun i j=>.bl (g i j)):=by
 intro pr s σ H x y v u Q I rx ry h;obtain⟨i,j,rfl,rfl,q⟩:=h;obtain⟨t,rfl⟩:=rx;obtain⟨t',rfl⟩:=ry;exact rule i j t t' s _ _ ⟨.bl (g i j),H,I,rfl,q⟩
def HZ(i j:Int):Prop:=0<j/\j<1073741824
def H0(i j:Int):Prop:=0<=j/\j<=1000000/\i.natAbs<2 ^ 64
def CMul(i j:Int):Prop:=(-(2 ^ 64)<i/\i<2 ^ 64)\/(-(2 ^ 64)<j/\j<2 ^ 64)
theorem CMul.ok{i j:Int}(h:CMul i j):IntMulOk i j:=by
 rcases h with⟨h1,h2⟩|⟨h1,h2⟩
 .exact .of_left (intBits_le_64 h1 h2)
 .exact .of_right (intBits_le_64 h1 h2)
theorem C8:JT X (binaryOp .Add) (Pr fun i j=>.int (i+j)):=Hs fun _ _ _ _ _ _ _ q=>add_int q
theorem C9:JT X (binaryOp .Sub) (Pr fun i j=>.int (i-j)):=Hs fun _ _ _ _ _ _ _ q=>sub_int q
theorem Dc:JT X (binaryOp .Mult) (rI CMul fun i j=>.int (i*j)):=Q7 fun _ _ _ _ _ _ _ hc q=>mul_int q hc.ok
theorem Ai:JT X (binaryOp .FloorDiv) (rI HZ fun i j=>.int (i / j)):=Q7 fun i j _ _ _ _ _ hc q=>by
 have h1:(0:Int)<j:=hc.1;have h2:j<1073741824:=hc.2;exact floordiv_int (by lia) (by rw[Int.fdiv_eq_ediv_of_nonneg i (by lia)];exact q) (.inl (PyProof.noPylong_small (by lia)))
theorem De:JT X (binaryOp .Mod) (rI (fun _ j=>0<j) fun i j=>.int (i%j)):=Q7 fun i j _ _ _ _ _ hc q=>by
 have h1:(0:Int)<j:=hc;exact mod_int' (by lia) (by rw[Int.fmod_eq_emod_of_nonneg i (by lia)];exact q)
theorem Dg:JT X (binaryOp .Pow) (rI H0 fun i j=>.int (i ^ j.toNat)):=Q7 fun _ _ _ _ _ _ _ hc q=>pow_int_small hc.1 hc.2.1 hc.2.2 q
theorem unI{f:Yu->Sem Yu}{g:Int->Int}
  (rule:∀(i:Int) (t:Tok) (s:Yw) (Q:Yu->Yw->Prop) (E:Yu->Yw->Prop),Q (.int (g i) s.toks) {s with toks:=s.toks+1}->wpAny (model X.prog X.w) X.A (f (.int i t)) Q E s):
  S6 X f (rU fun i=>.int (g i)):=by
 intro pr s σ H x v Q I rx h;obtain⟨i,rfl,q⟩:=h;obtain⟨t,rfl⟩:=rx;exact rule i t s _ _ ⟨.int (g i),H,I.tok _,⟨_,rfl⟩,q⟩
theorem Dh:S6 X (unaryOp .USub) (rU fun i=>.int (-i)):=unI fun _ _ _ _ _ q=>neg_int q
end
section
variable{X:Cx}{a b c:Expr}{ta tb tc:TE}{pos:Pos}
theorem uI{pr:List (Yx×Obj)}{σ:St}{H:Hp}{s:Yw}{Q:VK}{k k':Bool}(I:Inv X pr σ H s)(q:Q (.bl k) H)(e:k=k'):EP X pr σ Q (.bool k') s:=by
 subst e;exact⟨.bl k,H,I,rfl,q⟩
theorem F6:JT X (compareOp .Lt) (Pr fun i j=>.bl (decide (i<j))):=F5 fun _ _ _ _ _ _ _ q=>lt_int q
theorem F7:JT X (compareOp .Gt) (Pr fun i j=>.bl (decide (j<i))):=F5 fun _ _ _ _ _ _ _ q=>gt_int q
theorem F8:JT X (compareOp .GtE) (Pr fun i j=>.bl (decide (j<=i))):=F5 fun _ _ _ _ _ _ _ q=>ge_int q
theorem uJ:JT X (compareOp .Lt) (fun x y H Q=>∃i j,x=.str i/\y=.str j/\Q (.bl (decide (i.cps.toList<j.cps.toList))) H):=by
 intro pr s σ H x y v u Q I rx ry h;obtain⟨i,j,rfl,rfl,q⟩:=h;obtain⟨t,rfl⟩:=rx;obtain⟨t',rfl⟩:=ry;exact lt_str (uI I q rfl)
theorem uK:JT X (compareOp .In) (fun x y H Q=>∃i j,x=.str i/\y=.str j/\Q (.bl (!(Builtin.Str.occurrences j i 0 j.length 1).isEmpty)) H):=by
 intro pr s σ H x y v u Q I rx ry h;obtain⟨i,j,rfl,rfl,q⟩:=h;obtain⟨t,rfl⟩:=rx;obtain⟨t',rfl⟩:=ry;exact in_str (uI I q rfl)
theorem nZ:JT X (compareOp .NotIn) (fun x y H Q=>∃i j,x=.str i/\y=.str j/\Q (.bl (!(!(Builtin.Str.occurrences j i 0 j.length 1).isEmpty))) H):=by
 intro pr s σ H x y v u Q I rx ry h;obtain⟨i,j,rfl,rfl,q⟩:=h;obtain⟨t,rfl⟩:=rx;obtain⟨t',rfl⟩:=ry;exact notIn_str (uI I q rfl)
theorem bp(b:Expr){op:CmpOp}(h:op≠.In:=by decide)(h2:op≠.NotIn:=by decide):behindInMarks op b=false:=by
 have e1:(op==CmpOp.In)=false:=by cases op <;> first|rfl|exact absurd rfl h
 have e2:(op==CmpOp.NotIn)=false:=by cases op <;> first|rfl|exact absurd rfl h2
 cases b <;> simp[behindInMarks,e1,e2]
theorem uL{op:CmpOp}{r:R2}(ho:JT X (compareOp op) r)(ha:PE X a ta)(hb:PE X b tb)(hm:behindInMarks op b=false):PE X (.Compare a [op] [b] pos) (QH r ta tb):=by
 intro pr s σ H Q I h;exact wpAny_Compare1 (F2 ha hb I h fun v u s2 x y H2 I2 rx ry q=>ho pr s2 σ H2 x y v u Q I2 rx ry q) hm
def F9(t:TE):TT:=fun σ H Q=>t σ H fun x H'=>∃k,x=.bl k/\Q k H'
theorem uM{op:CmpOp}{r:R2}(ho:JT X (compareOp op) r)(ha:PE X a ta)(hb:PE X b tb)(hm:behindInMarks op b=false):PT X (.Compare a [op] [b] pos) (F9 (QH r ta tb)):=by
 intro pr s σ H Q I h;refine wpAny_isTrue_Compare1 (Jt (ha pr s σ H _ I h) fun v s1 ⟨x,H1,I1,r1,q1⟩=>Jt (hb pr s1 σ H1 _ I1 q1) fun u s2 ⟨y,H2,I2,r2,q2⟩=>
  Jt (ho pr s2 σ H2 x y v u _ I2 r1 r2 q2) fun c s3 ⟨z,H3,I3,r3,k,e,q3⟩=>?_) hm
 subst e;cases r3;exact Wn ⟨H3,I3,q3⟩
theorem lU:(sizeLine:Nat)<2 ^ 63:=by rw[VT];decide
theorem tu:JT X (binaryOp .Add) (fun x y H Q=>∃i j,x=.str i/\y=.str j/\i.length+j.length<=sizeLine/\Q (.str (i++j)) H):=by
 intro pr s σ H x y v u Q I rx ry h;obtain⟨i,j,rfl,rfl,hz,q⟩:=h;obtain⟨t,rfl⟩:=rx;obtain⟨t',rfl⟩:=ry;exact add_str (fun t' tk=>⟨.str (i++j),H,I.tok _,⟨_,rfl⟩,q⟩) hz
theorem f9{x:V}{us:List Yu}(r:Vals [x] us):∃u,us=[u]/\RelV x u:=by
 cases r with
 |cons r1 r2=>cases r2;exact⟨_,rfl,r1⟩
theorem Aj{x y:V}{us:List Yu}(r:Vals [x,y] us):∃u w',us=[u,w']/\RelV x u/\RelV y w':=by
 cases r with
 |cons r1 r2=>
  cases r2 with
  |cons r3 r4=>cases r4;exact⟨_,_,rfl,r1,r3⟩
end
section
variable{prog:Yy}{w:World}{A:Yz}{E:Yu->Yw->Prop}{s:Yw}{K:W.Frag}{x dx C f:Yx}{mA:Str->Option Yu}{name:Str}{v:Yu}
end
def RelO.some_of{v:V}{o:Option Yu}(r:RelO (some v) o):∃u,o=some u/\RelV v u:=by
 cases o with
 |none=>exact(show False from r).elim
 |some u=>exact⟨u,rfl,r⟩
section
variable{P:Yy}{w:World}{H H':Hp}{h h':YB}{a C dx:Yx}{fs fs':List (Str×V)}
end
section
variable{X:Cx}{pr:List (Yx×Obj)}{σ:St}{H:Hp}{s:Yw}{a C dx:Yx}{fs:List (Str×V)}{f:Str}{v:V}{A:Yz}{E:Yu->Yw->Prop}
end
section
variable{X:Cx}{o e value:Expr}{f:Str}{pos pos' L4:Pos}{ta tv:TE}
end
section
variable{X:Cx}{pr:List (Yx×Obj)}{σ:St}{H:Hp}{s:Yw}{A:Yz}{E:Yu->Yw->Prop}{Q:Yu->Yw->Prop}{c:Yu}{b:Bool}
end
structure Room(k:Nat)(A:Yz):Prop where
 hd:A.handled=none
 dp:A.depth+3*k+5<recursionLimit
 un:A.units+16*k+200<cLine
def Room.mono{j k:Nat}{A:Yz}(r:Room k A)(h:j<=k):Room j A:=⟨r.hd,by have:=r.dp;lia,by have:=r.un;lia⟩
def Room.m{j k:Nat}{A:Yz}(r:Room k A)(h:j<=k:=by decide):Room j A:=r.mono h
theorem Room.deeper{k:Nat}{A:Yz}(r:Room (k+1) A)(env:Env):Room k (A.deeper env):=
 ⟨r.hd,by have:=r.dp;show A.depth+1+3*k+5<_;lia,by have:=r.un;show A.units+3+16*k+200<_;lia⟩
theorem Room.depth{k:Nat}{A:Yz}(r:Room k A):A.depth<recursionLimit:=by have:=r.dp;lia
theorem Room.units{k:Nat}{A:Yz}(r:Room k A):A.units+64<cLine:=by have:=r.un;lia
def Room.units0{k:Nat}{A:Yz}(r:Room k A):A.units<cLine:=by have:=r.un;lia
def Fy:TA:=fun _ H Q=>Q [] H
def xJ(ta:TE)(tr:TA):TA:=fun σ H Q=>ta σ H fun x H1=>tr σ H1 fun xs H2=>Q (x::xs) H2
section
variable{X:Cx}{e:Expr}{es:List Expr}{te:TE}{t:TA}{pos:Pos}
theorem jK:PA X [] Fy:=fun _ _ _ _ H Q I h=>Calls.spliced_nil ⟨[],H,I,.nil,h⟩
theorem c5(ha:PE X e te)(hr:PA X es t)(hs:starEach (e::es) X.env=(false,eval e X.env)::starEach es X.env:=by rfl):PA X (e::es) (xJ te t):=by
 intro pos pr s σ H Q I h;rw[hs];show wpAny _ _ (spliced ((false,eval e X.env)::backTo pos (starEach es X.env))) _ _ s;refine Calls.spliced_cons (Jt (ha pr s σ H _ I h) fun u s1 Jx=>?_);obtain⟨x,H1,I1,r1,q1⟩:=Jx;exact Jt (hr pos pr s1 σ H1 _ I1 q1) fun us s2 ⟨xs,H2,I2,r2,q2⟩=>⟨x::xs,H2,I2,.cons r1 r2,q2⟩
def Ia(t:TA):TE:=fun σ H Q=>t σ H fun xs H1=>xs.length<=sizeLine/\∀p,H1 p=none->Q (.ref p) (upd H1 p (.tup xs))
def Ib(t:TA):TE:=fun σ H Q=>t σ H fun xs H1=>xs.length<=sizeLine/\∀p,H1 p=none->Q (.ref p) (upd H1 p (.lst xs))
theorem qT{x1}(h:PA X es t):PE X (.Tuple es x1 pos) (Ia t):=by
 intro pr s σ H Q I hq;refine wpAny_Tuple_spliced (Jt (h pos pr s σ H _ I hq) fun us s1 ⟨xs,H1,I1,r,z,q⟩=>⟨by rw[<-r.length];exact z,?_⟩);have hf:H1 s1.heap.objs.size=none:=I1.hok.fresh (U6 _);refine⟨.ref s1.heap.objs.size,upd H1 s1.heap.objs.size (.tup xs),I1.laid (t':=s1.toks) (fun b u e=>Heap.get?_push_of_some _ e) (U6 _) ?_,rfl,q _ hf⟩;exact⟨z,us,r,⟨_,Heap.get?_push_size _ rfl,rfl,⟨_,rfl⟩,rfl⟩⟩
theorem Di(h:PA X es t):PE X (.List es pos) (Ib t):=by
 intro pr s σ H Q I hq;refine wpAny_List_spliced (Jt (h pos pr s σ H _ I hq) fun us s1 ⟨xs,H1,I1,r,z,q⟩=>⟨by rw[<-r.length];exact z,?_⟩);have hf:H1 s1.heap.objs.size=none:=I1.hok.fresh (U6 _);refine⟨.ref s1.heap.objs.size,upd H1 s1.heap.objs.size (.lst xs),I1.laid (t':=s1.toks) (fun b u e=>Heap.get?_push_of_some _ e) (U6 _) ?_,rfl,q _ hf⟩;exact⟨z,us,0,r,Heap.get?_push_size _ rfl⟩
end
abbrev Sp:=List V->Hp->VK->XK->Prop
abbrev CXT:=List Env->Hp->Yw->XK->Yu->Yw->Prop
structure Env0(P:Yy)(w:World)(K:W.Frag)(mg:Str->Option Yu)(base:YB)(A:Yz)(outer:List Env)(s:Yw)(H:Hp):Prop where
 frames:A.frames=some outer
 mod:Mod K mg base
 bs:∀b o,base.get? b=some o->s.heap.get? b=some o/\H b=none
 bsz:base.objs.size<=s.heap.objs.size
 funs:s.heap.FunFrames base outer
 frf:∀b∈MJ outer,H b=none
 hok:HOk P w H s.heap
 bare:AllBare s.gens
def CE(outer:List Env)(P:Yy)(w:World)(H:Hp)(s:Yw)(Q:VK)(u:Yu)(s':Yw):Prop:=
 ∃v H',s'.os=s.os/\AllBare s'.gens/\Un (MJ outer) [] H H' s.heap s'.heap/\HOk P w H' s'.heap/\RelV v u/\Q v H'
def CR(CX:CXT)(outer:List Env)(P:Yy)(w:World)(H:Hp)(s:Yw)(Q:VK)(E:XK)(r:Result)(s':Yw):Prop:=
 match r with
 | .ok (.ret u)=>CE outer P w H s Q u s'
 | .ok _=>False
 | .error e=>CX outer H s E e s'
structure FnOk(P:Yy)(w:World)(K:W.Frag)(mg:Str->Option Yu)(base:YB)(CX:CXT)(k:Nat)(f:Yx)(fd:FuncData)(ps:List Str)(sp:Sp):Prop where
 len:∀vs H Q E,sp vs H Q E->vs.length=ps.length
 run:∀(A:Yz) (outer:List Env) (s:Yw) (H:Hp) (args:Args) (us:List Yu) (vs:List V) (Q:VK) (E:XK),Room k A->Env0 P w K mg base A outer s H->BindsTo s fd args (ps.zip us)->Vals vs us->sp vs H Q E->
  codeAny (model P w) A (.call (.ref f) args) (CR CX outer P w H s Q E) s
def FnOk.imp{P:Yy}{w:World}{K:W.Frag}{mg:Str->Option Yu}{base:YB}{CX:CXT}{k:Nat}{f:Yx}{fd:FuncData}{ps:List Str}{sp T9:Sp}(F:FnOk P w K mg base CX k f fd ps sp)
  (h:∀vs H Q E,T9 vs H Q E->sp vs H Q E):FnOk P w K mg base CX k f fd ps T9:=
 ⟨fun vs H Q E q=>F.len vs H Q E (h _ _ _ _ q),fun A outer s H args us vs Q E hr he hb hv hs=>F.run A outer s H args us vs Q E hr he hb hv (h _ _ _ _ hs)⟩
section
variable{X:Cx}{pr:List (Yx×Obj)}{σ:St}{H:Hp}{s s':Yw}
theorem Inv.env0(I:Inv X pr σ H s):Env0 X.prog X.w X.K X.mg X.base X.A X.stack s H:=
 ⟨I.ok.frames,I.ok.mod,I.bs,Vx I.ok.bsz I.sz,I.stack,I.stkFree,I.hok,I.bare⟩
theorem Inv.after{Q:VK}{u:Yu}(I:Inv X pr σ H s)(h:CE X.stack X.prog X.w H s Q u s'):EP X pr σ Q u s':=by
 obtain⟨v,H',os,bare,un,hok,r,q⟩:=h;obtain⟨hh,g,d,t,Ua⟩:=s';obtain rfl:Ua=s.os:=os;exact⟨v,H',I.call (h':=hh) (g':=g) (d':=d) (t':=t) (ch:=[]) un hok bare (fun b z=>absurd z (by simp)),r,q⟩
end
def tCall(sp:Sp)(Pc:List V)(E:XK)(t:TA):TE:=fun σ H Q=>t σ H fun vs H1=>sp (vs++Pc) H1 Q E
def Binds(K:W.Frag)(fd:FuncData)(ps:List Str)(ds:List Yu):Prop:=
 ∀(s:Yw) (us:List Yu),K.In s.heap->(us++ds).length=ps.length->BindsTo s fd ⟨us,[]⟩ (ps.zip (us++ds))
def Binds.all{K:W.Frag}{fd:FuncData}{ps:List Str}(h:∀us:List Yu,us.length=ps.length->bindArgs fd ⟨us,[]⟩=pure (ps.zip us)):Binds K fd ps []:=fun s us _ hl=>by
 rw[Vo]at hl ⊢;exact .of_eq (h us hl)
def uN(CX:CXT)(X:Cx)(E:XK):Prop:=∀(pr:List (Yx×Obj)) (σ:St) (H:Hp) (s:Yw) (e:Yu) (s':Yw),Inv X pr σ H s->CX X.stack H s E e s'->X.xe e s'
section
variable{X:Cx}{CX:CXT}{k:Nat}{f C:Yx}{fd:FuncData}{ps:List Str}{sp:Sp}{Pc:List V}{ds:List Yu}{E:XK}{x m:Str}{p pos apos:Pos}{e o:Expr}{es:List Expr}{ta:TE}{t:TA}
theorem Dk{pr:List (Yx×Obj)}{σ:St}{H:Hp}{s:Yw}{Q:VK}{us:List Yu}{vs:List V}(F:FnOk X.prog X.w X.K X.mg X.base CX k f fd ps sp)(hr:Room k X.A)(hb:Binds X.K fd ps ds)(hd:Vals Pc ds)(hx:uN CX X E)
  (I:Inv X pr σ H s) (r:Vals vs us) (h:sp (vs++Pc) H Q E):wpAny (model X.prog X.w) X.A (call (.ref f) us) (EP X pr σ Q) X.xe s:=by
 have r2:Vals (vs++Pc) (us++ds):=r.append hd;have hl:(us++ds).length=ps.length:=by rw[<-r2.length];exact F.len _ _ _ _ h
 refine wpAny_call (codeAny_mono (F.run X.A X.stack s H ⟨us,[]⟩ (us++ds) (vs++Pc) Q E hr I.env0 (hb s us I.kIn hl) r2 h) fun r s' hq=>?_);cases r with
 |error e=>exact hx pr σ H s e s' I hq
 |ok fl=>
  cases fl with
  |ret u=>exact I.after hq
  |next=>exact False.elim hq
  |brk=>exact False.elim hq
  |cont=>exact False.elim hq
theorem Ak(F:FnOk X.prog X.w X.K X.mg X.base CX k f fd ps sp)(hr:Room k X.A)(hg:Gl X x)(hm:X.mg x=some (.ref f))(hk:PySem.W.keepIn X.K (.ref f)=true)(hb:Binds X.K fd ps ds)(hd:Vals Pc ds)(hx:uN CX X E)
  (ha:PA X (e::es) t) (KU:(x==("__debug__" : Str))=false:=by decide) (he:starEach (e::es) X.env=(false,eval e X.env)::starEach es X.env:=by rfl) (Ka:(backTo pos (starEach es X.env)).any (·.1)=false:=by rfl):
  PE X (.Call (.Name x p) (e::es) [] pos) (tCall sp Pc E t):=by
 intro pr s σ H Q I h;refine WX (Aa I hg hm ?_ KU);refine PySem.W.callWith_K (h₀:=X.base) I.ok.mod.kin hk (Jt (ha pos pr s σ H _ I h) fun us s1 ⟨vs,H1,I1,r,q⟩=>⟨I1.kIn,?_⟩) he Ka;exact Dk F hr hb hd hx I1 r q
structure Mk(K:W.Frag)(C f:Yx):Prop where
 makes:PySem.W.makesIn K C=true
 init:PySem.W.findIn K (.ref C) "__init__" = some (some (.ref f))
 fn:PySem.W.isFn K (.ref f)=true
 kp:PySem.W.keepIn K (.ref C)=true
end
def PK(X:Cx)(Q8:List Keyword)(t:TA):Prop:=
 ∀(pos:Pos) (pr:List (Yx×Obj)) (s:Yw) (σ:St) (H:Hp) (Q:List V->Hp->Prop),Inv X pr σ H s->t σ H Q->wpAny (model X.prog X.w) X.A (evalAll ((backToKw pos (keywordEach Q8 X.env)).map (·.2))) (AP X pr σ Q) X.xe s
section
variable{X:Cx}{CX:CXT}{k:Nat}{f C:Yx}{fd:FuncData}{ps ks:List Str}{sp:Sp}{E:XK}{x m:Str}{p pos apos MZ:Pos}{e o:Expr}{es:List Expr}{Q8:List Keyword}{te ta:TE}{t tk:TA}{nm:Option Str}
theorem Dl:PK X [] Fy:=fun _ _ _ _ H Q I h=>wpAny_evalAll_nil ⟨[],H,I,.nil,h⟩
theorem Al(ha:PE X e te)(hr:PK X Q8 t):PK X (⟨nm,e,MZ⟩::Q8) (xJ te t):=by
 intro pos pr s σ H Q I h;show wpAny _ _ (evalAll ((do let v <-eval e X.env;standAt pos;pure v)::(backToKw pos (keywordEach Q8 X.env)).map (·.2))) _ _ s;refine wpAny_evalAll_cons (UX (Jt (ha pr s σ H _ I h) fun u s1 ⟨x,H1,I1,r1,q1⟩=>UX (Za (U1 ?_))));exact Jt (hr pos pr s1 σ H1 _ I1 q1) fun us s2 ⟨xs,H2,I2,r2,q2⟩=>⟨x::xs,H2,I2,.cons r1 r2,q2⟩
variable{g:List Yu->List Yu->List Yu}{gV:List V->List V->List V}
end
structure FnScope(N P:List Str)(sc:Scope):Prop where
 kind:sc.kind=.function
 co:sc.isCoroutine=false
 gen:sc.isGenerator=false
 nd:N.Nodup
 pre:N.take P.length=P
 par:∀x∈P,sc.names.lookup x=some .local\/sc.names.lookup x=some .cell
 nofree:∀y∈sc.names,y.2≠.free
def fs{N P:List Str}{sc:Scope}(a:sc.kind=.function:=by rfl)(b:sc.isCoroutine=false:=by rfl)(c:sc.isGenerator=false:=by rfl)(d:N.Nodup:=by decide +kernel)(e:N.take P.length=P:=by rfl)(f:∀x∈P,sc.names.lookup x=some .local\/sc.names.lookup x=some .cell:=by decide +kernel)(g:∀y∈sc.names,y.2≠.free:=by decide +kernel):FnScope N P sc:=⟨a,b,c,d,e,f,g⟩
theorem og{kindOf:Str->Option NameKind}{x:Str}:∀{binds:List (Str×Yu)}{m:Str->Option Yu},(∀v,(x,v)∉binds)->bindL kindOf binds m x=m x
 |[],_,_=>rfl
 |(n,v)::r,m,h=>by
  unfold bindL;rw[og fun w hw=>h w (U4 _ hw)];split
  .have:x≠n:=by rintro rfl;exact h v UY
   simp[this]
  .rfl
theorem oh{kindOf:Str->Option NameKind}{x:Str}:∀{binds:List (Str×Yu)}{m:Str->Option Yu},(∀v,(x,v)∉binds)->bindC kindOf binds m x=m x
 |[],_,_=>rfl
 |(n,v)::r,m,h=>by
  unfold bindC;rw[oh fun w hw=>h w (U4 _ hw)];split
  .rfl
  .have:x≠n:=by rintro rfl;exact h v UY
   simp[this]
theorem oi{kindOf:Str->Option NameKind}{x:Str}{v:Yu}:∀{P:List Str}{vs:List Yu}{i:Nat}{m:Str->Option Yu},P.Nodup->P[i]?=some x->vs[i]?=some v->kindOf x=some .local->
  bindL kindOf (P.zip vs) m x=some v
 |[],_,_,_,_,h,_,_=>by simp at h
 |_::_,[],_,_,_,_,h,_=>by simp at h
 |p::P,w::vs,0,m,nd,h1,h2,hk=>by
  simp at h1 h2;subst h1;subst h2;show bindL kindOf ((p,w)::P.zip vs) m p=_;unfold bindL;rw[og fun v hv=>(Vz.mp nd).1 (WK hv).1,U5 hk];simp
 |p::P,w::vs,i+1,m,nd,h1,h2,hk=>by
  show bindL kindOf ((p,w)::P.zip vs) m x=_;unfold bindL;exact oi (i:=i) (Vz.mp nd).2 (by simpa using h1) (by simpa using h2) hk
theorem om{kindOf:Str->Option NameKind}{x:Str}{v:Yu}:∀{P:List Str}{vs:List Yu}{i:Nat}{m:Str->Option Yu},P.Nodup->P[i]?=some x->vs[i]?=some v->kindOf x≠some .local->
  bindC kindOf (P.zip vs) m x=some v
 |[],_,_,_,_,h,_,_=>by simp at h
 |_::_,[],_,_,_,_,h,_=>by simp at h
 |p::P,w::vs,0,m,nd,h1,h2,hk=>by
  simp at h1 h2;subst h1;subst h2;show bindC kindOf ((p,w)::P.zip vs) m p=_;unfold bindC;rw[oh fun v hv=>(Vz.mp nd).1 (WK hv).1,U8 hk];simp
 |p::P,w::vs,i+1,m,nd,h1,h2,hk=>by
  show bindC kindOf ((p,w)::P.zip vs) m x=_;unfold bindC;exact om (i:=i) (Vz.mp nd).2 (by simpa using h1) (by simpa using h2) hk
def j8(N:List Str)(vs:List V):St:=vs.map some++List.replicate (N.length-vs.length) none
noncomputable def xv(CX:CXT)(P:Yy)(w:World)(K:W.Frag)(mg:Str->Option Yu)(base:YB)(N:List Str)(qual:Str)(scope:Scope)(f:Yx)(cd:Yu)(A:Yz)(outer:List Env)(s:Yw)(H:Hp)(E:XK):Cx where
 prog:=P
 w:=w
 K:=K
 mg:=mg
 base:=base
 A:=A.deeper (envOfC qual scope s.heap.objs.size f cd)
 N:=N
 s₀:=s
 H₀:=H
 env:=envOfC qual scope s.heap.objs.size f cd
 outer:=outer
 stack:=envOfC qual scope s.heap.objs.size f cd::outer
 ex:=[]
 calm:=true
 fn:=fun _=>true
 pn:=[]
 xe:=fun e s'=>wpAny (model P w) (A.deeper (envOfC qual scope s.heap.objs.size f cd)) (leaving (envOfC qual scope s.heap.objs.size f cd) e) (fun _ S7=>CX outer H s E e S7) (fun e' S7=>CX outer H s E e' S7) s'
def qU{sc:Scope}{n:Nat}{x:Str}(h:sc.names.lookup x=some .cell):∃c,(cellsFrom n sc.names []).lookup x=some c:=by
 have q:=Yv sc.names n [] (.inl h);exact V4.mp q
def uO{CX:CXT}{P:Yy}{w:World}{K:W.Frag}{mg:Str->Option Yu}{base:YB}{N ps:List Str}{qual:Str}{scope:Scope}{f:Yx}{cd:Yu}{A:Yz}{outer:List Env}{s s1:Yw}{H:Hp}{E:XK}{us:List Yu}{vs:List V}
  (S:FnScope N ps scope) (hd:A.handled=none) (e0:Env0 P w K mg base A outer s H) (hl:vs.length=ps.length) (r:Vals vs us)
  (x:InCallC s s.heap.objs.size (bindL (envOfC qual scope s.heap.objs.size f cd).kindOf (ps.zip us) fun _=>none) (cellsFrom (s.heap.objs.size+1) scope.names []) (bindC (envOfC qual scope s.heap.objs.size f cd).kindOf (ps.zip us) fun _=>none) s1):
  Inv (xv CX P w K mg base N qual scope f cd A outer s H E) [] (j8 N vs) H s1:=by
 have Ka:ps.length<=N.length:=by have:=V5 List.length S.pre;rw[Vt]at this;lia
 obtain⟨h1,tk,rfl,hk⟩:=x.done;have Q9:∀b:Yx,b∉(xv CX P w K mg base N qual scope f cd A outer s H E).ex:=fun b z=>absurd (show b∈([]:List Yx) from z) (by simp)
 refine⟨⟨e0.mod,S.kind,rfl,rfl,U6 _,fun y z c h1 h2=>?_,fun y hy=>?_,fun y c _ h=>?_,fun _=>hd,Around.frames_deeper e0.frames,.inr ⟨rfl,rfl⟩,fun b z=>absurd z (Q9 b),e0.bs,e0.bsz,fun b _ _=>Q9 b,fun b z=>absurd z (Q9 b),e0.funs,e0.frf⟩,
  rfl,e0.bare,Un.kept hk,⟨_,x.toInCall.ns,fun i y v h1 h2 h3=>?_⟩,fun y c h=>⟨_,x.cell y c h⟩,e0.hok.fresh (U6 _),fun y c h=>?_,fun p hp=>absurd (show p∈([]:List (Yx×Obj)) from hp) (by simp),e0.hok.kept hk,?_⟩
 .exact name_of_addr x.apart (Wq h1) (Wq h2)
 .have hy:scope.names.lookup y=some .cell\/scope.names.lookup y=some .free:=hy;rcases hy with hy|hy
  .exact qU hy
  .exact absurd rfl (S.nofree _ (Wq hy))
 .exact YD (x.above y c (Wq h))
 .have hi:i<vs.length:=by
   unfold j8 at h2;by_cases hi:i<vs.length
   .exact hi
   .rw[List.getElem?_append_right (by simpa using hi)]at h2;rw[List.getElem?_replicate]at h2;split at h2 <;> cases h2
  have ha:vs[i]?=some v:=by
   unfold j8 at h2;rw[List.getElem?_append_left (by simpa using hi),List.getElem?_map]at h2;cases e:vs[i]? with
   |none=>rw[e]at h2;cases h2
   |some a=>rw[e]at h2;cases h2;rfl
  obtain⟨u,hu,rv⟩:=r.get ha;have hp:ps[i]?=some y:=by
   rw[<-S.pre,List.getElem?_take_of_lt (by lia)];exact h1
  have Ub:ps.Nodup:=by rw[<-S.pre];exact S.nd.sublist (X8 _ _)
  refine⟨u,rv,?_⟩;rcases S.par y (Vm hp) with k|k
  .exact .inl ⟨k,oi Ub hp hu k⟩
  .obtain⟨c,e⟩:=qU (n:=s.heap.objs.size+1) k;refine .inr ⟨.inl k,c,e,?_⟩;have q:=x.cell y c e;rw[om Ub hp hu (by show scope.names.lookup y≠_;rw[k];decide)]at q;exact q
 .exact e0.hok.fresh (YD (x.above y c (Wq h)))
 .unfold j8;show _=N.length;rw[Vr,UZ,List.length_replicate];lia
def Ga{CX:CXT}{P:Yy}{w:World}{K:W.Frag}{mg:Str->Option Yu}{base:YB}{k:Nat}{f:Yx}{name qual:Str}{params:Arguments}{body:List Stmt}{scope:Scope}{dV kV doc pm Jz ct oc:Yu}{an od:Option Yx}
  {N1:Array (Option Yu)}{N ps:List Str}{sp:Sp}(lk:K.lookup f=some ⟨oc,od,.func (PySem.W.fnOf name qual params body scope dV kV doc pm an Jz ct),N1⟩) (Nr:PySem.W.codeIn K Jz qual=true) (S:FnScope N ps scope)
  (len:∀vs H Q E,sp vs H Q E->vs.length=ps.length)
  (Nu:∀(A:Yz) (outer:List Env) (s:Yw) (H:Hp) (vs:List V) (Q:VK) (E:XK),Room k (A.deeper (envOfC qual scope s.heap.objs.size f Jz))->sp vs H Q E->
   ∃t,PSs (xv CX P w K mg base N qual scope f Jz A outer s H E) body t/\t {nx:=fun _ H'=>Q .non H',rt:=Q} (j8 N vs) H):
  FnOk P w K mg base CX (k+1) f (PySem.W.fnOf name qual params body scope dV kV doc pm an Jz ct) ps sp:=by
 refine⟨len,fun A outer s H args us vs Q E hr e0 hb r Pd=>?_⟩;have hl:=len _ _ _ _ Pd;have KX:K.In s.heap:=e0.mod.kin.keeps fun b o e=>(e0.bs b o e).1
 have lim:s.heap.NoLimit:=e0.mod.nolimit.keeps fun b o e=>(e0.bs b o e).1
 have Li:∀y∈ps.zip us,scope.names.lookup y.1=some .local\/(scope.names.lookup y.1=some .cell/\((cellsFrom (s.heap.objs.size+1) scope.names []).lookup y.1).isSome=true):=fun Jo hy=>by
  obtain⟨n,v⟩:=Jo;rcases S.par n (WK hy).1 with q|q
  .exact .inl q
  .exact .inr ⟨q,Yv _ _ _ (.inl q)⟩
 refine codeAny_call_function hr.depth (KX _ _ lk) rfl S.co S.gen rfl (PySem.W.codeRec_of KX Nr) (hb _ _ _ _ ?_);refine wpAny_newFunctionEnv_cells S.kind Li fun env he s1 x=>?_
 subst he;refine⟨lim.keeps x.toInCall.keep,codeAny_func ?_⟩;obtain⟨t,ht,hq⟩:=Nu A outer s H vs Q E (hr.deeper _) Pd;have I:Inv (xv CX P w K mg base N qual scope f Jz A outer s H E) [] (j8 N vs) H s1:=uO S hr.hd e0 hl r x;refine Xg (ht [] s1 (j8 N vs) H _ I hq) (fun fl s' hs=>?_) fun e s' hs=>hs
 have fin:∀{σ':St}{H':Hp}{v:V}{u:Yu},Inv (xv CX P w K mg base N qual scope f Jz A outer s H E) [] σ' H' s'->RelV v u->Q v H'->CE outer P w H s Q u s':=
  fun{σ' H' v u} J rv q=>⟨v,H',J.os,J.bare,J.base,J.hok,rv,q⟩
 cases fl with
 |ret u=>
  obtain⟨v,σ',H',J,rv,q⟩:=hs;exact fin J rv q
 |next=>
  obtain⟨σ',H',J,q⟩:=hs;exact fin (v:=V.non) (u:=Value.none) J rfl q
 |brk=>
  obtain⟨_,_,_,q⟩:=hs;exact False.elim q
 |cont=>
  obtain⟨_,_,_,q⟩:=hs;exact False.elim q
section
variable{X:Cx}{x:Str}{p pos:Pos}{e:Expr}{es:List Expr}{t:TA}{id T:String}{r:List V->Hp->VK->Prop}
def S8(r:List V->Hp->VK->Prop)(t:TA):TE:=fun σ H Q=>t σ H fun vs H1=>r vs H1 Q
theorem qV(hc:dS X (.builtin id) r)(hg:Gl X x)(hm:X.mg x=none)(hv:bootBuiltins x=some (.builtin id))(ha:PA X (e::es) t)(hn:x≠"__name__":=by decide)(KU:(x==("__debug__" : Str))=false:=by decide)
  (he:starEach (e::es) X.env=(false,eval e X.env)::starEach es X.env:=by rfl) (Ka:(backTo pos (starEach es X.env)).any (·.1)=false:=by rfl):PE X (.Call (.Name x p) (e::es) [] pos) (S8 r t):=by
 intro pr s σ H Q I h;refine WX (g8 I hg hm hv ?_ hn KU);exact PyProof.Rows.callWith_builtin1 (Jt (ha pos pr s σ H _ I h) fun us s1 ⟨vs,H1,I1,r1,q1⟩=>hc pr s1 σ H1 vs us Q I1 r1 q1) he Ka
theorem uP(hc:dS X (.type T) r)(hg:Gl X x)(hm:X.mg x=none)(hv:bootBuiltins x=some (.type T))(ha:PA X (e::es) t)(hn:x≠"__name__":=by decide)(KU:(x==("__debug__" : Str))=false:=by decide)
  (he:starEach (e::es) X.env=(false,eval e X.env)::starEach es X.env:=by rfl) (Ka:(backTo pos (starEach es X.env)).any (·.1)=false:=by rfl):PE X (.Call (.Name x p) (e::es) [] pos) (S8 r t):=by
 intro pr s σ H Q I h;refine WX (g8 I hg hm hv ?_ hn KU);exact VM (Jt (ha pos pr s σ H _ I h) fun us s1 ⟨vs,H1,I1,r1,q1⟩=>hc pr s1 σ H1 vs us Q I1 r1 q1) he Ka
end
end L2
namespace HT
open PySem PyProof.Rows
section
open PySem.SeqAt
open PySem.AutoSeq1 (wpAny_loadPart')
open PySem.MeetsSeq PySem.MeetsSeq2 PySem.MeetsSeq3
end
section
variable{prog:Yy}{w:World}{A:Yz}{E:Yu->Yw->Prop}{s:Yw}
theorem Am{t b:Yx}{vs ws:List Yu}{Q:Yu->Yw->Prop}(ht:IsTup s.heap t vs.toArray)(hb:IsTup s.heap b ws.toArray)(hv:vs≠[])
  (h1:ws=[]->Q (.ref t) s) (h2:ws≠[]->Q (.ref s.heap.objs.size) {s with heap:=s.heap.push {cls:=.type "tuple",data:=.seq (vs++ws).toArray}})
  (hsz:vs.length+ws.length<=sizeLine):wpAny (model prog w) A (binaryOp .Add (.ref t) (.ref b)) Q E s:=by
 obtain⟨⟨cls,dd,data,sl⟩,ho,hc,n,hd⟩:=id ht;obtain⟨⟨Ob,MK,data2,ML⟩,Ks,L5,n2,hd2⟩:=id hb;simp only at hc hd L5 hd2;subst hc hd L5 hd2;have e:vs.toArray++ws.toArray=(vs++ws).toArray:=by simp
 by_cases hw:ws=[]
 .exact YF ⟨_,ho,rfl⟩ ⟨_,Ks,rfl⟩ Yp Zb Xs Xl (Xh _ _)
   (tuple_addW1 t b vs.toArray ws.toArray n n2 dd MK sl ML (by simpa using hv) (by simp[hw])) ⟨ho,Ks,h1 hw⟩
 .refine YF ⟨_,ho,rfl⟩ ⟨_,Ks,rfl⟩ Yp Zb Xs Xl (Xh _ _)
   (tuple_addW2 t b vs.toArray ws.toArray n n2 dd MK sl ML (by simpa using hv) (by simpa using hw) (by rw[U0,U0];exact hsz)) ⟨ho,Ks,?_⟩
  rw[e];exact h2 hw
def sIx(n d:Nat):Option Int->Nat
 |none=>d
 |some v=>if v<0 then(v+(n:Int)).toNat else min v.toNat n
theorem qW(n d:Nat):sIx n d none=d:=rfl
theorem mD(n d k:Nat):sIx n d (some (k:Int))=min k n:=by
 show(if(k:Int)<0 then((k:Int)+(n:Int)).toNat else min (k:Int).toNat n)=min k n;rw[U8 (by lia),VG]
theorem uQ(n d:Nat)(hd:d<=n)(o:Option Int):sIx n d o<=n:=by
 cases o with
 |none=>exact hd
 |some v=>
  show(if v<0 then(v+(n:Int)).toNat else min v.toNat n)<=n;by_cases hv:v<0
  .rw[U5 hv];lia
  .rw[U8 hv];exact Nat.min_le_right _ _
theorem uR(v:Int)(n d:Nat):(if v<0 then max (v+(n:Int)) 0 else min v (n:Int))=((sIx n d (some v):Nat):Int):=by
 show(if v<0 then max (v+(n:Int)) 0 else min v (n:Int))=(((if v<0 then(v+(n:Int)).toNat else min v.toNat n):Nat):Int)
 by_cases hv:v<0
 .simp only[U5 hv];lia
 .simp only[U8 hv];lia
theorem tw(lo hi:Option Int)(n:Nat):Builtin.Slice.sliceAdjust lo hi 1 (n:Int)=(((sIx n 0 lo:Nat):Int),((sIx n n hi:Nat):Int)):=by
 have h1:¬ ((1:Int)<0):=by lia
 unfold Builtin.Slice.sliceAdjust;simp only[h1,XB];refine Prod.ext ?_ ?_
 .cases lo with
  |none=>rfl
  |some v=>exact uR v n 0
 .cases hi with
  |none=>rfl
  |some v=>exact uR v n n
theorem tF(i j:Nat):Builtin.Slice.slicePlaces (i:Int) (j:Int) 1=j-i:=by
 unfold Builtin.Slice.slicePlaces;have h1:(1:Int)>0:=by lia
 simp only[h1,W8,Int.ediv_one];split <;> lia
theorem lV{v:Yu}{o:Option Int}{Q:Option Int->Yw->Prop}(p:IsPart v o)(h:Q o s):wpAny (model prog w) A (Builtin.Slice.slicePartIndex v) Q E s:=by
 cases p with
 |none=>exact slicePart_none h
 |int i t=>exact slicePart_int h
theorem fU{sl:Yx}{vl vu:Yu}{lo hi:Option Int}{n:Nat}{Q:Int×Int×Nat->Yw->Prop}(hs:s.heap.IsSliceOf sl vl vu .none)(pl:IsPart vl lo)(pu:IsPart vu hi)
  (h:Q (((sIx n 0 lo:Nat):Int),1,sIx n n hi-sIx n 0 lo) s):wpAny (model prog w) A (Builtin.Slice.sliceApplied (.ref sl) (pure (n:Int))) Q E s:=by
 obtain⟨os,Oc,Sq,Np⟩:=id hs;unfold Builtin.Slice.sliceApplied Builtin.Slice.sliceFields;refine UX (UX (VU Oc Np (x:=vl) rfl (UX (VU Oc Np (x:=vu) rfl (UX (VU Oc Np (x:=.none) rfl (U1 ?_)))))));refine UX (slicePart_none ?_);show wpAny _ _ (if((1:Int)==0)=true then _ else _) _ _ s;rw[U8 (by decide)];refine UX (lV pl (UX (lV pu (UX (U1 ?_)))));show wpAny _ _ (match Builtin.Slice.sliceAdjust lo hi 1 (n:Int) with|(lo,hi)=>pure (lo,(1:Int),Builtin.Slice.slicePlaces lo hi 1)) _ _ s;rw[tw lo hi n];show wpAny _ _ (pure (((sIx n 0 lo:Nat):Int),(1:Int),Builtin.Slice.slicePlaces ((sIx n 0 lo:Nat):Int) ((sIx n n hi:Nat):Int) 1)) _ _ s;rw[tF];exact U1 h
theorem xK(xs:Array Yu)(i k:Nat):((List.range k).filterMap fun(m:Nat)=>xs[((i:Int)+(m:Int)*1).toNat]?).toArray=((xs.toList.drop i).take k).toArray:=by
 have e:(fun(m:Nat)=>xs[((i:Int)+(m:Int)*1).toNat]?)=fun m=>xs[i+m]?:=by
  funext m
  have:((i:Int)+(m:Int)*1).toNat=i+m:=by lia
  rw[this]
 rw[e];have:=pick_run xs i k;rw[List.filterMap_map]at this;have e2:((fun x=>xs[x]?)∘fun x=>i+x)=fun m=>xs[i+m]?:=rfl
 rw[e2]at this;rw[this]
theorem jt{t sl:Yx}{items:Array Yu}{vl vu:Yu}{lo hi:Option Int}{Q:Yu->Yw->Prop}(ht:IsTup s.heap t items)(hs:s.heap.IsSliceOf sl vl vu .none)(pl:IsPart vl lo)(pu:IsPart vu hi)
  (hw:¬ (sIx items.size 0 lo=0/\sIx items.size items.size hi=items.size))
  (h:Q (.ref s.heap.objs.size) {s with heap:=s.heap.push {cls:=.type "tuple",data:=.seq ((items.toList.drop (sIx items.size 0 lo)).take (sIx items.size items.size hi-sIx items.size 0 lo)).toArray}})
  (hsz:items.size<=sizeLine):wpAny (model prog w) A (getItem (.ref t) (.ref sl)) Q E s:=by
 have MN:sizeOk (.seq ((items.toList.drop (sIx items.size 0 lo)).take (sIx items.size items.size hi-sIx items.size 0 lo)).toArray):=by
  show((items.toList.drop (sIx items.size 0 lo)).take (sIx items.size items.size hi-sIx items.size 0 lo)).toArray.size<=sizeLine;rw[U0,Vt,Wa,V3];lia
 have hj:sIx items.size items.size hi<=items.size:=uQ _ _ (U6 _) hi;obtain⟨os,Oc,Sq,Np⟩:=id hs;have S9:s.TypeIs (.ref sl) "slice":=⟨os,Oc,Sq⟩
 unfold getItem;try with_reducible refine WA ?_
 first|refine UX (U1 ?_)|skip
 refine UX (wpAny_sequenceKey ht.typeIs (by decide) ?_);refine UX (wpAny_callSpecial?_slot (name:=Str.ofString "__getitem__") ht.typeIs Wd
  (VQ Wd ht.typeIs entry_tuple_getitem ?_ (args_tuple_getitem _ _)))
 show wpAny _ _ (Builtin.Tuple.tupleItemsOf (.ref t) >>= _) _ _ s;refine UX (tupleItemsOf_ ht ?_);refine UX (Xi S9 ?_);rw[U5 (by decide)];refine UX (fU hs pl pu ?_);have Uc:¬ ((((sIx items.size 0 lo:Nat):Int)==0&&(1:Int)==1&&(sIx items.size items.size hi-sIx items.size 0 lo)==items.size)=true):=by
  intro q;rw[Va,Va]at q;have q1:((sIx items.size 0 lo:Nat):Int)=0:=eq_of_beq q.1.1;have q2:sIx items.size items.size hi-sIx items.size 0 lo=items.size:=eq_of_beq q.2;exact hw ⟨by lia,by lia⟩
 show wpAny _ _ (if(((sIx items.size 0 lo:Nat):Int)==0&&(1:Int)==1&&(sIx items.size items.size hi-sIx items.size 0 lo)==items.size)=true then _ else _) _ _ s;rw[U8 Uc,xK];first
  |exact UX (m:=Builtin.Tuple.tupleExact _) (VN (U1 ⟨_,rfl,U1 h⟩) MN)
  |exact UX (m:=Builtin.Tuple.tupleExact _) (VN (UX (U1 (U1 ⟨_,rfl,U1 h⟩))) MN)
  |exact UX (UX (m:=Builtin.Tuple.tupleExact _) (VN (U1 (U1 ⟨_,rfl,U1 h⟩)) MN))
  |exact UX (UX (m:=Builtin.Tuple.tupleExact _) (VN (U1 ⟨_,rfl,U1 h⟩) MN))
end
end HT
namespace L2
open PySem PySem.Spec PyProof.Rows
abbrev TO:=St->Hp->(Option Int->Hp->Prop)->Prop
def PO(X:Cx)(e:Option Expr)(t:TO):Prop:=
 ∀(pr:List (Yx×Obj)) (s:Yw) (σ:St) (H:Hp) (Q:Option Int->Hp->Prop),Inv X pr σ H s->t σ H Q->
  wpAny (model X.prog X.w) X.A (evalPart e X.env) (fun u s'=>∃o H',Inv X pr σ H' s'/\IsPart u o/\Q o H') X.xe s
def Ao:TO:=fun _ H Q=>Q none H
def Gb(t:TE):TO:=fun σ H Q=>t σ H fun x H1=>∃i,x=.int i/\Q (some i) H1
section
variable{X:Cx}{e:Expr}{te:TE}{lo hi:Option Expr}{tl th:TO}{pos p2:Pos}
theorem Ap:PO X none Ao:=by
 intro pr s σ H Q I h;rw[evalPart_none];exact U1 ⟨none,H,I,.none,h⟩
theorem Aq(h:PE X e te):PO X (some e) (Gb te):=by
 intro pr s σ H Q I hw;rw[evalPart_some];refine Jt (h pr s σ H _ I hw) fun u s1 Jx=>?_
 obtain⟨x,H1,I1,r1,q1⟩:=Jx;obtain⟨i,rfl,q⟩:=q1;obtain⟨t,rfl⟩:=r1;exact⟨some i,H1,I1,.int i t,q⟩
def Pt(X:Cx)(r:V->Option Int->Option Int->Hp->VK->Prop):Prop:=
 ∀(pr:List (Yx×Obj)) (s:Yw) (σ:St) (H:Hp) (x:V) (v vl vu:Yu) (lo hi:Option Int) (sl:Yx) (Q:VK),Inv X pr σ H s->RelV x v->s.heap.IsSliceOf sl vl vu .none->IsPart vl lo->IsPart vu hi->r x lo hi H Q->
  ∃T id,typeLookup (.type T) "__getitem__" = pure (some (.builtin id))/\s.TypeIs v T/\wpAny (model X.prog X.w) X.A (getItem v (.ref sl)) (EP X pr σ Q) X.xe s
def tSl(r:V->Option Int->Option Int->Hp->VK->Prop)(te:TE)(tl th:TO):TE:=fun σ H Q=>te σ H fun x H1=>tl σ H1 fun l H2=>th σ H2 fun u H3=>r x l u H3 Q
theorem xM{r:V->Option Int->Option Int->Hp->VK->Prop}(hr:Pt X r)(he:PE X e te)(hl:PO X lo tl)(hu:PO X hi th):PE X (.Subscript e (.Slice lo hi none p2) pos) (tSl r te tl th):=by
 intro pr s σ H Q I h;refine Subscript_ (Jt (he pr s σ H _ I h) fun v s1 Jx=>?_);obtain⟨x,H1,I1,r1,q1⟩:=Jx;refine wpAny_Slice (Jt (hl pr s1 σ H1 _ I1 q1) fun vl s2 ⟨l,H2,I2,pl,q2⟩=>Jt (hu pr s2 σ H2 _ I2 q2) fun vu s3 Jx=>?_);obtain⟨u,H3,I3,pu,q3⟩:=Jx;rw[evalPart_none];refine U1 ?_;have I4:Inv X pr σ H3 {s3 with heap:=s3.heap.push {cls:=.type "slice",data:=.fields #[vl,vu,.none]}}:=I3.kept (t':=s3.toks) fun b ob q=>Heap.get?_push_of_some _ q
 obtain⟨T,id,hT,ht,hg⟩:=hr pr {s3 with heap:=s3.heap.push {cls:=.type "slice",data:=.fields #[vl,vu,.none]}} σ H3 x v vl vu l u s3.heap.objs.size Q I4 r1 (Heap.IsSliceOf.new ..) pl pu q3;show wpAny (model X.prog X.w) X.A (subscriptTail e (.Slice lo hi none p2) v (.ref s3.heap.objs.size)) (EP X pr σ Q) X.xe {s3 with heap:=s3.heap.push {cls:=.type "slice",data:=.fields #[vl,vu,.none]}};exact tail_any (ops:=[.ref s3.heap.objs.size,v]) ht hT hg (by with_unfolding_all rfl)
def ze(xs:List V)(lo hi:Option Int):List V:=(xs.drop (HT.sIx xs.length 0 lo)).take (HT.sIx xs.length xs.length hi-HT.sIx xs.length 0 lo)
theorem kC(xs:List V)(lo hi:Option Int):(ze xs lo hi).length<=xs.length:=by
 unfold ze;rw[Vt,Wa];lia
def Ic(K:W.Frag):V->Option Int->Option Int->Hp->VK->Prop:=fun x lo hi H Q=>∃a xs,x=.ref a/\SqT K H a xs/\
 ¬ (HT.sIx xs.length 0 lo=0/\HT.sIx xs.length xs.length hi=xs.length)/\∀p,H p=none->Q (.ref p) (upd H p (.tup (ze xs lo hi)))
theorem Dm:Pt X (Ic X.K):=by
 intro pr s σ H x v vl vu lo hi sl Q I rx hs pl pu h;obtain⟨a,xs,rfl,hx,hw,q⟩:=h;cases rx;obtain⟨Je,r,ht,hz⟩:=I.tuple hx;have hlen:Je.toArray.size=xs.length:=by rw[U0];exact r.length.symm
 refine⟨"tuple",_,PyProof.Rows.slot_tuple_getitem.lookup,ht.typeIs,?_⟩;refine HT.jt ht hs pl pu (by rw[hlen];exact hw) ?_ (by rw[hlen];exact hz);rw[hlen];refine⟨.ref s.heap.objs.size,_,I.laid (t':=s.toks) (o:=.tup (ze xs lo hi)) (fun b ob q=>Heap.get?_push_of_some _ q) (U6 _) ?_,rfl,q _ (I.hok.fresh (U6 _))⟩;exact⟨Vx (kC xs lo hi) hz,_,(r.drop (HT.sIx xs.length 0 lo)).take (HT.sIx xs.length xs.length hi-HT.sIx xs.length 0 lo),IsTupN.new _ _⟩
def Gd(K:W.Frag):R2:=fun x y H Q=>∃a b xs ys,x=.ref a/\y=.ref b/\SqT K H a xs/\SqT K H b ys/\xs≠[]/\xs.length+ys.length<=sizeLine/\
 (ys=[]->Q (.ref a) H)/\(ys≠[]->∀p,H p=none->Q (.ref p) (upd H p (.tup (xs++ys))))
theorem Vals.nil_iff{xs:List V}{us:List Yu}(r:Vals xs us):us=[]<->xs=[]:=by
 cases r with
 |nil=>simp
 |cons _ _=>simp
theorem Ar:JT X (binaryOp .Add) (Gd X.K):=by
 intro pr s σ H x y v u Q I rx ry h;obtain⟨a,b,xs,ys,rfl,rfl,ha,hb,hx,hz,q1,q2⟩:=h;cases rx;cases ry;obtain⟨Je,r1,p1,_⟩:=I.tuple ha;obtain⟨Mo,r2,p2,_⟩:=I.tuple hb;refine HT.Am p1 p2 (fun z=>hx (r1.nil_iff.mp z)) (fun z=>⟨.ref a,H,I,rfl,q1 (r2.nil_iff.mp z)⟩) (fun z=>?_) (by rw[<-r1.length,<-r2.length];exact hz);refine⟨.ref s.heap.objs.size,_,I.laid (t':=s.toks) (o:=.tup (xs++ys)) (fun b ob q=>Heap.get?_push_of_some _ q) (U6 _) ?_,rfl,q2 (fun w=>z (r2.nil_iff.mpr w)) _ (I.hok.fresh (U6 _))⟩;exact⟨by rw[Vr];exact hz,_,r1.append r2,IsTupN.new _ _⟩
end
def ixN(n:Nat)(i:Int):Option Nat:=if 0<=i then(if i<n then some i.toNat else none) else if -(n:Int)<=i then some (i+n).toNat else none
def Kd{α:Type}(xs:List α)(i:Int):Option α:=(ixN xs.length i).bind fun j=>xs[j]?
def uS{n:Nat}{i:Int}{j:Nat}(h:ixN n i=some j):seqIndex? i n=some j/\j<n/\-(n:Int)<=i/\i<n:=by
 unfold ixN at h;by_cases h0:0<=i
 .rw[U5 h0]at h;by_cases h1:i<n
  .rw[U5 h1]at h;have e:i.toNat=j:=Vg h;exact⟨by rw[seqIndex_of h0 h1,e],by lia,by lia,h1⟩
  .rw[U8 h1]at h;cases h
 .rw[U8 h0]at h;by_cases h1:-(n:Int)<=i
  .rw[U5 h1]at h;have e:(i+n).toNat=j:=Vg h;exact⟨by rw[seqIndex_neg (by lia) h1,e],by lia,h1,by lia⟩
  .rw[U8 h1]at h;cases h
def pY{α:Type}{xs:List α}{i:Int}{v:α}(h:Kd xs i=some v):∃j,seqIndex? i xs.length=some j/\xs[j]?=some v/\j<xs.length/\-(xs.length:Int)<=i/\i<xs.length:=by
 unfold Kd at h;cases e:ixN xs.length i with
 |none=>rw[e]at h;cases h
 |some j=>
  rw[e]at h;obtain⟨h1,h2,h3,h4⟩:=uS e;exact⟨j,h1,h,h2,h3,h4⟩
def gc{α:Type}{xs:List α}{j:Nat}{v:α}(h:xs[j]?=some v):Kd xs (j:Int)=some v:=by
 have hj:j<xs.length:=(List.getElem?_eq_some_iff.mp h).1;have e:ixN xs.length (j:Int)=some j:=by
  unfold ixN;rw[U5 (by lia),U5 (by lia)];simp
 unfold Kd;rw[e];exact h
def uT(b:Expr):Prop:=∀o i,subscripted b false o i=operate [o,i] (getItem o i)
def Rb(X:Cx)(r:R2):Prop:=
 ∀(value slice:Expr) (pr:List (Yx×Obj)) (s:Yw) (σ:St) (H:Hp) (x y:V) (v u:Yu) (Q:VK),Inv X pr σ H s->RelV x v->RelV y u->r x y H Q->
  subscripted slice false v u=operate [v,u] (getItem v u)->wpAny (model X.prog X.w) X.A (subscriptTail value slice v u) (EP X pr σ Q) X.xe s
def Od(X:Cx)(id:String)(r:V->List V->Hp->VK->Prop):Prop:=
 ∀(pr:List (Yx×Obj)) (s:Yw) (σ:St) (H:Hp) (x:V) (xs:List V) (v:Yu) (us:List Yu) (Q:VK),Inv X pr σ H s->RelV x v->Vals xs us->r x xs H Q->
  wpAny (model X.prog X.w) X.A (call (.builtin id) (v::us)) (EP X pr σ Q) X.xe s
section
variable{X:Cx}{a b:Expr}{ta tb:TE}{pos:Pos}
theorem Dn{r:R2}(hr:Rb X r)(ha:PE X a ta)(hb:PE X b tb)(hs:uT b):PE X (.Subscript a b pos) (QH r ta tb):=by
 intro pr s σ H Q I h;exact Subscript_ (F2 ha hb I h fun v u s2 x y H2 I2 rx ry q=>hr a b pr s2 σ H2 x y v u Q I2 rx ry q (hs _ _))
def Ie(K:W.Frag):R2:=fun x y H Q=>∃p xs i v,x=.ref p/\y=.int i/\SqL K H p xs/\Kd xs i=some v/\Q v H
def Ig(K:W.Frag):R2:=fun x y H Q=>∃p xs i v,x=.ref p/\y=.int i/\SqT K H p xs/\Kd xs i=some v/\Q v H
def Ih:R2:=fun x y H Q=>∃z i c,x=.str z/\y=.int i/\z.length<=sizeLine/\Kd z.cps.toList i=some c/\Q (.str ⟨#[c]⟩) H
theorem As:Rb X (Ie X.K):=by
 intro value slice pr s σ H x y v u Q I rx ry h hs;obtain⟨p,xs,i,z,rfl,rfl,hq,he,q⟩:=h;cases rx;obtain⟨t,rfl⟩:=ry;obtain⟨Je,r,pl,hz⟩:=I.list hq;obtain⟨j,h1,h2,h3,h4,h5⟩:=pY he;obtain⟨w,ew,M0⟩:=r.get h2;have hl:=r.length;have hn:=lU;have fin:EP X pr σ Q w s:=⟨z,H,I,M0,q⟩
 by_cases h0:0<=i
 .have hj:i.toNat=j:=by
   rw[seqIndex_of h0 h5]at h1;exact Vg h1
  exact item_listR pl.isList h0 (by lia) (by rw[hj];simpa using ew) fin hs
 .have hj:(i+(Je.toArray.size:Int)).toNat=j:=by
   rw[seqIndex_neg (by lia) h4]at h1;rw[U0,<-hl];exact Vg h1
  exact subscriptTail_builtinR (x:=w) pl.isList.typeIs slot_list_getitem.lookup
   (wpAny_getItem_list_neg (Q:=fun r s'=>r=w/\EP X pr σ Q r s') pl.isList (by lia) (by rw[U0] <;> lia) (by lia) (by rw[hj];simpa using ew) ⟨rfl,fin⟩) hs
theorem zf:Rb X (Ig X.K):=by
 intro value slice pr s σ H x y v u Q I rx ry h hs;obtain⟨p,xs,i,z,rfl,rfl,hq,he,q⟩:=h;cases rx;obtain⟨t,rfl⟩:=ry;obtain⟨Je,r,pl,hz⟩:=I.tuple hq;obtain⟨j,h1,h2,h3,h4,h5⟩:=pY he;obtain⟨w,ew,M0⟩:=r.get h2;have hl:=r.length;have hn:=lU;have fin:EP X pr σ Q w s:=⟨z,H,I,M0,q⟩
 exact subscriptTail_builtinR (x:=w) pl.typeIs slot_tuple_getitem.lookup
  (getItem_tuple (j:=j) (Q:=fun r s'=>r=w/\EP X pr σ Q r s') pl (by lia) (by lia) (by rw[U0,<-hl];exact h1) (by simpa using ew) ⟨rfl,fin⟩) hs
theorem Dp:Rb X Ih:=by
 intro value slice pr s σ H x y v u Q I rx ry h hs;obtain⟨z,i,c,rfl,rfl,hz,he,q⟩:=h;obtain⟨t,rfl⟩:=rx;obtain⟨t',rfl⟩:=ry;obtain⟨j,h1,h2,h3,h4,h5⟩:=pY he;have hl:z.cps.toList.length=z.length:=by simp[Str.length]
 rw[hl]at h1 h4 h5;have hn:=lU;exact tail_any (YS s z t) slot_str_getitem.lookup (getItem_str (c:=c) (by
  have e1:decide (i < -(2 ^ 63:Int))=false:=Vq (by lia);have e2:decide (i>=2 ^ 63)=false:=Vq (by lia);rw[e1,e2,Bool.or_false]) (by rw[h1];simpa using h2) ⟨.str ⟨#[c]⟩,H,I.tok _,⟨_,rfl⟩,q⟩) hs
theorem tG(Je:List Yu)(n j:Nat)(u:Yu):Obj.mapSeq (·.setIfInBounds j u) {cls:=.type "list",data:=.seq Je.toArray n}={cls:=.type "list",data:=.seq (Je.set j u).toArray n}:=by
 simp[Obj.mapSeq]
theorem Inv.lst{pr:List (Yx×Obj)}{σ:St}{H:Hp}{s:Yw}{p:Yx}{xs:List V}(I:Inv X pr σ H s)(h:H p=some (.lst xs)):
  ∃(Je:List Yu) (n:Nat),Vals xs Je/\s.heap.get? p=some {cls:=.type "list",data:=.seq Je.toArray n}/\xs.length<=sizeLine:=by
 obtain⟨z,Je,n,r,e⟩:=I.hok p _ h;exact⟨Je,n,r,e,z⟩
theorem Inv.lstUpd{pr:List (Yx×Obj)}{σ:St}{H:Hp}{s:Yw}{p:Yx}{xs ys:List V}{Je its':List Yu}{n n':Nat}{f:Obj->Obj}(I:Inv X pr σ H s)(h:H p=some (.lst xs))
  (ho:s.heap.get? p=some {cls:=.type "list",data:=.seq Je.toArray n}) (hf:f {cls:=.type "list",data:=.seq Je.toArray n}={cls:=.type "list",data:=.seq its'.toArray n'}) (r:Vals ys its') (hz:ys.length<=sizeLine) (t:Nat):
  Inv X pr σ (upd H p (.lst ys)) {s with heap:=s.heap.update p f,toks:=t}:=by
 have e:(s.heap.update p f).get? p=some {cls:=.type "list",data:=.seq its'.toArray n'}:=by
  rw[Heap.get?_update_self f ho (by rw[hf] <;> rfl),hf]
 refine I.write (x:=p) (e:=p) (by rw[h];trivial) (.inl rfl) (fun b u hb q=>(Heap.get?_update_other _ _ (Wt hb)).trans q) ⟨_,e⟩ ?_;exact⟨hz,its',n',r,e⟩
def Dq:V->V->V->Hp->(Hp->Prop)->Prop:=fun o i v H Q=>∃p xs k j,o=.ref p/\i=.int k/\H p=some (.lst xs)/\ixN xs.length k=some j/\Q (upd H p (.lst (xs.set j v)))
theorem xN:HU X Dq:=by
 intro pr s σ H o i v ov iv u Q I ro ri rv h;obtain⟨p,xs,k,j,rfl,rfl,hp,hj,q⟩:=h;cases ro;obtain⟨t,rfl⟩:=ri;obtain⟨Je,n,r,ho,hz⟩:=I.lst hp;obtain⟨h1,h2,h3,h4⟩:=uS hj;have hl:=r.length;have hn:=lU;have I':Inv X pr σ (upd H p (.lst (xs.set j v))) {s with heap:=s.heap.update p (Obj.mapSeq (·.setIfInBounds j u))}:=
  I.lstUpd hp ho (tG Je n j u) (r.set rv j) (by rw[VO];exact hz) s.toks
 by_cases h0:0<=k
 .have hk:k.toNat=j:=by
   rw[seqIndex_of h0 h4]at h1;exact Vg h1
  exact PySem.W.ki_setAt ho h0 (by lia) (by rw[U0,<-hl];exact h4) (by rw[hk];exact⟨_,I',q⟩)
 .have hk:(k+(Je.toArray.size:Int)).toNat=j:=by
   rw[seqIndex_neg (by lia) h3]at h1;rw[U0,<-hl];exact Vg h1
  exact PySem.W.ki_setBack ho (by lia) (by rw[U0,<-hl];exact h3) (by lia) (by rw[hk];exact⟨_,I',q⟩)
theorem oq(lo hi:Option Int)(n:Nat):(sliceBounds lo hi none n).1=((HT.sIx n 0 lo:Nat):Int)/\(sliceBounds lo hi none n).2.1=((HT.sIx n n hi:Nat):Int)/\(sliceBounds lo hi none n).2.2=1:=by
 refine⟨?_,?_,rfl⟩
 .cases lo with
  |none=>simp[sliceBounds,HT.sIx]
  |some i=>
   simp only[sliceBounds,HT.sIx,Wv,show(1:Int)>0 by decide,W8];by_cases h:i<0
   .simp only[h,W8] <;> lia
   .simp only[h,XB] <;> lia
 .cases hi with
  |none=>simp[sliceBounds,HT.sIx]
  |some i=>
   simp only[sliceBounds,HT.sIx,Wv,show(1:Int)>0 by decide,W8];by_cases h:i<0
   .simp only[h,W8] <;> lia
   .simp only[h,XB] <;> lia
theorem mE(Je:List Yu)(lo hi:Option Int):slicePick Je.toArray lo hi none=((Je.drop (HT.sIx Je.length 0 lo)).take (HT.sIx Je.length Je.length hi-HT.sIx Je.length 0 lo)).toArray:=by
 obtain⟨h1,h2,h3⟩:=oq lo hi Je.toArray.size;unfold slicePick;rw[h1,h2,h3];simp only[sliceRange_one,pick_run,U0] <;> rfl
def Ii(K:W.Frag):V->Option Int->Option Int->Hp->VK->Prop:=fun x lo hi H Q=>∃a xs,x=.ref a/\SqL K H a xs/\∀p,H p=none->Q (.ref p) (upd H p (.lst (ze xs lo hi)))
theorem Au:Pt X (Ii X.K):=by
 intro pr s σ H x v vl vu lo hi sl Q I rx hs pl pu h;obtain⟨a,xs,rfl,hx,q⟩:=h;cases rx;obtain⟨Je,r,ht,hz⟩:=I.list hx;have hlen:=r.length;refine⟨"list",_,slot_list_getitem.lookup,ht.isList.typeIs,?_⟩;refine X9 ht.isList hs pl pu .none (by simp) ?_ (by rw[U0] <;> lia);rw[mE,<-hlen];refine⟨.ref s.heap.objs.size,_,I.laid (t':=s.toks) (o:=.lst (ze xs lo hi)) (fun b ob q=>Heap.get?_push_of_some _ q) (U6 _) ?_,rfl,q _ (I.hok.fresh (U6 _))⟩;exact⟨Vx (kC xs lo hi) hz,_,0,(r.drop (HT.sIx xs.length 0 lo)).take (HT.sIx xs.length xs.length hi-HT.sIx xs.length 0 lo),Heap.get?_push_size _ rfl⟩
def xO:V->Bool
 | .non=>true
 | .bl _=>true
 | .int _=>true
 | .str _=>true
 |_=>false
def Ta:V->V->Bool
 | .non,.non=>true
 | .bl a,.bl b=>a==b
 | .bl a,.int b=>(if a then 1 else 0)==b
 | .int a,.bl b=>a==(if b then 1 else 0)
 | .int a,.int b=>a==b
 | .str a,.str b=>a==b
 |_,_=>false
theorem zg{A:Yz}{s:Yw}{y x:V}{u v:Yu}(ry:RelV y u)(rx:RelV x v)(fy:xO y=true)(fx:xO x=true):SeqAt.EqAt A s u v (Ta y x):=by
 cases y with
 |non=>
  cases ry;cases x with
  |non=>cases rx;exact SeqAt.EqAt.same _
  |bl b=>cases rx;exact SeqAt.EqAt.none_bool b
  |int b=>obtain⟨t,rfl⟩:=rx;exact SeqAt.EqAt.none_int b t
  |str b=>obtain⟨t,rfl⟩:=rx;exact SeqAt.EqAt.none_str b t
  |_=>exact absurd (show false=true from fx) U3
 |bl a=>
  cases ry;cases x with
  |non=>cases rx;exact SeqAt.EqAt.bool_none a
  |bl b=>cases rx;exact SeqAt.EqAt.bool_bool a b
  |int b=>obtain⟨t,rfl⟩:=rx;exact SeqAt.EqAt.bool_int a b t
  |str b=>obtain⟨t,rfl⟩:=rx;exact SeqAt.EqAt.bool_str a b t
  |_=>exact absurd (show false=true from fx) U3
 |int a=>
  obtain⟨t',rfl⟩:=ry;cases x with
  |non=>cases rx;exact SeqAt.EqAt.int_none a t'
  |bl b=>cases rx;exact SeqAt.EqAt.int_bool a t' b
  |int b=>obtain⟨t,rfl⟩:=rx;exact SeqAt.EqAt.int_int a t' b t
  |str b=>obtain⟨t,rfl⟩:=rx;exact SeqAt.EqAt.int_str a t' b t
  |_=>exact absurd (show false=true from fx) U3
 |str a=>
  obtain⟨t',rfl⟩:=ry;cases x with
  |non=>cases rx;exact SeqAt.EqAt.str_none a t'
  |bl b=>cases rx;exact SeqAt.EqAt.str_bool a t' b
  |int b=>obtain⟨t,rfl⟩:=rx;exact SeqAt.EqAt.str_int a t' b t
  |str b=>obtain⟨t,rfl⟩:=rx;exact SeqAt.EqAt.str_str a t' b t
  |_=>exact absurd (show false=true from fx) U3
 |_=>exact absurd (show false=true from fy) U3
theorem jL:dS X (.builtin "len") (fun xs H Q=>∃p ys,xs=[.ref p]/\(SqL X.K H p ys\/SqT X.K H p ys)/\Q (.int ys.length) H):=by
 intro pr s σ H xs us Q I r h;obtain⟨p,ys,rfl,hq,q⟩:=h;obtain⟨u,rfl,rx⟩:=f9 r;cases rx;have hn:=lU;rcases hq with hq|hq
 .obtain⟨Je,r',pl,hz⟩:=I.list hq;have hlen:=r'.length;exact Calls.call_len_list pl.isList (by simp only[U0] <;> lia) ⟨.int ys.length,H,I.tok _,⟨s.toks+1,by rw[U0,hlen]⟩,q⟩
 .obtain⟨Je,r',pl,hz⟩:=I.tuple hq;have hlen:=r'.length;exact len_tuple pl (by simp only[U0] <;> lia) ⟨.int ys.length,H,I.tok _,⟨s.toks+1,by rw[U0,hlen]⟩,q⟩
theorem ot:dS X (.builtin "len") (fun xs H Q=>∃z,xs=[.str z]/\z.length<=sizeLine/\Q (.int z.length) H):=by
 intro pr s σ H xs us Q I r h;obtain⟨z,rfl,hz,q⟩:=h;obtain⟨u,rfl,t,rfl⟩:=f9 r;have hn:=lU;exact len_str (by lia) ⟨.int z.length,H,I.tok _,⟨_,rfl⟩,q⟩
theorem jM:dS X (.type "list") (fun xs H Q=>∃p ys,xs=[.ref p]/\(SqL X.K H p ys\/SqT X.K H p ys)/\∀l,H l=none->Q (.ref l) (upd H l (.lst ys))):=by
 intro pr s σ H xs us Q I r h;obtain⟨p,ys,rfl,hq,q⟩:=h;obtain⟨u,rfl,rx⟩:=f9 r;cases rx;have fin:∀(Je:List Yu),Vals ys Je->ys.length<=sizeLine->∀(h':YB) (c':Nat),(∀b o',s.heap.get? b=some o'->h'.get? b=some o')->
   h'.get? s.heap.objs.size=some {cls:=.type "list",dict:=none,data:=.seq Je.toArray c',slots:=#[]}->EP X pr σ Q (.ref s.heap.objs.size) {s with heap:=h'}:=fun Je r' hz h' c' kp e=>
  ⟨.ref s.heap.objs.size,_,I.laid (t':=s.toks) kp (U6 _) (show ObjOk X.prog X.w _ h' _ (.lst ys) from⟨hz,Je,c',r',e⟩),rfl,q _ (I.hok.fresh (U6 _))⟩
 rcases hq with hq|hq
 .obtain⟨Je,r',pl,hz⟩:=I.list hq;have hlen:=r'.length;obtain⟨o,ho,hc,n,hd⟩:=pl.isList;exact call_list_seq p (.inl rfl) ho hc hd (fun h' c' kp e=>fin Je r' hz h' c' kp e) (by simp only[U0] <;> lia)
 .obtain⟨Je,r',pl,hz⟩:=I.tuple hq;have hlen:=r'.length;obtain⟨o,ho,hc,n,hd⟩:=pl;exact call_list_seq p (.inr rfl) ho hc hd (fun h' c' kp e=>fin Je r' hz h' c' kp e) (by simp only[U0] <;> lia)
theorem iQ:dS X (.type "tuple") (fun xs H Q=>∃p ys,xs=[.ref p]/\((SqL X.K H p ys/\∀l,H l=none->Q (.ref l) (upd H l (.tup ys)))\/(SqT X.K H p ys/\Q (.ref p) H))):=by
 intro pr s σ H xs us Q I r h;obtain⟨p,ys,rfl,h⟩:=h;obtain⟨u,rfl,rx⟩:=f9 r;cases rx;rcases h with⟨hq,q⟩|⟨hq,q⟩
 .obtain⟨Je,r',pl,hz⟩:=I.list hq;have hlen:=r'.length;refine call_tuple_list pl.isList (fun h' kp=>?_) (by simp only[U0] <;> lia);have I1:Inv X pr σ H {s with heap:=h'}:=I.kept (t':=s.toks) kp;have I2:Inv X pr σ (upd H h'.objs.size (.tup ys)) {s with heap:=h'.push {cls:=.type "tuple",data:=.seq Je.toArray}}:=
   I1.laid (t':=s.toks) (fun b o e=>Heap.get?_push_of_some _ e) (U6 _) (show ObjOk X.prog X.w _ _ _ (.tup ys) from⟨hz,Je,r',IsTupN.new _ _⟩)
  exact⟨.ref h'.objs.size,_,I2,rfl,q _ (I1.hok.fresh (U6 _))⟩
 .obtain⟨Je,r',pl,hz⟩:=I.tuple hq;exact call_tuple_same pl ⟨.ref p,H,I,rfl,q⟩
def Sr(K:W.Frag)(T:String)(x:V)(H:Hp):Prop:=match x with
 | .str _=>T = "str"
 | .int _=>T = "int"
 | .ref p=>(T = "list"/\∃xs,SqL K H p xs)\/(T = "tuple"/\∃o,K.lookup p=some o/\o.cls=.type "tuple"/\o.dict=none)\/
   (T = "dict"/\((∃kvs,H p=some (.dK kvs))\/∃kvs,H p=some (.dT kvs)))\/(T = "set"/\∃S n,H p=some (.set S n))
 |_=>False
theorem zh{pr:List (Yx×Obj)}{σ:St}{H:Hp}{s:Yw}{T:String}{x:V}{v:Yu}(I:Inv X pr σ H s)(r:RelV x v)(ty:Sr X.K T x H):
  s.TypeIs v T/\∀a,v=.ref a->∃ob,s.heap.get? a=some ob/\ob.dict=none:=by
 cases x with
 |str z=>
  obtain⟨t,rfl⟩:=r;cases(show T = "str" from ty);exact⟨YS s z t,fun _ e=>nomatch e⟩
 |int i=>
  obtain⟨t,rfl⟩:=r;cases(show T = "int" from ty);exact⟨YT s i t,fun _ e=>nomatch e⟩
 |ref p=>
  cases r;rcases ty with⟨rfl,xs,hq⟩|⟨rfl,o,hk,hc,hd⟩|⟨rfl,hk⟩|⟨rfl,S,n,hk⟩
  .obtain⟨Je,_,pl,_⟩:=I.list hq;refine⟨pl.isList.typeIs,fun a e=>?_⟩;cases e;obtain⟨o,n,e,c,hd,_⟩:=pl;exact⟨o,e,hd⟩
  .refine⟨⟨o,I.kIn p o hk,hc⟩,fun a e=>?_⟩;cases e;exact⟨o,I.kIn _ o hk,hd⟩
  .have z:∃o,s.heap.get? p=some o/\o.ExactDict:=by
    rcases hk with⟨kvs,hk⟩|⟨kvs,hk⟩
    .obtain⟨_,_,_,_,o,_,_,e,ex,_⟩:=I.hok p _ hk;exact⟨o,e,ex⟩
    .obtain⟨_,_,_,_,o,_,_,e,ex,_⟩:=I.hok p _ hk;exact⟨o,e,ex⟩
   obtain⟨o,e,ex⟩:=z;refine⟨⟨o,e,ex.1⟩,fun a e2=>?_⟩;cases e2;exact⟨o,e,ex.2.1⟩
  .obtain⟨o,_,_,_,e,ex,_⟩:=I.hok p _ hk;refine⟨⟨o,e,ex.1⟩,fun a e2=>?_⟩;cases e2;exact⟨o,e,ex.2.1⟩
 |_=>exact False.elim ty
def Ij(K:W.Frag)(T:String)(r:V->List V->Hp->VK->Prop)(to:TE):TE:=fun σ H Q=>to σ H fun x H1=>Sr K T x H1/\r x [] H1 Q
def tBM(K:W.Frag)(T:String)(r:V->List V->Hp->VK->Prop)(to:TE)(t:TA):TE:=fun σ H Q=>to σ H fun x H1=>Sr K T x H1/\t σ H1 fun xs H2=>r x xs H2 Q
variable{o e:Expr}{es:List Expr}{to:TE}{t:TA}{name:Str}{apos Jr:Pos}{T id:String}{r:V->List V->Hp->VK->Prop}
theorem Dr(pa:PlainAttrs T)(slot:Slot T name id)(M1:typeOf (.builtin id)=pure (.type "method_descriptor"))(hm:Od X id r)(ho:PE X o to)
  (JQ:attributeBase o name X.env (eval o X.env)=eval o X.env:=by rfl) (JR:(apos.endLine==Jr.line)=true:=by rfl):PE X (.Call (.Attribute o name apos) [] [] Jr) (Ij X.K T r to):=by
 intro pr s σ H Q I h;refine wpAny_Call_method0_late JQ JR (Jt (ho pr s σ H _ I h) fun v s1 Jx=>?_);obtain⟨x,H1,I1,r1,ty,q1⟩:=Jx;obtain⟨h1,h2⟩:=zh I1 r1 ty;exact⟨T,id,pa,slot,M1,h1,h2,Xt rfl (PySem.evalArgs_none (hm pr s1 σ H1 x [] v [] Q I1 r1 .nil q1))⟩
theorem xP(pa:PlainAttrs T)(slot:Slot T name id)(M1:typeOf (.builtin id)=pure (.type "method_descriptor"))(hm:Od X id r)(ho:PE X o to)(ha:PA X (e::es) t)
  (JQ:attributeBase o name X.env (eval o X.env)=eval o X.env:=by rfl)
  (KW:((backTo Jr (starEach (e::es) X.env)).all (fun x=>!x.1)&&(backToKw Jr (keywordEach [] X.env)).all (fun x=>x.1.isSome)
   && decide ((e::es).length+([]:List Keyword).length+(if([]:List Keyword).isEmpty then 0 else 1)<30))=true:=by rfl)
  (JR:(apos.endLine==Jr.line)=true:=by rfl) (hs:starEach (e::es) X.env=(false,eval e X.env)::starEach es X.env:=by rfl) (JM:(backTo Jr (starEach es X.env)).any (·.1)=false:=by rfl):
  PE X (.Call (.Attribute o name apos) (e::es) [] Jr) (tBM X.K T r to t):=by
 intro pr s σ H Q I h;refine wpAny_Call_method_late JQ KW JR rfl (Jt (ho pr s σ H _ I h) fun v s1 Jx=>?_);obtain⟨x,H1,I1,r1,ty,q1⟩:=Jx;obtain⟨h1,h2⟩:=zh I1 r1 ty;refine⟨T,id,pa,slot,M1,h1,h2,?_⟩;have hA:=ha Jr pr s1 σ H1 _ I1 q1;rw[hs]at hA ⊢;refine Xt (by show(false||(backTo Jr (starEach es X.env)).any (·.1))=false;rw[JM] <;> rfl) (Calls.evalArgs_plain ?_);exact Jt hA fun us s2 ⟨vs,H2,I2,r2,q2⟩=>hm pr s2 σ H2 x vs v us Q I2 r1 r2 q2
end
def MtM(X:Cx)(id:String)(r:V->List V->Hp->VK->Prop):Prop:=
 ∀(pr:List (Yx×Obj)) (s:Yw) (σ:St) (H:Hp) (x:V) (xs:List V) (v:Yu) (us:List Yu) (Q:VK),Inv X pr σ H s->RelV x v->Vals xs us->r x xs H Q->
  wpAny (model X.prog X.w) X.A (call (.builtin id) (v::us)) (EP X pr σ Q) X.xe s
def Vals.one:∀{x:V}{us:List Yu},Vals [x] us->∃u,us=[u]/\RelV x u
 |_,_,.cons r .nil=>⟨_,rfl,r⟩
def Vals.two:∀{x y:V}{us:List Yu},Vals [x,y] us->∃u v,us=[u,v]/\RelV x u/\RelV y v
 |_,_,_,.cons r (.cons q .nil)=>⟨_,_,rfl,r,q⟩
def Vals.zero:∀{us:List Yu},Vals [] us->us=[]
 |_,.nil=>rfl
theorem Vals.dropLast{xs:List V}{us:List Yu}(h:Vals xs us):Vals xs.dropLast us.dropLast:=by
 induction h with
 |nil=>exact .nil
 |cons r t ih=>
  cases t with
  |nil=>exact .nil
  |cons q t'=>exact .cons r ih
theorem Vals.eraseIdx:∀{xs:List V}{us:List Yu}(i:Nat),Vals xs us->Vals (xs.eraseIdx i) (us.eraseIdx i)
 |_,_,_,.nil=>.nil
 |_,_,0,.cons _ t=>t
 |_,_,i+1,.cons r t=>.cons r (Vals.eraseIdx i t)
theorem Vals.rep{xs:List V}{us:List Yu}(h:Vals xs us):∀k:Nat,Vals (List.replicate k xs).flatten (List.replicate k us).flatten
 | 0=>.nil
 |k+1=>by
  rw[We,We,Wo,Wo];exact Vals.append h (Vals.rep h k)
def tH{α:Type}(l:List α):l.eraseIdx (l.length-1)=l.dropLast:=by
 induction l with
 |nil=>rfl
 |cons a r ih=>
  cases r with
  |nil=>rfl
  |cons b r=>
   have e:(a::b::r).length-1=((b::r).length-1)+1:=by
    have h1:(a::b::r).length=r.length+2:=rfl;have h2:(b::r).length=r.length+1:=rfl;lia
   rw[e,List.eraseIdx_cons_succ,ih];all_goals rfl
theorem ou(Je:List Yu):∀(k:Nat) (acc:List Yu),
  List.foldl (fun x1 x2=>x1++x2) acc.toArray (List.replicate k Je.toArray)=(acc++(List.replicate k Je).flatten).toArray
 | 0,acc=>by simp
 |k+1,acc=>by
  have e:acc.toArray++Je.toArray=(acc++Je).toArray:=by simp
  have e2:(acc++Je)++(List.replicate k Je).flatten=acc++(List.replicate (k+1) Je).flatten:=by
   rw[We,Wo,VH]
  rw[<-e2,<-ou Je k (acc++Je),<-e,We,W0]
section
variable{X:Cx}{pr:List (Yx×Obj)}{σ:St}{H:Hp}{s:Yw}{l b:Yx}{xs ys zs:List V}
theorem Inv.lset{Je its':List Yu}{n:Nat}{f:Array Yu->Array Yu}{t':Nat}(I:Inv X pr σ H s)(hH:H l=some (.lst xs))
  (e:s.heap.get? l=some {cls:=.type "list",data:=.seq Je.toArray n}) (hf:f Je.toArray=its'.toArray) (hv:Vals ys its') (hz:ys.length<=sizeLine):
  Inv X pr σ (upd H l (.lst ys)) {s with heap:=s.heap.update l (Obj.mapSeq f),toks:=t'}:=by
 have q:=PySem.IsL.update e f;rw[hf]at q;refine I.write (x:=l) (e:=l) (by rw[hH];exact trivial) (.inl rfl) (fun b' u hb hu=>(Heap.get?_update_other s.heap (Obj.mapSeq f) (Wt hb)).trans hu) ⟨_,q⟩ ?_;exact⟨hz,its',_,hv,q⟩
theorem Inv.lnew{Je:List Yu}{t':Nat}(I:Inv X pr σ H s)(hv:Vals ys Je)(hz:ys.length<=sizeLine):
  Inv X pr σ (upd H s.heap.objs.size (.lst ys)) {s with heap:=s.heap.push {cls:=.type "list",data:=.seq Je.toArray},toks:=t'}:=
 I.laid (fun _ _ q=>Heap.get?_push_of_some _ q) (U6 _) ⟨hz,Je,0,hv,Heap.get?_push_size _ rfl⟩
theorem Inv.fresh(I:Inv X pr σ H s):H s.heap.objs.size=none:=I.hok.fresh (U6 _)
theorem Inv.lstM(I:Inv X pr σ H s)(hH:H l=some (.lst xs)):xs.length<=sizeLine/\∃(Je:List Yu) (n:Nat),Vals xs Je/\xs.length=Je.length/\s.heap.get? l=some {cls:=.type "list",data:=.seq Je.toArray n}:=by
 obtain⟨z,Je,n,r,e⟩:=I.hok l _ hH;exact⟨z,Je,n,r,r.length,e⟩
theorem xQ{n:Nat}(h:n<=sizeLine):Builtin.List.listTooLong n=false:=by
 unfold Builtin.List.listTooLong;exact Vq (by lia)
end
section
variable{X:Cx}
def Av:V->List V->Hp->VK->Prop:=fun x vs H Q=>∃l xs y,x=.ref l/\vs=[y]/\H l=some (.lst xs)/\xs.length<sizeLine/\Q .non (upd H l (.lst (xs++[y])))
theorem ox:MtM X "list.append" Av:=by
 intro pr s σ H x vs v us Q I rx rv h;obtain⟨l,xs,y,rfl,rfl,hH,hz,q⟩:=h;cases rx;obtain⟨u,rfl,ru⟩:=rv.one;obtain⟨z,Je,n,r,hl,e⟩:=I.lstM hH;refine Ya F.slot_list_append ⟨_,e,rfl⟩ F.entry_list_append (F.args_list_append_2 _ _) (PySem.list_append l Je.toArray n u (by rw[U0];lia)) ⟨e,?_⟩;refine⟨.non,_,I.lset (its':=Je++[u]) hH e (by simp) (r.append (.cons ru .nil)) ?_,rfl,q⟩;rw[Vr,VC];lia
def Ik:V->List V->Hp->VK->Prop:=fun x vs H Q=>∃l xs y,x=.ref l/\vs=[]/\H l=some (.lst xs)/\xs[xs.length-1]?=some y/\Q y (upd H l (.lst xs.dropLast))
theorem Ht:MtM X "list.pop" Ik:=by
 intro pr s σ H x vs v us Q I rx rv h;obtain⟨l,xs,y,rfl,rfl,hH,hy,q⟩:=h;cases rx;have Tb:=rv.zero;subst Tb;obtain⟨z,Je,n,r,hl,e⟩:=I.lstM hH;obtain⟨u,hu,ru⟩:=r.get hy;have hy':Je.toArray[Je.toArray.size-1]?=some u:=by
  show Je.toArray[Je.length-1]?=some u;rw[<-Array.getElem?_toList,<-hl];exact hu
 refine Ya F.slot_list_pop ⟨_,e,rfl⟩ F.entry_list_pop (F.args_list_pop_1 _) (MeetsSeq.list_pop_last l Je.toArray n u hy' (by rw[U0];lia)) ⟨e,?_⟩;refine⟨y,_,I.lset (its':=Je.dropLast) hH e ?_ r.dropLast ?_,ru,q⟩
 .show Je.toArray.eraseIdxIfInBounds (Je.toArray.size-1)=Je.dropLast.toArray;rw[U0,List.eraseIdxIfInBounds_toArray,tH]
 .rw[List.length_dropLast];lia
def Ds:V->List V->Hp->VK->Prop:=fun x vs H Q=>∃l xs,x=.ref l/\vs=[]/\H l=some (.lst xs)/\Q .non (upd H l (.lst []))
theorem xR:MtM X "list.clear" Ds:=by
 intro pr s σ H x vs v us Q I rx rv h;obtain⟨l,xs,rfl,rfl,hH,q⟩:=h;cases rx;have Tb:=rv.zero;subst Tb;obtain⟨z,Je,n,r,hl,e⟩:=I.lstM hH;refine Ya F.slot_list_clear ⟨_,e,rfl⟩ F.entry_list_clear (F.args_list_clear_1 _) (AutoSeq1.list_clear_list_0 l Je.toArray n (by rw[U0];lia)) ⟨e,?_⟩;exact⟨.non,_,I.lset (its':=[]) (ys:=[]) hH e rfl .nil (VD _),rfl,q⟩
theorem mF{α:Type}(xs:List α)(k:Nat):(List.replicate k xs).flatten.length=k*xs.length:=by
 induction k with
 |zero=>simp
 |succ k ih=>rw[We,Wo,Vr,ih,Nat.succ_mul,Nat.add_comm]
end
section
variable{prog:Yy}{w:World}{A:Yz}{E:Yu->Yw->Prop}{s:Yw}
end
section
variable{X:Cx}
end
end L2
namespace Att
open PySem PySem.W PySem.Calls PyProof.Rows
def kF{P:Params}{h:YB}:∀(ns:List Int) (vs:List Yu),WellAll P h vs (ns.map WData.int)->IntsAre vs ns:=by
 intro ns;induction ns with
 |nil=>
  intro vs w;rw[VI]at w;cases w;exact .nil
 |cons n ns ih=>
  intro vs w;rw[Vf]at w;cases w with
  |cons a b=>
   cases a;exact .cons _ _ (ih _ b)
def uU{l:OpenLaw}{n:Nat}(hn:l.most=some n){P:Params}{h:YB}{args:List WData}{vals:List Yu}
  (Oe:l.row.toRowW.claim.pre args=true) (Pu:WellAll P h vals args):
  ∃a vs ns,vals=[Value.ref a]/\args=[WData.list (ns.map WData.int)]/\h.get? a=some {cls:=.type "list",data:=.seq vs.toArray}/\IntsAre vs ns/\ns.length<=n:=by
 have Tc:WShape.hasAll [] args [.list .int]=true:=(pre_splitW Oe).1;have hc:l.pre.holds [] {args:=args}=true:=(pre_splitW Oe).2;obtain⟨d,r,rfl,h1,h2⟩:=hasAllW_cons Tc;obtain rfl:=hasAllW_nil h2;obtain⟨xs,rfl,h3⟩:=hasW_list h1;obtain⟨ns,rfl⟩:=items_int h3;have hlen:ns.length<=n:=by
  unfold OpenLaw.pre at hc;have h4:(WTm.not (.lt (.lit (.int (n:Int))) (.len (.arg 0)))).holds [] {args:=[.list (ns.map .int)]}=true:=by
   have h4:=(holds_andW hc).1;rw[hn]at h4;exact h4
  have h5:=condW_of h4 (w_not (w_lt w_lit (w_len_list (w_arg rfl))));rw[UZ]at h5;refine Nat.le_of_not_lt fun q=>?_
  have q':(n:Int)<((ns.length:Nat):Int):=by lia
  first
   |(rw[Vu q']at h5;exact absurd h5 (by decide))
   |(simp at h5;lia)
 cases Pu with
 |cons w1 w2=>
  cases w2;cases w1 with
  |list ho Nv=>exact⟨_,_,ns,rfl,rfl,ho,kF ns _ Nv,hlen⟩
def uV(l:OpenLaw)(args:List WData):l.row.toRowW.claim.post args (.bool true) args=true:=
 postW_of (r:=l.row.toRowW) (X:=(true==true))
  (show WShape.has [] (.bool true) .bool=true by first|rfl|decide|simp[WShape.has,WShape.arms,WShape.armsAll])
  (show(WTm.eq .res (.lit (.bool true))).value [] {args:=args,res:=some (.bool true),after:=args}=some (.bool (true==true)) from w_eq_bool (w_res rfl) w_lit) rfl
def attach_call{l:OpenLaw}{n:Nat}{q:Yy}{loose:List Str}{XP:(Str->Option Yu)->YB->Prop}{YP:World->YB->Prop}{d:DefRec}
  (hn:l.most=some n) (Rc:d.params.defaults=[])
  (call:∀(w:World) (s₀ s₁:Yw) (mg mb:Str->Option Yu) (fa:Yx) (o:Obj) (pm cd doc:Yu) (a:Yx) (vs:List Yu) (ns:List Int),
   Ground q loose [] XP w s₀ mg mb s₁.heap->YP w s₁.heap->
   s₁.heap.get? fa=some o->o.data=.func (docDef d.name d.params d.body d.scope pm cd doc)->s₁.heap.CodeRec cd d.name->mg d.name=some (.ref fa)->
   s₁.heap.get? a=some {cls:=.type "list",data:=.seq vs.toArray}->IntsAre vs ns->ns.length<=n->s₁.gens = #[]->
   codeAny (model l.prog w) callerA (.call (.ref fa) ⟨[.ref a],[]⟩) (fun r s'=>r=.ok (.ret (.bool true))/\OldK s₁.heap s'.heap/\s'.os=s₁.os/\AllBare s'.gens) s₁):
  WalkO q loose XP YP l.row.toRowW d [] (fun f vs=>PySem.call f vs):=by
 intro w s₀ s₁ mg mb G Y fa o pm cd doc dV kV ho hd Nr hD Rf hg args vals as Oe hlay hrd Pu Ud;obtain rfl:dV=.none:=Dflts.none hD Rc;obtain rfl:kV=.none:=Dflts.noKw hD;obtain⟨a,vs,ns,rfl,rfl,Pw,hints,hlen⟩:=uU hn Oe Pu;refine enter_call (codeAny_mono (call w s₀ s₁ mg mb fa o pm cd doc a vs ns G Y ho (fd_plain hd) Nr Rf Pw hints hlen hg) fun r s' hq=>?_);obtain⟨rfl,h2,h3,h4⟩:=hq;exact⟨.inl ⟨.bool true,.bool true,[],rfl,fun _=>rfl,.bool true,uV l _,fun _=>⟨List.Pairwise.nil,fun _ hm=>(nomatch hm)⟩⟩,h2,h3,h4⟩
section
variable{prog:Yy}{w:World}{A:Yz}{E:Yu->Yw->Prop}{s:Yw}{K:Frag}
end
end Att
namespace L2
open PySem PySem.Spec PyProof.Rows
theorem oy:∀{vs:List Yu}{ns:List Int},IntsAre vs ns->Vals (ns.map V.int) vs
 |_,_,.nil=>.nil
 |_,_,.cons n t h=>.cons ⟨t,rfl⟩ (oy h)
def Ge(H:Hp):Prop:=∀b,H b=none\/∃o xs,H b=some (.frz o (.lst xs))
def xS{P:Yy}{w:World}{K:W.Frag}{mg mb:Str->Option Yu}{CX:CXT}{k:Nat}{fa a:Yx}{fd:FuncData}{x:Str}{sp:Sp}{s₁:Yw}{vs:List Yu}{ns:List Int}
  (KX:K.In s₁.heap) (QJ:s₁.heap.Ns mainGlobals mg) (hb:s₁.heap.Ns builtinsNs mb) (Rg:∀x:Str,x≠"__name__"->mb x=bootBuiltins x) (hlim:s₁.heap.NoLimit) (hg:s₁.gens = #[])
  (ha:s₁.heap.get? a=some {cls:=.type "list",data:=.seq vs.toArray}) (hi:IntsAre vs ns) (hl:ns.length<=sizeLine) (hr:Room k callerA)
  (F:∀base:YB,K.In base->base.Ns mainGlobals mg->FnOk P w K mg base CX k fa fd [x] sp) (Rh:∀(s:Yw) (u:Yu),BindsTo s fd ⟨[u],[]⟩ [(x,u)])
  (Pd:∀H:Hp,Ge H->SqL K H a (ns.map V.int)->sp [.ref a] H (fun v _=>v=.bl true) fun _ _ _=>False)
  (Td:∀H e s',CX [] H s₁ (fun _ _ _=>False) e s'->False):
  codeAny (model P w) callerA (.call (.ref fa) ⟨[.ref a],[]⟩) (fun r s'=>r=.ok (.ret (.bool true))/\OldK s₁.heap s'.heap/\s'.os=s₁.os/\AllBare s'.gens) s₁:=by
 have rv:=oy hi;have lenV:=hi.length;have core:∀H:Hp,Ge H->SqL K H a (ns.map V.int)->HOk P w H s₁.heap->(∀b,H b≠none->b=a)->(H a≠none->K.lookup a=none)->
   codeAny (model P w) callerA (.call (.ref fa) ⟨[.ref a],[]⟩) (fun r s'=>r=.ok (.ret (.bool true))/\OldK s₁.heap s'.heap/\s'.os=s₁.os/\AllBare s'.gens) s₁:=by
  intro H hO hS hok hA hK;have MO:∀{b:Yx}{o:Obj},s₁.heap.get? b=some o->H b=none->(xC s₁.heap H).get? b=some o:=fun e n=>xD e n
  have Q9:∀{b:Yx}{o:Obj}{es:Array DictEntry}{ep:Nat},s₁.heap.get? b=some o->o.data=.dict es ep->H b=none:=fun{b o es ep} e d=>by
   cases q:H b with
   |none=>rfl
   |some u=>
    have e':b=a:=hA b (by rw[q];simp);subst e';rw[ha]at e;cases e;have d':Data.seq vs.toArray _=Data.dict es ep:=d;cases d'
  have Ss:∀{b:Yx}{m:Str->Option Yu},s₁.heap.Ns b m->(xC s₁.heap H).Ns b m:=fun{b m} ⟨o,es,ep,e,d,r⟩=>⟨o,es,ep,MO e (Q9 e d),d,r⟩
  have Ue:K.In (xC s₁.heap H):=fun b o e=>MO (KX b o e) (by
   cases q:H b with
   |none=>rfl
   |some u=>
    have e':b=a:=hA b (by rw[q];simp);subst e';rw[hK (by rw[q];simp)]at e;cases e)
  have hM:Mod K mg (xC s₁.heap H):=⟨Ue,Ss QJ,⟨mb,Ss hb,Rg⟩,let⟨mc,h1,h2⟩:=hlim;⟨mc,Ss h1,h2⟩⟩
  have e0:Env0 P w K mg (xC s₁.heap H) callerA [] s₁ H:=⟨rfl,hM,fun b o e=>z8 e,ZK (uC _ _),trivial,fun b hb=>absurd (show b∈([]:List Yx) from hb) (by simp),hok,.of_eq hg⟩
  refine codeAny_mono ((F _ Ue (Ss QJ)).run callerA [] s₁ H ⟨[.ref a],[]⟩ [.ref a] [.ref a] _ _ hr e0 (Rh s₁ (.ref a)) (.cons rfl .nil) (Pd H hO hS)) fun r s' h=>?_
  cases r with
  |error e=>exact(Td H e s' h).elim
  |ok fl=>
   cases fl with
   |next=>exact False.elim h
   |brk=>exact False.elim h
   |cont=>exact False.elim h
   |ret u=>
    obtain⟨v,H',os,bare,un,hok',r',q⟩:=h;have q':v=.bl true:=q;subst q';obtain rfl:u=Value.bool true:=r';refine⟨rfl,OldK.of_keep fun b o e=>?_,os,bare⟩;cases q:H b with
    |none=>exact un.keep b o e q (by intro z;exact absurd (show b∈([]:List Yx) from z) (by simp)) (by simp)
    |some u=>
     rcases hO b with z|⟨ob,xs,z⟩
     .rw[q]at z;cases z
     .have z2:=un.frzs b ob _ z;obtain⟨e1,_⟩:=hok b _ z;obtain⟨e2,_⟩:=hok' b _ z2;rw[e]at e1;cases e1;exact e2
 cases hk:K.lookup a with
 |some o=>
  have e:=KX a o hk;rw[ha]at e;cases e;refine core (fun _=>none) (fun _=>.inl rfl) (.inr ⟨_,vs.toArray,_,hk,rfl,rfl,rfl,by rw[U0,lenV];exact hl,by simpa using rv⟩) (fun b u z=>by have z':(none:Option HO)=some u:=z;cases z') (fun b z=>absurd rfl z) fun z=>absurd rfl z
 |none=>
  refine core (fun b=>if b=a then some (.frz {cls:=.type "list",data:=.seq vs.toArray} (.lst (ns.map V.int))) else none) (fun b=>?_) (.inl (.inr ⟨{cls:=.type "list",data:=.seq vs.toArray},U5 rfl⟩)) (fun b u z=>?_) (fun b z=>?_) fun _=>hk
  .by_cases hb:b=a
   .exact .inr ⟨_,_,U5 hb⟩
   .exact .inl (U8 hb)
  .by_cases hb:b=a
   .have z':=(U5 hb).symm.trans z;cases z';subst hb;exact⟨ha,by rw[UZ];exact hl,vs,_,rv,ha⟩
   .have z':=(U8 hb).symm.trans z;cases z'
  .by_cases hb:b=a
   .exact hb
   .exact absurd (U8 hb) z
def Aw{l:PySem.W.OpenLaw}{n k:Nat}{q:Yy}{loose:List Str}{XP:(Str->Option Yu)->YB->Prop}{YP:World->YB->Prop}{d:DefRec}{K:Params->W.Frag}{CX:World->CXT}{sp:World->Sp}{x:Str}
  (hn:l.most=some n) (hn2:n<=sizeLine) (Rc:d.params.defaults=[]) (hr:Room k callerA)
  (hY:∀(w:World) (h:YB),YP w h->(K w.params).In h)
  (F:∀(w:World) (mg:Str->Option Yu) (fa:Yx) (h:YB),(K w.params).In h->h.Ns mainGlobals mg->mg d.name=some (.ref fa)->
   ∃fd:FuncData,(∀(s:Yw) (u:Yu),BindsTo s fd ⟨[u],[]⟩ [(x,u)])/\
    ∀base:YB,(K w.params).In base->base.Ns mainGlobals mg->FnOk l.prog w (K w.params) mg base (CX w) k fa fd [x] (sp w))
  (Pd:∀(w:World) (H:Hp) (a:Yx) (ns:List Int),ns.length<=n->Ge H->SqL (K w.params) H a (ns.map V.int)->sp w [.ref a] H (fun v _=>v=.bl true) fun _ _ _=>False)
  (Td:∀(w:World) (H:Hp) (s:Yw) (e:Yu) (s':Yw),CX w [] H s (fun _ _ _=>False) e s'->False):
  PySem.W.WalkO q loose XP YP l.row.toRowW d [] (fun f vs=>PySem.call f vs):=by
 refine Att.attach_call hn Rc fun w s₀ s₁ mg mb fa o pm cd doc a vs ns G Y ho hd Nr Rf Pw hints hlen hg=>?_
 have KX:=hY w _ Y;obtain⟨fd,hb,hF⟩:=F w mg fa _ KX G.T.g Rf;exact xS KX G.T.g G.T.b G.T.builtins G.T.nolimit hg Pw hints (Vx hlen hn2) hr hF hb (fun H hO hS=>Pd w H a ns hlen hO hS) fun H e s'=>Td w H s₁ e s'
def eU(s:Stmt):Arguments:=match s with
 | .FunctionDef _ a _ _ _ _ _ _ _ _=>a
 |_=>{posonlyargs:=[],args:=[],vararg:=none,kwonlyargs:=[],kw_defaults:=[],kwarg:=none,defaults:=[]}
def cO(s:Stmt):List Stmt:=match s with
 | .FunctionDef _ _ b _ _ _ _ _ _ _=>b
 |_=>[]
def defScope(s:Stmt):Scope:=match s with
 | .FunctionDef _ _ _ _ _ _ sc _ _ _=>sc
 |_=>{kind:=.function,names:=[],isGenerator:=false,isCoroutine:=false}
abbrev M3:CXT:=fun _ _ _ _ _ _=>False
abbrev E0:XK:=fun _ _ _=>False
def Gf{X:Cx}:uN M3 X E0:=fun _ _ _ _ _ _ _ h=>h.elim
structure Fun(K:W.Frag)(x qual:Str)(st:Stmt)(f:Yx)(fd:FuncData):Prop where
 ex:∃(oc:Yu) (od:Option Yx) (kV doc pm:Yu) (an:Option Yx) (Jz ct:Yu) (N1:Array (Option Yu)),
  fd=PySem.W.fnOf x qual (eU st) (cO st) (defScope st) .none kV doc pm an Jz ct/\K.lookup f=some ⟨oc,od,.func fd,N1⟩/\PySem.W.codeIn K Jz qual=true
 kp:PySem.W.keepIn K (.ref f)=true
section
variable{P:Yy}{w:World}{K:W.Frag}{mg:Str->Option Yu}{base:YB}
theorem Fun.ok{x qual:Str}{st:Stmt}{f:Yx}{fd:FuncData}{N ps:List Str}{k:Nat}{sp:Sp}(F:Fun K x qual st f fd)(S:FnScope N ps (defScope st))(len:∀vs H Q E,sp vs H Q E->vs.length=ps.length)
  (Nu:∀(Jz:Yu) (A:Yz) (outer:List Env) (s:Yw) (H:Hp) (vs:List V) (Q:VK) (E:XK),Room k (A.deeper (envOfC qual (defScope st) s.heap.objs.size f Jz))->sp vs H Q E->
   ∃t,PSs (xv M3 P w K mg base N qual (defScope st) f Jz A outer s H E).nox (cO st) t/\t {nx:=fun _ H'=>Q .non H',rt:=Q} (j8 N vs) H):FnOk P w K mg base M3 (k+1) f fd ps sp:=by
 obtain⟨oc,od,kV,doc,pm,an,Jz,ct,N1,rfl,lk,Nr⟩:=F.ex;refine Ga lk Nr S len fun A outer s H vs Q E hr Pd=>?_
 obtain⟨t,h,q⟩:=Nu Jz A outer s H vs Q E hr Pd;exact⟨t,h.nox,q⟩
theorem Fun.binds{x qual:Str}{st:Stmt}{f:Yx}{fd:FuncData}{ps:List Str}(F:Fun K x qual st f fd)
  (h:∀(kV doc pm:Yu) (an:Option Yx) (Jz ct:Yu) (us:List Yu),us.length=ps.length->bindArgs (PySem.W.fnOf x qual (eU st) (cO st) (defScope st) .none kV doc pm an Jz ct) ⟨us,[]⟩=pure (ps.zip us)):Binds K fd ps []:=by
 obtain⟨oc,od,kV,doc,pm,an,Jz,ct,N1,rfl,lk,Nr⟩:=F.ex;exact .all (h kV doc pm an Jz ct)
theorem zi{x qual:Str}{st:Stmt}{f:Yx}{oc:Yu}{od an:Option Yx}{N1:Array (Option Yu)}{kV doc pm Jz ct:Yu}(l:K.lookup f=some ⟨oc,od,.func (PySem.W.fnOf x qual (eU st) (cO st) (defScope st) .none kV doc pm an Jz ct),N1⟩)
  (c:PySem.W.codeIn K Jz qual=true) (k:PySem.W.keepIn K (.ref f)=true):Fun K x qual st f (PySem.W.fnOf x qual (eU st) (cO st) (defScope st) .none kV doc pm an Jz ct):=⟨⟨oc,od,kV,doc,pm,an,Jz,ct,N1,rfl,l,c⟩,k⟩
end
def hu_of{A:Yz}{k:Nat}(hr:Room k A):A.units+1<cLine:=Ze (Nat.add_le_add_left (by decide:1<=64) _) hr.units
section
variable{X:Cx}
theorem pv(i:Nat){x:Str}{pos:Pos}(hN:X.N[i]?=some x:=by rfl)(hv:S1 X.env.scope x:=by first|exact Or.inl rfl|exact Or.inr (Or.inl rfl)|exact Or.inr (Or.inr rfl))(hd:(x==("__debug__" : Str))=false:=by decide)
  (Nr:(x==("__classdict__" : Str))=false:=by decide):PE X (.Name x pos) (tf i):=CP hN hv hd Nr
end
def iteF{A B:Prop}(h:B):if false=true then A else B:=by
 rw[U8 U3];exact h
def Fz{A B:Prop}(h:A):if true=true then A else B:=by
 rw[U5 rfl];exact h
def Same(H H':Hp):Prop:=∀b o,H b=some o->H' b=some o
def Same.refl(H:Hp):Same H H:=fun _ _ h=>h
def Same.trans{H H1 H2:Hp}(a:Same H H1)(b:Same H1 H2):Same H H2:=fun c o h=>b c o (a c o h)
end L2
set_option maxHeartbeats 4000000
namespace NX
open PySem PySem.Spec PyProof.Rows L2
section
variable{X:Cx}
theorem xT(v:Int)(n:Nat):max (0:Int) (min (if v<0 then v+(n:Int) else v) (n:Int))=((HT.sIx n 0 (some v):Nat):Int):=by
 show _=(((if v<0 then(v+(n:Int)).toNat else min v.toNat n):Nat):Int)
 split <;> lia
theorem Dt(a b:Nat):sliceRange (a:Int) (b:Int) 1=(List.range (b-a)).map (fun k=>a+k):=by
 unfold sliceRange;rw[U5 (by decide:(1:Int)>0)];by_cases JL:(a:Int)<b
 .have e3:(((b:Int)-a+1-1) / 1).toNat=b-a:=by first|lia|(simp;done)|(simp;lia)
  simp only[JL,W8,e3];refine VW fun k _=>?_
  lia
 .have:b-a=0:=by lia
  simp[JL,this]
theorem Il(lo hi:Option Int)(n:Nat):Builtin.Str.strSliceIndices lo hi 1 n=(List.range (HT.sIx n n hi-HT.sIx n 0 lo)).map (fun k=>HT.sIx n 0 lo+k):=by
 rw[<-Dt];unfold Builtin.Str.strSliceIndices;simp only[show(1:Int)>0 from by decide,W8];cases lo with
 |none=>
  cases hi with
  |none=>rfl
  |some v=>exact V5 (fun z=>sliceRange 0 z 1) (xT v n)
 |some u=>
  cases hi with
  |none=>exact V5 (fun z=>sliceRange z (n:Int) 1) (xT u n)
  |some v=>exact(V5 (fun z=>sliceRange z _ 1) (xT u n)).trans (V5 (fun z=>sliceRange _ z 1) (xT v n))
def Du(xs:List Nat)(lo hi:Option Int):List Nat:=(xs.drop (HT.sIx xs.length 0 lo)).take (HT.sIx xs.length xs.length hi-HT.sIx xs.length 0 lo)
theorem zj{α:Type}(l:List α):∀(n a:Nat),a+n<=l.length->((List.range n).map (fun k=>a+k)).filterMap (l[·]?)=(l.drop a).take n
 | 0,_,_=>by simp
 |n+1,a,h=>by
  have JL:a+n<l.length:=by lia
  rw[List.range_succ,Vh,List.filterMap_append,zj l n a (by lia),List.take_add_one,List.getElem?_drop];simp[List.getElem?_eq_getElem JL]
theorem uW(x:Str)(lo hi:Option Int):(Txt.slice x lo hi).cps.toList=Du x.cps.toList lo hi:=by
 have hl:x.cps.toList.length=x.length:=V3;have ha:=HT.uQ x.length 0 (VD _) lo;have hb:=HT.uQ x.length x.length (U6 _) hi;unfold Txt.slice Du;rw[Il,hl];split
 .rename_i h;have h2:HT.sIx x.length x.length hi-HT.sIx x.length 0 lo=x.length:=by simpa using h
  have ez:HT.sIx x.length 0 lo=0\/x.length=0:=by lia
  rcases ez with e|e
  .rw[h2,e,YZ,Wc (by lia)]
  .have:x.cps.toList=[]:=VR (by lia);rw[this];simp
 .have hk:∀(f:List Nat),f.filterMap (x.cps[·]?)=f.filterMap (x.cps.toList[·]?):=fun f=>by
   congr 1
   funext i
   simp
  show(List.filterMap _ _).toArray.toList=_;rw[XT,hk];by_cases hle:HT.sIx x.length 0 lo<=HT.sIx x.length x.length hi
  .rw[zj _ _ _ (by lia)]
  .have e0:HT.sIx x.length x.length hi-HT.sIx x.length 0 lo=0:=by lia
   rw[e0];rfl
abbrev S(l:List Nat):Str:=⟨l.toArray⟩
theorem oz(x:Str):S x.cps.toList=x:=by cases x;simp[S]
theorem S_inj{a b:List Nat}(h:S a=S b):a=b:=by
 have:=V5 (fun z:Str=>z.cps.toList) h;simpa[S] using this
theorem lN(l:List Nat):(S l).length=l.length:=by simp[S,Str.length]
theorem dy(l:List Nat):(S l).cps.toList=l:=by simp[S]
theorem Gg(a b:List Nat):S a++S b=S (a++b):=by
 rw[<-oz (S a++S b),PySem.W.KT.app_list,dy,dy]
def Io:V->Option Int->Option Int->Hp->VK->Prop:=fun x lo hi H Q=>∃l,x=.str (S l)/\l.length<=sizeLine/\Q (.str (S (Du l lo hi))) H
theorem Dv:Pt X Io:=by
 intro pr s σ H x v vl vu lo hi sl Q I rx hs pl pu h;obtain⟨l,rfl,hz,q⟩:=h;obtain⟨t,rfl⟩:=rx;have hz':(S l).length<=sizeLine:=by rw[lN];exact hz
 have e:∀t' k,EP X pr σ Q (.str (Txt.slice (S l) lo hi) t') {s with toks:=k}:=fun t' k=>by
  refine⟨.str (S (Du l lo hi)),H,I.tok _,⟨t',?_⟩,q⟩;have e1:=uW (S l) lo hi;rw[dy]at e1;rw[<-e1,oz]
 refine⟨"str",_,PySem.F.slot_str_getitem.lookup,YS _ _ _,?_⟩;have key:∀(Px Su:Option (Int×Tok)),partValue Px=vl->partValue Su=vu->Px.map (·.1)=lo->Su.map (·.1)=hi->
   wpAny (model X.prog X.w) X.A (getItem (.str (S l) t) (.ref sl)) (EP X pr σ Q) X.xe s:=by
  rintro Px Su rfl rfl rfl rfl;exact wpAny_getItem_str_slice (l:=Px) (u:=Su) (st:=none) hs rfl (post_val_or_str ⟨Vx (Txt.slice_le (S l) _ _) hz',fun t' k=>e t' k⟩)
 cases pl with
 |none=>
  cases pu with
  |none=>exact key none none rfl rfl rfl rfl
  |int j uj=>exact key none (some (j,uj)) rfl rfl rfl rfl
 |int i ui=>
  cases pu with
  |none=>exact key (some (i,ui)) none rfl rfl rfl rfl
  |int j uj=>exact key (some (i,ui)) (some (j,uj)) rfl rfl rfl rfl
theorem Ax{xs:List V}{j:Nat}{x:V}(h:xs[j]?=some x):xs.getD j .non=x:=by rw[List.getD_eq_getElem?_getD,h];rfl
end
def Def(K:W.Frag)(mg:Str->Option Yu)(x:Str)(st:Stmt):Prop:=∃f fd,Fun K x x st f fd/\mg x=some (.ref f)
def Ct(P:Yy)(w:World)(K:W.Frag)(mg:Str->Option Yu)(base:YB)(x:Str)(k:Nat)(sp:Sp):Prop:=
 ∃f fd ps,FnOk P w K mg base M3 k f fd ps sp/\mg x=some (.ref f)/\PySem.W.keepIn K (.ref f)=true/\Binds K fd ps []
section
variable{X:Cx}{e:Expr}{es:List Expr}{t:TA}{x:Str}{p pos:Pos}{k:Nat}{sp:Sp}
theorem xU(C:Ct X.prog X.w X.K X.mg X.base x k sp)(hr:Room k X.A)(hg:Gl X x)(ha:PA X (e::es) t)(KU:(x==("__debug__" : Str))=false:=by decide)
  (he:starEach (e::es) X.env=(false,eval e X.env)::starEach es X.env:=by rfl) (Ka:(backTo pos (starEach es X.env)).any (·.1)=false:=by rfl):
  PE X (.Call (.Name x p) (e::es) [] pos) (tCall sp [] E0 t):=by
 obtain⟨f,fd,ps,G,m,kp,b⟩:=C;exact Ak G hr hg m kp b .nil Gf ha KU he Ka
end
def bt_len:bootBuiltins "len" = some (.builtin "len"):=by decide +kernel
def mG:bootBuiltins "isinstance" = some (.builtin "isinstance"):=by decide +kernel
def ik:bootBuiltins "list" = some (.type "list"):=by decide +kernel
def Dw:bootBuiltins "int" = some (.type "int"):=by decide +kernel
def bP:bootBuiltins "tuple" = some (.type "tuple"):=by decide +kernel
def Ay:bootBuiltins "bool" = some (.type "bool"):=by decide +kernel
def line_eq:sizeLine=16777216:=VT
def flat_strs(a:List (List Nat)):(a.map fun l=>V.str (S l)).all xO=true:=by
 rw[Vy];intro v hv;obtain⟨l,_,rfl⟩:=VX.mp hv;rfl
section
variable{X:Cx}{e:Expr}{st:Stmt}
end
def clOf(scope:Scope)(env:Env):List (Str×Yx):=scope.names.foldl (fun cs y=>if y.2==NameKind.free then(y.1,(env.cells.lookup y.1).getD 0)::cs else cs) []
def iR(scope:Scope)(env:Env):Bool:=scope.names.all fun y=>y.2 != NameKind.free||env.kindOf y.1==some .cell||env.kindOf y.1==some .free
theorem gO(env:Env):∀(l:List (Str×NameKind)) (cs:List (Str×Yx)),(∀y∈l,y.2=.free->∃c,env.cells.lookup y.1=some c)->
  (forIn l cs fun(y:Str×NameKind) (r:List (Str×Yx))=>(do
   if y.2==NameKind.free then
    let a <-cellOf env y.1
    pure (ForInStep.yield ((y.1,a)::r))
   else pure (ForInStep.yield r):Sem (ForInStep (List (Str×Yx)))))=pure (l.foldl (fun cs y=>if y.2==NameKind.free then(y.1,(env.cells.lookup y.1).getD 0)::cs else cs) cs)
 |[],cs,_=>by simp
 |y::l,cs,h=>by
  rw[YG,W0];by_cases k:y.2=.free
  .obtain⟨c,e⟩:=h y UY k;have e2:cellOf env y.1=pure c:=by unfold cellOf;rw[e]
   simp only[k,Wg,W8,e2,e,Xd,pure_bind];exact gO env l _ fun z hz=>h z (U4 _ hz)
  .have kb:(y.2==NameKind.free)=false:=by simpa using k
   simp only[kb,V7,XB,pure_bind];exact gO env l _ fun z hz=>h z (U4 _ hz)
theorem g9(env:Env)(x:Str)(c:Yx):∀(l:List (Str×NameKind)) (cs:List (Str×Yx)),(∀y∈l,y.2=.free->∃c,env.cells.lookup y.1=some c)->(cs.lookup x=some c->env.cells.lookup x=some c)->
  (l.foldl (fun cs y=>if y.2==NameKind.free then(y.1,(env.cells.lookup y.1).getD 0)::cs else cs) cs).lookup x=some c->env.cells.lookup x=some c
 |[],_,_,h,e=>h e
 |y::l,cs,hf,h,e=>by
  rw[W0]at e;refine g9 env x c l _ (fun z hz=>hf z (U4 _ hz)) (fun q=>?_) e;split at q
  .rename_i k;have k:y.2=.free:=by simpa using k
   obtain⟨d,ed⟩:=hf y UY k;rw[V1]at q;cases hx:x==y.1 with
   |true=>
    rw[hx]at q;have exy:x=y.1:=by simpa using hx
    rw[ed,Xd]at q;rw[exy,ed];exact q
   |false=>
    rw[hx]at q;exact h q
  .exact h q
theorem kG(env:Env)(x:Str):∀(l:List (Str×NameKind)) (cs:List (Str×Yx)),((∃d,cs.lookup x=some d)\/(x,NameKind.free)∈l)->
  ∃d,(l.foldl (fun cs y=>if y.2==NameKind.free then(y.1,(env.cells.lookup y.1).getD 0)::cs else cs) cs).lookup x=some d
 |[],_,h=>by
  rcases h with h|h
  .exact h
  .cases h
 |y::l,cs,h=>by
  rw[W0];refine kG env x l _ ?_;rcases h with⟨d,h⟩|h
  .refine .inl ?_;split
   .rw[V1];cases hx:x==y.1 with
    |true=>exact⟨_,rfl⟩
    |false=>exact⟨d,h⟩
   .exact⟨d,h⟩
  .rcases Vb.mp h with h|h
   .refine .inl ?_;rw[<-h];refine⟨(env.cells.lookup x).getD 0,?_⟩;show List.lookup x ((x,_)::cs)=_;rw[V1,Wg]
   .exact .inr h
noncomputable def cn(X:Cx)(scope:Scope)(N:List Str)(C:Yx)(s:Yw)(H:Hp)(fp:List Yx)(pn:List (Yx×Obj)):Cx:=
 {X with N:=N,s₀:=s,H₀:=H,env:=compEnvC scope (clOf scope X.env) C X.env,outer:=X.stack,ex:=fp,fn:=fun _=>false,pn:=pn,xe:=fun _ _=>False}
def lW(ix:List (Option Nat))(σ:L2.St):L2.St:=ix.map fun i=>i.bind fun i=>(σ[i]?).bind id
noncomputable def Az(wi:TI)(ix:List (Option Nat))(g:TG)(tc:TT)(te:TE):TE:=fun σ H Q=>wi σ H fun J H1=>∀D,H1 D=none->∃W:Nat->Nat->L2.St->Hp->Prop,(∃m,W 0 m (lW ix σ) (upd H1 D (.lst [])))/\
 ∀i m σ1 H2,W i m σ1 H2->(J.stop i H2/\Q (.ref D) H2)\/(J.go i H2/\∀x H3,J.yld i H2 x H3->g x σ1 H3 fun σ2 H4=>tc σ2 H4 fun b H5=>if b=true then te σ2 H5 fun v H6=>
  ∃ys,H6 D=some (.lst ys)/\ys.length<sizeLine/\∃m',m'<m/\W (i+1) m' σ2 (upd H6 D (.lst (ys++[v]))) else ∃m',m'<m/\W (i+1) m' σ2 H5)
abbrev Of:Yu->Yw->Prop:=fun _ _=>False
def QK{α:Type}{M:Model}{A:Yz}{t:Sem α}{Q Q':α->Yw->Prop}{E:Yu->Yw->Prop}{s:Yw}(h:wpAny M A t Q Of s)(k:∀a s,Q a s->Q' a s):wpAny M A t Q' E s:=Xg h k fun _ _ z=>z.elim
def uX{prog:Yy}{w:World}{A:Yz}{R:Result->Yw->Prop}{s:Yw}{elt target iter:Expr}{ifs:List Expr}{scope:Scope}{pos:Pos}{it acc:Yu}{env:Env}(I:Nat->Yw->Prop)
  (turn:∀n s,I n s->wpAny (model prog w) A (pyNext it) (fun r s₁=>match r with
   |none=>R (.ok .next) s₁
   |some v=>wpAny (model prog w) A (letOwnedTupleGo target it v) (fun _ s₂=>wpAny (model prog w) A (assign target env v) (fun _ s₃=>
     wpAny (model prog w) A (forIn ifs true fun c r=>if r=true then do let ok <-isTrue c env (eval c env);pure (ForInStep.yield ok) else pure (ForInStep.yield r)) (fun ok s₄=>
      if ok=true then wpAny (model prog w) A (eval elt env) (fun x s₅=>
       wpAny (model prog w) A (call (.builtin "list.append") [acc,x]) (fun _ s₆=>∃m,m<n/\I m s₆) Of s₅) Of s₄
      else ∃m,m<n/\I m s₄) Of s₃) Of s₂) Of s₁) Of s)
  (n:Nat) (h:I n s):codeAny (model prog w) A (.compLoop (.ListComp elt [⟨target,iter,ifs,0⟩] scope pos) 0 it acc env) R s:=by
 refine codeAny_loop rfl I (fun n s hI=>?_) n h;show wpAny _ A ((compTurn (.ListComp elt [⟨target,iter,ifs,0⟩] scope pos) 0 it acc env).onRaise (fun x=>do noteFrame x env;theTreesLotGoes x)) _ _ s;refine wpAny_noted ?_;rw[compTurn_list];refine UX (Za (UX (QK (turn n s hI) fun r s₁ h₁=>?_)));cases r with
 |none=>exact U1 h₁
 |some v=>
  refine UX (QK h₁ fun _ s₂ h₂=>UX (QK h₂ fun _ s₃ h₃=>UX (QK h₃ fun ok s₄ h₄=>?_)));cases ok with
  |false=>exact U1 ⟨rfl,h₄⟩
  |true=>exact UX (UX (QK h₄ fun x s₅ h₅=>UX (QK h₅ fun _ s₆ h₆=>U1 (U1 ⟨rfl,h₆⟩))))
def QL(X:Cx)(ifs:List Expr)(t:TT):Prop:=
 ∀(pr:List (Yx×Obj)) (s:Yw) (σ:L2.St) (H:Hp) (Q:Bool->Hp->Prop),Inv X pr σ H s->t σ H Q->
  wpAny (model X.prog X.w) X.A (forIn ifs true fun c r=>if r=true then do let ok <-isTrue c X.env (eval c X.env);pure (ForInStep.yield ok) else pure (ForInStep.yield r)) (TP X pr σ Q) X.xe s
def Ip:TT:=fun _ H Q=>Q true H
def AB{X:Cx}:QL X [] Ip:=fun _ _ _ H _ I h=>wpAny_tests_nil ⟨H,I,h⟩
def AD{X:Cx}{c:Expr}{t:TT}(h:PT X c t):QL X [c] t:=fun pr s σ H Q I k=>wpAny_tests_one (h pr s σ H Q I k)
def zk(X:Cx)(scope:Scope)(N:List Str)(ix:List (Option Nat)):Bool:=
 N.length==ix.length&&(N.zip ix).all fun y=>match y.2 with
  |none=>true
  |some j=>X.N[j]?==some y.1&&scope.names.lookup y.1==some .free
def oA{scope:Scope}{env:Env}{x:Str}(h:scope.names.lookup x=some .free):(relabel scope env).names.lookup x=some .cell\/(relabel scope env).names.lookup x=some .free:=by
 unfold relabel;dsimp only;generalize scope.names=l at h;induction l with
 |nil=>cases h
 |cons y l ih=>
  obtain⟨n,k⟩:=y;rw[V1]at h;rw[Vf];cases hx:x==n with
  |true=>
   rw[hx]at h;have hk:k=.free:=Vg h;subst hk;dsimp only;split
   .exact .inl (by rw[V1,hx])
   .exact .inr (by rw[V1,hx])
  |false=>
   rw[hx]at h;dsimp only;split
   .rw[V1,hx];exact ih h
   .rw[V1,hx];exact ih h
def oB{scope:Scope}{env:Env}{x:Str}(hc:∀y∈scope.names,y.2≠.cell)(h:(relabel scope env).names.lookup x=some .cell\/(relabel scope env).names.lookup x=some .free):(x,NameKind.free)∈scope.names:=by
 unfold relabel at h;dsimp only at h;generalize scope.names=l at h hc;induction l with
 |nil=>rcases h with h|h <;> cases h
 |cons y l ih=>
  obtain⟨n,k⟩:=y;rw[Vf]at h;dsimp only at h;have nk:k≠.cell:=hc (n,k) UY;have Ug:=ih (hc:=fun z hz=>hc z (U4 _ hz));by_cases cnd:(k==NameKind.free&&env.scope.kind==.function&&env.kindOf n==some .cell)=true
  .rw[U5 cnd,V1]at h;have kf:k=.free:=by
    have:(k==NameKind.free)=true:=by
     simp only[Va]at cnd;exact cnd.1.1
    simpa using this
   cases hx:x==n with
   |true=>
    have:x=n:=by simpa using hx
    rw[this,kf];exact UY
   |false=>
    rw[hx]at h;exact U4 _ (Ug h)
  .rw[U8 cnd,V1]at h;cases hx:x==n with
   |true=>
    rw[hx]at h;have:x=n:=by simpa using hx
    rcases h with h|h
    .exact absurd (Vg h) nk
    .rw[this,<-Vg h];exact UY
   |false=>
    rw[hx]at h;exact U4 _ (Ug h)
section
variable{X:Cx}{pr:List (Yx×Obj)}{σ:L2.St}{H:Hp}{s:Yw}{scope:Scope}{N:List Str}{ix:List (Option Nat)}{fp:List Yx}
theorem mH(ok:X.Ok)(hf:iR scope X.env=true):∀y∈scope.names,y.2=.free->∃c,X.env.cells.lookup y.1=some c:=fun y hy k=>by
 have:=Vy.mp hf y hy;rw[k]at this;simp only[Yb,Bool.false_or,YH,VL]at this;exact ok.has y.1 this
theorem kH(ok:X.Ok)(hf:iR scope X.env=true){x:Str}{c:Yx}(h:(clOf scope X.env).lookup x=some c):X.env.cells.lookup x=some c:=
 g9 X.env x c scope.names [] (mH ok hf) (fun z=>nomatch z) h
theorem uY(ok:X.Ok)(hf:iR scope X.env=true){x:Str}(h:(x,NameKind.free)∈scope.names):∃c,(clOf scope X.env).lookup x=some c/\X.env.cells.lookup x=some c:=by
 obtain⟨c,e⟩:=kG X.env x scope.names [] (.inr h);exact⟨c,e,kH ok hf e⟩
theorem _root_.L2.Inv.block(I:Inv X pr σ H s)(hf:iR scope X.env=true)(hk:scope.kind=.function)(JW:∀y∈scope.names,y.2≠.cell)(Ky:zk X scope N ix=true)(fo:∀b∈fp,uy X pr H b)(fin:∀b∈fp,∃o,s.heap.get? b=some o)
  {h1:YB}{t1:Nat}{D C:Yx}(hD:D=s.heap.objs.size) (hC:C=s.heap.objs.size+1) (old:∀b o,s.heap.get? b=some o->h1.get? b=some o) {n:Nat}(acc:h1.get? D=some {cls:=.type "list",data:=.seq #[] n})
  {m:Str->Option Yu}(ns:h1.Ns C m):Inv (cn X scope N C s H fp (X.pn++pr)) [] (lW ix σ) (upd H D (.lst [])) {s with heap:=h1,toks:=t1}:=by
 have Mp:s.heap.objs.size<=C:=by rw[hC];exact W2 _
 have freshD:s.heap.objs.size<=D:=by rw[hD];exact U6 _
 have nD:H D=none:=I.hok.fresh freshD;have DC:D≠C:=by rw[hD,hC];exact Vk (WU _)
 have Py:∀b,H b=none->b≠D->upd H D (.lst []) b=none:=fun b n z=>by rw[aF z];exact n
 have QM:∀b o,s.heap.get? b=some o->b≠D:=fun b o e=>Vk (Vd (U9 e) freshD)
 have Og:∀b o,s.heap.get? b=some o->b≠C:=fun b o e=>Vk (Vd (U9 e) Mp)
 have cellAt:∀x c,(clOf scope X.env).lookup x=some c->∃v o,s.heap.get? c=some o/\o.data=.cell v:=fun x c e=>by
  obtain⟨v,o,ho,hd⟩:=I.cell x c (kH I.ok hf e);exact⟨v,o,ho,hd⟩
 have okY:(cn X scope N C s H fp (X.pn++pr)).Ok:=by
  refine⟨I.ok.mod,hk,I.ok.glob,I.ok.blt,Mp,fun x y c e1 e2=>?_,fun x hx=>?_,fun x c z _=>?_,I.ok.hd,I.ok.frames,.inl rfl,fun b hb=>?_,I.bs,?_,fun b o e hb=>?_,fun b hb hs=>?_,I.stack,I.stkFree⟩
  .exact I.ok.inj x y c (kH I.ok hf e1) (kH I.ok hf e2)
  .obtain⟨c,e,_⟩:=uY I.ok hf (oB JW hx);exact⟨c,e⟩
  .exact absurd (show false=true from z) U3
  .obtain⟨f0,f1,f2,f3,f4,f5⟩:=fo b hb;refine⟨?_,fun x c e=>f4 x c (kH I.ok hf e)⟩;intro z;have z:b=C:=z;obtain⟨o,ho⟩:=fin b hb;exact Og b o ho z
  .exact Vx I.ok.bsz I.sz
  .obtain⟨f0,f1,f2,f3,f4,f5⟩:=fo b hb;rcases f3 with q|q
   .exact I.ok.noex b o e q
   .exact absurd (Vd (U9 e) (Vx I.ok.bsz q)) (WO _)
  .obtain⟨f0,f1,f2,_⟩:=fo b hb;exact(Vb.mp (I.stkSub b hs)).elim f1 f2
 refine⟨okY,rfl,I.bare,Un.laid old freshD nD,⟨m,ns,fun i x v e1 e2 e3=>?_⟩,fun x c e=>?_,?_,fun x c e=>?_,fun p hp=>?_,I.hok.laid old freshD ⟨VD _,[],n,.nil,acc⟩,?_⟩
 ·
  have e2:(ix.map fun i=>i.bind fun i=>(σ[i]?).bind id)[i]?=some (some v):=e2;have e1:N[i]?=some x:=e1;unfold zk at Ky;rw[Va]at Ky;rw[List.getElem?_map]at e2;cases q:ix[i]? with
  |none=>rw[q]at e2;cases e2
  |some o=>
   rw[q]at e2;have e2:(o.bind fun i=>(σ[i]?).bind id)=some v:=Vg e2;cases o with
   |none=>cases e2
   |some j=>
    have e2:(σ[j]?).bind id=some v:=e2;have hσ:σ[j]?=some (some v):=by
     cases w':σ[j]? with
     |none=>rw[w']at e2;cases e2
     |some y=>rw[w']at e2;exact V5 some e2
    have hz:(N.zip ix)[i]?=some (x,some j):=by
     rw[List.getElem?_zip_eq_some];exact⟨e1,q⟩
    have hy:=Vy.mp Ky.2 _ (Vm hz);simp only[Va,VL]at hy;have Uh:(x,NameKind.free)∈scope.names:=Wq hy.2;obtain⟨c,c1,c2⟩:=uY I.ok hf Uh;have Ri:X.env.kindOf x=some .cell\/X.env.kindOf x=some .free:=by
     have:=Vy.mp hf _ Uh;simpa using this
    obtain⟨mo,Uc,Ud⟩:=I.loc;obtain⟨u,r,l⟩:=Ud j x v hy.1 hσ (.inr Ri);refine⟨u,r,.inr ⟨oA hy.2,c,c1,?_⟩⟩;rcases l with⟨k1,_⟩|⟨_,c',e',N9⟩
    .rcases Ri with k2|k2 <;> (rw[k1]at k2;cases k2)
    .rw[c2]at e';cases e';obtain⟨o,ho,hd⟩:=N9;exact⟨o,old c o ho,hd⟩
 .obtain⟨v,o,ho,hd⟩:=cellAt x c e;exact⟨v,o,old c o ho,hd⟩
 .exact Py C (I.hok.fresh Mp) (Wt DC)
 .obtain⟨v,o,ho,hd⟩:=cellAt x c e;exact Py c (I.freeC x c (kH I.ok hf e)) (QM c o ho)
 .have hp:p∈X.pn++pr:=by
   have:p∈(X.pn++pr)++[]:=hp
   rwa [Vo]at this
  obtain⟨e,nn,ne,nf,d⟩:=I.pin p hp;refine⟨old _ _ e,Py _ nn (QM _ _ e),Og _ _ e,fun z=>?_,d⟩;exact(Vb.mp (I.stkSub p.1 z)).elim ne nf
 .unfold zk at Ky;rw[Va]at Ky;have:N.length=ix.length:=by simpa using Ky.1
  show(ix.map _).length=N.length;rw[UZ,this]
theorem _root_.L2.Inv.unblock{C:Yx}{σ1:L2.St}{H1:Hp}{s1:Yw}{h2:YB}(I:Inv X pr σ H s)(fo:∀b∈fp,uy X pr H b)(hC:s.heap.objs.size<=C)(J:Inv (cn X scope N C s H fp (X.pn++pr)) [] σ1 H1 s1)(hs:Heap.SameBut C s1.heap h2):
  Inv X pr σ H1 {s1 with heap:=h2}:=by
 have Og:∀b o,s.heap.get? b=some o->b≠C:=fun b o e=>Vk (Vd (U9 e) hC)
 have bb:Un (MJ X.stack) fp H H1 s.heap s1.heap:=J.base;have jf:H1 C=none:=J.free;refine I.call' (s':={s1 with heap:=h2}) (ch:=fp) J.os ⟨fun b o e n hb hx=>?_,fun b o e n hb hx=>?_,bb.free,fun b o e hx=>?_,bb.tups,bb.frzs,bb.tbls⟩ (fun b ob e=>?_) J.bare fun b hb=>?_
 .exact(hs.2 b (Og b o e)).trans (bb.keep b o e n hb hx)
 .obtain⟨sl,q⟩:=bb.slot b o e n hb hx;exact⟨sl,(hs.2 b (Og b o e)).trans q⟩
 .obtain⟨o',q⟩:=bb.there b o e hx;exact⟨o',(hs.2 b (Og b o e)).trans q⟩
 .refine(J.hok b ob e).stay (fun c w' hc q=>(hs.2 c ?_).trans q) (fun _ q=>q) fun _ _ q=>q
  rintro rfl;rcases hc with rfl|hc
  .rw[jf]at e;cases e
  .rw[jf]at hc;cases hc
 .obtain⟨f0,f1,f2,f3,f4,f5⟩:=fo b hb;exact⟨f3,f1,f4,f5⟩
end
section
variable{X:Cx}{scope:Scope}{N:List Str}{ix:List (Option Nat)}{tg iter elt:Expr}{ifs:List Expr}{pos:Pos}{wi:TI}{g:TG}{tc:TT}{te:TE}
theorem lX{pr:List (Yx×Obj)}{σ:L2.St}{H2:Hp}{s2:Yw}{J:It}{fp:List Yx}{it:Yx}{tn:Nat->YB->Prop}{Q:VK}{RR:Yu->Yx->Result->Yw->Prop}{E:Yu->Yw->Prop}
  (hc:X.calm=true) (I2:Inv X pr σ H2 s2) (T:Turn X.prog X.w X.K tg J fp it tn) (Jj:tn 0 s2.heap) (f2:∀b∈fp,uy X pr H2 b)
  (hg:∀C s H fp pn,PG (cn X scope N C s H fp pn) tg g) (ht:∀C s H fp pn,QL (cn X scope N C s H fp pn) ifs tc) (he:∀C s H fp pn,PE (cn X scope N C s H fp pn) elt te)
  (hf:iR scope X.env=true) (hk:scope.kind=.function) (JW:∀y∈scope.names,y.2≠.cell) (Ky:zk X scope N ix=true)
  (q:∀D,H2 D=none->∃W:Nat->Nat->L2.St->Hp->Prop,(∃m,W 0 m (lW ix σ) (upd H2 D (.lst [])))/\
   ∀i m σ1 H3,W i m σ1 H3->(J.stop i H3/\Q (.ref D) H3)\/(J.go i H3/\∀x H4,J.yld i H3 x H4->g x σ1 H4 fun σ2 H5=>tc σ2 H5 fun b H6=>if b=true then te σ2 H6 fun v H7=>
    ∃ys,H7 D=some (.lst ys)/\ys.length<sizeLine/\∃m',m'<m/\W (i+1) m' σ2 (upd H7 D (.lst (ys++[v]))) else ∃m',m'<m/\W (i+1) m' σ2 H6))
  (hRR:∀(D C:Yx) (σ1:L2.St) (H1:Hp) (s1:Yw),s2.heap.objs.size<=C->Inv (cn X scope N C s2 H2 fp (X.pn++pr)) [] σ1 H1 s1->Q (.ref D) H1->RR (.ref D) C (.ok .next) s1):
  wpAny (model X.prog X.w) X.A (newList []) (fun acc s₃=>wpAny (model X.prog X.w) X.A (newFunctionEnv scope X.env.globals (clOf scope X.env) [] X.env.qual none .none (some X.env)) (fun Rj s₄=>
   codeAny (model X.prog X.w) X.A (.compStart (.ListComp elt [⟨tg,iter,ifs,0⟩] scope pos) 0 (.ref it) acc {Rj with scope:=relabel scope X.env}) (RR acc Rj.locals) s₄) E s₃) E s2:=by
 refine VN (wpAny_newFunctionEnv JW (by intro y hy;simp at hy) (fun h₁ hns₁ hsb₁=>?_) hk);dsimp only at hns₁ hsb₁ ⊢;generalize hH2:s2.heap.push {cls:=.type "list",dict:=none,data:=.seq ([]:List Yu).toArray}=HH at hns₁ hsb₁ ⊢;have hC:HH.objs.size=s2.heap.objs.size+1:=by rw[<-hH2,WW]
 have hDC:s2.heap.objs.size≠HH.objs.size:=by rw[hC];exact Vk (WU _)
 have Rk:s2.heap.objs.size<=HH.objs.size:=by rw[hC];exact W2 _
 have Og:∀b o,s2.heap.get? b=some o->b≠HH.objs.size:=fun b o e=>Vk (Vd (U9 e) Rk)
 have old:∀b o,s2.heap.get? b=some o->h₁.get? b=some o:=fun b o e=>hsb₁.extBut b o (Og b o e) (Heap.get?_push_of_some _ (hH2▸Heap.get?_push_of_some _ e))
 have Mq:h₁.get? s2.heap.objs.size=some {cls:=.type "list",data:=.seq #[] 0}:=hsb₁.extBut _ _ hDC (Heap.get?_push_of_some _ (hH2▸Heap.get?_push_size _ rfl));obtain⟨W,⟨m0,w0⟩,turn⟩:=q s2.heap.objs.size (I2.hok.fresh (U6 _));have fin:∀b∈fp,∃o,s2.heap.get? b=some o:=fun b hb=>let⟨o,e,_⟩:=T.obj 0 _ Jj b hb;⟨o,e⟩
 have Mn:∀{H':Hp},(∀b∈fp,H' b=none)->∀b∈fp,uy (cn X scope N HH.objs.size s2 H2 fp (X.pn++pr)) [] H' b:=fun{H'} hn b hb=>by
  obtain⟨f0,f1,ff,f3,f4,f5⟩:=f2 b hb;refine⟨hn b hb,?_,fun z=>?_,.inl hb,fun x c e=>f4 x c (kH I2.ok hf e),fun p hp=>?_⟩
  .intro z;have z:b=HH.objs.size:=z;obtain⟨o,ho⟩:=fin b hb;exact Og b o ho z
  .exact(Vb.mp (I2.stkSub b z)).elim f1 ff
  .have hp:p∈X.pn++pr:=by
    have:p∈(X.pn++pr)++[]:=hp
    rwa [Vo]at this
   exact f5 p hp
 have loop:∀s₃:Yw,s₃={s2 with heap:=h₁,toks:=s2.toks+([]:List (Str×Yu)).length}->
   codeAny (model X.prog X.w) X.A (.compLoop (.ListComp elt [⟨tg,iter,ifs,0⟩] scope pos) 0 (.ref it) (.ref s2.heap.objs.size) (compEnvC scope (clOf scope X.env) HH.objs.size X.env)) (RR (.ref s2.heap.objs.size) HH.objs.size) s₃:=by
  rintro s₃ rfl;refine uX (fun n s'=>∃i σ' H',Inv (cn X scope N HH.objs.size s2 H2 fp (X.pn++pr)) [] σ' H' s'/\tn i s'.heap/\(∀b∈fp,H' b=none)/\W i n σ' H') ?_ m0
   ⟨0,_,_,I2.block hf hk JW Ky f2 fin rfl hC old Mq hns₁,T.keep 0 _ _ Jj fun b _ o e=>old b o e,fun b hb=>?_,w0⟩
  .rintro n s3 ⟨i,σ3,H3,I3,JB,Q6,w3⟩;rcases turn i n σ3 H3 w3 with⟨stop,qn⟩|⟨go,step⟩
   .refine Jt (T.done (cn X scope N HH.objs.size s2 H2 fp (X.pn++pr)) rfl rfl rfl hc i [] s3 σ3 H3 Of I3 (Mn Q6) JB stop) fun r s4 Jx=>?_
    obtain⟨hr,I4⟩:=Jx;subst hr;exact hRR _ _ σ3 H3 s4 Rk I4 qn
   .refine Jt (T.item (cn X scope N HH.objs.size s2 H2 fp (X.pn++pr)) rfl rfl rfl hc i [] s3 σ3 H3 Of I3 (Mn Q6) JB go) fun r s4 Jx=>?_
    obtain⟨u,hr,h4⟩:=Jx;subst hr;refine Jt h4 fun _ s5 Jx=>?_
    obtain⟨x,H5,I5,r5,y5,Lh,S4⟩:=Jx;have S5:=I5.pinned (Mn S4) (T.obj _ _ Lh);refine Jt (hg _ _ _ _ _ _ s5 σ3 H5 x u _ S5 r5 (step x H5 y5)) fun _ s6 Jx=>?_
    obtain⟨σ6,H6,I6,q6⟩:=Jx;refine Jt (ht _ _ _ _ _ _ s6 σ6 H6 _ I6 q6) fun ok s7 Jx=>?_
    obtain⟨H7,I7,q7⟩:=Jx;have again:∀{H8:Hp}{s8:Yw},Inv (cn X scope N HH.objs.size s2 H2 fp (X.pn++pr)) ([]++nX fp s5.heap) σ6 H8 s8->(∃m',m'<n/\W (i+1) m' σ6 H8)->
      ∃m,m<n/\∃i σ' H',Inv (cn X scope N HH.objs.size s2 H2 fp (X.pn++pr)) [] σ' H' s8/\tn i s8.heap/\(∀b∈fp,H' b=none)/\W i m σ' H':=fun{H8 s8} I8 ⟨m',hm,w8⟩=>by
     refine⟨m',hm,i+1,σ6,H8,I8.unpinned,T.keep _ _ _ Lh fun b hb o e=>(I8.pin (b,o) (U2 _ (U2 _ (gN hb e)))).1,fun b hb=>?_,w8⟩;obtain⟨o,e,d⟩:=T.obj _ _ Lh b hb;exact(I8.pin (b,o) (U2 _ (U2 _ (gN hb e)))).2.1
    cases ok with
    |false=>exact again I7 q7
    |true=>
     show wpAny _ _ _ _ _ _;refine Jt (he _ _ _ _ _ _ s7 σ6 H7 _ I7 q7) fun x8 s8 Jx=>?_
     obtain⟨v8,H8,I8,r8,ys,Te,JL,q8⟩:=Jx;refine Jt (ox _ s8 σ6 H8 (.ref s2.heap.objs.size) [v8] (.ref s2.heap.objs.size) [x8] (fun _ H9=>∃m',m'<n/\W (i+1) m' σ6 H9) I8 rfl (.cons r8 .nil) ⟨_,ys,v8,rfl,rfl,Te,JL,q8⟩) fun _ s9 Jx=>?_
     obtain⟨_,H9,I9,_,q9⟩:=Jx;exact again I9 q9
  .rw[aF (fun z=>by
    obtain⟨o,ho⟩:=fin b hb;exact absurd z (Vk (U9 ho)))]
   exact(f2 b hb).1
 exact codeAny_compStart_list (loop _ rfl) (T.self _ 0 _ _ _ (T.keep 0 _ _ Jj fun b _ o e=>old b o e) (loop _ rfl))
theorem AE(ix:List (Option Nat))(N:List Str)(hc:X.calm=true)(hi:PI X tg iter wi)(hg:∀C s H fp pn,PG (cn X scope N C s H fp pn) tg g)(ht:∀C s H fp pn,QL (cn X scope N C s H fp pn) ifs tc)(he:∀C s H fp pn,PE (cn X scope N C s H fp pn) elt te)
  (hf:iR scope X.env=true:=by rfl) (hk:scope.kind=.function:=by rfl) (JW:∀y∈scope.names,y.2≠.cell:=by decide +kernel) (Kz:∀y∈scope.names,y.2=.local->scope.names.lookup y.1=some .local:=by decide +kernel) (Ky:zk X scope N ix=true:=by rfl)
  (hs:∀x,foldedSetIterable iter X.env x=pure x:=by intro _;rfl):PE X (.ListComp elt [⟨tg,iter,ifs,0⟩] scope pos) (Az wi ix g tc te):=by
 intro pr s σ H Q I h;rw[eval_ListComp];have Nw:closureFor scope X.env=pure (clOf scope X.env):=by
  unfold closureFor clOf;have:=gO X.env scope.names [] (mH I.ok hf);simpa using this
 refine Yc (use:=none) rfl hs Nw hk Kz (Jt (hi pr s σ H _ I h) fun v s1 h1=>Jt h1 fun Sn s2 h2=>?_);obtain⟨it,fp,tn,J,H2,e,I2,T,Jj,f2,q⟩:=h2;subst e;refine lX (RR:=fun acc C=>compPost (model X.prog X.w) X.A X.xe none (EP X pr σ Q) acc C) (Q:=Q) (iter:=iter) hc I2 T Jj f2 hg ht he hf hk JW Ky q fun D C σ1 H1 s1 hC J1 q1=>?_
 obtain⟨m,ns,_⟩:=J1.loc;exact⟨m,ns,fun h' Pz=>⟨.ref D,H1,I2.unblock f2 hC J1 Pz,rfl,q1⟩⟩
end
section
variable{X:Cx}{scope:Scope}{N:List Str}{ix:List (Option Nat)}{tg iter elt:Expr}{ifs:List Expr}{pos:Pos}{wi:TI}{g:TG}{tc:TT}{te:TE}
theorem AF{i:Nat}{y:Str}{py Lu:Pos}(ix:List (Option Nat))(N:List Str)(hN:X.N.Nodup)(Tf:X.N[i]?=some y)(hy:Loc X.env.scope y)(hc:X.calm=true)(hi:PI X tg iter wi)(hg:∀C s H fp pn,PG (cn X scope N C s H fp pn) tg g)(ht:∀C s H fp pn,QL (cn X scope N C s H fp pn) ifs tc)
  (he:∀C s H fp pn,PE (cn X scope N C s H fp pn) elt te) (Tg:swapsWith (.ListComp elt [⟨tg,iter,ifs,0⟩] scope pos) (some (.Name y py)) Lu.line X.env=pure true:=by rfl)
  (hf:iR scope X.env=true:=by rfl) (hk:scope.kind=.function:=by rfl) (JW:∀y∈scope.names,y.2≠.cell:=by decide +kernel) (Kz:∀y∈scope.names,y.2=.local->scope.names.lookup y.1=some .local:=by decide +kernel) (Ky:zk X scope N ix=true:=by rfl)
  (hs:∀x,foldedSetIterable iter X.env x=pure x:=by intro _;rfl) (Oa:X.fn y=true\/X.env.scope.names.lookup y=some .local:=by first|exact .inl rfl|exact .inr rfl):
  PS X (.Assign [.Name y py] (.ListComp elt [⟨tg,iter,ifs,0⟩] scope pos) Lu) (fun D σ H=>Az wi ix g tc te σ H fun v H'=>D.nx (σ.set i (some v)) H'):=by
 intro pr s σ H Dd I h;rw[exec_Assign_Name_used _ _ _ _ Tg];have Nw:closureFor scope X.env=pure (clOf scope X.env):=by
  unfold closureFor clOf;have:=gO X.env scope.names [] (mH I.ok hf);simpa using this
 refine UX (Za (UX ?_));show wpAny _ X.A (do let _ <-comprehension (.ListComp elt [⟨tg,iter,ifs,0⟩] scope pos) scope X.env _ (newList []) false (eval iter X.env) (some (assign (.Name y py) X.env))) _ _ s;refine UX (Xg (Yc (use:=some (assign (.Name y py) X.env)) (Q:=fun _ s'=>SP X pr Dd .next s') rfl hs Nw hk Kz
  (Jt (hi pr s σ H _ I h) fun v s1 h1=>Jt h1 fun Sn s2 h2=>?_)) (fun _ s' hq=>U1 (U1 hq)) fun _ _ e=>e)
 obtain⟨it,fp,tn,J,H2,e,I2,T,Jj,f2,q⟩:=h2;subst e;refine lX (RR:=fun acc C=>compPost (model X.prog X.w) X.A X.xe (some (assign (.Name y py) X.env)) (fun _ s'=>SP X pr Dd .next s') acc C) (Q:=fun v H'=>Dd.nx (σ.set i (some v)) H') (iter:=iter) hc I2 T Jj f2 hg ht he hf hk JW Ky q fun D C σ1 H1 s1 hC J1 q1=>?_
 obtain⟨m,ns,_⟩:=id J1.loc;have ns:s1.heap.Ns C m:=ns;have I3:Inv X pr σ H1 s1:=I2.unblock f2 hC J1 (.refl ..);show wpAny _ X.A (assign (.Name y py) X.env (.ref D)) _ _ s1;refine wpAny_assign_Name (nW I3 hN Tf hy (v:=.ref D) rfl (fun s4 I4 ⟨a,sb,ha⟩=>?_) Oa);have aC:C≠a:=by
  intro z;rcases ha with ha|ha
  .exact Vk (Vd I2.lt hC) (ha▸z.symm)
  .obtain⟨v,o,ho,_⟩:=I2.cell y a ha;exact Vk (Vd (U9 ho) hC) z.symm
 refine⟨m,ns.sameBut sb aC,fun h' Pz=>?_⟩;have jf:H1 C=none:=J1.free;have kk:∀b o,b≠C->s4.heap.get? b=some o->h'.get? b=some o:=fun b o hb e=>(Pz.2 b hb).trans e
 refine⟨σ.set i (some (.ref D)),H1,?_,q1⟩;have z:=I4.turned (t':=s4.toks) kk jf (fun z=>Vk (Vd I2.lt hC) z.symm) (.inr (Vx I2.sz hC)) (fun x c e z=>by
  obtain⟨v,o,ho,_⟩:=I2.cell x c e;exact Vk (Vd (U9 ho) hC) z) (fun p hp z=>Vk (Vd (U9 (I2.pin p hp).1) hC) z)
 exact z
end
def Itv(val:Nat->V)(n:Nat):It:=⟨fun i _=>i<n,fun i H x H'=>H'=H/\x=val i,fun i _=>i=n⟩
def qX{P:Yy}{w:World}{K:W.Frag}{tg:Expr}(ty:String)(M1:["enumerate","zip","dict_itemiterator","dict_reverseitemiterator","odict_iterator","itertools.zip_longest","itertools.pairwise"].contains ty=false)(l:List Nat)(t:Tok)(it:Yx)
  (Wk:∀A:Yz,A.handled=none->Walks P w A it [it] [it] (S l).cps.size (SignAt (S l)) (fun i h=>h.IsStrIter it ty (S l) t i))
  (self:∀(A:Yz) (i:Nat) (s:Yw) (Q:Yu->Yw->Prop) (E:Yu->Yw->Prop),s.heap.IsStrIter it ty (S l) t i->Q (.ref it) s->wpAny (model P w) A (pyIter (.ref it)) Q E s):
  Turn P w K tg (Itv (fun i=>.str (S [l.getD i 0])) l.length) [it] it (fun i h=>h.IsStrIter it ty (S l) t i) where
 mem:=by simp
 obj:=fun i h st b hb=>by
  have e:b=it:=by simpa using hb
  subst e;obtain⟨o,e,c,d⟩:=st;exact⟨o,e,fun v z=>by rw[d]at z;cases z⟩
 keep:=fun i h h' st k=>by
  obtain⟨o,e,r⟩:=st;exact⟨o,k it (by simp) o e,r⟩
 item:=by
  intro X hP hw hK hc i pr s σ H E I hf st hg;subst hP hw hK;obtain⟨f0,f1,f2,f3,f4,f5⟩:=hf it (by simp);have hg:i<l.length:=hg;refine(Wk X.A (I.ok.hd hc)).item i s _ _ (by simpa[S] using hg) st fun v h' tk hv Kx kk=>?_
  obtain⟨c,u,Sl,rfl⟩:=hv;have I1:Inv X pr σ H {s with heap:=h',toks:=tk}:=I.turned (fun b o hb e=>kk b o (by simpa using hb) e) f0 f1 f3 f4 f5;obtain⟨o,e,cc,d⟩:=id Kx;have LN:l.getD i 0=c:=by
   have:l[i]?=some c:=by simpa[S] using Sl
   rw[List.getD_eq_getElem?_getD,this];rfl
  refine⟨_,rfl,tj (s:={s with heap:=h',toks:=tk}) e cc d M1 ⟨.str (S [l.getD i 0]),H,I1,⟨u,?_⟩,⟨rfl,rfl⟩,Kx,fun b hb=>(hf b hb).1⟩⟩;rw[LN]
 done:=by
  intro X hP hw hK hc i pr s σ H E I hf st hg;subst hP hw hK;obtain⟨f0,f1,f2,f3,f4,f5⟩:=hf it (by simp);have hg:i=l.length:=hg;have hn:(S l).cps.size=i:=by rw[hg];simp[S]
  refine(Wk X.A (I.ok.hd hc)).done s _ _ (by rw[hn];exact st) fun h' tk kk=>⟨rfl,I.turned (fun b o hb e=>kk b o (by simpa using hb) e) f0 f1 f3 f4 f5⟩
 self:=self
def Ir(tl:TE):TI:=fun σ H R=>tl σ H fun x H1=>∃l,x=.str (S l)/\R (Itv (fun i=>.str (S [l.getD i 0])) l.length) H1
section
variable{X:Cx}{tg:Expr}
theorem Dx{l:Expr}{tl:TE}(hl:PE X l tl):PI X tg l (Ir tl):=by
 intro pr s σ H R I h;refine Jt (hl pr s σ H _ I h) fun v s1 Jx=>?_
 obtain⟨x,H1,I1,r1,l,e,q⟩:=Jx;subst e;obtain⟨t,rfl⟩:=r1;cases ha:(S l).cps.all (·< 128)
 .refine wpAny_pyIter_wide ha ?_;refine⟨s1.heap.objs.size,[s1.heap.objs.size],_,_,H1,rfl,I1.kept (t':=s1.toks) fun b o e=>Heap.get?_push_of_some _ e,
   qX "str_iterator" (by decide) l t _ (fun A hA=>Walks.strWide hA _ _ _) (fun _ _ _ _ _ st h=>wpAny_pyIter_striter_wide st h),⟨_,Heap.get?_push_size _ rfl,rfl,rfl⟩,fun b hb=>?_,q⟩
  have e:b=s1.heap.objs.size:=by simpa using hb
  subst e;exact I1.fpOk (U6 _) (I1.hok.fresh (U6 _))
 .refine wpAny_pyIter_ascii ha ?_;refine⟨s1.heap.objs.size,[s1.heap.objs.size],_,_,H1,rfl,I1.kept (t':=s1.toks) fun b o e=>Heap.get?_push_of_some _ e,
   qX "str_ascii_iterator" (by decide) l t _ (fun A hA=>Walks.strAscii hA _ _ _) (fun _ _ _ _ _ st h=>wpAny_pyIter_striter_ascii st h),⟨_,Heap.get?_push_size _ rfl,rfl,rfl⟩,fun b hb=>?_,q⟩
  have e:b=s1.heap.objs.size:=by simpa using hb
  subst e;exact I1.fpOk (U6 _) (I1.hok.fresh (U6 _))
theorem mI{pr:List (Yx×Obj)}{s:Yw}{σ:L2.St}{H:Hp}{p:Yx}{xs:List V}{E:Yu->Yw->Prop}{R:Yu->Yw->Prop}(hc:X.calm=true)(I:Inv X pr σ H s)(h:SqL X.K H p xs\/SqT X.K H p xs)
  (k:∀(it:Yx) (fp:List Yx) (o:Obj) (us:List Yu) (Sx:Nat->YB->Prop),Vals xs us->Walks X.prog X.w X.A.in1 it fp [it] us.length (fun i v=>us[i]?=some v) Sx->Sx 0 (s.heap.push o)->(∀b∈fp,b<(s.heap.push o).objs.size)->it=s.heap.objs.size->R (.ref it) {s with heap:=s.heap.push o}):
  wpAny (model X.prog X.w) X.A.in1 (pyIter (.ref p)) R E s:=by
 have hh:X.A.in1.handled=none:=I.ok.hd hc;rcases h with h|h
 .obtain⟨us,r,pl,hz⟩:=I.list h;have JL:p<s.heap.objs.size:=by obtain⟨o,ho,_⟩:=pl.isList;exact U9 ho
  refine WJ pl.isList (k s.heap.objs.size [s.heap.objs.size,p] _ us (fun i h=>h.IsListIter s.heap.objs.size p i/\h.IsList p us.toArray) r (by
   have W:=Walks.list (prog:=X.prog) (w:=X.w) hh s.heap.objs.size p (Vk JL) us.toArray;simpa using W) ⟨⟨_,Heap.get?_push_size _ rfl,rfl,rfl⟩,pl.isList.at fun o e=>Heap.get?_push_of_some _ e⟩ (fun b hb=>?_) rfl)
  rw[WW];rcases Vb.mp hb with rfl|hb
  .exact WU _
  .rw[Vn]at hb;rw[hb];exact Yd JL
 .obtain⟨us,r,pl,hz⟩:=I.tuple h;have Px:s.heap.IsTuple p us.toArray:=pl;have JL:p<s.heap.objs.size:=by obtain⟨o,ho,_⟩:=pl;exact U9 ho
  refine Wz Px (k s.heap.objs.size [s.heap.objs.size,p] _ us (fun i h=>h.IsTupleIter s.heap.objs.size p i/\h.IsTuple p us.toArray) r (by
   have W:=Walks.tuple (prog:=X.prog) (w:=X.w) hh s.heap.objs.size p (Vk JL) us.toArray;simpa using W) ⟨⟨_,Heap.get?_push_size _ rfl,rfl,rfl⟩,Px.at fun o e=>Heap.get?_push_of_some _ e⟩ (fun b hb=>?_) rfl)
  rw[WW];rcases Vb.mp hb with rfl|hb
  .exact WU _
  .rw[Vn]at hb;rw[hb];exact Yd JL
theorem ju{pr:List (Yx×Obj)}{s:Yw}{σ:L2.St}{H:Hp}{o:Obj}{h':YB}{tk:Nat}(I:Inv X pr σ H s)(kk:∀b ob,b∉[s.heap.objs.size]->(s.heap.push o).get? b=some ob->h'.get? b=some ob):
  Inv X pr σ H {s with heap:=h',toks:=tk}:=I.kept fun b ob e=>kk b ob (fun z=>Vk (U9 e) (by simpa using z)) (Heap.get?_push_of_some _ e)
theorem bI{α:Type}(l:List α)(i:Nat)(d:α)(h:i<l.length):l.getD i d=l[i]:=by
 rw[List.getD_eq_getElem?_getD,List.getElem?_eq_getElem h];rfl
def Dy:V->Bool
 | .bl b=>b
 |_=>false
def Gh:V->Bool
 | .bl _=>true
 |_=>false
theorem xV{xs:List V}{us:List Yu}(r:Vals xs us)(hb:xs.all Gh=true):TruthOf X.prog X.w X.A.in1 (fun i v=>us[i]?=some v) (fun i=>Dy (xs.getD i .non)):=by
 intro i v s Q E hv q;have hl:=r.length;obtain⟨hi,_⟩:=List.getElem?_eq_some_iff.mp hv;have e1:xs[i]?=some (xs[i]'(by lia)):=List.getElem?_eq_getElem _;obtain⟨u,hu,ru⟩:=r.get e1;rw[hv]at hu;cases hu;have q:Q (Dy (xs.getD i .non)) s:=q;rw[Ax e1]at q;have bl:=Vy.mp hb _ (Vm e1);generalize xs[i]'(by lia)=x at ru q bl;cases x <;> first|(exact absurd (show false=true from bl) U3)|skip
 cases ru;exact Wn q
theorem uZ{xs:List V}(f:V->Bool):(List.range xs.length).all (fun i=>f (xs.getD i .non))=xs.all f:=by
 rw[Vp,Vy,Vy];constructor
 .intro h x hx;obtain⟨i,hi,rfl⟩:=WQ hx;have:=h i (VF.mpr hi)
  rwa [bI _ _ _ hi]at this
 .intro h i hi;have hi:=VF.mp hi;rw[bI _ _ _ hi];exact h _ (WV hi)
theorem xW(hc:X.calm=true):dS X (.builtin "all") (fun vs H Q=>∃p xs,vs=[.ref p]/\(SqL X.K H p xs\/SqT X.K H p xs)/\xs.all Gh=true/\Q (.bl (xs.all Dy)) H):=by
 intro pr s σ H vs us Q I r h;obtain⟨p,xs,rfl,hp,hb,q⟩:=h;obtain⟨u,rfl,r1⟩:=f9 r;cases r1;refine call_all_walk (mI hc I hp fun it fp o ws Sx rv W st hf hit=>⟨it,fp,[it],_,_,Sx,_,rfl,W,st,xV rv hb,fun h' tk kk=>?_⟩);subst hit;refine⟨.bl (xs.all Dy),H,ju (s:=s) I kk,?_,q⟩;rw[<-rv.length,uZ];rfl
theorem il{ns:List Int}{us:List Yu}(r:Vals (ns.map V.int) us){i:Nat}{v:Yu}(h:us[i]?=some v):∃t,v=.int (ns.getD i 0) t:=by
 have hl:=r.length;rw[UZ]at hl;obtain⟨hi,_⟩:=List.getElem?_eq_some_iff.mp h;have e1:(ns.map V.int)[i]?=some (.int (ns.getD i 0)):=by
  rw[List.getElem?_map,List.getElem?_eq_getElem (by lia),bI _ _ _ (by lia)];rfl
 obtain⟨u,hu,t,rfl⟩:=r.get e1;rw[h]at hu;exact⟨t,Vg hu⟩
theorem qY{ns:List Int}{us:List Yu}(r:Vals (ns.map V.int) us)(A:Yz):CmpOf X.prog X.w A .Gt (fun i v=>us[i]?=some v) (fun i j=>decide (ns.getD j 0<ns.getD i 0)):=by
 intro i j vi vj s Q E hi hj q;obtain⟨t,rfl⟩:=il r hi;obtain⟨t',rfl⟩:=il r hj;exact gt_int q
def tI(ns:List Int):Int:=ns.foldl max (ns.headD 0)
def Gi(ns:List Int):Int:=ns.foldl min (ns.headD 0)
theorem mJ(ns:List Int):∀k,k<ns.length->argBest (fun i j=>decide (ns.getD j 0<ns.getD i 0)) k<ns.length/\ns.getD (argBest (fun i j=>decide (ns.getD j 0<ns.getD i 0)) k) 0=(ns.take (k+1)).foldl max (ns.headD 0)
 | 0,h=>by
  refine⟨h,?_⟩;cases ns with
  |nil=>cases h
  |cons a l=>show a=max a a;lia
 |k+1,h=>by
  obtain⟨ih1,ih2⟩:=mJ ns k (by lia);have et:ns.take (k+1+1)=ns.take (k+1)++[ns.getD (k+1) 0]:=by
   rw[List.take_add_one,List.getElem?_eq_getElem h,bI _ _ _ h];rfl
  rw[et,List.foldl_append,<-ih2];show(if decide (ns.getD (argBest (fun i j=>decide (ns.getD j 0<ns.getD i 0)) k) 0<ns.getD (k+1) 0)=true then k+1 else argBest (fun i j=>decide (ns.getD j 0<ns.getD i 0)) k)<ns.length/\
   ns.getD (if decide (ns.getD (argBest (fun i j=>decide (ns.getD j 0<ns.getD i 0)) k) 0<ns.getD (k+1) 0)=true then k+1 else argBest (fun i j=>decide (ns.getD j 0<ns.getD i 0)) k) 0=max _ _
  split
  .rename_i hd;have:=W6 hd;exact⟨h,by lia⟩
  .rename_i hd;rw[Ve]at hd;exact⟨ih1,by lia⟩
theorem u0(hc:X.calm=true):dS X (.builtin "max") (fun vs H Q=>∃(p:Yx) (ns:List Int),vs=[.ref p]/\(SqL X.K H p (ns.map V.int)\/SqT X.K H p (ns.map V.int))/\ns≠[]/\Q (.int (tI ns)) H):=by
 intro pr s σ H vs us Q I r h;obtain⟨p,ns,rfl,hp,K9,q⟩:=h;obtain⟨u,rfl,r1⟩:=f9 r;cases r1;have hn:0<ns.length:=by cases ns with|nil=>exact absurd rfl K9|cons _ _=>simp
 refine call_max_walk (mI hc I hp fun it fp o ws Sx rv W st hf hit=>?_);have hl:=rv.length;rw[UZ]at hl;refine⟨it,fp,[it],_,_,Sx,_,rfl,W,st,hf,by lia,qY rv _,fun v h' tk hv kk=>?_⟩;subst hit;obtain⟨b1,b2⟩:=mJ ns (ns.length-1) (by lia);rw[<-hl]at hv;obtain⟨t,rfl⟩:=il rv hv;refine⟨.int (tI ns),H,ju (s:=s) I kk,⟨t,?_⟩,q⟩;rw[b2,show ns.length-1+1=ns.length by lia,List.take_length];rfl
end
section
variable{prog:Yy}{w:World}{A:Yz}{R:Result->Yw->Prop}{it:Yx}{fp wr:List Yx}{n:Nat}{Pv:Nat->Yu->Prop}{Sx:Nat->YB->Prop}{kw:List (Str×Yu)}
theorem mK:(toString "max"++toString ".loop" : String) = "max.loop":=by decide
theorem Gj(Wk:Walks prog w A.in1 it fp wr n Pv Sx)(bt:Nat->Nat->Bool)(cm:CmpOf prog w A.in1 .Gt Pv bt)(T:Yx)(nT:T∉fp):∀(k j:Nat) (s:Yw) (vb:Yu) (c:Nat),n-(j+1)=k->j+1<=n->Sx (j+1) s.heap->Pv (argBest bt j) vb->
   s.heap.get? T=some {cls:=.type "list",dict:=none,data:=.seq #[vb,vb] c,slots:=#[]}->
   (∀v h' tk,Pv (argBest bt (n-1)) v->(∀b o,b∉wr->b≠T->s.heap.get? b=some o->h'.get? b=some o)->R (.ok (.ret v)) {s with heap:=h',toks:=tk})->codeAny (model prog w) A (.builtin "max.loop" ⟨[.ref it,.none,.ref T],kw⟩) R s:=by
 have Sv:T∉wr:=fun z=>nT (Wk.sub _ z)
 intro k;induction k with
 |zero=>
  intro j s vb c hk hj st hp hT fin;have ej:j+1=n:=by lia
  refine XU Yq ?_;rw[W9 Wx _];show wpAny _ A.in1 (seqItems? (.ref T) >>= _) _ _ s;refine UX (V6 hT rfl ?_);show wpAny _ A.in1 (tryCatch (pyNext (.ref it)) _ >>= _) _ _ s;refine UX (XC (Wk.done s _ _ (ej▸st) fun h' tk kk=>?_));have Pe:=kk T _ Sv hT;show wpAny _ A.in1 (updateSeq T (fun _=>#[]) >>= _) _ _ _;refine UX (YI Pe rfl (UX (Xe (U1 ?_))));exact fin vb _ tk (by rw[<-ej];exact hp) fun b o bw bT e=>(Heap.get?_update_other _ _ (Wt bT)).trans (kk b o bw e)
 |succ k ih=>
  intro j s vb c hk hj st hp hT fin;have jn:j+1<n:=by lia
  refine XU Yq ?_;rw[W9 Wx _];show wpAny _ A.in1 (seqItems? (.ref T) >>= _) _ _ s;refine UX (V6 hT rfl ?_);show wpAny _ A.in1 (tryCatch (pyNext (.ref it)) _ >>= _) _ _ s;refine UX (XC (Wk.item (j+1) s _ _ jn st fun v h' tk pv Kx kk=>?_));have Pe:=kk T _ Sv hT;show wpAny _ A.in1 (tryCatch (holding [v,v] (richCompare .Gt v vb >>= _)) _ >>= _) _ _ _;refine UX (XC (WA (UX (cm (j+1) (argBest bt j) v vb _ _ _ pv hp (UX (WA (Wn (UX (Xe (U1 ?_))))))))));cases eb:bt (j+1) (argBest bt j) with
  |true=>
   rw[U5 rfl];refine UX (YI Pe rfl (UX (Xe ?_)));rw[mK];refine U1 ⟨XM Wx _,ih (j+1) _ v _ (by lia) jn (Wk.frame _ _ _ Kx fun b bf o e=>?_) (by simp only[argBest,eb,W8];exact pv) (Heap.get?_update_self _ Pe rfl) fun v2 h2 t2 p2 k2=>?_⟩
   .exact(Heap.get?_update_other _ _ (fun z:T=b=>nT (by rw[z];exact bf))).trans e
   .exact fin v2 h2 t2 p2 fun b o bw bT e=>k2 b o bw bT ((Heap.get?_update_other _ _ (Wt bT)).trans (kk b o bw e))
  |false=>
   rw[U8 U3];refine UX (Xe ?_);rw[mK];refine U1 ⟨XM Wx _,ih (j+1) _ vb c (by lia) jn Kx (by simp only[argBest,eb,V7,XB];exact hp) Pe fun v2 h2 t2 p2 k2=>?_⟩;exact fin v2 h2 t2 p2 fun b o bw bT e=>k2 b o bw bT (kk b o bw e)
theorem xX(Wk:Walks prog w A.in1 it fp wr n Pv Sx)(bt:Nat->Nat->Bool)(cm:CmpOf prog w A.in1 .Gt Pv bt)(T:Yx)(nT:T∉fp){s:Yw}{c:Nat}{d:Yu}(hkw:kw=[(Str.ofString "default",d)])(st:Sx 0 s.heap)
  (hT:s.heap.get? T=some {cls:=.type "list",dict:=none,data:=.seq #[] c,slots:=#[]}) (fin:∀v h' tk,(if n=0 then v=d else Pv (argBest bt (n-1)) v)->(∀b o,b∉wr->b≠T->s.heap.get? b=some o->h'.get? b=some o)->R (.ok (.ret v)) {s with heap:=h',toks:=tk}):
  codeAny (model prog w) A (.builtin "max.loop" ⟨[.ref it,.none,.ref T],kw⟩) R s:=by
 have Sv:T∉wr:=fun z=>nT (Wk.sub _ z)
 refine XU Yq ?_;rw[W9 Wx _];show wpAny _ A.in1 (seqItems? (.ref T) >>= _) _ _ s;refine UX (V6 hT rfl ?_);show wpAny _ A.in1 (tryCatch (pyNext (.ref it)) _ >>= _) _ _ s;by_cases hn:n=0
 .refine UX (XC (Wk.done s _ _ (by rw[hn];exact st) fun h' tk kk=>?_));subst hkw;refine UX (Ye (U1 ?_));exact fin d _ tk (by rw[U5 hn]) fun b o bw bT e=>kk b o bw e
 .refine UX (XC (Wk.item 0 s _ _ (by lia) st fun v h' tk pv Kx kk=>?_));have Pe:=kk T _ Sv hT;show wpAny _ A.in1 (updateSeq T (fun _=>#[v,v]) >>= _) _ _ _;refine UX (YI Pe rfl ?_);rw[mK];refine U1 ⟨XM Wx _,Gj Wk bt cm T nT _ 0 _ v _ rfl (by lia) (Wk.frame _ _ _ Kx fun b bf o e=>?_) pv (Heap.get?_update_self _ Pe rfl) fun v2 h2 t2 p2 k2=>?_⟩
  .exact(Heap.get?_update_other _ _ (fun z:T=b=>nT (by rw[z];exact bf))).trans e
  .exact fin v2 h2 t2 (by rw[U8 hn];exact p2) fun b o bw bT e=>k2 b o bw bT ((Heap.get?_update_other _ _ (Wt bT)).trans (kk b o bw e))
end
def tree_kw{prog:Yy}{w:World}{A:Yz}{E:Yu->Yw->Prop}{s:Yw}{id:String}{bf:Builtin}{args:List Yu}{kw:List (Str×Yu)}{Q:Yu->Yw->Prop}(hk:builtinKind id=none)(hp:plainId id=true)
  (hb:entryFor table id=some bf) (ha:argsOk id ⟨args,kw⟩)
  (hc:wpAny (model prog w) A.in1 (bf ⟨args,kw⟩) (fun fin s'=>match fin with
   | .done f=>(match(Except.ok f:Result) with | .ok (.ret v)=>Q v s' | .ok _=>False | .error e=>E e s')
   | .again c'=>c'.quiet=true/\codeAny (model prog w) A c' (fun r s'=>match r with | .ok (.ret v)=>Q v s' | .ok _=>False | .error e=>E e s') s') E s):wpAny (model prog w) A (call (.builtin id) args kw) Q E s:=by
 refine wpAny_call (codeAny_call_builtin hp hb ?_);simp only[checkBuiltinCall,hk];cases hsig:Manifest.signature? id with
 |none=>exact U1 hc
 |some sig=>
  have ha2:Bind.checkArgs id sig ⟨args,kw⟩=pure ():=by simpa only[argsOk,hsig] using ha
  simp only[ha2];exact U1 hc
def ve(a d:Yu):argsOk "max" ⟨[a],[(Str.ofString "default",d)]⟩:=by unfold argsOk;kernel_rfl
section
variable{X:Cx}{e k:Expr}{te tk:TE}{p pos MZ:Pos}
def maxD(ns:List Int)(d:Int):Int:=if ns=[] then d else tI ns
def Gk(K:W.Frag)(te tk:TE):TE:=fun σ H Q=>xJ te Fy σ H fun vs H1=>xJ tk Fy σ H1 fun ks H2=>∃(a:Yx) (ns:List Int) (d:Int),vs=[.ref a]/\ks=[.int d]/\(SqL K H2 a (ns.map V.int)\/SqT K H2 a (ns.map V.int))/\Q (.int (maxD ns d)) H2
theorem AG(hc:X.calm=true)(hg:Gl X "max")(hm:X.mg "max" = none)(he:PE X e te)(hk:PE X k tk)(hs:starEach [e] X.env=[(false,eval e X.env)]:=by rfl):
  PE X (.Call (.Name "max" p) [e] [⟨some "default",k,MZ⟩] pos) (Gk X.K te tk):=by
 intro pr s σ H Q I h;refine WX (g8 I hg hm (by decide +kernel:bootBuiltins "max" = some (.builtin "max")) ?_ (by decide) (by decide));refine callWith_kw (Jt (c5 he jK (hs:=hs) pos pr s σ H _ I h) fun us s1 ⟨vs,H1,I1,r1,q1⟩=>?_) (by rw[hs];rfl) (by rw[hs];rfl);refine Jt (Al hk Dl pos pr s1 σ H1 _ I1 q1) fun ws s2 Jx=>?_
 obtain⟨ks,H2,I2,r2,a,ns,d,e1,e2,hp,q⟩:=Jx;subst e1 e2;obtain⟨u,rfl,ru⟩:=f9 r1;obtain⟨w',rfl,t,rfl⟩:=f9 r2;cases ru;show wpAny _ _ (call (.builtin "max") [.ref a] [(Str.ofString "default",.int d t)]) _ _ s2;refine tree_kw F.kind_max F.plain_max F.entry_max (ve _ _) ?_;show wpAny _ X.A.in1 (Builtin.Builtins.bindParams "max" ["key","default"] 0 ⟨[],[(Str.ofString "default",.int d t)]⟩ >>= _) _ _ s2;refine UX (W3 (show Builtin.Builtins.bindParams "max" ["key","default"] 0 ⟨[],[(Str.ofString "default",.int d t)]⟩=pure [none,some (.int d t)] from rfl) ?_);refine UX (U1 ?_);refine UX (mI hc I2 hp fun it fp o ws Sx rv Wk st hf hit=>?_);have hl:=rv.length;rw[UZ]at hl;refine UX (VN ?_);have nT:(s2.heap.push o).objs.size∉fp:=fun z=>WO _ (hf _ z)
 rw[mK];refine U1 ⟨XM Wx _,xX Wk _ (qY rv _) (s2.heap.push o).objs.size nT rfl (Wk.frame _ _ _ st fun b _ ob e=>Heap.get?_push_of_some _ e) (Heap.get?_push_size _ rfl) fun v h' tk' hv kk=>?_⟩;subst hit;have I3:Inv X pr σ H2 {s2 with heap:=h',toks:=tk'}:=ju (s:=s2) (o:=o) I2 fun b ob nb e=>kk b ob nb (Vk (U9 e)) (Heap.get?_push_of_some _ e)
 refine⟨.int (maxD ns d),H2,I3,?_,q⟩;unfold maxD;by_cases hn:ns=[]
 .rw[U5 (by rw[<-hl,hn];rfl)]at hv;rw[U5 hn,hv];exact⟨t,rfl⟩
 .have h0:0<ns.length:=XW.mpr hn;rw[U8 (by lia)]at hv;rw[U8 hn];obtain⟨b1,b2⟩:=mJ ns (ns.length-1) (by lia);rw[<-hl]at hv;obtain⟨t2,rfl⟩:=il rv hv;refine⟨t2,?_⟩;rw[b2,show ns.length-1+1=ns.length by lia,List.take_length];rfl
end
section
variable{prog:Yy}{w:World}{A:Yz}{E:Yu->Yw->Prop}{s:Yw}
theorem xY{it t:Yx}{i:Nat}{items:Array Yu}{x:Yu}{Q:Yu->Yw->Prop}(hi:s.heap.IsTupleIter it t i)(ht:s.heap.IsTuple t items)(hx:items[i]?=some x)
  (k:∀h',h'.IsTupleIter it t (i+1)->Heap.SameBut it s.heap h'->Q x {s with heap:=h'}):wpAny (model prog w) A (Builtin.SmallTypes.nextOf (.ref it)) Q E s:=by
 obtain⟨o,ho,oc,od⟩:=id hi;obtain⟨q,hq,_,n,qd⟩:=ht;unfold Builtin.SmallTypes.nextOf;refine UX (wpAny_callSpecial?_slot (name:=Str.ofString "__next__") hi.typeIs Wu (VQ Wu hi.typeIs XX ?_ (XN _)));show wpAny _ _ (field (.ref it) 0 >>= _) _ _ s;refine UX (VU ho od (x:=.ref t) rfl ?_);show wpAny _ _ (if(Value.ref t==Value.none)=true then _ else _) _ _ s;rw[U8 (fun z:(Value.ref t==Value.none)=true=>U3 z)];show wpAny _ _ (field (.ref it) 1 >>= _) _ _ s;refine UX (VU ho od (x:=.int i 0) rfl (UX (V6 hq qd ?_)));simp only[VG,hx];refine UX (X6 ho od (by simp) (U1 ⟨x,rfl,U1 (k _ ⟨_,Heap.get?_update_self _ ho (Obj.isFreed_of_fields (Xm od _)),(Obj.cls_mapFields ..).trans oc,?_⟩ (Xf ..))⟩));rw[Xm od];simp[rawInt]
theorem AH{it t:Yx}{i:Nat}{items:Array Yu}{Q:Yu->Yw->Prop}(hh:A.handled=none)(hi:s.heap.IsTupleIter it t i)(ht:s.heap.IsTuple t items)(hx:items[i]?=none)
  (k:∀h' e,Heap.ExtBut it s.heap h'->(∃o,h'.get? e=some o/\o.cls=.type "StopIteration")->E (.ref e) {s with heap:=h'}):wpAny (model prog w) A (Builtin.SmallTypes.nextOf (.ref it)) Q E s:=by
 obtain⟨o,ho,oc,od⟩:=id hi;obtain⟨q,hq,_,n,qd⟩:=ht;unfold Builtin.SmallTypes.nextOf;refine UX (wpAny_callSpecial?_slot (name:=Str.ofString "__next__") hi.typeIs Wu (VQ Wu hi.typeIs XX ?_ (XN _)));show wpAny _ _ (field (.ref it) 0 >>= _) _ _ s;refine UX (VU ho od (x:=.ref t) rfl ?_);show wpAny _ _ (if(Value.ref t==Value.none)=true then _ else _) _ _ s;rw[U8 (fun z:(Value.ref t==Value.none)=true=>U3 z)];show wpAny _ _ (field (.ref it) 1 >>= _) _ _ s;refine UX (VU ho od (x:=.int i 0) rfl (UX (V6 hq qd ?_)));simp only[VG,hx];refine UX (Ye (UX (X6 ho od (by simp) ?_)));show wpAny _ _ (newExc (.type "StopIteration") [] >>= _) _ _ _;refine UX ?_;simp only[newExc,newTuple];refine UX (VN (UX (m:=firstArgMember _ _) (W3 (a:=Value.none) (by first|rfl|(simp only[firstArgMember];rfl)) (VN ?_ (by size_fits)))) (by size_fits));simp only[raiseNew];refine UX (wpAny_handled ?_);first
  |rw[show A.in1.handled=none from hh]
  |rw[hh]
 exact UX (U1 (wpAny_throw (k _ _ (((Xf ..).extBut.push _).push _) ⟨_,Heap.get?_push_size _ rfl,rfl⟩)))
def IsIt(k:Bool)(h:YB)(it l:Yx)(i:Nat):Prop:=match k with
 |true=>h.IsListIter it l i
 |false=>h.IsTupleIter it l i
def IsSq(k:Bool)(h:YB)(l:Yx)(xs:Array Yu):Prop:=match k with
 |true=>h.IsList l xs
 |false=>h.IsTuple l xs
theorem IsIt.at{k:Bool}{h h':YB}{it l:Yx}{i:Nat}(x:IsIt k h it l i)(e:∀o,h.get? it=some o->h'.get? it=some o):IsIt k h' it l i:=by
 cases k with
 |true=>obtain⟨o,ho,r⟩:=(show h.IsListIter it l i from x);exact(show h'.IsListIter it l i from⟨o,e o ho,r⟩)
 |false=>obtain⟨o,ho,r⟩:=(show h.IsTupleIter it l i from x);exact(show h'.IsTupleIter it l i from⟨o,e o ho,r⟩)
theorem IsSq.at{k:Bool}{h h':YB}{l:Yx}{xs:Array Yu}(x:IsSq k h l xs)(e:∀o,h.get? l=some o->h'.get? l=some o):IsSq k h' l xs:=by
 cases k with
 |true=>obtain⟨o,ho,r⟩:=(show h.IsList l xs from x);exact(show h'.IsList l xs from⟨o,e o ho,r⟩)
 |false=>obtain⟨o,ho,r⟩:=(show h.IsTuple l xs from x);exact(show h'.IsTuple l xs from⟨o,e o ho,r⟩)
theorem IsIt.obj{k:Bool}{h:YB}{it l:Yx}{i:Nat}(x:IsIt k h it l i):∃o,h.get? it=some o/\∀v,o.data≠.cell v:=by
 cases k with
 |true=>obtain⟨o,ho,_,d⟩:=(show h.IsListIter it l i from x);exact⟨o,ho,fun v z=>by rw[d]at z;cases z⟩
 |false=>obtain⟨o,ho,_,d⟩:=(show h.IsTupleIter it l i from x);exact⟨o,ho,fun v z=>by rw[d]at z;cases z⟩
theorem pZ{k:Bool}{it l:Yx}{i:Nat}{xs:Array Yu}{x:Yu}{Q:Yu->Yw->Prop}(hi:IsIt k s.heap it l i)(hl:IsSq k s.heap l xs)(hx:xs[i]?=some x)
  (q:∀h',IsIt k h' it l (i+1)->Heap.SameBut it s.heap h'->Q x {s with heap:=h'}):wpAny (model prog w) A (Builtin.SmallTypes.nextOf (.ref it)) Q E s:=by
 cases k with
 |true=>exact wpAny_nextOf_list_item hi hl hx q
 |false=>exact xY hi hl hx q
theorem zl{k:Bool}{it l:Yx}{i:Nat}{xs:Array Yu}{Q:Yu->Yw->Prop}(hh:A.handled=none)(hi:IsIt k s.heap it l i)(hl:IsSq k s.heap l xs)(hx:xs[i]?=none)
  (q:∀h' e,Heap.ExtBut it s.heap h'->(∃o,h'.get? e=some o/\o.cls=.type "StopIteration")->E (.ref e) {s with heap:=h'}):wpAny (model prog w) A (Builtin.SmallTypes.nextOf (.ref it)) Q E s:=by
 cases k with
 |true=>exact wpAny_nextOf_list_end hh hi hl hx q
 |false=>exact AH hh hi hl hx q
theorem AI{k1 k2:Bool}{z TI TO i1 i2 l1 l2:Yx}{i:Nat}{xs ys:Array Yu}{x y a b:Yu}{Q:Yu->Yw->Prop}(D:ZipApart z TI TO i1 i2 l1 l2)(hz:IsZip s.heap z TI TO .none)(Mr:IsPair s.heap TI (.ref i1) (.ref i2))(M4:IsPair s.heap TO a b)
  (h1:IsIt k1 s.heap i1 l1 i) (h2:IsIt k2 s.heap i2 l2 i) (g1:IsSq k1 s.heap l1 xs) (g2:IsSq k2 s.heap l2 ys) (hx:xs[i]?=some x) (hy:ys[i]?=some y)
  (q:∀h',IsZip h' z TI TO (rawInt s.heap.objs.size)->IsPair h' TO x y->IsIt k1 h' i1 l1 (i+1)->IsIt k2 h' i2 l2 (i+1)->IsPair h' s.heap.objs.size x y->
   (∀c o,c≠z->c≠TO->c≠i1->c≠i2->s.heap.get? c=some o->h'.get? c=some o)->Q (.ref s.heap.objs.size) {s with heap:=h'}):
  wpAny (model prog w) A (Builtin.«zip.__next__» ⟨[.ref z],[]⟩) (fun fin s'=>∃v,fin=.done (.ret v)/\Q v s') E s:=by
 show wpAny _ _ (field (.ref z) 2 >>= _) _ _ _;refine UX (VU hz rfl (x:=.bool false) rfl ?_);show wpAny _ _ (field (.ref z) 3 >>= _) _ _ _;refine UX (VU hz rfl (x:=.ref TI) rfl (UX (V6 Mr rfl ?_)));show wpAny _ _ (Builtin.SmallTypes.ownedTupleIsFree (.ref z) >>= _) _ _ _;refine UX ?_;unfold Builtin.SmallTypes.ownedTupleIsFree;refine UX (VU hz rfl (x:=.none) rfl (U1 ?_));rw[U5 (by rfl)];refine UX (Ye (UX (VU hz rfl (x:=.ref TO) rfl (UX (WB hz (by simp) fun hA zA sA=>?_)))));have zA:IsZip hA z TI TO .ellipsis:=zA;refine UX ?_;simp only[List.zipIdx_cons,List.zipIdx_nil,YG,List.forIn_nil];refine UX (UX (Yl ?_));show wpAny _ _ (Builtin.SmallTypes.nextOf (.ref i1) >>= _) _ _ _;refine UX (pZ (h1.at fun o e=>sA.extBut _ _ D.i1z e) (g1.at fun o e=>sA.extBut _ _ D.l1z e) hx fun hB iB sB=>U1 ?_);have tB:IsPair hB TO a b:=sB.extBut _ _ D.TOi1 (sA.extBut _ _ D.TOz M4);refine UX (V6 tB rfl (UX (XH tB fun hC tC sC=>UX (Xe (U1 ?_)))));have tC:IsPair hC TO x b:=tC;refine UX (UX (Yl ?_));show wpAny _ _ (Builtin.SmallTypes.nextOf (.ref i2) >>= _) _ _ _;refine UX (pZ (h2.at fun o e=>sC.extBut _ _ D.TOi2.symm (sB.extBut _ _ D.i12.symm (sA.extBut _ _ D.i2z e))) (g2.at fun o e=>sC.extBut _ _ D.l2TO (sB.extBut _ _ D.l2i1 (sA.extBut _ _ D.l2z e))) hy fun hD iD sD=>U1 ?_);have tD:IsPair hD TO x b:=sD.extBut _ _ D.TOi2 tC;refine UX (V6 tD rfl (UX (XH tD fun hE tE sE=>UX (Xe (U1 (U1 ?_))))));have tE:IsPair hE TO x y:=tE;refine UX (V6 tE rfl (UX (wpAny_newTuple ?_)));have ez:hE.objs.size=s.heap.objs.size:=by rw[sE.1,sD.1,sC.1,sB.1,sA.1]
 have zE:IsZip hE z TI TO .ellipsis:=sE.extBut _ _ D.TOz.symm (sD.extBut _ _ D.i2z.symm (sC.extBut _ _ D.TOz.symm (sB.extBut _ _ D.i1z.symm zA)));have kE:∀c o,c≠z->c≠TO->c≠i1->c≠i2->s.heap.get? c=some o->hE.get? c=some o:=fun c o c1 c2 c3 c4 e=>sE.extBut _ _ c2 (sD.extBut _ _ c4 (sC.extBut _ _ c2 (sB.extBut _ _ c3 (sA.extBut _ _ c1 e))))
 have i1E:IsIt k1 hE i1 l1 (i+1):=iB.at fun o e=>sE.extBut _ _ D.TOi1.symm (sD.extBut _ _ D.i12 (sC.extBut _ _ D.TOi1.symm e))
 have i2E:IsIt k2 hE i2 l2 (i+1):=iD.at fun o e=>sE.extBut _ _ D.TOi2.symm e
 show wpAny _ _ (Builtin.SmallTypes.ownedTupleHandOut (.ref z) (.ref hE.objs.size) >>= _) _ _ _;refine UX ?_;unfold Builtin.SmallTypes.ownedTupleHandOut;have zF:IsZip (hE.push {cls:=.type "tuple",data:=.seq #[x,y]}) z TI TO .ellipsis:=Heap.get?_push_of_some _ zE;refine UX (WB zF (by simp) fun hG zG sG=>?_);have zG:IsZip hG z TI TO (rawInt hE.objs.size):=zG;refine WB zG (by simp) fun hK zK sK=>?_
 have zK:IsZip hK z TI TO (rawInt hE.objs.size):=zK;have up:∀c o,c≠z->hE.get? c=some o->hK.get? c=some o:=fun c o c1 e=>sK.extBut _ _ c1 (sG.extBut _ _ c1 (Heap.get?_push_of_some _ e))
 have nz:hE.objs.size≠z:=ZG (U9 zE);have tK:IsPair hK hE.objs.size x y:=sK.extBut _ _ nz (sG.extBut _ _ nz (Heap.get?_push_size _ rfl));rw[ez]at zK tK;refine U1 ⟨_,rfl,?_⟩;show Q (.ref hE.objs.size) _;rw[ez];exact q hK zK (up _ _ D.TOz tE) (i1E.at fun o e=>up _ o D.i1z e) (i2E.at fun o e=>up _ o D.i2z e) tK fun c o c1 c2 c3 c4 e=>up c o c1 (kE c o c1 c2 c3 c4 e)
theorem Dz{k1 k2:Bool}{z TI TO i1 i2 l1 l2:Yx}{i:Nat}{xs ys:Array Yu}{a b:Yu}{Q:Fin->Yw->Prop}(hh:A.handled=none)(D:ZipApart z TI TO i1 i2 l1 l2)(hz:IsZip s.heap z TI TO .none)(Mr:IsPair s.heap TI (.ref i1) (.ref i2))(M4:IsPair s.heap TO a b)
  (h1:IsIt k1 s.heap i1 l1 i) (h2:IsIt k2 s.heap i2 l2 i) (g1:IsSq k1 s.heap l1 xs) (g2:IsSq k2 s.heap l2 ys) (he:xs[i]?=none\/ys[i]?=none)
  (q:∀h' e,(∀c o,c≠z->c≠TO->c≠i1->c≠i2->s.heap.get? c=some o->h'.get? c=some o)->(∃o,h'.get? e=some o/\o.cls=.type "StopIteration")->E (.ref e) {s with heap:=h'}):
  wpAny (model prog w) A (Builtin.«zip.__next__» ⟨[.ref z],[]⟩) Q E s:=by
 show wpAny _ _ (field (.ref z) 2 >>= _) _ _ _;refine UX (VU hz rfl (x:=.bool false) rfl ?_);show wpAny _ _ (field (.ref z) 3 >>= _) _ _ _;refine UX (VU hz rfl (x:=.ref TI) rfl (UX (V6 Mr rfl ?_)));show wpAny _ _ (Builtin.SmallTypes.ownedTupleIsFree (.ref z) >>= _) _ _ _;refine UX ?_;unfold Builtin.SmallTypes.ownedTupleIsFree;refine UX (VU hz rfl (x:=.none) rfl (U1 ?_));rw[U5 (by rfl)];refine UX (Ye (UX (VU hz rfl (x:=.ref TO) rfl (UX (WB hz (by simp) fun hA zA sA=>?_)))));have zA:IsZip hA z TI TO .ellipsis:=zA;refine UX ?_;simp only[List.zipIdx_cons,List.zipIdx_nil,YG,List.forIn_nil];refine UX (UX (Yl ?_));show wpAny _ _ (Builtin.SmallTypes.nextOf (.ref i1) >>= _) _ _ _;cases hx:xs[i]? with
 |none=>
  refine UX (zl hh (h1.at fun o e=>sA.extBut _ _ D.i1z e) (g1.at fun o e=>sA.extBut _ _ D.l1z e) hx fun hB e sB Jx=>?_);obtain⟨oe,ge,ce⟩:=Jx;have zB:IsZip hB z TI TO .ellipsis:=sB _ _ D.i1z.symm zA;have ne:e≠z:=fun x=>by subst x;rw[zB]at ge;cases ge;simp at ce
  exact WB zB (by simp) fun hC _ sC=>q hC e (fun c o c1 _ c3 _ x=>sC.extBut _ _ c1 (sB _ _ c3 (sA.extBut _ _ c1 x))) ⟨oe,sC.extBut _ _ ne ge,ce⟩
 |some x=>
  have hy:ys[i]?=none:=by
   rcases he with z|z
   .rw[hx]at z;cases z
   .exact z
  refine UX (pZ (h1.at fun o e=>sA.extBut _ _ D.i1z e) (g1.at fun o e=>sA.extBut _ _ D.l1z e) hx fun hB iB sB=>U1 ?_);have tB:IsPair hB TO a b:=sB.extBut _ _ D.TOi1 (sA.extBut _ _ D.TOz M4);refine UX (V6 tB rfl (UX (XH tB fun hC tC sC=>UX (Xe (U1 ?_)))));refine UX (UX (Yl ?_));show wpAny _ _ (Builtin.SmallTypes.nextOf (.ref i2) >>= _) _ _ _;refine UX (zl hh (h2.at fun o e=>sC.extBut _ _ D.TOi2.symm (sB.extBut _ _ D.i12.symm (sA.extBut _ _ D.i2z e))) (g2.at fun o e=>sC.extBut _ _ D.l2TO (sB.extBut _ _ D.l2i1 (sA.extBut _ _ D.l2z e))) hy fun hD e sD Jx=>?_);obtain⟨oe,ge,ce⟩:=Jx;have zD:IsZip hD z TI TO .ellipsis:=sD _ _ D.i2z.symm (sC.extBut _ _ D.TOz.symm (sB.extBut _ _ D.i1z.symm zA));have ne:e≠z:=fun x=>by subst x;rw[zD]at ge;cases ge;simp at ce
  exact WB zD (by simp) fun hF _ sF=>q hF e (fun c o c1 c2 c3 c4 x=>sF.extBut _ _ c1 (sD _ _ c4 (sC.extBut _ _ c2 (sB.extBut _ _ c3 (sA.extBut _ _ c1 x))))) ⟨oe,sF.extBut _ _ ne ge,ce⟩
end
def itObj(k:Bool)(l:Yx):Obj:=match k with
 |true=>{cls:=.type "list_iterator",data:=.fields #[.ref l,.int 0 0]}
 |false=>{cls:=.type "tuple_iterator",data:=.fields #[.ref l,.int 0 0]}
def qZ(k:Bool)(h:YB)(l:Yx):IsIt k (h.push (itObj k l)) h.objs.size l 0:=by
 cases k with
 |true=>exact⟨_,Heap.get?_push_size _ rfl,rfl,rfl⟩
 |false=>exact⟨_,Heap.get?_push_size _ rfl,rfl,rfl⟩
abbrev zA(h:YB)(k1:Bool)(l1:Yx):YB:=h.push (itObj k1 l1)
abbrev zB(h:YB)(k1 k2:Bool)(l1 l2:Yx):YB:=(zA h k1 l1).push (itObj k2 l2)
abbrev zC(h:YB)(k1 k2:Bool)(l1 l2:Yx):YB:=(zB h k1 k2 l1 l2).push {cls:=.type "tuple",data:=.seq #[.ref h.objs.size,.ref (zA h k1 l1).objs.size]}
abbrev zD(h:YB)(k1 k2:Bool)(l1 l2:Yx):YB:=(zC h k1 k2 l1 l2).push {cls:=.type "tuple",data:=.seq #[.none,.none]}
abbrev zE(h:YB)(k1 k2:Bool)(l1 l2:Yx):YB:=(zD h k1 k2 l1 l2).push {cls:=.type "zip",data:=.fields #[.none,.bool false,.bool false,.ref (zB h k1 k2 l1 l2).objs.size,.ref (zC h k1 k2 l1 l2).objs.size]}
set_option maxHeartbeats 8000000 in
def DA(k1 k2:Bool)(l1 l2:Yx)(xs ys:Array Yu):
  Meets (Builtin.«zip.__new__» ⟨[.type "zip",.ref l1,.ref l2],[]⟩) (fun _ R s=>IsSq k1 s.heap l1 xs/\IsSq k2 s.heap l2 ys/\R (.ok (.ret (.ref (zD s.heap k1 k2 l1 l2).objs.size))) {s with heap:=zE s.heap k1 k2 l1 l2}):=
 .of_wp fun prog w A R s h=>by
  obtain⟨hp,g,d,tk,os⟩:=s;obtain⟨g1,g2,q⟩:=h;have Rl:=sub_zip;cases k1 with
  |true=>
   have e1:Heap.IsList (Shared.heap ⟨hp,g,d,tk,os⟩) l1 xs:=g1;cases k2 with
   |true=>
    have e2:Heap.IsList (Shared.heap ⟨hp.push {cls:=.type "list_iterator",data:=.fields #[.ref l1,.int 0 0]},g,d,tk,os⟩) l2 ys:=Heap.IsList.push g2 _
    wp_walk using WJ e1,WJ e2
    exact⟨_,rfl,q⟩
   |false=>
    have e2:Heap.IsTuple (Shared.heap ⟨hp.push {cls:=.type "list_iterator",data:=.fields #[.ref l1,.int 0 0]},g,d,tk,os⟩) l2 ys:=Heap.IsTuple.push g2 _
    wp_walk using WJ e1,Wz e2
    exact⟨_,rfl,q⟩
  |false=>
   have e1:Heap.IsTuple (Shared.heap ⟨hp,g,d,tk,os⟩) l1 xs:=g1;cases k2 with
   |true=>
    have e2:Heap.IsList (Shared.heap ⟨hp.push {cls:=.type "tuple_iterator",data:=.fields #[.ref l1,.int 0 0]},g,d,tk,os⟩) l2 ys:=Heap.IsList.push g2 _
    wp_walk using Wz e1,WJ e2
    exact⟨_,rfl,q⟩
   |false=>
    have e2:Heap.IsTuple (Shared.heap ⟨hp.push {cls:=.type "tuple_iterator",data:=.fields #[.ref l1,.int 0 0]},g,d,tk,os⟩) l2 ys:=Heap.IsTuple.push g2 _
    wp_walk using Wz e1,Wz e2
    exact⟨_,rfl,q⟩
def ZS(k1 k2:Bool)(z TI TO i1 i2 l1 l2:Yx)(i:Nat)(h:YB):Prop:=IsZip h z TI TO .none/\IsPair h TI (.ref i1) (.ref i2)/\(∃a b,IsPair h TO a b)/\IsIt k1 h i1 l1 i/\IsIt k2 h i2 l2 i
def AJ{prog:Yy}{w:World}{A:Yz}{E:Yu->Yw->Prop}{s:Yw}{k1 k2:Bool}{l1 l2:Yx}{xs ys:Array Yu}{Q:Yu->Yw->Prop}(g1:IsSq k1 s.heap l1 xs)(g2:IsSq k2 s.heap l2 ys)
  (q:∀h',ZS k1 k2 (s.heap.objs.size+4) (s.heap.objs.size+2) (s.heap.objs.size+3) s.heap.objs.size (s.heap.objs.size+1) l1 l2 0 h'->(∀c o,s.heap.get? c=some o->h'.get? c=some o)->Q (.ref (s.heap.objs.size+4)) {s with heap:=h'}):
  wpAny (model prog w) A (call (.type "zip") [.ref l1,.ref l2]) Q E s:=by
 refine callType_new F.called_zip (by decide) (F.typeCall_zip_2 _ _) (F.newCall_zip_2 _ _) (fun obj=>F.args_object_init_3 obj _ _) F.entry_zip_new (DA k1 k2 l1 l2 xs ys) ⟨g1,g2,?_⟩;have nA:(zA s.heap k1 l1).objs.size=s.heap.objs.size+1:=WW ..;have nB:(zB s.heap k1 k2 l1 l2).objs.size=s.heap.objs.size+2:=by rw[WW,nA]
 have nC:(zC s.heap k1 k2 l1 l2).objs.size=s.heap.objs.size+3:=by rw[WW,nB]
 have nD:(zD s.heap k1 k2 l1 l2).objs.size=s.heap.objs.size+4:=by rw[WW,nC]
 have pu:∀{h:YB}{o:Obj}{c:Yx}{v:Obj},h.get? c=some v->(h.push o).get? c=some v:=fun e=>Heap.get?_push_of_some _ e
 have gz:(zE s.heap k1 k2 l1 l2).get? (zD s.heap k1 k2 l1 l2).objs.size=some _:=Heap.get?_push_size _ rfl;have go:(zE s.heap k1 k2 l1 l2).get? (zC s.heap k1 k2 l1 l2).objs.size=some _:=pu (Heap.get?_push_size _ rfl);have gi:(zE s.heap k1 k2 l1 l2).get? (zB s.heap k1 k2 l1 l2).objs.size=some _:=pu (pu (Heap.get?_push_size _ rfl));have j2:IsIt k2 (zE s.heap k1 k2 l1 l2) (zA s.heap k1 l1).objs.size l2 0:=(qZ k2 (zA s.heap k1 l1) l2).at fun o e=>pu (pu (pu e))
 have j1:IsIt k1 (zE s.heap k1 k2 l1 l2) s.heap.objs.size l1 0:=(qZ k1 s.heap l1).at fun o e=>pu (pu (pu (pu e)))
 show _/\_;rw[nB,nC,nD]at gz;rw[nA,nB]at gi;rw[nC]at go;rw[nA]at j2;rw[nD];exact⟨⟨_,gz,rfl⟩,q _ ⟨gz,gi,⟨_,_,go⟩,j1,j2⟩ fun c o x=>pu (pu (pu (pu (pu x))))⟩
noncomputable def Th(K:W.Frag)(k1 k2:Bool)(a b:Yx):It:=
 ⟨fun i H=>∃xs ys x y,(if k1 then SqL K H a xs else SqT K H a xs)/\(if k2 then SqL K H b ys else SqT K H b ys)/\xs[i]?=some x/\ys[i]?=some y,
  fun i H v H'=>∃T,H T=none/\v=.ref T/\∀xs ys x y,(if k1 then SqL K H a xs else SqT K H a xs)->(if k2 then SqL K H b ys else SqT K H b ys)->xs[i]?=some x->ys[i]?=some y->H'=upd H T (.tup [x,y]),
  fun i H=>∃xs ys,(if k1 then SqL K H a xs else SqT K H a xs)/\(if k2 then SqL K H b ys else SqT K H b ys)/\i=min xs.length ys.length⟩
section
variable{X:Cx}{pr:List (Yx×Obj)}{σ:L2.St}{H:Hp}{s:Yw}
theorem tJ(I:Inv X pr σ H s){k:Bool}{a:Yx}{xs:List V}(h:if k then SqL X.K H a xs else SqT X.K H a xs):∃us:List Yu,Vals xs us/\IsSq k s.heap a us.toArray:=by
 cases k with
 |true=>
  obtain⟨us,r,p,_⟩:=I.list (show SqL X.K H a xs from h);exact⟨us,r,p.isList⟩
 |false=>
  obtain⟨us,r,p,_⟩:=I.tuple (show SqT X.K H a xs from h);exact⟨us,r,(show s.heap.IsTuple a us.toArray from p)⟩
theorem zm(I:Inv X pr σ H s){k:Bool}{a:Yx}{xs ys:List V}(h:if k then SqL X.K H a xs else SqT X.K H a xs)(h':if k then SqL X.K H a ys else SqT X.K H a ys):xs=ys:=by
 cases k with
 |true=>exact I.list_inj (show SqL X.K H a xs from h) (show SqL X.K H a ys from h')
 |false=>exact I.tuple_inj (show SqT X.K H a xs from h) (show SqT X.K H a ys from h')
theorem g5(I:Inv X pr σ H s){k:Bool}{a b:Yx}{xs:List V}(h:if k then SqL X.K H a xs else SqT X.K H a xs)(f:uy X pr H b):a≠b:=by
 rintro rfl;obtain⟨f0,_,_,f3,_⟩:=f;have nb:∀o,X.K.lookup a=some o->False:=fun o hk=>by
  have e:=I.ok.mod.kin a o hk;rcases f3 with z|z
  .exact I.ok.noex a o e z
  .exact absurd (Vd (U9 e) (Vx I.ok.bsz z)) (WO _)
 cases k with
 |true=>
  rcases(show SqL X.K H a xs from h) with(h|⟨o,h⟩)|⟨o,Je,n,hk,_⟩
  .rw[f0]at h;cases h
  .rw[f0]at h;cases h
  .exact nb o hk
 |false=>
  rcases(show SqT X.K H a xs from h) with(h|⟨o,h⟩)|⟨o,Je,n,hk,_⟩
  .rw[f0]at h;cases h
  .rw[f0]at h;cases h
  .exact nb o hk
end
def nx_zip_item{prog:Yy}{w:World}{A:Yz}{E:Yu->Yw->Prop}{s:Yw}{k1 k2:Bool}{z TI TO i1 i2 l1 l2:Yx}{i:Nat}{xs ys:Array Yu}{x y:Yu}{Q:Option Yu->Yw->Prop}(D:ZipApart z TI TO i1 i2 l1 l2)(st:ZS k1 k2 z TI TO i1 i2 l1 l2 i s.heap)
  (g1:IsSq k1 s.heap l1 xs) (g2:IsSq k2 s.heap l2 ys) (hx:xs[i]?=some x) (hy:ys[i]?=some y)
  (q:∀h',IsZip h' z TI TO (rawInt s.heap.objs.size)->IsPair h' TO x y->IsIt k1 h' i1 l1 (i+1)->IsIt k2 h' i2 l2 (i+1)->IsPair h' s.heap.objs.size x y->
   (∀c o,c≠z->c≠TO->c≠i1->c≠i2->s.heap.get? c=some o->h'.get? c=some o)->Q (some (.ref s.heap.objs.size)) {s with heap:=h'}):wpAny (model prog w) A (pyNext (.ref z)) Q E s:=by
 obtain⟨hz,Mr,⟨a,b,M4⟩,h1,h2⟩:=st;have ty:s.TypeIs (.ref z) "zip":=⟨_,hz,rfl⟩
 unfold pyNext;exact UX (Ym (wpAny_callSpecial?_slot (name:=Str.ofString "__next__") ty XY (VQ XY ty F.entry_zip_next (AI D hz Mr M4 h1 h2 g1 g2 hx hy fun h' a1 a2 a3 a4 a5 a6=>U1 (q h' a1 a2 a3 a4 a5 a6)) (F.args_zip_next_1 _))))
def tL{prog:Yy}{w:World}{A:Yz}{E:Yu->Yw->Prop}{s:Yw}{k1 k2:Bool}{z TI TO i1 i2 l1 l2:Yx}{i:Nat}{xs ys:Array Yu}{Q:Option Yu->Yw->Prop}(hh:A.handled=none)(D:ZipApart z TI TO i1 i2 l1 l2)(st:ZS k1 k2 z TI TO i1 i2 l1 l2 i s.heap)
  (g1:IsSq k1 s.heap l1 xs) (g2:IsSq k2 s.heap l2 ys) (he:xs[i]?=none\/ys[i]?=none) (q:∀h',(∀c o,c≠z->c≠TO->c≠i1->c≠i2->s.heap.get? c=some o->h'.get? c=some o)->Q none {s with heap:=h'}):wpAny (model prog w) A (pyNext (.ref z)) Q E s:=by
 obtain⟨hz,Mr,⟨a,b,M4⟩,h1,h2⟩:=st;have ty:s.TypeIs (.ref z) "zip":=⟨_,hz,rfl⟩
 unfold pyNext;refine UX (Ym (wpAny_callSpecial?_slot (name:=Str.ofString "__next__") ty XY (VQ XY ty F.entry_zip_next (Dz hh D hz Mr M4 h1 h2 g1 g2 he fun h' e kk ⟨o,ho,oc⟩=>?_) (F.args_zip_next_1 _))));exact UX (wpAny_isInstance (T:="StopIteration") (b:=true) ⟨o,ho,oc⟩ isSubtype_stop (U1 (q _ kk)))
def xZ{P:Yy}{w:World}{K:W.Frag}{es:List Expr}{kt:Nat}{pt:Pos}(k1 k2:Bool)(a b z TI TO i1 i2:Yx)(ne:z≠TI/\z≠TO/\z≠i1/\z≠i2/\TI≠TO/\TI≠i1/\TI≠i2/\TO≠i1/\TO≠i2/\i1≠i2):
  Turn P w K (.Tuple es kt pt) (Th K k1 k2 a b) [z,TI,TO,i1,i2] z (ZS k1 k2 z TI TO i1 i2 a b) where
 mem:=by simp
 obj:=fun i h st c hc=>by
  obtain⟨hz,Mr,⟨x,y,M4⟩,h1,h2⟩:=st;simp only[Vb,Wb,Z5]at hc;rcases hc with rfl|rfl|rfl|rfl|rfl
  .exact⟨_,hz,fun v q=>by cases q⟩
  .exact⟨_,Mr,fun v q=>by cases q⟩
  .exact⟨_,M4,fun v q=>by cases q⟩
  .exact h1.obj
  .exact h2.obj
 keep:=fun i h h' st k=>by
  obtain⟨hz,Mr,⟨x,y,M4⟩,h1,h2⟩:=st;exact⟨k z (by simp) _ hz,k TI (by simp) _ Mr,⟨x,y,k TO (by simp) _ M4⟩,h1.at fun o e=>k i1 (by simp) o e,h2.at fun o e=>k i2 (by simp) o e⟩
 item:=by
  intro X hP hw hK hc i pr s σ H E I hf st hg;subst hP hw hK;obtain⟨xs,ys,x,y,s1,s2,hx,hy⟩:=hg;obtain⟨us,r1,q1⟩:=tJ I s1;obtain⟨ws,r2,q2⟩:=tJ I s2;obtain⟨u,hu,ru⟩:=r1.get hx;obtain⟨v,hv,rv⟩:=r2.get hy;obtain⟨n1,n2,n3,n4,n5,n6,n7,n8,n9,Ti⟩:=ne;have f:=fun c hc=>hf c hc
  have D:ZipApart z TI TO i1 i2 a b:=⟨n1.symm,n2.symm,n3.symm,n4.symm,n5,n6,n7,n8,n9,Ti,g5 I s1 (f z (by simp)),g5 I s1 (f TO (by simp)),g5 I s1 (f i1 (by simp)),g5 I s1 (f i2 (by simp)),
   g5 I s2 (f z (by simp)),g5 I s2 (f TO (by simp)),g5 I s2 (f i1 (by simp)),g5 I s2 (f i2 (by simp))⟩
  have Mr:=st.2.1;refine nx_zip_item D st q1 q2 (by simpa using hu) (by simpa using hv) fun h' z1 t1 j1 j2 tp kk=>⟨_,rfl,?_⟩
  refine wpAny_letOwnedTupleGo_zip z1 fun h2 z2 sb=>?_
  have nT:H s.heap.objs.size=none:=I.hok.fresh (U6 _);have tT:s.heap.objs.size≠z:=ZG (U9 st.1);have all:∀c o,c≠z->c≠TO->c≠i1->c≠i2->s.heap.get? c=some o->h2.get? c=some o:=fun c o c1 c2 c3 c4 e=>(sb.2 c c1).trans (kk c o c1 c2 c3 c4 e)
  have fz:=f z (by simp);have fo:=f TO (by simp);have f1:=f i1 (by simp);have f2:=f i2 (by simp);have PB:∀c ob,H c=some ob->c≠z/\c≠TO/\c≠i1/\c≠i2:=fun c ob e=>⟨(fun q=>by rw[q,fz.1]at e;cases e),(fun q=>by rw[q,fo.1]at e;cases e),(fun q=>by rw[q,f1.1]at e;cases e),(fun q=>by rw[q,f2.1]at e;cases e)⟩
  refine⟨.ref s.heap.objs.size,upd H s.heap.objs.size (.tup [x,y]),?_,rfl,⟨_,nT,rfl,fun Kl ys' x' y' a1 a2 a3 a4=>?_⟩,⟨z2,?_,⟨u,v,(sb.2 TO n2.symm).trans t1⟩,j1.at fun o e=>(sb.2 i1 n3.symm).trans e,j2.at fun o e=>(sb.2 i2 n4.symm).trans e⟩,fun c hc=>?_⟩
  .have tup2:h2.get? s.heap.objs.size=some {cls:=.type "tuple",data:=.seq #[u,v]}:=(sb.2 _ tT).trans tp;have S0:Inv X pr σ (upd H s.heap.objs.size (.tup [x,y])) {s with heap:=h2,gens:=s.gens,drawn:=s.drawn,toks:=s.toks}:=by
    refine I.step (ch:=[z,TO,i1,i2]) (fun c hc=>?_) (fun c o _ _ nc e _=>all c o (fun q=>nc (by simp[q])) (fun q=>nc (by simp[q])) (fun q=>nc (by simp[q])) (fun q=>nc (by simp[q])) e)
     (fun c o _ _ nc e _=>⟨o.slots,all c o (fun q=>nc (by simp[q])) (fun q=>nc (by simp[q])) (fun q=>nc (by simp[q])) (fun q=>nc (by simp[q])) e⟩) (fun c o _ e n=>by rw[aF (Vk (U9 e))];exact n)
     (fun c o nc e=>⟨o,all c o (fun q=>nc (by simp[q])) (fun q=>nc (by simp[q])) (fun q=>nc (by simp[q])) (fun q=>nc (by simp[q])) e⟩) (fun c l e=>by rw[aF (bo e nT)];exact e) (fun c o u' e=>by rw[aF (bo e nT)];exact e)
     (fun c ps e=>⟨#[],by rw[aF (bo e nT),e];simp⟩) (fun m hm=>?_) (fun c ob e=>?_) I.bare
    .simp only[Vb,Wb,Z5]at hc;rcases hc with rfl|rfl|rfl|rfl
     .exact⟨fz.2.2.2.1,fz.2.1,fz.2.2.2.2.1,fz.2.2.2.2.2⟩
     .exact⟨fo.2.2.2.1,fo.2.1,fo.2.2.2.2.1,fo.2.2.2.2.2⟩
     .exact⟨f1.2.2.2.1,f1.2.1,f1.2.2.2.2.1,f1.2.2.2.2.2⟩
     .exact⟨f2.2.2.2.1,f2.2.1,f2.2.2.2.2.1,f2.2.2.2.2.2⟩
    .obtain⟨o,es,ep,ho,r⟩:=hm;exact⟨o,es,ep,all _ o (Wt fz.2.1) (Wt fo.2.1) (Wt f1.2.1) (Wt f2.2.1) ho,r⟩
    .by_cases ec:c=s.heap.objs.size
     .subst ec;rw[aU]at e;cases e;exact⟨by simp only[Vc,V8];rw[VT];decide,[u,v],.cons ru (.cons rv .nil),⟨_,tup2,rfl,⟨0,rfl⟩,rfl⟩⟩
     .rw[aF ec]at e;refine(I.hok c ob e).stay (fun d w' hd q=>?_) (fun d q=>by rw[aF (bo q nT)];exact q) fun d l q=>by rw[aF (bo q nT)];exact q
      have Q3:∃oo,H d=some oo:=by
       rcases hd with rfl|hd
       .exact⟨_,e⟩
       .exact⟨_,hd⟩
      obtain⟨oo,Tj⟩:=Q3;obtain⟨m1,m2,m3,m4⟩:=PB d oo Tj;exact all d w' m1 m2 m3 m4 q
   exact S0
  .have e1:=zm I a1 s1;have e2:=zm I a2 s2;subst e1 e2;rw[hx]at a3;rw[hy]at a4;cases a3;cases a4;rfl
  .exact(sb.2 TI n1.symm).trans (kk TI _ n1.symm n5 n6 n7 Mr)
  .have Sw:=(f c hc).1;have cs:c≠s.heap.objs.size:=by
    have:=(fun i h st=>by
     exact(by
      obtain⟨hz,Mr,⟨x,y,M4⟩,h1,h2⟩:=st;simp only[Vb,Wb,Z5]at hc;rcases hc with rfl|rfl|rfl|rfl|rfl
      .exact⟨_,hz⟩
      .exact⟨_,Mr⟩
      .exact⟨_,M4⟩
      .obtain⟨o,e,_⟩:=h1.obj;exact⟨o,e⟩
      .obtain⟨o,e,_⟩:=h2.obj;exact⟨o,e⟩:∃o,h.get? c=some o):∀i h,ZS k1 k2 z TI TO i1 i2 a b i h->∃o,h.get? c=some o) i s.heap st
    obtain⟨o,e⟩:=this;exact Vk (U9 e)
   rw[aF cs];exact Sw
 done:=by
  intro X hP hw hK hc i pr s σ H E I hf st hg;subst hP hw hK;obtain⟨xs,ys,s1,s2,hi⟩:=hg;obtain⟨us,r1,q1⟩:=tJ I s1;obtain⟨ws,r2,q2⟩:=tJ I s2;have l1:=r1.length;have l2:=r2.length;obtain⟨n1,n2,n3,n4,n5,n6,n7,n8,n9,Ti⟩:=ne;have f:=fun c hc=>hf c hc
  have D:ZipApart z TI TO i1 i2 a b:=⟨n1.symm,n2.symm,n3.symm,n4.symm,n5,n6,n7,n8,n9,Ti,g5 I s1 (f z (by simp)),g5 I s1 (f TO (by simp)),g5 I s1 (f i1 (by simp)),g5 I s1 (f i2 (by simp)),
   g5 I s2 (f z (by simp)),g5 I s2 (f TO (by simp)),g5 I s2 (f i1 (by simp)),g5 I s2 (f i2 (by simp))⟩
  have fz:=f z (by simp);have fo:=f TO (by simp);have f1:=f i1 (by simp);have f2:=f i2 (by simp);refine tL (I.ok.hd hc) D st q1 q2 (by
   rcases Nat.le_total us.length ws.length with q|q
   .exact .inl (by simp;lia)
   .exact .inr (by simp;lia)) fun h' kk=>⟨rfl,?_⟩
  have PB:∀c ob,H c=some ob->c≠z/\c≠TO/\c≠i1/\c≠i2:=fun c ob e=>⟨(fun q=>by rw[q,fz.1]at e;cases e),(fun q=>by rw[q,fo.1]at e;cases e),(fun q=>by rw[q,f1.1]at e;cases e),(fun q=>by rw[q,f2.1]at e;cases e)⟩
  have S0:Inv X pr σ H {s with heap:=h',gens:=s.gens,drawn:=s.drawn,toks:=s.toks}:=by
   refine I.step (ch:=[z,TO,i1,i2]) (fun c hc=>?_) (fun c o _ _ nc e _=>kk c o (fun q=>nc (by simp[q])) (fun q=>nc (by simp[q])) (fun q=>nc (by simp[q])) (fun q=>nc (by simp[q])) e)
    (fun c o _ _ nc e _=>⟨o.slots,kk c o (fun q=>nc (by simp[q])) (fun q=>nc (by simp[q])) (fun q=>nc (by simp[q])) (fun q=>nc (by simp[q])) e⟩) (fun c o _ e n=>n)
    (fun c o nc e=>⟨o,kk c o (fun q=>nc (by simp[q])) (fun q=>nc (by simp[q])) (fun q=>nc (by simp[q])) (fun q=>nc (by simp[q])) e⟩) (fun c l e=>e) (fun c o u' e=>e)
    (fun c ps e=>⟨#[],by rw[e];simp⟩) (fun m hm=>?_) (fun c ob e=>?_) I.bare
   .simp only[Vb,Wb,Z5]at hc;rcases hc with rfl|rfl|rfl|rfl
    .exact⟨fz.2.2.2.1,fz.2.1,fz.2.2.2.2.1,fz.2.2.2.2.2⟩
    .exact⟨fo.2.2.2.1,fo.2.1,fo.2.2.2.2.1,fo.2.2.2.2.2⟩
    .exact⟨f1.2.2.2.1,f1.2.1,f1.2.2.2.2.1,f1.2.2.2.2.2⟩
    .exact⟨f2.2.2.2.1,f2.2.1,f2.2.2.2.2.1,f2.2.2.2.2.2⟩
   .obtain⟨o,es,ep,ho,r⟩:=hm;exact⟨o,es,ep,kk _ o (Wt fz.2.1) (Wt fo.2.1) (Wt f1.2.1) (Wt f2.2.1) ho,r⟩
   .refine(I.hok c ob e).stay (fun d w' hd q=>?_) (fun d q=>q) fun d l q=>q
    have Q3:∃oo,H d=some oo:=by
     rcases hd with rfl|hd
     .exact⟨_,e⟩
     .exact⟨_,hd⟩
    obtain⟨oo,Tj⟩:=Q3;obtain⟨m1,m2,m3,m4⟩:=PB d oo Tj;exact kk d w' m1 m2 m3 m4 q
  exact S0
 self:=fun _ _ _ _ _ st h=>wpAny_pyIter_zip st.1 h
section
variable{X:Cx}{es:List Expr}{kt:Nat}{pt:Pos}
def Iu(K:W.Frag)(k1 k2:Bool)(ta:TA):TI:=fun σ H R=>ta σ H fun vs H1=>∃a b xs ys,vs=[.ref a,.ref b]/\(if k1 then SqL K H1 a xs else SqT K H1 a xs)/\(if k2 then SqL K H1 b ys else SqT K H1 b ys)/\R (Th K k1 k2 a b) H1
theorem DB(k1 k2:Bool){e1 e2:Expr}{ta:TA}{p pos:Pos}(hg:Gl X "zip")(hm:X.mg "zip" = none)(ha:PA X [e1,e2] ta)(he:starEach [e1,e2] X.env=(false,eval e1 X.env)::starEach [e2] X.env:=by rfl)(Ka:(backTo pos (starEach [e2] X.env)).any (·.1)=false:=by rfl):
  PI X (.Tuple es kt pt) (.Call (.Name "zip" p) [e1,e2] [] pos) (Iu X.K k1 k2 ta):=by
 intro pr s σ H R I h;refine WX (g8 I hg hm (by decide +kernel:bootBuiltins "zip" = some (.type "zip")) ?_ (by decide) (by decide));refine VM (Jt (ha pos pr s σ H _ I h) fun us s1 ⟨vs,H1,I1,r1,a,b,xs,ys,e,s1',s2',q⟩=>?_) he Ka;subst e;obtain⟨u,w',rfl,ra,rb⟩:=Aj r1;cases ra;cases rb;obtain⟨us,v1,q1⟩:=tJ I1 s1';obtain⟨ws,v2,q2⟩:=tJ I1 s2';refine AJ q1 q2 fun h' st kk=>?_
 refine wpAny_pyIter_zip st.1 ?_;have fr:∀j,uy X pr H1 (s1.heap.objs.size+j):=fun j=>I1.fpOk (Nat.le_add_right _ _) (I1.hok.fresh (Nat.le_add_right _ _))
 have nn:∀i j:Nat,i≠j->s1.heap.objs.size+i≠s1.heap.objs.size+j:=fun i j h z=>h (Nat.add_left_cancel z)
 refine⟨_,_,_,_,H1,rfl,I1.kept (t':=s1.toks) kk,xZ k1 k2 a b (s1.heap.objs.size+4) (s1.heap.objs.size+2) (s1.heap.objs.size+3) (s1.heap.objs.size+0) (s1.heap.objs.size+1)
  ⟨nn 4 2 (by decide),nn 4 3 (by decide),nn 4 0 (by decide),nn 4 1 (by decide),nn 2 3 (by decide),nn 2 0 (by decide),nn 2 1 (by decide),nn 3 0 (by decide),nn 3 1 (by decide),nn 0 1 (by decide)⟩,st,fun c hc=>?_,q⟩
 simp only[Vb,Wb,Z5]at hc;rcases hc with rfl|rfl|rfl|rfl|rfl
 .exact fr 4
 .exact fr 2
 .exact fr 3
 .exact fr 0
 .exact fr 1
end
end NX
namespace NX
open PySem PySem.W PyProof.Rows
section
variable{n:Nat}{O:KeyOrd}{κ:Nat->O.α}{cmp:Nat->Nat->(Bool->Yw->Prop)->Yw->Prop}{Good:Yw->Prop}
def kk(κ:Nat->O.α)(p:Array Nat)(i:Nat):O.α:=κ (p.getD i 0)
structure POk(n:Nat)(p:Array Nat):Prop where
 perm:p.toList.Perm (List.range n)
theorem POk.size{p:Array Nat}(h:POk n p):p.size=n:=by
 have:=h.perm.length_eq;simpa using this
theorem POk.lt{p:Array Nat}(h:POk n p){i:Nat}(hi:i<n):p.getD i 0<n:=by
 have hs:=h.size;have N3:i<p.size:=by lia
 have e:p.getD i 0=p[i]:=by simp[Array.getD,N3]
 rw[e];exact VF.mp (h.perm.mem_iff.mp (Array.getElem_mem_toList N3))
theorem POk.of{p q:Array Nat}(h:POk n p)(hq:q.Perm p):POk n q:=⟨(Array.perm_iff_toList_perm.mp hq).trans h.perm⟩
def bA(κ:Nat->O.α)(p:Array Nat)(m:Nat):Prop:=∀i j,i<=j->j<m->O.kle (kk κ p i) (kk κ p j)
def fI(κ:Nat->O.α)(p:Array Nat)(m:Nat):Prop:=∀i j,i<=j->j<m->O.kle (kk κ p j) (kk κ p i)
theorem e7{p q:Array Nat}{i j:Nat}(h:p[i]?=q[j]?):p.getD i 0=q.getD j 0:=by
 rw[XZ,XZ,h]
theorem q0{p:Array Nat}{i j:Nat}(hj:j<=p.size)(k:Nat):kk κ (kas_rev p i j) k=if i<=k/\k<j then kk κ p (i+j-1-k) else kk κ p k:=by
 have e:=getElem?_mirror_all (i:=i) hj k;unfold kk kas_rev;split
 .rename_i h;rw[U5 h]at e;rw[e7 e]
 .rename_i h;rw[U8 h]at e;rw[e7 e]
theorem zo{p:Array Nat}{src d:Nat}(hs:src<p.size)(hd:d<=src)(k:Nat):kk κ (bubble p src d) k=if k=src-d then kk κ p src else if src-d<k/\k<=src then kk κ p (k-1) else kk κ p k:=by
 have e:=getElem?_bubble hs d hd k;by_cases h:k=src-d
 .rw[U5 h]at e ⊢;exact V5 κ (e7 e)
 .rw[U8 h]at e ⊢;by_cases h2:src-d<k/\k<=src
  .rw[U5 h2]at e ⊢;exact V5 κ (e7 e)
  .rw[U8 h2]at e ⊢;exact V5 κ (e7 e)
theorem POk.rev{p:Array Nat}(h:POk n p)(i j:Nat):POk n (kas_rev p i j):=h.of (mirror_perm _ _ _ _)
theorem POk.bub{p:Array Nat}(h:POk n p)(i j:Nat):POk n (bubble p i j):=h.of (bubble_perm _ _ _)
theorem tM(p:Array Nat):bA κ p 1:=fun i j a b=>by
 have e:i=j:=by lia
 rw[e];exact Wr _
theorem p3{p:Array Nat}{m:Nat}(h1:1<=m)(h:bA κ p m)(hm:O.kle (kk κ p (m-1)) (kk κ p m)):bA κ p (m+1):=by
 intro i j N4 hj;by_cases e:j=m
 .subst e;by_cases e2:i=j
  .subst e2;exact Wr _
  .exact XF (h i (j-1) (by lia) (by lia)) hm
 .exact h i j N4 (by lia)
theorem e8{p:Array Nat}{m:Nat}(h1:1<=m)(h:fI κ p m)(hm:O.kle (kk κ p m) (kk κ p (m-1))):fI κ p (m+1):=by
 intro i j N4 hj;by_cases e:j=m
 .subst e;by_cases e2:i=j
  .subst e2;exact Wr _
  .exact XF hm (h i (j-1) (by lia) (by lia))
 .exact h i j N4 (by lia)
variable(hc:∀i j,i<n->j<n->∀(Q:Bool->Yw->Prop) s,Good s->(∀s',Good s'->Q (O.blt (κ i) (κ j)) s')->cmp i j Q s)
include hc
theorem vf{p:Array Nat}(hp:POk n p){JN:Nat}(hn:JN<=n){Q:Nat->Yw->Prop}:∀(f m:Nat) (s:Yw),Good s->1<=m->m+f=JN->bA κ p m->
  (∀r s',Good s'->m<=r->r<=JN->bA κ p r->(r<JN->O.klt (kk κ p r) (kk κ p (r-1)))->Q r s')->(kas_asc p f m).kasWp cmp Q s
 | 0,m,s,g,h1,hf,hs,k=>k m s g (U6 _) (by lia) hs (fun z=>by lia)
 |f+1,m,s,g,h1,hf,hs,k=>by
  show cmp (p.getD m 0) (p.getD (m-1) 0) _ s;refine hc _ _ (hp.lt (by lia)) (hp.lt (by lia)) _ s g fun s' g'=>?_
  cases e:O.blt (κ (p.getD m 0)) (κ (p.getD (m-1) 0)) with
  |true=>
   (try dsimp only)
   rw[U5 rfl];exact k m s' g' (U6 _) (by lia) hs fun _=>e
  |false=>
   (try dsimp only)
   rw[U8 U3];exact vf hp hn f (m+1) s' g' (by lia) (by lia) (p3 h1 hs e) fun r s2 g2 a b c d=>k r s2 g2 (by lia) b c d
def AK(κ:Nat->O.α)(p:Array Nat)(m q:Nat):Prop:=∀k,m-(q+1)<=k->k<m->kk κ p k=kk κ p (m-1)
omit hc in
theorem oC{p:Array Nat}{m q:Nat}(hm:m<=p.size)(h:AK κ p m q)(k:Nat):kk κ (kas_rev p (m-(q+1)) m) k=kk κ p k:=by
 rw[q0 hm];split
 .rename_i hk;rw[h _ (by lia) (by lia),h k hk.1 hk.2]
 .rfl
omit hc in
theorem jv{p p':Array Nat}{m:Nat}(e:∀k,kk κ p' k=kk κ p k)(h:fI κ p m):fI κ p' m:=fun i j a b=>by rw[e,e];exact h i j a b
theorem mL{JN:Nat}(hn:JN<=n){Q:Array Nat×Nat×Nat->Yw->Prop}:∀(f:Nat) (p:Array Nat) (m q:Nat) (s:Yw),POk n p->Good s->1<=m->q+1<=m->m+f=JN->fI κ p m->AK κ p m q->
  (∀p' m' q' s',POk n p'->Good s'->m<=m'->m'<=JN->q'+1<=m'->fI κ p' m'->AK κ p' m' q'->Q (p',m',q') s')->(kas_desc f p m q).kasWp cmp Q s
 | 0,p,m,q,s,hp,g,h1,hq,hf,hs,ha,k=>k p m q s hp g (U6 _) (by lia) hq hs ha
 |f+1,p,m,q,s,hp,g,h1,hq,hf,hs,ha,k=>by
  show cmp (p.getD m 0) (p.getD (m-1) 0) _ s;refine hc _ _ (hp.lt (by lia)) (hp.lt (by lia)) _ s g fun s' g'=>?_
  have hsz:=hp.size;cases e:O.blt (κ (p.getD m 0)) (κ (p.getD (m-1) 0)) with
  |true=>
   (try dsimp only)
   rw[U5 rfl];have le:O.kle (kk κ p m) (kk κ p (m-1)):=Xw e;by_cases h0:q>0
   .rw[U5 h0];have same:=oC (κ:=κ) (p:=p) (m:=m) (q:=q) (by lia) ha;refine mL hn f _ (m+1) 0 s' (hp.rev _ _) g' (by lia) (by lia) (by lia) (e8 h1 (jv same hs) (by rw[same,same];exact le)) ?_ fun p' m' q' s2 a b c d e' f' g2=>k p' m' q' s2 a b (by lia) d e' f' g2
    intro k' a b;have:k'=m:=by lia
    rw[this];rfl
   .rw[U8 h0];refine mL hn f p (m+1) 0 s' hp g' (by lia) (by lia) (by lia) (e8 h1 hs le) ?_ fun p' m' q' s2 a b c d e' f' g2=>k p' m' q' s2 a b (by lia) d e' f' g2
    intro k' a b;have:k'=m:=by lia
    rw[this];rfl
  |false=>
   (try dsimp only)
   rw[U8 U3];show cmp (p.getD (m-1) 0) (p.getD m 0) _ s';refine hc _ _ (hp.lt (by lia)) (hp.lt (by lia)) _ s' g' fun s2 g2=>?_
   cases e2:O.blt (κ (p.getD (m-1) 0)) (κ (p.getD m 0)) with
   |true=>
    (try dsimp only)
    rw[U5 rfl];exact k p m q s2 hp g2 (U6 _) (by lia) hq hs ha
   |false=>
    (try dsimp only)
    rw[U8 U3];have eq:kk κ p (m-1)=kk κ p m:=KeyOrd.kle_antisymm (O:=O) e e2;refine mL hn f p (m+1) (q+1) s2 hp g2 (by lia) (by lia) (by lia) (e8 h1 hs (by rw[eq];exact Wr _)) ?_ fun p' m' q' s3 a b c d e' f' g3=>k p' m' q' s3 a b (by lia) d e' f' g3
    intro k' a b;show kk κ p k'=kk κ p m;by_cases z:k'=m
    .rw[z]
    .rw[ha k' (by lia) (by lia),eq]
omit hc in
theorem tN{p:Array Nat}{m:Nat}(hm:m<=p.size)(h:fI κ p m):bA κ (kas_rev p 0 m) m:=by
 intro i j a b;rw[q0 hm,q0 hm,U5 (by lia),U5 (by lia)];exact h _ _ (by lia) (by lia)
theorem vg{p:Array Nat}(hp:POk n p){m JN:Nat}(hn:JN<=n)(h1:1<=m)(hm:m<=JN)(hs:fI κ p m){Q:Nat×Array Nat->Yw->Prop}{s:Yw}(g:Good s)
  (k:∀r p' s',POk n p'->Good s'->1<=r->r<=JN->bA κ p' r->Q (r,p') s'):(kas_tail3 m JN p).kasWp cmp Q s:=by
 unfold kas_tail3;rw[KasT.kasWp_bind];have hsz:=hp.size;refine vf hc (hp.rev 0 m) hn (JN-m) m s g h1 (by lia) (tN (by lia) hs) fun r s' g' a b c _=>?_
 exact k r _ s' (hp.rev 0 m) g' (by lia) b c
theorem kI{p:Array Nat}(hp:POk n p){m JN:Nat}(hn:JN<=n)(h1:1<=m)(hm:m+1<=JN)(hs:fI κ p (m+1)){Q:Nat×Array Nat->Yw->Prop}{s:Yw}(g:Good s)
  (k:∀r p' s',POk n p'->Good s'->1<=r->r<=JN->bA κ p' r->Q (r,p') s'):(kas_descPart m JN p).kasWp cmp Q s:=by
 unfold kas_descPart;rw[KasT.kasWp_bind];refine mL hc hn (JN-(m+1)) p (m+1) 0 s hp g (by lia) (by lia) (by lia) hs ?_ fun p' m' q' s' a b c d e f g2=>?_
 .intro k' a b;have:k'=m:=by lia
  rw[this];rfl
 .have hsz:=a.size;dsimp only;split
  .have same:=oC (κ:=κ) (p:=p') (m:=m') (q:=q') (by lia) g2;exact vg hc (a.rev _ _) hn (by lia) d (jv same f) b k
  .exact vg hc a hn (by lia) d f b k
theorem x3{p:Array Nat}(hp:POk n p){JN:Nat}(hn:JN<=n)(h1:1<=JN){Q:Nat×Array Nat->Yw->Prop}{s:Yw}(g:Good s)
  (k:∀r p' s',POk n p'->Good s'->1<=r->r<=JN->bA κ p' r->Q (r,p') s'):(kas_count JN p).kasWp cmp Q s:=by
 unfold kas_count;rw[KasT.kasWp_bind];have hsz:=hp.size;refine vf hc hp hn (JN-1) 1 s g (U6 _) (by lia) (tM p) fun m s' g' a b c d=>?_
 by_cases e:m=JN
 .rw[U5 (by simpa using e)];exact k m p s' hp g' (by lia) (by lia) c
 .rw[U8 (by simpa using e)];have dd:=d (by lia);by_cases h2:m>1
  .rw[U5 h2];show cmp (p.getD 0 0) (p.getD (m-1) 0) _ s';refine hc _ _ (hp.lt (by lia)) (hp.lt (by lia)) _ s' g' fun s2 g2=>?_
   cases e2:O.blt (κ (p.getD 0 0)) (κ (p.getD (m-1) 0)) with
   |true=>
    (try dsimp only)
    rw[U5 rfl];exact k m p s2 hp g2 (by lia) b c
   |false=>
    (try dsimp only)
    rw[U8 U3];have eq:∀i,i<m->kk κ p i=kk κ p 0:=fun i hi=>by
     have x1:=c 0 i (by lia) hi;have x2:=c i (m-1) (by lia) (by lia);exact KeyOrd.kle_antisymm (O:=O) (XF x2 e2) x1
    have same:∀i,kk κ (kas_rev p 0 m) i=kk κ p i:=fun i=>by
     rw[q0 (by lia)];split
     .rw[eq _ (by lia),eq i (by lia)]
     .rfl
    refine kI hc (hp.rev 0 m) hn (by lia) (by lia) ?_ g2 k;refine jv same (e8 (by lia) (fun i j x y=>?_) (Xw dd));rw[eq i (by lia),eq j y];exact Wr _
  .rw[U8 h2];refine kI hc hp hn (by lia) (by lia) (e8 (by lia) (fun i j x y=>?_) (Xw dd)) g' k;have:i=j:=by lia
   rw[this];exact Wr _
theorem mM{p:Array Nat}(hp:POk n p){t:Nat}(ht:t<n)(hs:bA κ p t){Q:Nat->Yw->Prop}:∀(f l r:Nat) (s:Yw),Good s->l<=r->r<=t->r-l<=f->(∀i,i<l->O.kle (kk κ p i) (kk κ p t))->(∀i,r<=i->i<t->O.klt (kk κ p t) (kk κ p i))->
  (∀x s',Good s'->x<=t->(∀i,i<x->O.kle (kk κ p i) (kk κ p t))->(∀i,x<=i->i<t->O.klt (kk κ p t) (kk κ p i))->Q x s')->(kas_place p t f l r).kasWp cmp Q s
 | 0,l,r,s,g,h1,h2,h3,lo,hi,k=>k l s g (by lia) lo fun i a b=>hi i (by lia) b
 |f+1,l,r,s,g,h1,h2,h3,lo,hi,k=>by
  unfold kas_place;by_cases e:l>=r
  .rw[U5 e];exact k l s g (by lia) lo fun i a b=>hi i (by lia) b
  .rw[U8 e];show cmp (p.getD t 0) (p.getD ((l+r) / 2) 0) _ s;refine hc _ _ (hp.lt ht) (hp.lt (by lia)) _ s g fun s' g'=>?_
   cases e2:O.blt (κ (p.getD t 0)) (κ (p.getD ((l+r) / 2) 0)) with
   |true=>
    (try dsimp only)
    rw[U5 rfl];refine mM hp ht hs f l ((l+r) / 2) s' g' (by lia) (by lia) (by lia) lo (fun i a b=>?_) k;exact KeyOrd.klt_of_klt_of_kle (O:=O) e2 (hs _ i a b)
   |false=>
    (try dsimp only)
    rw[U8 U3];refine mM hp ht hs f ((l+r) / 2+1) r s' g' (by lia) (by lia) (by lia) (fun i a=>?_) hi k;exact XF (O:=O) (hs i ((l+r) / 2) (by lia) (by lia)) e2
theorem zp{Q:Array Nat->Yw->Prop}:∀(f:Nat) (p:Array Nat) (t:Nat) (s:Yw),POk n p->Good s->t+f=n->bA κ p t->(∀p' s',POk n p'->Good s'->bA κ p' n->Q p' s')->(kas_bin f p t).kasWp cmp Q s
 | 0,p,t,s,hp,g,hf,hs,k=>k p s hp g (by rw[show n=t by lia];exact hs)
 |f+1,p,t,s,hp,g,hf,hs,k=>by
  unfold kas_bin;rw[KasT.kasWp_bind];have hsz:=hp.size;refine mM hc hp (by lia) hs t 0 t s g (VD _) (U6 _) (by lia) (fun i a=>by lia) (fun i a b=>by lia) fun x s' g' hx lo hi=>?_
  refine zp f _ (t+1) s' (hp.bub _ _) g' (by lia) ?_ k;have ex:t-(t-x)=x:=by lia
  intro i j a b;rw[zo (by lia) (by lia),zo (by lia) (by lia),ex];have lo':=lo;by_cases i1:i=x
  .by_cases j1:j=x
   .rw[U5 i1,U5 j1];exact Wr _
   .rw[U5 i1,U8 j1,U5 (by lia)];exact Xw (hi (j-1) (by lia) (by lia))
  .rw[U8 i1];by_cases i2:x<i/\i<=t
   .rw[U5 i2,U8 (by lia),U5 (by lia)];exact hs (i-1) (j-1) (by lia) (by lia)
   .rw[U8 i2];by_cases j1:j=x
    .rw[U5 j1];exact lo i (by lia)
    .rw[U8 j1];by_cases j2:x<j/\j<=t
     .rw[U5 j2];exact hs i (j-1) (by lia) (by lia)
     .rw[U8 j2];exact hs i j a (by lia)
theorem AL(h1:1<=n){Q:Array Nat->Yw->Prop}{s:Yw}(g:Good s)(k:∀p s',POk n p->Good s'->bA κ p n->Q p s'):(kas_sort n).kasWp cmp Q s:=by
 unfold kas_sort;rw[KasT.kasWp_bind];refine x3 hc (p:=List.toArray (List.range n)) ⟨by simp⟩ (U6 _) h1 g fun r p' s' hp g' a b c=>?_
 dsimp only;split
 .have e:max r 1=r:=by lia
  rw[e];exact zp hc (n-r) p' r s' hp g' (by lia) c k
 .exact k p' s' hp g' (by rw[show n=r by lia];exact c)
end
end NX
namespace NX
open PySem PySem.W PySem.Spec PyProof.Rows L2
section
variable{prog:Yy}{w:World}{A:Yz}{E:Yu->Yw->Prop}{s:Yw}
theorem rg(n:Nat):POk n (List.toArray (List.range n)):=⟨by simp⟩
theorem iS{O:KeyOrd}{key:Nat->O.α}{kd:SortKind}{a:Yx}{vs:List Yu}{n:Nat}{P:PySem.Fin->Yw->Prop}(ho:s.heap.get? a=some (seqObj "list" vs.toArray n))(M5:vs.length<64)
  (Li:2<=vs.length->∀(h':YB),(∀b o,b≠a->s.heap.get? b=some o->h'.get? b=some o)->∀Q:SortKind->Yw->Prop,Q kd {s with heap:=h'}->wpAny (model prog w) A (keyKind' vs.toArray) Q E {s with heap:=h'})
  (Nx:∀i j,i<vs.length->j<vs.length->∀(h':YB),(∀b o,b≠a->s.heap.get? b=some o->h'.get? b=some o)->∀C:Bool->Yw->Prop,C (O.blt (key i) (key j)) {s with heap:=h'}->kas_ask prog w A kd vs i j C {s with heap:=h'})
  (h:∀p h',POk vs.length p->bA key p vs.length->(∃e,h'.get? a=some (seqObj "list" (List.toArray (p.toList.map fun i=>vs.getD i .none)) e))->(∀b o,b≠a->s.heap.get? b=some o->h'.get? b=some o)->P (.done (.ret .none)) {s with heap:=h'}):
  wpAny (model prog w) A (Builtin.«list.sort» ⟨[.ref a],[]⟩) P E s:=by
 rw[list_sort_plain];have la:a<s.heap.objs.size:=U9 ho;have zs:vs.toArray.size=vs.length:=by simp
 refine UX (listItems_at ho rfl (UX (listUpdate_at ho rfl ?_ (by rw[zs,VT];lia) (VD _))));obtain⟨e1,h1⟩:∃e1,(s.heap.update a (Obj.mapSeq fun _=>#[])).get? a=some (seqObj "list" #[] e1):=⟨_,get?_update_seq ho (fun _=>#[])⟩
 refine UX (seqEpoch_at h1 rfl (UX (wpAny_newTuple (UX (Zg (WA ?_))) (by simp only[XT];rw[VT];lia))));generalize e6:((s.heap.update a (Obj.mapSeq fun _=>#[])).push {cls:=.type "tuple",data:=.seq vs.toArray.toList.toArray}).push {cls:=.type "list",data:=.seq ([]:List Yu).toArray}=h6;have k6:∀b o,b≠a->s.heap.get? b=some o->h6.get? b=some o:=fun b o nb e=>by
  rw[<-e6];exact Heap.get?_push_of_some _ (Heap.get?_push_of_some _ ((Heap.get?_update_other _ _ (Wt nb)).trans e))
 have Ro:h6.get? a=some (seqObj "list" #[] e1):=by
  rw[<-e6];exact Heap.get?_push_of_some _ (Heap.get?_push_of_some _ h1)
 dsimp only;have fin:∀(p:Array Nat),POk vs.length p->bA key p vs.length->∀out:Array Yu,out=List.toArray (p.toList.map fun i=>vs.getD i .none)->
   P (.done (.ret .none)) {s with heap:=h6.update a (Obj.mapSeq fun _=>out)}:=fun p hp hs out eo=>by
  subst eo;exact h p _ hp hs ⟨_,get?_update_seq Ro _⟩ fun b o nb e=>(Heap.get?_update_other _ _ (Wt nb)).trans (k6 b o nb e)
 have fits:∀{out:Array Yu}{p:Array Nat},POk vs.length p->out=List.toArray (p.toList.map fun i=>vs.getD i .none)->out.size<=sizeLine+1:=fun{out p} hp e=>by
  rw[e,U0,UZ,hp.perm.length_eq,Vi,VT];lia
 by_cases h2:vs.toArray.size<2
 .rw[U5 h2,U5 h2];refine UX (U1 ?_);rw[StateT.run_pure];refine UX (U1 ?_);dsimp only;have eo:(arrOf (SortSt.mk' general' (vs.toArray.zip vs.toArray) #[] 7 none)).map (·.2)=List.toArray ((List.toArray (List.range vs.length)).toList.map fun i=>vs.getD i .none):=by
   show(vs.toArray.zip vs.toArray).map (·.2)=_;apply Array.toList_inj.mp;simp only[Array.toList_map,Array.toList_zip,XT];have a1:(vs.zip vs).map (·.2)=vs:=by
    rw[List.map_snd_zip];exact U6 _
   rw[a1];apply Xx;intro i;by_cases hi:i<vs.length
   .simp[hi]
   .simp[hi]
  refine UX (seqEpoch_at Ro rfl (UX (listUpdate_at Ro rfl ?_ (VD _) (fits (rg _) eo))));simp only[Yb,V7,XB];refine U1 (fin _ (rg _) ?_ _ eo);intro i j x y;have:i=j:=by lia
  rw[this];exact Wr _
 .rw[U8 h2,U8 h2];have Tn:2<=vs.length:=by lia
  refine UX (Li Tn h6 k6 _ ?_);refine UX (Xg (kat_run (ks:=vs) (vs:=vs) (Q:=fun Kx s'=>∃p,POk vs.length p/\bA key p vs.length/\arrOf Kx=p.map (kas_item (vs.toArray.zip vs.toArray))/\failedOf Kx=none/\s'={s with heap:=h6})
   (G:=fun p s'=>POk vs.length p/\bA key p vs.length/\s'={s with heap:=h6}) rfl Tn M5 (fun p Kx s' hz To hf hg=>⟨p,hg.1,hg.2.1,To,hf,hg.2.2⟩)
   (AL (n:=vs.length) (O:=O) (κ:=key) (Good:=fun s'=>s'={s with heap:=h6}) (fun i j hi hj Q s' g k=>?_) (by lia) rfl fun p s' hp g hs=>⟨hp,hs,g⟩)) (fun r s' hq=>?_) fun _ _ e=>e)
  .subst g;exact Nx i j hi hj h6 k6 Q (k _ rfl)
  .obtain⟨p,hp,hs,To,hf,rfl⟩:=hq;have eo:=kat_snds (ks:=vs) (vs:=vs) rfl To;refine UX (seqEpoch_at Ro rfl (UX (listUpdate_at Ro rfl ?_ (VD _) (fits hp eo))));rw[hf];simp only[Yb,V7,XB];exact U1 (fin p hp hs _ eo)
theorem jw{O:KeyOrd}{key:Nat->O.α}{kd:SortKind}{l:Yx}{vs:List Yu}{Q:Yu->Yw->Prop}(hl:s.heap.IsList l vs.toArray)(M5:vs.length<64)
  (Li:2<=vs.length->∀(A':Yz) (E':Yu->Yw->Prop) (h':YB),(∀b o,s.heap.get? b=some o->h'.get? b=some o)->∀Q:SortKind->Yw->Prop,Q kd {s with heap:=h'}->wpAny (model prog w) A' (keyKind' vs.toArray) Q E' {s with heap:=h'})
  (Nx:∀i j,i<vs.length->j<vs.length->∀(h':YB),(∀b o,s.heap.get? b=some o->h'.get? b=some o)->∀C:Bool->Yw->Prop,C (O.blt (key i) (key j)) {s with heap:=h'}->kas_ask prog w A.in1.in1 kd vs i j C {s with heap:=h'})
  (h:∀p h' e,POk vs.length p->bA key p vs.length->h'.get? (s.heap.objs.size+1)=some (seqObj "list" (List.toArray (p.toList.map fun i=>vs.getD i .none)) e)->(∀b o,s.heap.get? b=some o->h'.get? b=some o)->Q (.ref (s.heap.objs.size+1)) {s with heap:=h'}):
  wpAny (model prog w) A (call (.builtin "sorted") [.ref l]) Q E s:=by
 refine Xa kind_sorted plain_sorted entry_sorted (args_sorted1 _) ?_;unfold Builtin.«sorted»;refine UX (m:=checkCount "sorted" 1 1 _) (U1 (UX (collect_list hl (UX (Zg ?_ (by rw[VT];lia))) (by rw[VT];lia))));have zz:((s.heap.push (seqObj "list" #[] 0)).update s.heap.objs.size (Obj.mapSeq (·++vs.toArray))).objs.size=s.heap.objs.size+1:=by rw[Heap.size_update,size_push']
 generalize e5:(s.heap.push (seqObj "list" #[] 0)).update s.heap.objs.size (Obj.mapSeq (·++vs.toArray))=h5 at zz ⊢;have k5:∀b o,s.heap.get? b=some o->(h5.push (seqObj "list" vs.toArray 0)).get? b=some o:=fun b o e=>by
  rw[<-e5];exact Heap.get?_push_of_some _ ((Heap.get?_update_other _ _ (Wt (Vk (U9 e)))).trans (Heap.get?_push_of_some _ e))
 have hL:(h5.push (seqObj "list" vs.toArray 0)).get? (s.heap.objs.size+1)=some (seqObj "list" vs.toArray 0):=by
  rw[<-zz];exact Heap.get?_push_size _ rfl
 have ne:∀b o,s.heap.get? b=some o->b≠s.heap.objs.size+1:=fun b o e=>Vk (Yd (U9 e))
 show wpAny _ _ _ _ _ {s with heap:=h5.push (seqObj "list" vs.toArray 0)};rw[zz];refine UX (WA (VQ slot_list_sort ⟨_,hL,rfl⟩ entry_list_sort (iS (key:=key) (kd:=kd) hL M5 (fun h2 h' kk Q' q=>Li h2 _ _ h' (fun b o e=>kk b o (ne b o e) (k5 b o e)) Q' q)
  (fun i j hi hj h' kk C q=>Nx i j hi hj h' (fun b o e=>kk b o (ne b o e) (k5 b o e)) C q) fun p h' hp hs ⟨e,he⟩ kk=>⟨_,rfl,?_⟩) (args_list_sort _)))
 exact U1 ⟨_,rfl,h p h' e hp hs he fun b o q=>kk b o (ne b o q) (k5 b o q)⟩
end
def intO:KeyOrd where
 α:=Int
 blt a b:=decide (a<b)
 irrefl a:=by simp
 trans a b c h1 h2:=by simp only[Ve] at *;lia
 negTrans a b c h:=by simp only[Ve] at *;lia
 total a b h1 h2:=by simp only[VZ] at *;lia
abbrev Hu:KeyOrd:=strKind.toKeyOrd
noncomputable def pR:KeyOrd where
 α:=Key
 blt a b:=match a,b with
  | .inl i,.inl j=>decide (i<j)
  | .inr x,.inr y=>decide (x.cps.toList<y.cps.toList)
  | .inl _,.inr _=>true
  | .inr _,.inl _=>false
 irrefl a:=by
  cases a with
  |inl i=>simp
  |inr x=>simpa using List.lt_irrefl x.cps.toList
 trans a b c h1 h2:=by
  cases a <;> cases b <;> cases c <;> simp_all
  .lia
  .exact List.lt_trans h1 h2
 negTrans a b c h:=by
  cases a <;> cases b <;> cases c <;> simp_all
  .lia
  .rename_i x y z;by_cases q:x.cps.toList<y.cps.toList
   .exact .inl q
   .exact .inr (List.lt_of_le_of_lt (Yn.mp q) h)
 total a b h1 h2:=by
  cases a <;> cases b <;> simp_all
  .lia
  .rename_i x y;have e:x.cps.toList=y.cps.toList:=List.le_antisymm (by first|exact h2|exact Yn.mp h2) (by first|exact h1|exact Yn.mp h1);rw[<-oz x,<-oz y,e]
def dN:List Key->List Key->Bool
 |[],[]=>false
 |[],_::_=>true
 |_::_,[]=>false
 |a::r,b::t=>if a=b then dN r t else pR.blt a b
theorem iq:∀a:List Key,dN a a=false
 |[]=>rfl
 |a::r=>by
  show(if a=a then dN r r else _)=false;rw[U5 rfl];exact iq r
def AM{a b:Key}(h:pR.blt a b=true):a≠b:=by
 rintro rfl;have:=pR.irrefl a;rw[h]at this;cases this
theorem gP:∀a b c:List Key,dN a b=true->dN b c=true->dN a c=true
 |[],[],_,h,_=>by cases h
 |[],_::_,[],_,h=>by cases h
 |[],_::_,_::_,_,_=>rfl
 |_::_,[],_,h,_=>by cases h
 |_::_,_::_,[],_,h=>by cases h
 |a::r,b::t,c::u,h1,h2=>by
  have h1:(if a=b then dN r t else pR.blt a b)=true:=h1;have h2:(if b=c then dN t u else pR.blt b c)=true:=h2;show(if a=c then dN r u else pR.blt a c)=true;by_cases e1:a=b
  .by_cases e2:b=c
   .rw[U5 e1]at h1;rw[U5 e2]at h2;rw[U5 (e1.trans e2)];exact gP r t u h1 h2
   .rw[U8 e2]at h2;rw[e1,U8 e2];exact h2
  .rw[U8 e1]at h1;by_cases e2:b=c
   .rw[<-e2,U8 e1];exact h1
   .rw[U8 e2]at h2;have h3:=pR.trans a b c h1 h2;rw[U8 (AM h3)];exact h3
theorem gQ:∀a b:List Key,dN a b=false->dN b a=false->a=b
 |[],[],_,_=>rfl
 |[],_::_,h,_=>by cases h
 |_::_,[],_,h=>by cases h
 |a::r,b::t,h1,h2=>by
  have h1:(if a=b then dN r t else pR.blt a b)=false:=h1;have h2:(if b=a then dN t r else pR.blt b a)=false:=h2;by_cases e:a=b
  .rw[U5 e]at h1;rw[U5 e.symm]at h2;rw[e,gQ r t h1 h2]
  .rw[U8 e]at h1;rw[U8 (Wt e)]at h2;exact absurd (pR.total a b h1 h2) e
def x4(a b c:List Key)(h:dN a c=true):dN a b=true\/dN b c=true:=by
 cases e:dN a b with
 |true=>exact .inl rfl
 |false=>
  refine .inr ?_;cases e2:dN b a with
  |true=>exact gP b a c e2 h
  |false=>
   rw[<-gQ a b e e2];exact h
def FA:KeyOrd where
 α:=List Key
 blt:=dN
 irrefl:=iq
 trans:=gP
 negTrans:=x4
 total:=gQ
section
variable{O:KeyOrd}
def tP(p:Array Nat)(xs:List V):List V:=p.toList.map fun i=>xs.getD i .non
theorem lP{α:Type}(xs:List α)(d:α):((List.range xs.length).map fun i=>xs.getD i d)=xs:=by
 apply Xx;intro i;by_cases hi:i<xs.length
 .simp[hi]
 .simp[hi]
theorem kq{α:Type}{p:Array Nat}{xs:List α}(d:α)(hp:POk xs.length p):(p.toList.map fun i=>xs.getD i d).Perm xs:=by
 have:=hp.perm.map (fun i=>xs.getD i d)
 rwa [lP]at this
theorem gR{α:Type}{p:Array Nat}{xs:List α}(d:α)(key:α->O.α)(hp:POk xs.length p)(hs:bA (O:=O) (fun i=>key (xs.getD i d)) p xs.length):(p.toList.map fun i=>xs.getD i d).Pairwise fun a b=>O.kle (key a) (key b):=by
 rw[WG];intro i j hi hj N4;have hsz:=hp.size;have N3:i<p.size:=by simpa using hi
 have PD:j<p.size:=by simpa using hj
 have h:=hs i j (YD N4) (by lia);unfold kk at h;simp only[List.getElem_map,Array.getElem_toList];have e1:p.getD i 0=p[i]:=by simp[Array.getD,N3]
 have e2:p.getD j 0=p[j]:=by simp[Array.getD,PD]
 rw[e1,e2]at h;exact h
theorem vals_pick{xs:List V}{us:List Yu}(r:Vals xs us):∀l:List Nat,(∀i∈l,i<xs.length)->Vals (l.map fun i=>xs.getD i .non) (l.map fun i=>us.getD i .none)
 |[],_=>.nil
 |i::l,h=>by
  refine .cons ?_ (vals_pick r l fun j hj=>h j (U4 _ hj));have hi:=h i UY;have e1:xs[i]?=some (xs.getD i .non):=by rw[bI _ _ _ hi];exact List.getElem?_eq_getElem hi
  obtain⟨u,hu,ru⟩:=r.get e1;have e2:us.getD i .none=u:=by rw[List.getD_eq_getElem?_getD,hu];rfl
  show L2.RelV (xs.getD i .non) (us.getD i .none);rw[e2];exact ru
theorem kr{xs:List V}{us:List Yu}{p:Array Nat}(r:Vals xs us)(hp:POk xs.length p):Vals (tP p xs) (p.toList.map fun i=>us.getD i .none):=
 vals_pick r _ fun i hi=>VF.mp (hp.perm.mem_iff.mp hi)
end
section
variable{X:Cx}
theorem iT{pr:List (Yx×Obj)}{s:Yw}{σ:L2.St}{H:Hp}{h':YB}{ys:List V}{us:List Yu}{e:Nat}{D:Yx}(I:Inv X pr σ H s)(kk:∀b o,s.heap.get? b=some o->h'.get? b=some o)(hD:s.heap.objs.size<=D)
  (ho:h'.get? D=some (seqObj "list" (List.toArray us) e)) (r:Vals ys us) (hz:ys.length<=sizeLine):Inv X pr σ (upd H D (.lst ys)) {s with heap:=h'}:=
 I.laid (t':=s.toks) kk hD ⟨hz,us,e,r,ho⟩
theorem j9(hc:X.calm=true):dS X (.builtin "sorted") (fun vs H Q=>∃(p:Yx) (ns:List Int),vs=[.ref p]/\SqL X.K H p (ns.map V.int)/\ns.length<64/\∀(D:Yx) (ms:List Int),H D=none->ms.Perm ns->ms.Pairwise (·<=·)->Q (.ref D) (upd H D (.lst (ms.map V.int)))):=by
 intro pr s σ H vs us Q I r h;obtain⟨p,ns,rfl,hp,M5,q⟩:=h;obtain⟨u,rfl,r1⟩:=f9 r;cases r1;obtain⟨ws,rv,pl,hz⟩:=I.list hp;have hl:=rv.length;rw[UZ]at hl;have isI:∀v∈ws,∃n t,v=.int n t:=fun v hv=>by
  obtain⟨i,hi⟩:=VP.mp hv;obtain⟨t,e⟩:=il rv hi;exact⟨_,t,e⟩
 refine jw (O:=intO) (key:=fun i=>ns.getD i 0) (kd:=oneType') pl.isList (by lia) (fun h2 A' E' h' kk Q' q'=>?_) (fun i j hi hj h' kk C q'=>?_) fun pp h' e KY hs he kk=>?_
 .refine kas_kind h2 (T:=.type "int") (fun v hv=>?_) (by decide) (by decide) q';obtain⟨n,t,rfl⟩:=isI v hv;exact fun A Q E s _ q=>Xi (YT s n t) q
 .unfold kas_ask;have e1:ws[i]?=some (ws.getD i .none):=by rw[bI _ _ _ hi];exact List.getElem?_eq_getElem hi
  have e2:ws[j]?=some (ws.getD j .none):=by rw[bI _ _ _ hj];exact List.getElem?_eq_getElem hj
  obtain⟨t,QN⟩:=il rv e1;obtain⟨t',PF⟩:=il rv e2;rw[QN,PF];exact kat_lt_int q'
 .rw[<-hl]at KY hs;have PH:POk (ns.map V.int).length pp:=by rw[UZ];exact KY
  have eo:tP pp (ns.map V.int)=(pp.toList.map fun i=>ns.getD i 0).map V.int:=by
   unfold tP;rw[Vj];refine VW fun i hi=>?_
   have hi:=VF.mp (KY.perm.mem_iff.mp hi);show(ns.map V.int).getD i .non=V.int (ns.getD i 0);rw[bI _ _ _ (by rw[UZ];exact hi),bI _ _ _ hi];simp
  have hn:H (s.heap.objs.size+1)=none:=I.hok.fresh (W2 _);refine⟨.ref (s.heap.objs.size+1),_,iT I kk (W2 _) he (kr rv PH) ?_,rfl,?_⟩
  .show(tP pp (ns.map V.int)).length<=sizeLine;rw[eo,UZ,UZ,KY.perm.length_eq,Vi,VT];lia
  .rw[eo];refine q _ _ hn (kq 0 KY) ?_;have:=gR (O:=intO) 0 (fun i:Int=>i) KY hs;refine this.imp fun{a b} PJ=>?_
   have PJ:decide (b<a)=false:=PJ;have:=Zh PJ;lia
theorem p4{ls:List (List Nat)}{us:List Yu}(r:Vals (ls.map fun l=>V.str (S l)) us){i:Nat}{v:Yu}(h:us[i]?=some v):∃t,v=.str (S (ls.getD i [])) t:=by
 have hl:=r.length;rw[UZ]at hl;obtain⟨hi,_⟩:=List.getElem?_eq_some_iff.mp h;have e1:(ls.map fun l=>V.str (S l))[i]?=some (.str (S (ls.getD i []))):=by
  rw[List.getElem?_map,List.getElem?_eq_getElem (by lia),bI _ _ _ (by lia)];rfl
 obtain⟨u,hu,t,rfl⟩:=r.get e1;rw[h]at hu;exact⟨t,Vg hu⟩
theorem ka(hc:X.calm=true):dS X (.builtin "sorted") (fun vs H Q=>∃(p:Yx) (ls:List (List Nat)),vs=[.ref p]/\SqL X.K H p (ls.map fun l=>V.str (S l))/\ls.length<64/\∀(D:Yx) (ms:List (List Nat)),H D=none->ms.Perm ls->ms.Pairwise (fun a b=>¬ b<a)->Q (.ref D) (upd H D (.lst (ms.map fun l=>V.str (S l))))):=by
 intro pr s σ H vs us Q I r h;obtain⟨p,ls,rfl,hp,M5,q⟩:=h;obtain⟨u,rfl,r1⟩:=f9 r;cases r1;obtain⟨ws,rv,pl,hz⟩:=I.list hp;have hl:=rv.length;rw[UZ]at hl;refine jw (O:=Hu) (key:=fun i=>ls.getD i []) (kd:=oneType') pl.isList (by lia) (fun h2 A' E' h' kk Q' q'=>?_) (fun i j hi hj h' kk C q'=>?_) fun pp h' e KY hs he kk=>?_
 .refine kas_kind h2 (T:=.type "str") (fun v hv=>?_) (by decide) (by decide) q';obtain⟨i,hi⟩:=VP.mp hv;obtain⟨t,rfl⟩:=p4 rv hi;exact fun A Q E s _ q=>Xi (YS s _ t) q
 .unfold kas_ask;have e1:ws[i]?=some (ws.getD i .none):=by rw[bI _ _ _ hi];exact List.getElem?_eq_getElem hi
  have e2:ws[j]?=some (ws.getD j .none):=by rw[bI _ _ _ hj];exact List.getElem?_eq_getElem hj
  obtain⟨t,QN⟩:=p4 rv e1;obtain⟨t',PF⟩:=p4 rv e2;rw[QN,PF];refine kas_lt_str ?_;rw[dy,dy];exact q'
 .rw[<-hl]at KY hs;have PH:POk (ls.map fun l=>V.str (S l)).length pp:=by rw[UZ];exact KY
  have eo:tP pp (ls.map fun l=>V.str (S l))=(pp.toList.map fun i=>ls.getD i []).map fun l=>V.str (S l):=by
   unfold tP;rw[Vj];refine VW fun i hi=>?_
   have hi:=VF.mp (KY.perm.mem_iff.mp hi);show(ls.map fun l=>V.str (S l)).getD i .non=V.str (S (ls.getD i []));rw[bI _ _ _ (by rw[UZ];exact hi),bI _ _ _ hi];simp
  have hn:H (s.heap.objs.size+1)=none:=I.hok.fresh (W2 _);refine⟨.ref (s.heap.objs.size+1),_,iT I kk (W2 _) he (kr rv PH) ?_,rfl,?_⟩
  .show(tP pp (ls.map fun l=>V.str (S l))).length<=sizeLine;rw[eo,UZ,UZ,KY.perm.length_eq,Vi,VT];lia
  .rw[eo];refine q _ _ hn (kq [] KY) ?_;have:=gR (O:=Hu) [] (fun l:List Nat=>l) KY hs;refine this.imp fun{a b} PJ=>?_
   have PJ:decide (b<a)=false:=PJ;exact Zh PJ
end
def kinds(k:List Key):List Bool:=k.map fun x=>x.isLeft
section
variable{prog:Yy}{w:World}{A:Yz}{s:Yw}
theorem vh(a b:Key):Ta (kV a) (kV b)=decide (a=b):=by
 cases a <;> cases b <;> (rw[Vp];simp[kV,Ta])
theorem ku(a:Key):xO (kV a)=true:=by cases a <;> rfl
theorem DD{a b:Key}{u v:Yu}{top:Bool}{Q:Bool->Yw->Prop}(ra:L2.RelV (kV a) u)(rb:L2.RelV (kV b) v)(hk:a.isLeft=b.isLeft)(q:Q (pR.blt a b) s):wpAny (model prog w) A (oneLt' top u v) Q (fun _ _=>False) s:=by
 cases a with
 |inl i=>
  cases b with
  |inr _=>cases hk
  |inl j=>
   obtain⟨t,rfl⟩:=ra;obtain⟨t',rfl⟩:=rb;cases top with
   |true=>exact kat_lt_int (E:=fun _ _=>False) q
   |false=>exact kat_one _ _ (lt_int q)
 |inr x=>
  cases b with
  |inl _=>cases hk
  |inr y=>
   obtain⟨t,rfl⟩:=ra;obtain⟨t',rfl⟩:=rb;cases top with
   |true=>exact oneLt_str q
   |false=>exact kat_one _ _ (lt_str q)
theorem kJ{Q:Bool->Yw->Prop}:∀(k1 k2:List Key) (us ws:List Yu) (i:Nat),Vals (k1.map kV) us->Vals (k2.map kV) ws->kinds k1=kinds k2->Q (dN k1 k2) s->KatLex prog w A true false Q (us.zip ws) i s
 |[],[],_,_,_,.nil,.nil,_,q=>q
 |[],_::_,_,_,_,_,_,h,_=>by cases h
 |_::_,[],_,_,_,_,_,h,_=>by cases h
 |a::r,b::t,u::us,v::ws,i,.cons ru rus,.cons rv rvs,h,q=>by
  have h1:a.isLeft=b.isLeft:=(WC h).1;have h2:kinds r=kinds t:=(WC h).2;have q:Q (if a=b then dN r t else pR.blt a b) s:=q;refine kat_cons (zg (A:=A) (s:=s) ru rv (ku a) (ku b) prog w _ _ ?_);rw[vh];by_cases e:a=b
  .rw[U5 e]at q;rw[Vu e];exact kat_yes (kJ r t us ws (i+1) rus rvs h2 q)
  .rw[U8 e]at q;rw[Vq e];exact kat_no (DD ru rv h1 q)
end
section
variable{X:Cx}{pr:List (Yx×Obj)}{σ:L2.St}{H:Hp}{s:Yw}
theorem oD(I:Inv X pr σ H s){a:Yx}{xs:List V}(h:SqT X.K H a xs):∃(us:List Yu) (o:Obj) (n:Nat),Vals xs us/\s.heap.get? a=some o/\o.cls=.type "tuple"/\o.data=.seq us.toArray n:=by
 obtain⟨us,r,pl,_⟩:=I.tuple h;obtain⟨o,ho,oc,n,od⟩:=pl;exact⟨us,o,n,r,ho,oc,od⟩
theorem mN{al:List (Yx×List Key)}{us:List Yu}(r:Vals (al.map fun a=>V.ref a.1) us){i:Nat}(h:i<al.length):us.getD i .none=.ref (al.getD i (0,[])).1:=by
 have e1:(al.map fun a=>V.ref a.1)[i]?=some (.ref (al.getD i (0,[])).1):=by
  rw[List.getElem?_map,List.getElem?_eq_getElem h,bI _ _ _ h];rfl
 obtain⟨u,hu,ru⟩:=r.get e1;rw[List.getD_eq_getElem?_getD,hu];exact ru
theorem rh{al:List (Yx×List Key)}{us:List Yu}{h':YB}(I:Inv X pr σ H s)(kk:∀b o,s.heap.get? b=some o->h'.get? b=some o)(top:Bool):
  (r:Vals (al.map fun a=>V.ref a.1) us)->(∀a∈al,SqT X.K H a.1 (a.2.map kV)/\∃t,kinds a.2=top::t)->∃fs:List Yu,KatTups h' us fs/\fs.length=al.length/\∀v∈fs,∀M:Model,Looks M h' (typeOf v) (.type (if top then "int" else "str")):=by
 induction al generalizing us with
 |nil=>
  intro r _;cases r;exact⟨[],trivial,rfl,fun v hv=>by cases hv⟩
 |cons a al ih=>
  intro r h;cases r with
  |cons ra rs=>
   cases ra;obtain⟨fs,t1,t2,t3⟩:=ih rs fun b hb=>h b (U4 _ hb)
   obtain⟨ha,kt,hk⟩:=h a UY;obtain⟨ws,o,n,rv,ho,oc,od⟩:=oD I ha;cases e2:a.2 with
   |nil=>rw[e2]at hk;cases hk
   |cons k ks=>
    rw[e2]at rv hk;have Ui:k.isLeft=top:=(WC hk).1;cases rv with
    | @cons _ f _ fr rf rfs=>
     refine⟨f::fs,KatTups.cons (kk _ _ ho) oc od (by simp) t1,by simp[t2],fun v hv M=>?_⟩;rcases Vb.mp hv with rfl|hv
     .cases k with
      |inl i=>
       obtain⟨t,rfl⟩:=rf;have:top=true:=Ui.symm;subst this;exact fun A Q E s _ q=>Xi (YT s _ t) q
      |inr x=>
       obtain⟨t,rfl⟩:=rf;have:top=false:=Ui.symm;subst this;exact fun A Q E s _ q=>Xi (YS s _ t) q
     .exact t3 v hv M
end
section
variable{X:Cx}
theorem kc(hc:X.calm=true):dS X (.builtin "sorted") (fun vs H Q=>∃(p:Yx) (al:List (Yx×List Key)) (top:Bool) (t:List Bool),vs=[.ref p]/\SqL X.K H p (al.map fun a=>V.ref a.1)/\(∀a∈al,SqT X.K H a.1 (a.2.map kV)/\kinds a.2=top::t)/\al.length<64/\
  ∀(D:Yx) (ms:List (Yx×List Key)),H D=none->ms.Perm al->ms.Pairwise (fun a b=>dN b.2 a.2=false)->Q (.ref D) (upd H D (.lst (ms.map fun a=>V.ref a.1)))):=by
 intro pr s σ H vs us Q I r h;obtain⟨p,al,top,kt,rfl,hp,L6,M5,q⟩:=h;obtain⟨u,rfl,r1⟩:=f9 r;cases r1;obtain⟨ws,rv,pl,hz⟩:=I.list hp;have hl:=rv.length;rw[UZ]at hl;refine jw (O:=FA) (key:=fun i=>(al.getD i (0,[])).2) (kd:=tuples' true) pl.isList (by lia) (fun h2 A' E' h' kk Q' q'=>?_) (fun i j hi hj h' kk C q'=>?_) fun pp h' e KY hs he kk=>?_
 .obtain⟨fs,t1,t2,t3⟩:=rh I kk top rv fun a ha=>⟨(L6 a ha).1,kt,(L6 a ha).2⟩
  refine kat_kind (T:=.type (if top then "int" else "str")) t1 (by lia) (fun v hv=>t3 v hv _) (by simp) ?_;have:((Value.type (if top then "int" else "str")) != Value.type "tuple")=true:=by cases top <;> decide
  rw[this];exact q'
 .unfold kas_ask;have N3:i<al.length:=by lia
  have PD:j<al.length:=by lia
  rw[mN rv N3,mN rv PD];have mi:al.getD i (0,[])∈al:=by rw[bI _ _ _ N3];exact WV _
  have mj:al.getD j (0,[])∈al:=by rw[bI _ _ _ PD];exact WV _
  obtain⟨u1,o1,n1,r1,g1,_,d1⟩:=oD I (L6 _ mi).1;obtain⟨u2,o2,n2,r2,g2,_,d2⟩:=oD I (L6 _ mj).1;have ek:kinds (al.getD i (0,[])).2=kinds (al.getD j (0,[])).2:=by rw[(L6 _ mi).2,(L6 _ mj).2]
  have el:u1.length=u2.length:=by
   have a1:=r1.length;have a2:=r2.length;have a3:=V5 List.length ek;simp only[kinds,UZ]at a1 a2 a3;lia
  refine kat_lt (kk _ _ g1) d1 (kk _ _ g2) d2 ?_;have ef:decide (u1.toArray.size<u2.toArray.size)=false:=by simp[el]
  rw[ef];exact kJ _ _ _ _ 0 r1 r2 ek q'
 .rw[<-hl]at KY hs;have PH:POk (al.map fun a=>V.ref a.1).length pp:=by rw[UZ];exact KY
  have eo:tP pp (al.map fun a=>V.ref a.1)=(pp.toList.map fun i=>al.getD i (0,[])).map fun a=>V.ref a.1:=by
   unfold tP;rw[Vj];refine VW fun i hi=>?_
   have hi:=VF.mp (KY.perm.mem_iff.mp hi);show(al.map fun a=>V.ref a.1).getD i .non=V.ref (al.getD i (0,[])).1;rw[bI _ _ _ (by rw[UZ];exact hi),bI _ _ _ hi];simp
  have hn:H (s.heap.objs.size+1)=none:=I.hok.fresh (W2 _);refine⟨.ref (s.heap.objs.size+1),_,iT I kk (W2 _) he (kr rv PH) ?_,rfl,?_⟩
  .show(tP pp (al.map fun a=>V.ref a.1)).length<=sizeLine;rw[eo,UZ,UZ,KY.perm.length_eq,Vi,VT];lia
  .rw[eo];refine q _ _ hn (kq (0,[]) KY) ?_;exact gR (O:=FA) (0,[]) (fun a:Yx×List Key=>a.2) KY hs
end
end NX
namespace L2
open PySem PySem.Spec PyProof.Rows
section
variable{κ:Type}[DecidableEq κ]
def oE(kvs:List (κ×V))(k:κ):Option V:=(kvs.find? fun kv=>decide (kv.1=k)).map (·.2)
def ke(kvs:List (κ×V))(k:κ)(v:V):List (κ×V):=
 if(kvs.any fun kv=>decide (kv.1=k))=true then kvs.map (fun kv=>if kv.1=k then(kv.1,v) else kv) else kvs++[(k,v)]
theorem mO{p:κ×V}{r:List (κ×V)}{k:κ}(e:p.1=k):oE (p::r) k=some p.2:=by simp[oE,List.find?_cons,e]
theorem mP{p:κ×V}{r:List (κ×V)}{k:κ}(e:¬ p.1=k):oE (p::r) k=oE r k:=by simp[oE,List.find?_cons,e]
theorem rj(k:κ):∀kvs:List (κ×V),(kvs.any fun kv=>decide (kv.1=k))=(oE kvs k).isSome
 |[]=>rfl
 |p::r=>by
  rw[Zi];by_cases e:p.1=k
  .simp only[mO e,Vu e,Bool.true_or,Option.isSome_some]
  .rw[mP e,Vq e,Bool.false_or];exact rj k r
theorem ir(kvs:List (κ×V))(k:κ)(v:V):(ke kvs k v).length<=kvs.length+1:=by
 unfold ke;split
 .rw[UZ];lia
 .rw[Vr,Vc,V8];lia
theorem RelO.isSome_eq{o:Option V}{u:Option Yu}(r:RelO o u):o.isSome=u.isSome:=by
 cases o with
 |none=>cases u with
  |none=>rfl
  |some _=>exact(show False from r).elim
 |some _=>cases u with
  |none=>exact(show False from r).elim
  |some _=>rfl
theorem KV.val{kvs:List (κ×V)}{vs:List (κ×Yu)}(r:KV kvs vs)(k:κ):RelO (oE kvs k) (valueAt vs k):=by
 unfold KV at r;induction r with
 |nil=>exact True.intro
 | @cons p q ps qs h t ih=>
  obtain⟨h1,h2⟩:=h;by_cases e:p.1=k
  .have e':q.1=k:=h1.symm.trans e;have b:valueAt (q::qs) k=some q.2:=by simp[valueAt,List.find?_cons,e']
   rw[mO e,b];exact h2
  .have e':¬ q.1=k:=fun z=>e (h1.trans z)
   have b:valueAt (q::qs) k=valueAt qs k:=by simp[valueAt,List.find?_cons,e']
   rw[mP e,b];exact ih
theorem KV.any{kvs:List (κ×V)}{vs:List (κ×Yu)}(r:KV kvs vs)(k:κ):(kvs.any fun kv=>decide (kv.1=k))=vs.any fun kv=>decide (kv.1=k):=by
 unfold KV at r;induction r with
 |nil=>rfl
 |cons h t ih=>rw[Zi,Zi,ih,h.1]
theorem KV.repl{kvs:List (κ×V)}{vs:List (κ×Yu)}(r:KV kvs vs)(k:κ){y:V}{u:Yu}(ry:RelV y u):
  KV (kvs.map fun kv=>if kv.1=k then(kv.1,y) else kv) (vs.map fun kv=>if kv.1=k then(kv.1,u) else kv):=by
 unfold KV at r ⊢;induction r with
 |nil=>exact .nil
 | @cons p q ps qs h t ih=>
  rw[Vf,Vf];refine .cons ?_ ih;obtain⟨h1,h2⟩:=h;by_cases e:p.1=k
  .rw[U5 e,U5 (h1.symm.trans e)];exact⟨h1,ry⟩
  .rw[U8 e,U8 (fun z=>e (h1.trans z))];exact⟨h1,h2⟩
theorem KV.put{kvs:List (κ×V)}{vs:List (κ×Yu)}(r:KV kvs vs)(k:κ){y:V}{u:Yu}(ry:RelV y u):KV (ke kvs k y) (stored vs k u):=by
 unfold ke stored;rw[r.any k];by_cases e:(vs.any fun kv=>decide (kv.1=k))=true
 .rw[U5 e,U5 e];exact r.repl k ry
 .rw[U8 e,U8 e];exact Paired.snoc r ⟨rfl,ry⟩
theorem KV.length{kvs:List (κ×V)}{vs:List (κ×Yu)}(r:KV kvs vs):kvs.length=vs.length:=XJ r
end
def kV_is{P:Yy}{w:World}{k:Key}{u:Yu}(r:RelV (kV k) u):(mixKind P w).is k u=true:=by
 cases k with
 |inl i=>obtain⟨t,e⟩:=(show ∃t,u=Value.int i t from r);subst e;exact pW P w i t
 |inr x=>obtain⟨t,e⟩:=(show ∃t,u=Value.str x t from r);subst e;exact pX P w x t
theorem oF{P:Yy}{w:World}:∀{ks:List Key}{us:List Yu},Vals (ks.map kV) us->ItemsAre (mixKind P w) ks us
 |[],_,r=>by rw[VI]at r;cases r;exact .nil
 |k::ks,_,r=>by
  rw[Vf]at r;cases r with
  |cons h t=>exact .cons (kV_is h) (oF t)
abbrev KT(H:Hp):List (List Key×V)->List (List Key×Yx×Yu)->Prop:=Paired fun p q=>p.1=q.1/\H q.2.1=some (.tup (p.1.map kV))/\RelV p.2 q.2.2
def KT.val{H:Hp}{kvs:List (List Key×V)}{xs:List (List Key×Yx×Yu)}(r:KT H kvs xs)(k:List Key):RelO (oE kvs k) ((atKey xs k).map (·.2)):=by
 induction r with
 |nil=>exact True.intro
 | @cons p q ps qs h t ih=>
  obtain⟨h1,_,h2⟩:=h;by_cases e:p.1=k
  .have e':q.1=k:=h1.symm.trans e;have b:atKey (q::qs) k=some q.2:=by simp[atKey,List.find?_cons,e']
   rw[mO e,b];exact h2
  .have e':¬ q.1=k:=fun z=>e (h1.trans z)
   have b:atKey (q::qs) k=atKey qs k:=by simp[atKey,List.find?_cons,e']
   rw[mP e,b];exact ih
def KT.repl{H:Hp}{kvs:List (List Key×V)}{xs:List (List Key×Yx×Yu)}(r:KT H kvs xs)(k:List Key){y:V}{u:Yu}(ry:RelV y u):
  KT H (kvs.map fun kv=>if kv.1=k then(kv.1,y) else kv) (xs.map (putAt k u)):=by
 induction r with
 |nil=>exact .nil
 | @cons p q ps qs h t ih=>
  rw[Vf,Vf];refine .cons ?_ ih;obtain⟨h1,h2,h3⟩:=h;unfold putAt;by_cases e:p.1=k
  .rw[U5 e,U5 (h1.symm.trans e)];exact⟨h1,h2,ry⟩
  .rw[U8 e,U8 (fun z=>e (h1.trans z))];exact⟨h1,h2,h3⟩
def KT.put{H:Hp}{kvs:List (List Key×V)}{xs:List (List Key×Yx×Yu)}(r:KT H kvs xs)(k:List Key){b:Yx}{y:V}{u:Yu}(hb:H b=some (.tup (k.map kV)))(ry:RelV y u):
  KT H (ke kvs k y) (storedH xs k b u):=by
 have e:(kvs.any fun kv=>decide (kv.1=k))=(atKey xs k).isSome:=by
  rw[rj,(r.val k).isSome_eq,Yf]
 unfold ke storedH;rw[e];by_cases q:(atKey xs k).isSome=true
 .rw[U5 q,U5 q];exact r.repl k ry
 .rw[U8 q,U8 q];exact Paired.snoc r ⟨rfl,hb,ry⟩
def KT.keeps{H H':Hp}{kvs:List (List Key×V)}{xs:List (List Key×Yx×Yu)}(r:KT H kvs xs)(ht:∀b ys,H b=some (.tup ys)->H' b=some (.tup ys)):KT H' kvs xs:=
 Paired.mapP r fun _ _ z=>⟨z.1,ht _ _ z.2.1,z.2.2⟩
section
variable{P:Yy}{w:World}{H:Hp}{h:YB}{a:Yx}
theorem DE{u:HO}(ok:HOk P w H h)(e:Rd H a u):ObjOk P w H h a u:=e.ok ok
theorem tR{kvs:List (Key×V)}(ok:HOk P w H h)(e:Rd H a (.dK kvs)):kvs.length<=sizeLine/\(a==sysModules)=false/\∃vs,KV kvs vs/\h.DictOf (mixKind P w) a vs:=
 show ObjOk P w H h a (.dK kvs) from DE ok e
theorem DF{kvs:List (Key×V)}(ok:HOk P w H h)(e:H a=some (.dK kvs)):kvs.length<=sizeLine/\(a==sysModules)=false/\∃vs,KV kvs vs/\h.DictOf (mixKind P w) a vs:=tR ok (.inl e)
theorem oG{ks:List Key}(ok:HOk P w H h)(e:H a=some (.tup (ks.map kV))):(tupleKind (mixKind P w)).is h ks a:=by
 obtain⟨_,Je,r,o,h1,h2,⟨n,h3⟩,_⟩:=(show ObjOk P w H h a (.tup (ks.map kV)) from ok a _ e)
 exact⟨o,Je.toArray,n,h1,h2,h3,by simpa using oF r⟩
theorem vk{kvs:List (List Key×V)}(ok:HOk P w H h)(e:Rd H a (.dT kvs)):kvs.length<=sizeLine/\(a==sysModules)=false/\
  ∃xs,KT H kvs xs/\h.DictOfH (tupleKind (mixKind P w)) a xs:=by
 obtain⟨z,y,xs,r,o,es,ep,h1,h2,h3,h4,h5⟩:=(show ObjOk P w H h a (.dT kvs) from DE ok e)
 refine⟨z,y,xs,r,o,es,ep,h1,h2,h3,h4,fun x hx=>?_,h5⟩;have all:∀{l:List (List Key×V)}{m:List (List Key×Yx×Yu)},KT H l m->∀x∈m,(tupleKind (mixKind P w)).is h x.1 x.2.1:=by
  intro l m q;induction q with
  |nil=>intro x hx;exact nomatch hx
  | @cons p q ps qs hq t ih=>
   intro x hx;rcases Vb.mp hx with e|hx
   .subst e;exact oG ok (by rw[<-hq.1];exact hq.2.1)
   .exact ih x hx
 exact all r x hx
theorem Gm{kvs:List (List Key×V)}(ok:HOk P w H h)(e:H a=some (.dT kvs)):kvs.length<=sizeLine/\(a==sysModules)=false/\
  ∃xs,KT H kvs xs/\h.DictOfH (tupleKind (mixKind P w)) a xs:=vk ok (.inl e)
end
def DGet(H:Hp)(a:Yx)(y:V)(r:Option V):Prop:=
 (∃kvs k,Rd H a (.dK kvs)/\y=kV k/\r=oE kvs k)\/∃kvs k b,Rd H a (.dT kvs)/\y=.ref b/\H b=some (.tup (k.map kV))/\r=oE kvs k
def DPut(H:Hp)(a:Yx)(y v:V)(H':Hp):Prop:=
 (∃kvs k,H a=some (.dK kvs)/\y=kV k/\kvs.length<sizeLine/\H'=upd H a (.dK (ke kvs k v)))\/
 ∃kvs k b,H a=some (.dT kvs)/\y=.ref b/\H b=some (.tup (k.map kV))/\kvs.length<sizeLine/\H'=upd H a (.dT (ke kvs k v))
theorem DGet.k{H:Hp}{a:Yx}{kvs:List (Key×V)}{k:Key}(e:H a=some (.dK kvs)):DGet H a (kV k) (oE kvs k):=.inl ⟨kvs,k,.inl e,rfl,rfl⟩
def DGet.t{H:Hp}{a b:Yx}{kvs:List (List Key×V)}{k:List Key}(e:H a=some (.dT kvs))(eb:H b=some (.tup (k.map kV))):DGet H a (.ref b) (oE kvs k):=.inr ⟨kvs,k,b,.inl e,rfl,eb,rfl⟩
theorem DPut.k{H:Hp}{a:Yx}{kvs:List (Key×V)}{k:Key}{v:V}(e:H a=some (.dK kvs))(hl:kvs.length<sizeLine):DPut H a (kV k) v (upd H a (.dK (ke kvs k v))):=.inl ⟨kvs,k,e,rfl,hl,rfl⟩
def DPut.t{H:Hp}{a b:Yx}{kvs:List (List Key×V)}{k:List Key}{v:V}(e:H a=some (.dT kvs))(eb:H b=some (.tup (k.map kV)))(hl:kvs.length<sizeLine):
  DPut H a (.ref b) v (upd H a (.dT (ke kvs k v))):=.inr ⟨kvs,k,b,e,rfl,eb,hl,rfl⟩
section
variable{X:Cx}{pr:List (Yx×Obj)}{σ:St}{H:Hp}{s:Yw}{a:Yx}{y v:V}{u r:Yu}{o:Option V}{A:Yz}{E:Yu->Yw->Prop}
theorem Inv.big(I:Inv X pr σ H s):sysModules<s.heap.objs.size:=by
 have h:mainGlobals<s.heap.objs.size:=(I.mod.glob.keeps I.bk).lt;exact Nat.lt_trans (by decide) h
theorem vm{Q:Yu->Yw->Prop}(hu:A.units+1<cLine)(I:Inv X pr σ H s)(g:DGet H a y (some v))(ry:RelV y u)(h:∀w' s',Inv X pr σ H s'->RelV v w'->Q w' s'):
  wpAny (model X.prog X.w) A (getItem (.ref a) u) Q E s:=by
 rcases g with⟨kvs,k,e,ey,l⟩|⟨kvs,k,b,e,ey,eb,l⟩
 .subst ey;obtain⟨z,hd,vs,rel,dd⟩:=tR I.hok e;obtain⟨w',hw,M0⟩:=RelO.some_of (v:=v) (o:=valueAt vs k) (by rw[l];exact rel.val k);exact wpAny_getItem_of (kV_is ry) dd.mapOf hw (h w' _ (I.tok _) M0)
 .subst ey;cases(show u=Value.ref b from ry);obtain⟨z,hd,xs,rel,dd⟩:=vk I.hok e;obtain⟨w',hw,M0⟩:=RelO.some_of (v:=v) (o:=(atKey xs k).map (·.2)) (by rw[l];exact rel.val k);obtain⟨p,hp,Pf⟩:=VA.mp hw;refine wpAny_getItem_heap (Xn hu) (oG I.hok eb) dd hp ?_;rw[Pf];exact h w' _ (I.tok _) M0
theorem Iw{Q:Yu->Yw->Prop}(hu:A.units+1<cLine)(I:Inv X pr σ H s)(g:DGet H a y o)(ry:RelV y u)(h:∀s',Inv X pr σ H s'->Q (.bool o.isSome) s'):
  wpAny (model X.prog X.w) A (compareOp .In u (.ref a)) Q E s:=by
 rcases g with⟨kvs,k,e,ey,l⟩|⟨kvs,k,b,e,ey,eb,l⟩
 .subst ey;obtain⟨z,hd,vs,rel,dd⟩:=tR I.hok e;refine wpAny_in_of (kV_is ry) hd dd.mapOf ?_;rw[<-(rel.val k).isSome_eq,<-l];exact h _ (I.tok _)
 .subst ey;cases(show u=Value.ref b from ry);obtain⟨z,hd,xs,rel,dd⟩:=vk I.hok e;refine wpAny_in_heap (Xn hu) (oG I.hok eb) hd dd ?_;have q:=(rel.val k).isSome_eq;rw[Yf]at q;rw[<-q,<-l];exact h _ (I.tok _)
theorem AN{Q:Yu->Yw->Prop}(hu:A.units+1<cLine)(I:Inv X pr σ H s)(g:DGet H a y o)(ry:RelV y u)(h:∀s',Inv X pr σ H s'->Q (.bool (!o.isSome)) s'):
  wpAny (model X.prog X.w) A (compareOp .NotIn u (.ref a)) Q E s:=by
 rcases g with⟨kvs,k,e,ey,l⟩|⟨kvs,k,b,e,ey,eb,l⟩
 .subst ey;obtain⟨z,hd,vs,rel,dd⟩:=tR I.hok e;refine wpAny_notIn_of (kV_is ry) hd dd.mapOf ?_;rw[<-(rel.val k).isSome_eq,<-l];exact h _ (I.tok _)
 .subst ey;cases(show u=Value.ref b from ry);obtain⟨z,hd,xs,rel,dd⟩:=vk I.hok e;refine wpAny_notIn_heap (Xn hu) (oG I.hok eb) hd dd ?_;have q:=(rel.val k).isSome_eq;rw[Yf]at q;rw[<-q,<-l];exact h _ (I.tok _)
theorem p5{h':YB}{t':Nat}{ob:HO}(I:Inv X pr σ H s)(mu:Q2 (H a))(hs:Heap.SameBut a s.heap h')(he:∃q,h'.get? a=some q)(new:ObjOk X.prog X.w (upd H a ob) h' a ob):
  Inv X pr σ (upd H a ob) {s with heap:=h',toks:=t'}:=
 I.write (x:=a) (e:=a) mu (.inl rfl) (fun b q hb z=>(hs.2 b hb).trans z) he new
theorem zq{P:Yy}{w:World}{H':Hp}{h':YB}{kvs:List (Key×V)}{vs:List (Key×Yu)}(z:kvs.length<=sizeLine)(hd:(a==sysModules)=false)(rel:KV kvs vs)(dd:h'.DictOf (mixKind P w) a vs):
  ObjOk P w H' h' a (.dK kvs):=⟨z,hd,vs,rel,dd⟩
theorem vn{H':Hp}{Q:Unit->Yw->Prop}(hu:A.units+1<cLine)(I:Inv X pr σ H s)(g:DPut H a y v H')(ry:RelV y u)(rv:RelV v r)(h:∀s',Inv X pr σ H' s'->Q () s'):
  wpAny (model X.prog X.w) A (setItem (.ref a) u r) Q E s:=by
 rcases g with⟨kvs,k,e,ey,l,eH⟩|⟨kvs,k,b,e,ey,eb,l,eH⟩
 .subst ey eH;obtain⟨z,hd,vs,rel,dd⟩:=DF I.hok e;have hz:vs.length<=sizeLine:=by rw[<-rel.length];exact z
  have hl:(ke kvs k v).length<=sizeLine:=by have:=ir kvs k v;lia
  refine wpAny_setItem_pairs (hsz:=hz) (kV_is ry) dd fun h' Oh hs=>h _ ?_
  have he:∃q,h'.get? a=some q:=let⟨q,_,_,hq,_⟩:=Oh;⟨q,hq⟩
  exact p5 I (by rw[e];exact True.intro) hs he (zq hl hd (rel.put k rv) Oh)
 .subst ey eH;cases(show u=Value.ref b from ry);obtain⟨z,hd,xs,rel,dd⟩:=Gm I.hok e;have hz:xs.length<=sizeLine:=by rw[<-XJ rel];exact z
  have hl:(ke kvs k v).length<=sizeLine:=by have:=ir kvs k v;lia
  refine wpAny_setItem_heap (hsz:=hz) (Xn hu) (oG I.hok eb) dd fun h' Oh hs=>h _ ?_
  obtain⟨q,es,ep,hq,h2,h3,h4,_,h5⟩:=Oh;refine p5 I (by rw[e];exact True.intro) hs ⟨q,hq⟩ ⟨hl,hd,_,(rel.put k eb rv).keeps fun c ys ec=>?_,q,es,ep,hq,h2,h3,h4,h5⟩;rw[aF (FJ ec e (fun z=>nomatch z))];exact ec
end
section
variable{X:Cx}{pr:List (Yx×Obj)}{σ:St}{H:Hp}{s:Yw}{a:Yx}{kvs:List (Key×V)}{k:Key}{u:Yu}{A:Yz}{E:Yu->Yw->Prop}
end
def NoSl(i:Expr):Prop:=∀ov iv,subscripted i false ov iv=operate [ov,iv] (getItem ov iv)
def AO{prog:Yy}{w:World}{A:Yz}{E:Yu->Yw->Prop}{s:Yw}{env:Env}{value slice:Expr}{pos:Pos}{T id:String}{Q:Yu->Yw->Prop}
  (hl:typeLookup (.type T) "__getitem__" = pure (some (.builtin id))) (hs:NoSl slice)
  (h:wpAny (model prog w) A (eval value env) (fun o s₁=>wpAny (model prog w) A (eval slice env) (fun i s₂=>s₂.TypeIs o T/\wpAny (model prog w) A (getItem o i) Q E s₂) E s₁) E s):
  wpAny (model prog w) A (eval (.Subscript value slice pos) env) Q E s:=by
 refine Subscript_ (Xg h (fun o s₁ h₁=>Xg h₁ (fun i s₂ h₂=>?_) fun _ _ x=>x) fun _ _ x=>x);obtain⟨hT,h₂⟩:=h₂;unfold subscriptTail;refine UX ?_;rw[getitemInPython_of_ne hT.not_modules];refine UX (wpAny_specialOf hT hl ?_);have fin:wpAny (model prog w) A (subscripted slice false o i) (fun r s₃=>wpAny (model prog w) A (letTemporaryGo value o r >>= fun _=>pure r) Q E s₃) E s₂:=by
  rw[hs o i];exact wpAny_operating (Xg h₂ (fun r s₃ h₃=>UX (wpAny_letTemporaryGo (U1 h₃))) fun _ _ x=>x)
 first
  |exact U1 (UX fin)
  |exact UX (U1 (UX fin))
  |exact UX fin
def p6{X:Cx}{pr:List (Yx×Obj)}{σ:St}{H:Hp}{s:Yw}{a:Yx}{y:V}{o:Option V}(I:Inv X pr σ H s)(g:DGet H a y o):s.TypeIs (.ref a) "dict":=by
 rcases g with⟨kvs,k,e,_,_⟩|⟨kvs,k,b,e,_,_,_⟩
 .obtain⟨_,_,vs,_,dd⟩:=tR I.hok e;exact dd.typeIs
 .obtain⟨_,_,xs,_,dd⟩:=vk I.hok e;exact dd.typeIs
def Gn(td ty:TE):TE:=fun σ H Q=>td σ H fun x H1=>ty σ H1 fun y H2=>∃a v,x=.ref a/\DGet H2 a y (some v)/\Q v H2
def Gp(td ty tv:TE):TS:=fun D σ H=>tv σ H fun v H1=>td σ H1 fun x H2=>ty σ H2 fun y H3=>∃a H4,x=.ref a/\DPut H3 a y v H4/\D.nx σ H4
section
variable{X:Cx}{o i e value:Expr}{pos pos' L4:Pos}{td ty tv:TE}
theorem AQ(hu:X.A.units+1<cLine)(ho:PE X o td)(hi:PE X i ty)(hs:NoSl i):PE X (.Subscript o i pos) (Gn td ty):=by
 intro pr s σ H Q I h;refine AO PySem.F.slot_dict_getitem.lookup hs (Jt (ho pr s σ H _ I h) fun u s1 ⟨x,H1,I1,rx,q1⟩=>Jt (hi pr s1 σ H1 _ I1 q1) fun iv s2 Jx=>?_);obtain⟨y,H2,I2,ry,a,v,ex,g,q2⟩:=Jx;subst ex;obtain rfl:u=Value.ref a:=rx;exact⟨p6 I2 g,vm hu I2 g ry fun w' s3 I3 M0=>⟨v,H2,I3,M0,q2⟩⟩
theorem AR(hu:X.A.units+1<cLine)(ho:PE X o td)(hi:PE X i ty)(hv:PE X value tv)(hs:swapsWith value (some (.Subscript o i pos')) pos.line X.env=pure false):
  PS X (.Assign [.Subscript o i pos'] value pos) (Gp td ty tv):=by
 intro pr s σ H D I h;refine wpAny_Assign_Subscript (Jt (hv pr s σ H _ I h) fun r s1 ⟨v,H1,I1,rv,q1⟩=>Jt (ho pr s1 σ H1 _ I1 q1) fun u s2 ⟨x,H2,I2,rx,q2⟩=>Jt (hi pr s2 σ H2 _ I2 q2) fun iv s3 ⟨y,H3,I3,ry,a,H4,ex,g,q3⟩=>?_) hs;subst ex;obtain rfl:u=Value.ref a:=rx;exact vn hu I3 g ry rv fun s4 I4=>⟨σ,H4,I4,q3⟩
end
def dk_empty{P:Yy}{w:World}{H:Hp}(h:YB)(hb:sysModules<h.objs.size):ObjOk P w H (h.push {cls:=.type "dict",data:=.dict #[]}) h.objs.size (.dK []):=
 ⟨VD _,V2.mpr (Wt (Vk hb)),[],.nil,Heap.DictOf.new h⟩
section
variable{X:Cx}{pos:Pos}
end
def tPairs:List (TE×TE)->St->Hp->(List (V×V)->Hp->Prop)->Prop
 |[],_,H,Q=>Q [] H
 |(tk,tv)::r,σ,H,Q=>tk σ H fun x H1=>tv σ H1 fun y H2=>tPairs r σ H2 fun ps H3=>Q ((x,y)::ps) H3
abbrev VV:List (V×V)->List (Yu×Yu)->Prop:=Paired fun p q=>RelV p.1 q.1/\RelV p.2 q.2
def Sy(X:Cx)(pos:Pos)(keys:List (Option Expr))(values:List Expr)(Oi:List (TE×TE)):Prop:=
 ∀(pr:List (Yx×Obj)) (s:Yw) (σ:St) (H:Hp) (Q:List (V×V)->Hp->Prop),Inv X pr σ H s->tPairs Oi σ H Q->
  wpAny (model X.prog X.w) X.A (evalPairs (pairTrees keys values X.env pos)) (fun vs s'=>∃ps H',Inv X pr σ H' s'/\VV ps vs/\Q ps H') X.xe s
def AS{X:Cx}{pos:Pos}:Sy X pos [] [] []:=fun pr s σ H Q I h=>pairTrees_nil_walk ⟨[],H,I,.nil,h⟩
def x5{X:Cx}{pos:Pos}{k v:Expr}{ks:List (Option Expr)}{vs:List Expr}{tk tv:TE}{Oi:List (TE×TE)}(hk:PE X k tk)(hv:PE X v tv)(hr:Sy X pos ks vs Oi):
  Sy X pos (some k::ks) (v::vs) ((tk,tv)::Oi):=fun pr s σ H Q I h=>
 pairTrees_cons_walk (Jt (hk pr s σ H _ I h) fun u s1 ⟨x,H1,I1,rx,q1⟩=>Jt (hv pr s1 σ H1 _ I1 q1) fun w2 s2 ⟨y,H2,I2,ry,q2⟩=>
  Jt (hr pr s2 σ H2 _ I2 q2) fun ws s3 ⟨ps,H3,I3,rel,q3⟩=>⟨(x,y)::ps,H3,I3,.cons ⟨rx,ry⟩ rel,q3⟩)
def oH(kvs more:List (Key×V)):List (Key×V):=more.foldl (fun acc kv=>ke acc kv.1 kv.2) kvs
def KV.merge:∀{more:List (Key×V)}{rs:List (Key×Yu)}{kvs:List (Key×V)}{vs:List (Key×Yu)},KV more rs->KV kvs vs->KV (oH kvs more) (merged vs rs):=by
 intro more rs kvs vs r;unfold KV at r;induction r generalizing kvs vs with
 |nil=>intro q;exact q
 | @cons p q ps qs h t ih=>
  intro r0;have e:KV (ke kvs p.1 p.2) (stored vs q.1 q.2):=by
   have:=r0.put p.1 h.2;rw[<-h.1];exact this
  exact ih e
theorem iU:∀(more kvs:List (Key×V)),(oH kvs more).length<=kvs.length+more.length
 |[],kvs=>by show kvs.length<=kvs.length+0;lia
 |p::r,kvs=>by
  have h1:=iU r (ke kvs p.1 p.2);have h2:=ir kvs p.1 p.2;show(oH (ke kvs p.1 p.2) r).length<=_;rw[Vc];lia
theorem lY{P:Yy}{w:World}:∀{kvs:List (Key×V)}{ws:List (Yu×Yu)},VV (kvs.map fun kv=>(kV kv.1,kv.2)) ws->∃rs,Carries (mixKind P w) ws rs/\KV kvs rs
 |[],_,r=>by rw[VI]at r;cases r;exact⟨[],True.intro,.nil⟩
 |p::kvs,_,r=>by
  rw[Vf]at r;cases r with
  | @cons a b as bs h t=>
   obtain⟨rs,c,q⟩:=lY (P:=P) (w:=w) t;obtain⟨b1,b2⟩:=b;exact⟨(p.1,b2)::rs,⟨kV_is h.1,rfl,c⟩,.cons ⟨rfl,h.2⟩ q⟩
def Gq(Oi:List (TE×TE)):TE:=fun σ H Q=>∀p,H p=none->tPairs Oi σ (upd H p (.dK [])) fun ps H2=>H2 p=some (.dK [])/\∃kvs:List (Key×V),ps=kvs.map (fun kv=>(kV kv.1,kv.2))/\kvs.length<=15/\Q (.ref p) (upd H2 p (.dK (oH [] kvs)))
def AU{X:Cx}{pos:Pos}{keys:List (Option Expr)}{values:List Expr}{Oi:List (TE×TE)}(h:Sy X pos keys values Oi)(Nv:keys.all (·.isSome)=true)(hl:keys.length=values.length)(h0:keys≠[])
  (h15:keys.length<=15):PE X (.Dict keys values pos) (Gq Oi):=by
 intro pr s σ H Q I q;have hn:=I.hok.fresh (U6 s.heap.objs.size);have I1:=I.laid (a:=s.heap.objs.size) (o:=.dK []) (h':=s.heap.push {cls:=.type "dict",data:=.dict #[]}) (t':=s.toks) (fun _ _ q=>Heap.get?_push_of_some _ q) (U6 _) (dk_empty s.heap I.big);refine wpAny_Dict_walk (knd:=mixKind X.prog X.w) Nv hl h0 h15 (Jt (h pr _ σ _ _ I1 (q _ hn)) fun ws s2 Jx=>?_);obtain⟨ps,H2,I2,rel,e,kvs,ep,lk,q2⟩:=Jx;subst ep;obtain⟨rs,c,rk⟩:=lY (P:=X.prog) (w:=X.w) rel;obtain⟨z,hd,vs0,r0,dd⟩:=DF I2.hok e;cases r0;refine⟨rs,c,dd,fun h' Oh hs=>⟨.ref s.heap.objs.size,_,?_,rfl,q2⟩⟩;have hz:(oH [] kvs).length<=sizeLine:=by
  have h1:=iU kvs [];rw[V8]at h1;rw[VT];lia
 have he:∃q,h'.get? s.heap.objs.size=some q:=let⟨q,_,_,hq,_⟩:=Oh;⟨q,hq⟩
 exact p5 I2 (by rw[e];exact True.intro) hs he (zq hz hd (rk.merge .nil) Oh)
section
variable{X:Cx}{pr:List (Yx×Obj)}{σ:St}{H:Hp}{s:Yw}{a:Yx}{y d:V}{u r:Yu}{o:Option V}{A:Yz}{E:Yu->Yw->Prop}
end
section
variable{X:Cx}{o e f:Expr}{apos Jr:Pos}{td ty tx:TE}
end
section
variable{X:Cx}{pr:List (Yx×Obj)}{σ:St}{H:Hp}{s:Yw}{a:Yx}{kvs:List (Key×V)}{A:Yz}{E:Yu->Yw->Prop}
end
section
variable{X:Cx}{pr:List (Yx×Obj)}{σ:St}{H:Hp}{s:Yw}{a:Yx}{y:V}{u:Yu}{A:Yz}{E:Yu->Yw->Prop}
end
section
variable{κ:Type}[DecidableEq κ]
end
end L2
namespace NX
open PySem PySem.Spec PyProof.Rows L2
def RawD(h:YB)(d:Yx)(es:Array DictEntry)(ep:Nat):Prop:=∃o,h.get? d=some o/\o.ExactDict/\o.data=.dict es ep
def RawD.at{h h':YB}{d:Yx}{es:Array DictEntry}{ep:Nat}(x:RawD h d es ep)(e:∀o,h.get? d=some o->h'.get? d=some o):RawD h' d es ep:=by
 obtain⟨o,g,r⟩:=x;exact⟨o,e o g,r⟩
section
variable{prog:Yy}{w:World}{A:Yz}{E:Yu->Yw->Prop}{s:Yw}{d it:Yx}{es:Array DictEntry}{ep i:Nat}
theorem kx(x:RawD s.heap d es ep):s.TypeIs (.ref d) "dict":=by
 obtain⟨o,g,ex,_⟩:=x;exact⟨o,g,ex.1⟩
theorem x6{Q:Yu->Yw->Prop}(nm:(d==sysModules)=false)(x:RawD s.heap d es ep)
  (q:Q (.ref s.heap.objs.size) {s with heap:=s.heap.push {cls:=.type "dict_keyiterator",data:=.fields #[.ref d,.int 0 0,.int es.size 0,.int ep 0]}}):wpAny (model prog w) A (pyIter (.ref d)) Q E s:=by
 have ty:=kx x;obtain⟨o,g,ex,dat⟩:=x;refine wpAny_pyIter_slot ty F.slot_dict_iter (VQ F.slot_dict_iter ty F.entry_dict_iter (UX ?_) (F.args_dict_iter_1 _));refine UX (wpAny_notOrdered_dict ty (U1 ?_));show wpAny _ _ (Builtin.Dict.showsAll d >>= fun _=>_) _ _ s;have ns:Builtin.Dict.showsAll d=pure ():=by
  unfold Builtin.Dict.showsAll;rw[nm];rfl
 rw[ns];refine UX (U1 (UX (Xy g dat (UX (YK g dat (UX (VN (U1 ⟨_,rfl,"dict_keyiterator",_,⟨_,Heap.get?_push_size _ rfl,rfl⟩,F.slot_dict_keyiterator_next.lookup,?_⟩))))))));exact q
theorem x9{Q:Option Yu->Yw->Prop}{e:DictEntry}(hit:s.heap.IsKeyIter it d i es.size ep)(x:RawD s.heap d es ep)(hx:es[i]?=some e)
  (q:∀h',h'.IsKeyIter it d (i+1) es.size ep->Heap.SameBut it s.heap h'->Q (some e.key) {s with heap:=h'}):wpAny (model prog w) A (pyNext (.ref it)) Q E s:=by
 have ti:=hit.typeIs;obtain⟨o,g,oc,od⟩:=hit;obtain⟨ob,gd,_,dat⟩:=x;have JL:i<es.size:=(Array.getElem?_eq_some_iff.mp hx).1;unfold pyNext;refine UX (Ym (wpAny_callSpecial?_slot (name:=Str.ofString "__next__") ti Wj (VQ Wj ti XG
  (UX (U1 (UX (UX ?_)))) (XD _))))
 refine UX (Wh ti (U1 (UX (wpAny_fieldsOf g od ?_))));have MW:Builtin.Dict_items.ownsTuple "dict_keyiterator" = false:=by decide
 simp only[MW,V7,XB];show wpAny _ _ (if(Value.ref d==Value.none)=true then _ else _) _ _ s;have nz:¬ ((Value.ref d==Value.none)=true):=U3;rw[U8 nz];refine UX (U1 (UX (Xy gd dat ?_)));rw[U8 (by simp)];refine UX (U1 (UX (YK gd dat ?_)));rw[U8 (by simp)];refine U1 ?_;simp only[U8 (show ¬ ((i:Int)<0) by lia),VG,hx];refine UX (UX (Wh ti (U1 (UX (wpAny_isOneOf_keyiter ti ?_)))));show wpAny _ _ (setField (.ref it) 1 (rawInt ((i:Int)+1)) >>= fun _=>_) _ _ s;refine UX (X6 g od (by simp) ?_);have nx:(s.heap.update it (Obj.mapFields fun y=>y.setIfInBounds 1 (rawInt ((i:Int)+1)))).IsKeyIter it d (i+1) es.size ep:=
  ⟨_,Heap.get?_update_self _ g (Obj.isFreed_of_fields (Xm od _)),(Obj.cls_mapFields ..).trans oc,(Xm od _).trans (by simp[rawInt])⟩
 refine UX (WA (UX (wpAny_isOneOf_keyiter (s:={s with heap:=s.heap.update it (Obj.mapFields fun y=>y.setIfInBounds 1 (rawInt ((i:Int)+1)))}) nx.typeIs ?_)));show wpAny _ _ (pure e.key) _ _ _;exact U1 (U1 ⟨_,rfl,U1 (q _ nx (Xf ..))⟩)
theorem AV{Q:Option Yu->Yw->Prop}(hh:A.handled=none)(hit:s.heap.IsKeyIter it d i es.size ep)(x:RawD s.heap d es ep)(hx:es[i]?=none)
  (q:∀h',Heap.ExtBut it s.heap h'->Q none {s with heap:=h'}):wpAny (model prog w) A (pyNext (.ref it)) Q E s:=by
 have ti:=hit.typeIs;obtain⟨o,g,oc,od⟩:=hit;obtain⟨ob,gd,_,dat⟩:=x;unfold pyNext;refine UX (Ym (wpAny_callSpecial?_slot (name:=Str.ofString "__next__") ti Wj (VQ Wj ti XG
  (UX (U1 (UX (UX ?_)))) (XD _))))
 refine UX (Wh ti (U1 (UX (wpAny_fieldsOf g od ?_))));have MW:Builtin.Dict_items.ownsTuple "dict_keyiterator" = false:=by decide
 simp only[MW,V7,XB];show wpAny _ _ (if(Value.ref d==Value.none)=true then _ else _) _ _ s;have nz:¬ ((Value.ref d==Value.none)=true):=U3;rw[U8 nz];refine UX (U1 (UX (Xy gd dat ?_)));rw[U8 (by simp)];refine UX (U1 (UX (YK gd dat ?_)));rw[U8 (by simp)];refine U1 ?_;simp only[U8 (show ¬ ((i:Int)<0) by lia),VG,hx];refine UX (UX (Wh ti (U1 ?_)));show wpAny _ _ (setField (.ref it) 0 .none >>= fun _=>_) _ _ s;refine UX (X6 g od (by simp) ?_);show wpAny _ _ (newExc (.type "StopIteration") [] >>= fun _=>_) _ _ _;refine UX ?_;simp only[newExc,newTuple];refine UX (VN (UX (m:=firstArgMember _ _) (W3 (a:=Value.none) (by first|rfl|(simp only[firstArgMember];rfl)) (VN ?_ (by size_fits)))) (by size_fits));simp only[raiseNew];refine UX (wpAny_handled ?_);rw[show A.in1.handled=none from hh];refine UX (U1 (wpAny_throw ?_));refine UX (wpAny_isInstance (b:=true) (T:="StopIteration") ⟨_,Heap.get?_push_size _ rfl,rfl⟩ isSubtype_stop ?_);exact U1 (q _ (((Xf ..).extBut.push _).push _))
theorem vo(hh:A.handled=none)(I:Yx)(ne:d≠I):Walks prog w A I [I,d] [I] es.size (fun i v=>∃e,es[i]?=some e/\v=e.key) (fun i h=>h.IsKeyIter I d i es.size ep/\RawD h d es ep) where
 sub:=fun b hb=>by
  rw[Vn]at hb;rw[hb];exact UY
 frame:=fun _ _ _ st hk=>⟨st.1.at fun o e=>hk I UY o e,st.2.at fun o e=>hk d (U4 _ UY) o e⟩
 item:=fun i s Q E hi st hQ=>by
  refine x9 st.1 st.2 (Array.getElem?_eq_getElem hi) fun h' it' sb=>?_
  exact hQ _ h' s.toks ⟨_,Array.getElem?_eq_getElem hi,rfl⟩ ⟨it',st.2.at fun o e=>sb.extBut d o ne e⟩ fun b o hb e=>sb.extBut b o (fun z=>hb (by rw[z];exact UY)) e
 done:=fun s Q E st hQ=>AV hh st.1 st.2 (Array.getElem?_eq_none (U6 _)) fun h' ext=>hQ h' s.toks fun b o hb e=>ext b o (fun z=>hb (by rw[z];exact UY)) e
 self:=fun _ _ _ _ st hQ=>wpAny_pyIter_keyiter st.1 hQ
theorem AW(nm:(d==sysModules)=false):PySem.W.KdlSrc prog w "dict" d d es.size (fun i v=>∃e,es[i]?=some e/\v=e.key) (fun h=>RawD h d es ep) where
 type:=fun _ x=>kx x
 there:=fun _ x=>by
  obtain⟨o,g,_⟩:=x;exact⟨U9 g,U9 g⟩
 keep:=fun _ _ x hk=>x.at fun o e=>hk d (.inl rfl) o e
 notList:=by decide
 notTuple:=by decide
 hint:=fun _ _ _ _ x q=>PySem.W.kdl_hint_dict (kx x) q
 iter:=fun _ s hh x=>⟨_,_,(fun _ _ q=>x6 nm x q),vo hh _ (by obtain⟨o,g,_⟩:=x;exact Vk (U9 g)),⟨⟨_,Heap.get?_push_size _ rfl,rfl,rfl⟩,x.at fun o e=>Heap.get?_push_of_some _ e⟩⟩
end
end NX
namespace NX
open PySem PySem.W PySem.Spec PyProof.Rows L2
section
variable{prog:Yy}{w:World}{A:Yz}{E:Yu->Yw->Prop}{s:Yw}
theorem tS{O:KeyOrd}{key:Nat->O.α}{kd:SortKind}{l:Yx}{vs:List Yu}{Q:Yu->Yw->Prop}
  (hcol:∀Q':List Yu->Yw->Prop,(∀h' tk,(∀b o,s.heap.get? b=some o->h'.get? b=some o)->Q' vs {s with heap:=h',toks:=tk})->wpAny (model prog w) A.in1 (collect (.ref l)) Q' E s) (M5:vs.length<64)
  (Li:2<=vs.length->∀(A':Yz) (E':Yu->Yw->Prop) (s':Yw),(∀b o,s.heap.get? b=some o->s'.heap.get? b=some o)->∀Q:SortKind->Yw->Prop,Q kd s'->wpAny (model prog w) A' (keyKind' vs.toArray) Q E' s')
  (Nx:∀i j,i<vs.length->j<vs.length->∀s':Yw,(∀b o,s.heap.get? b=some o->s'.heap.get? b=some o)->∀C:Bool->Yw->Prop,C (O.blt (key i) (key j)) s'->kas_ask prog w A.in1.in1 kd vs i j C s')
  (h:∀(p:Array Nat) (h5 h':YB) (tk e:Nat),POk vs.length p->bA key p vs.length->(∀b o,s.heap.get? b=some o->h5.get? b=some o)->(∀b o,h5.get? b=some o->h'.get? b=some o)->h'.get? h5.objs.size=some (seqObj "list" (List.toArray (p.toList.map fun i=>vs.getD i .none)) e)->Q (.ref h5.objs.size) {s with heap:=h',toks:=tk}):
  wpAny (model prog w) A (call (.builtin "sorted") [.ref l]) Q E s:=by
 refine Xa kind_sorted plain_sorted entry_sorted (args_sorted1 _) ?_;unfold Builtin.«sorted»;refine UX (m:=checkCount "sorted" 1 1 _) (U1 (UX (hcol _ fun h5 tk k5=>?_)));refine UX (Zg ?_ (by rw[VT];lia));have k6:∀b o,s.heap.get? b=some o->(h5.push (seqObj "list" vs.toArray 0)).get? b=some o:=fun b o e=>Heap.get?_push_of_some _ (k5 b o e)
 have hL:(h5.push (seqObj "list" vs.toArray 0)).get? h5.objs.size=some (seqObj "list" vs.toArray 0):=Heap.get?_push_size _ rfl;have Uj:∀b o,s.heap.get? b=some o->b<h5.objs.size:=fun b o e=>U9 (k5 b o e)
 show wpAny _ _ _ _ _ {s with heap:=h5.push (seqObj "list" vs.toArray 0),toks:=tk};refine UX (WA (VQ slot_list_sort ⟨_,hL,rfl⟩ entry_list_sort (iS (key:=key) (kd:=kd) hL M5 (fun h2 h' kk Q' q=>Li h2 _ _ _ (fun b o e=>kk b o (Vk (Uj b o e)) (k6 b o e)) Q' q)
  (fun i j hi hj h' kk C q=>Nx i j hi hj _ (fun b o e=>kk b o (Vk (Uj b o e)) (k6 b o e)) C q) fun p h' hp hs ⟨e,he⟩ kk=>⟨_,rfl,?_⟩) (args_list_sort _)))
 exact U1 ⟨_,rfl,h p h5 h' tk e hp hs k5 (fun b o q=>kk b o (Vk (U9 q)) (Heap.get?_push_of_some _ q)) he⟩
end
section
variable{X:Cx}{pr:List (Yx×Obj)}{σ:L2.St}{H:Hp}{s:Yw}
theorem AX{H:Hp}{kvs:List (List Key×V)}{xs:List (List Key×Yx×Yu)}(r:KT H kvs xs):xs.map (·.1)=kvs.map (·.1):=by
 induction r with
 |nil=>rfl
 |cons hq _ ih=>rw[Vf,Vf,ih,hq.1]
theorem Gs{H:Hp}{kvs:List (List Key×V)}{xs:List (List Key×Yx×Yu)}(r:KT H kvs xs):∀y∈xs,H y.2.1=some (.tup (y.1.map kV)):=by
 induction r with
 |nil=>exact fun y hy=>nomatch hy
 |cons hq _ ih=>
  intro y hy;rcases Vb.mp hy with rfl|hy
  .rw[<-hq.1];exact hq.2.1
  .exact ih y hy
theorem AY(I:Inv X pr σ H s){a:Yx}{kvs:List (List Key×V)}(h:Rd H a (.dT kvs)):(a==sysModules)=false/\∃(al:List (Yx×List Key)) (es:Array DictEntry) (ep:Nat),
  RawD s.heap a es ep/\es.toList.map (·.key)=al.map (fun x=>Value.ref x.1)/\al.map (·.2)=kvs.map (·.1)/\∀x∈al,H x.1=some (.tup (x.2.map kV)):=by
 obtain⟨_,nm,xs,r,o,es,ep,h1,h2,h3,h4,_⟩:=h.ok I.hok;refine⟨nm,xs.map fun x=>(x.2.1,x.1),es,ep,⟨o,h1,h2,h3⟩,?_,?_,?_⟩
 .rw[h4,Vj,Vj];rfl
 .rw[Vj];exact AX r
 .intro x hx;obtain⟨y,hy,rfl⟩:=VX.mp hx;exact Gs r y hy
theorem lQ(hc:X.calm=true):dS X (.builtin "sorted") (fun vs H Q=>∃(p:Yx) (kvs:List (List Key×V)) (top:Bool) (t:List Bool),vs=[.ref p]/\Rd H p (.dT kvs)/\(∀kv∈kvs,kinds kv.1=top::t)/\kvs.length<64/\
  ∀(D:Yx) (ms:List (Yx×List Key)),H D=none->(∀a∈ms,H a.1=some (.tup (a.2.map kV)))->(ms.map (·.2)).Perm (kvs.map (·.1))->ms.Pairwise (fun a b=>dN b.2 a.2=false)->Q (.ref D) (upd H D (.lst (ms.map fun a=>V.ref a.1)))):=by
 intro pr s σ H vs us Q I r h;obtain⟨p,kvs,top,kt,rfl,hp,hk,M5,q⟩:=h;obtain⟨u,rfl,r1⟩:=f9 r;cases r1;obtain⟨nm,al,es,ep,raw,Ny,Sz,PL⟩:=AY I hp;have Nv:al.length=kvs.length:=by
  have:=V5 List.length Sz;simpa using this
 have L6:∀a∈al,SqT X.K H a.1 (a.2.map kV)/\kinds a.2=top::kt:=fun a ha=>by
  refine⟨SqT.of (PL a ha),?_⟩;have:a.2∈kvs.map (·.1):=by rw[<-Sz];exact VX.mpr ⟨a,ha,rfl⟩
  obtain⟨kv,La,e⟩:=VX.mp this;rw[<-e];exact hk kv La
 have rv:Vals (al.map fun a=>V.ref a.1) (al.map fun a=>Value.ref a.1):=by
  clear Ny Sz PL Nv L6;induction al with
  |nil=>exact .nil
  |cons a al ih=>exact .cons rfl ih
 have hl:(al.map fun a=>Value.ref a.1).length=al.length:=UZ ..;refine tS (O:=FA) (key:=fun i=>(al.getD i (0,[])).2) (kd:=tuples' true) (vs:=al.map fun a=>Value.ref a.1) (fun Q' hq=>?_) (by lia) (fun h2 A' E' s' kk Q' q'=>?_) (fun i j hi hj s' kk C q'=>?_) fun pp h5 h' tk e KY hs k5 k' he=>?_
 .refine kdu_collect (AW nm) (I.ok.hd hc) raw (by have:=V5 List.length Ny;simp only[UZ,V3]at this;rw[VT];lia) fun h' tk acc kk Mq=>?_
  have ea:acc.toList=al.map fun a=>Value.ref a.1:=by
   rw[<-Ny];apply Xx;intro j;rw[List.getElem?_map,Array.getElem?_toList,Array.getElem?_toList];cases hj:acc[j]? with
   |none=>
    have:es[j]?=none:=by
     rw[Array.getElem?_eq_none_iff]at hj ⊢;rw[<-Mq.1];exact hj
    rw[this];rfl
   |some v=>
    obtain⟨en,h1,h2⟩:=Mq.2 j v hj;rw[h1,h2];rfl
  have:=hq h' tk kk;rw[<-ea]at this;exact this
 .obtain⟨fs,t1,t2,t3⟩:=rh (h':=s'.heap) I kk top rv fun a ha=>⟨(L6 a ha).1,kt,(L6 a ha).2⟩
  refine kat_kind (T:=.type (if top then "int" else "str")) t1 (by lia) (fun v hv=>t3 v hv _) (by simp) ?_;have:((Value.type (if top then "int" else "str")) != Value.type "tuple")=true:=by cases top <;> decide
  rw[this];exact q'
 .unfold kas_ask;have N3:i<al.length:=by lia
  have PD:j<al.length:=by lia
  rw[mN rv N3,mN rv PD];have mi:al.getD i (0,[])∈al:=by rw[bI _ _ _ N3];exact WV _
  have mj:al.getD j (0,[])∈al:=by rw[bI _ _ _ PD];exact WV _
  obtain⟨u1,o1,n1,r1,g1,_,d1⟩:=oD I (L6 _ mi).1;obtain⟨u2,o2,n2,r2,g2,_,d2⟩:=oD I (L6 _ mj).1;have ek:kinds (al.getD i (0,[])).2=kinds (al.getD j (0,[])).2:=by rw[(L6 _ mi).2,(L6 _ mj).2]
  have el:u1.length=u2.length:=by
   have a1:=r1.length;have a2:=r2.length;have a3:=V5 List.length ek;simp only[kinds,UZ]at a1 a2 a3;lia
  refine kat_lt (kk _ _ g1) d1 (kk _ _ g2) d2 ?_;have ef:decide (u1.toArray.size<u2.toArray.size)=false:=by simp[el]
  rw[ef];exact kJ _ _ _ _ 0 r1 r2 ek q'
 .rw[hl]at KY hs;have PH:POk (al.map fun a=>V.ref a.1).length pp:=by rw[UZ];exact KY
  have eo:tP pp (al.map fun a=>V.ref a.1)=(pp.toList.map fun i=>al.getD i (0,[])).map fun a=>V.ref a.1:=by
   unfold tP;rw[Vj];refine VW fun i hi=>?_
   have hi:=VF.mp (KY.perm.mem_iff.mp hi);show(al.map fun a=>V.ref a.1).getD i .non=V.ref (al.getD i (0,[])).1;rw[bI _ _ _ (by rw[UZ];exact hi),bI _ _ _ hi];simp
  have I5:Inv X pr σ H {s with heap:=h5,toks:=tk}:=I.kept k5;have hn:H h5.objs.size=none:=I5.hok.fresh (U6 _);refine⟨.ref h5.objs.size,_,iT (s:={s with heap:=h5,toks:=tk}) I5 k' (U6 _) he (kr rv PH) ?_,rfl,?_⟩
  .show(tP pp (al.map fun a=>V.ref a.1)).length<=sizeLine;rw[eo,UZ,UZ,KY.perm.length_eq,Vi,VT];lia
  .rw[eo];have pm:=kq (0,[]) KY;refine q _ _ hn (fun a ha=>PL a (pm.mem_iff.mp ha)) ?_ ?_
   .rw[<-Sz];exact pm.map _
   .exact gR (O:=FA) (0,[]) (fun a:Yx×List Key=>a.2) KY hs
end
end NX
namespace NX
open PySem PySem.Spec PyProof.Rows L2
section
open PySem.SeqAt
open PySem.AutoSeq1 (wpAny_loadPart')
open PySem.MeetsSeq PySem.MeetsSeq2 PySem.MeetsSeq3
def rq{A:Yz}{s:Yw}{a c:Key}{u v:Yu}(ra:RelV (kV a) u)(rc:RelV (kV c) v):EqAt A s u v (decide (a=c)):=by
 have h:=zg (A:=A) (s:=s) ra rc (ku a) (ku c);rw[vh]at h;exact h
def ya{prog:Yy}{w:World}{A:Yz}{E:Yu->Yw->Prop}{s:Yw}{Q:Yu->Yw->Prop}{a c:Key}{u v:Yu}(ra:RelV (kV a) u)(rc:RelV (kV c) v)(hk:a.isLeft=c.isLeft)(h:Q (.bool (pR.blt a c)) s):
  wpAny (model prog w) A (richCompare .Lt u v) Q E s:=by
 cases a with
 |inl i=>
  cases c with
  |inr _=>cases hk
  |inl j=>
   obtain⟨t,rfl⟩:=ra;obtain⟨t',rfl⟩:=rc;exact(PyProof.Rows.lt_int h:wpAny (model prog w) A (compareOp .Lt (.int i t) (.int j t')) Q E s)
 |inr x=>
  cases c with
  |inl _=>cases hk
  |inr y=>
   obtain⟨t,rfl⟩:=ra;obtain⟨t',rfl⟩:=rc;exact(PyProof.Rows.lt_str h:wpAny (model prog w) A (compareOp .Lt (.str x t) (.str y t')) Q E s)
def yb{prog:Yy}{w:World}{A:Yz}{E:Yu->Yw->Prop}{s:Yw}{Q:Yu->Yw->Prop}{a c:Key}{u v:Yu}(ra:RelV (kV a) u)(rc:RelV (kV c) v)(hk:a.isLeft=c.isLeft)(h:Q (.bool (!pR.blt a c)) s):
  wpAny (model prog w) A (richCompare .GtE u v) Q E s:=by
 cases a with
 |inl i=>
  cases c with
  |inr _=>cases hk
  |inl j=>
   obtain⟨t,rfl⟩:=ra;obtain⟨t',rfl⟩:=rc;refine(PyProof.Rows.ge_int ?_:wpAny (model prog w) A (compareOp .GtE (.int i t) (.int j t')) Q E s);have e:(!pR.blt (.inl i) (.inl j))=decide (j<=i):=by
    show(!decide (i<j))=decide (j<=i);rw[Vp];simp
   rw[e]at h;exact h
 |inr x=>
  cases c with
  |inl _=>cases hk
  |inr y=>
   obtain⟨t,rfl⟩:=ra;obtain⟨t',rfl⟩:=rc;exact(PySem.P.ge_str h:wpAny (model prog w) A (compareOp .GtE (.str x t) (.str y t')) Q E s)
def oI(a c:Key)(r t:List Key):dN (a::r) (c::t)=if a=c then dN r t else pR.blt a c:=rfl
def mQ(l b:Yx)(items JX:Array Yu)(n n2:Nat)(dd MK:Option Yx)(sl ML:Array (Option Yu))(ks js:List Key)(hi:Vals (ks.map kV) items.toList)(hj:Vals (js.map kV) JX.toList)(hk:kinds ks=kinds js):
  Meets (Builtin.«tuple.__lt__» ⟨[.ref l,.ref b],[]⟩)
   (fun _ R s=>s.heap.get? l=some {cls:=.type "tuple",dict:=dd,data:=.seq items n,slots:=sl}/\s.heap.get? b=some {cls:=.type "tuple",dict:=MK,data:=.seq JX n2,slots:=ML}/\R (.ok (.ret (.bool (dN ks js)))) s):=
 .of_wp fun prog w A R s h=>by
  obtain⟨hp,g,d,tk,os⟩:=s;obtain⟨hl,hb,h⟩:=h;have f2:=Yg;have z1:items.size=ks.length:=by have:=hi.length;simp at this;lia
  have z2:JX.size=js.length:=by have:=hj.length;simp at this;lia
  have z3:ks.length=js.length:=by have:=V5 List.length hk;simpa[kinds] using this
  wp_walk using wpAny_loadPart' hl,wpAny_loadPart' hb,Yr _ (fun dX b s'=>b.1=none/\s'=⟨hp,g,d,tk,os⟩/\∃(vs ws:List Yu) (Ko KZ:List Key),dX=vs.zip ws/\
   Vals (Ko.map kV) vs/\Vals (KZ.map kV) ws/\kinds Ko=kinds KZ/\R (.ok (.ret (.bool (dN Ko KZ)))) ⟨hp,g,d,tk,os⟩) _
  case turn=>
   rintro⟨y,x⟩ dX b s' ⟨PM,rfl,vs,ws,Ko,KZ,hz,Oj,PN,L7,hR⟩;cases Ko with
   |nil=>
    cases Oj;rw[List.zip_nil_left]at hz;cases hz
   |cons a Ko=>
    cases KZ with
    |nil=>cases L7
    |cons c KZ=>
     cases Oj with
     | @cons _ va _ Lv ra hvi'=>
      cases PN with
      | @cons _ vc _ Nz rc hwi'=>
       rw[V0]at hz;injection hz with hyx hrest;injection hyx with hy hx;subst hy hx;have Tp:a.isLeft=c.isLeft:=(WC L7).1;have Rp:kinds Ko=kinds KZ:=(WC L7).2;rw[oI]at hR;have he:=rq (A:=A.in1) (s:=⟨hp,g,d,tk,os⟩) ra rc;refine UX (he prog w _ _ ?_);by_cases hac:a=c
       .rw[U5 hac]at hR;rw[Vu hac]
        wp_walk
        exact⟨rfl,rfl,_,_,_,_,hrest,hvi',hwi',Rp,hR⟩
       .rw[U8 hac]at hR;rw[Vq hac];have Tq:=fun E Q=>ya (prog:=prog) (w:=w) (A:=A.in1) (E:=E) (s:=⟨hp,g,d,tk,os⟩) (Q:=Q) ra rc Tp
        wp_walk using Tq
        exact⟨_,rfl,by simpa using hR⟩
  case fin=>
   rintro⟨b1,b2⟩ s' ⟨PM,rfl,vs,ws,Ko,KZ,hz,Oj,PN,L7,hR⟩;simp only at PM;subst PM;have hv:dN Ko KZ=decide (items.size<JX.size):=by
    cases Ko with
    |nil=>
     cases KZ with
     |nil=>exact(Vq (by lia)).symm
     |cons c KZ=>cases L7
    |cons a Ko=>
     cases KZ with
     |nil=>cases L7
     |cons c KZ=>
      cases Oj;cases PN;rw[V0]at hz;cases hz
   rw[hv]at hR
   wp_walk
   exact⟨_,rfl,by simpa[Builtin.Tuple.tupleCompareSizes] using hR⟩
  case h=>
   exact⟨rfl,rfl,items.toList,JX.toList,ks,js,rfl,hi,hj,hk,h⟩
def mR(l b:Yx)(items JX:Array Yu)(n n2:Nat)(dd MK:Option Yx)(sl ML:Array (Option Yu))(ks js:List Key)(hi:Vals (ks.map kV) items.toList)(hj:Vals (js.map kV) JX.toList)(hk:kinds ks=kinds js):
  Meets (Builtin.«tuple.__ge__» ⟨[.ref l,.ref b],[]⟩)
   (fun _ R s=>s.heap.get? l=some {cls:=.type "tuple",dict:=dd,data:=.seq items n,slots:=sl}/\s.heap.get? b=some {cls:=.type "tuple",dict:=MK,data:=.seq JX n2,slots:=ML}/\R (.ok (.ret (.bool (!dN ks js)))) s):=
 .of_wp fun prog w A R s h=>by
  obtain⟨hp,g,d,tk,os⟩:=s;obtain⟨hl,hb,h⟩:=h;have f2:=Yg;have z1:items.size=ks.length:=by have:=hi.length;simp at this;lia
  have z2:JX.size=js.length:=by have:=hj.length;simp at this;lia
  have z3:ks.length=js.length:=by have:=V5 List.length hk;simpa[kinds] using this
  wp_walk using wpAny_loadPart' hl,wpAny_loadPart' hb,Yr _ (fun dX b s'=>b.1=none/\s'=⟨hp,g,d,tk,os⟩/\∃(vs ws:List Yu) (Ko KZ:List Key),dX=vs.zip ws/\
   Vals (Ko.map kV) vs/\Vals (KZ.map kV) ws/\kinds Ko=kinds KZ/\R (.ok (.ret (.bool (!dN Ko KZ)))) ⟨hp,g,d,tk,os⟩) _
  case turn=>
   rintro⟨y,x⟩ dX b s' ⟨PM,rfl,vs,ws,Ko,KZ,hz,Oj,PN,L7,hR⟩;cases Ko with
   |nil=>
    cases Oj;rw[List.zip_nil_left]at hz;cases hz
   |cons a Ko=>
    cases KZ with
    |nil=>cases L7
    |cons c KZ=>
     cases Oj with
     | @cons _ va _ Lv ra hvi'=>
      cases PN with
      | @cons _ vc _ Nz rc hwi'=>
       rw[V0]at hz;injection hz with hyx hrest;injection hyx with hy hx;subst hy hx;have Tp:a.isLeft=c.isLeft:=(WC L7).1;have Rp:kinds Ko=kinds KZ:=(WC L7).2;rw[oI]at hR;have he:=rq (A:=A.in1) (s:=⟨hp,g,d,tk,os⟩) ra rc;refine UX (he prog w _ _ ?_);by_cases hac:a=c
       .rw[U5 hac]at hR;rw[Vu hac]
        wp_walk
        exact⟨rfl,rfl,_,_,_,_,hrest,hvi',hwi',Rp,hR⟩
       .rw[U8 hac]at hR;rw[Vq hac];have Tq:=fun E Q=>yb (prog:=prog) (w:=w) (A:=A.in1) (E:=E) (s:=⟨hp,g,d,tk,os⟩) (Q:=Q) ra rc Tp
        wp_walk using Tq
        exact⟨_,rfl,by simpa using hR⟩
  case fin=>
   rintro⟨b1,b2⟩ s' ⟨PM,rfl,vs,ws,Ko,KZ,hz,Oj,PN,L7,hR⟩;simp only at PM;subst PM;have hv:(!dN Ko KZ)=decide (JX.size<=items.size):=by
    cases Ko with
    |nil=>
     cases KZ with
     |nil=>exact(Vu (by lia)).symm
     |cons c KZ=>cases L7
    |cons a Ko=>
     cases KZ with
     |nil=>cases L7
     |cons c KZ=>
      cases Oj;cases PN;rw[V0]at hz;cases hz
   rw[hv]at hR
   wp_walk
   exact⟨_,rfl,by simpa[Builtin.Tuple.tupleCompareSizes] using hR⟩
  case h=>
   exact⟨rfl,rfl,items.toList,JX.toList,ks,js,rfl,hi,hj,hk,h⟩
end
section
variable{X:Cx}
def Hv(K:W.Frag)(neg:Bool):R2:=fun x y H Q=>∃a b ks js,x=.ref a/\y=.ref b/\SqT K H a (ks.map kV)/\SqT K H b (js.map kV)/\kinds ks=kinds js/\Q (.bl (if neg then !dN ks js else dN ks js)) H
theorem DG(hu:X.A.units<cLine):JT X (compareOp .Lt) (Hv X.K false):=by
 intro pr s σ H x y v u Q I rx ry h;obtain⟨a,b,ks,js,rfl,rfl,ha,hb,hk,q⟩:=h;cases rx;cases ry;obtain⟨Je,r1,p1,_⟩:=I.tuple ha;obtain⟨Mo,r2,p2,_⟩:=I.tuple hb;obtain⟨⟨cls,dd,data,sl⟩,ho,hc,n,hd⟩:=id p1;obtain⟨⟨Ob,MK,data2,ML⟩,Ks,L5,n2,hd2⟩:=id p2;simp only at hc hd L5 hd2;subst hc hd L5 hd2;exact richCompare_meets_room (op:=.Lt) ⟨_,ho,rfl⟩ ⟨_,Ks,rfl⟩ PySem.F.slot_tuple_lt PySem.F.entry_tuple_lt (PySem.F.args_tuple_lt_2 _ _) (mQ a b _ _ n n2 dd MK sl ML ks js (by simpa using r1) (by simpa using r2) hk)
  ⟨ho,Ks,show Value.bool (dN ks js)≠Value.notImplemented/\EP X pr σ Q (.bool (dN ks js)) s from⟨(fun x=>nomatch x),⟨.bl (dN ks js),H,I,rfl,q⟩⟩⟩ hu
theorem DH(hu:X.A.units<cLine):JT X (compareOp .GtE) (Hv X.K true):=by
 intro pr s σ H x y v u Q I rx ry h;obtain⟨a,b,ks,js,rfl,rfl,ha,hb,hk,q⟩:=h;cases rx;cases ry;obtain⟨Je,r1,p1,_⟩:=I.tuple ha;obtain⟨Mo,r2,p2,_⟩:=I.tuple hb;obtain⟨⟨cls,dd,data,sl⟩,ho,hc,n,hd⟩:=id p1;obtain⟨⟨Ob,MK,data2,ML⟩,Ks,L5,n2,hd2⟩:=id p2;simp only at hc hd L5 hd2;subst hc hd L5 hd2;exact richCompare_meets_room (op:=.GtE) ⟨_,ho,rfl⟩ ⟨_,Ks,rfl⟩ PySem.F.slot_tuple_ge PySem.F.entry_tuple_ge (PySem.F.args_tuple_ge_2 _ _) (mR a b _ _ n n2 dd MK sl ML ks js (by simpa using r1) (by simpa using r2) hk)
  ⟨ho,Ks,show Value.bool (!dN ks js)≠Value.notImplemented/\EP X pr σ Q (.bool (!dN ks js)) s from⟨(fun x=>nomatch x),⟨.bl (!dN ks js),H,I,rfl,q⟩⟩⟩ hu
end
section
variable{prog:Yy}{w:World}{A:Yz}{E:Yu->Yw->Prop}{s:Yw}
def PQ(a c n:Int):Obj:={cls:=.type "range_iterator",data:=.fields #[rawInt (a+(n-1)*c),rawInt n,rawInt (-c)]}
theorem yc{r:Yx}{a b c:Int}{t u v:Tok}{Q:Int×Int×Int->Yw->Prop}(hr:IsRange s.heap r a b c t u v)(h:Q (a,b,c) s):wpAny (model prog w) A (Builtin.Range.rangeFields (.ref r)) Q E s:=by
 unfold Builtin.Range.rangeFields;refine UX (VU hr rfl (x:=.int a t) rfl ?_);refine UX (U1 ?_);refine UX (VU hr rfl (x:=.int b u) rfl ?_);refine UX (U1 ?_);refine UX (VU hr rfl (x:=.int c v) rfl ?_);refine UX (U1 ?_);exact U1 h
theorem AZ{r:Yx}{n:Int}{t u v:Tok}{Q:Yu->Yw->Prop}(hr:IsRange s.heap r 0 n 1 t u v)(h0:0<=n)(h1:n<=1048576)
  (h:Q (.ref s.heap.objs.size) {s with heap:=s.heap.push (PQ 0 1 n)}):wpAny (model prog w) A (call (.builtin "range.__reversed__") [.ref r]) Q E s:=by
 have hT:s.TypeIs (.ref r) "range":=⟨_,hr,rfl⟩
 refine VQ PySem.F.slot_range_reversed hT PySem.F.entry_range_reversed ?_ (PySem.F.args_range_reversed_1 _);unfold Builtin.«range.__reversed__»;refine UX (W3 (a:=Value.ref r) rfl ?_);have hs:Builtin.Range.rangeSize 0 n 1=n:=by
  unfold Builtin.Range.rangeSize;by_cases e:0<n
  .rw[U5 (by decide),U5 e];lia
  .rw[U5 (by decide),U8 e];lia
 have fl:∀x:Int,-1048577<=x->x<=1048577->Builtin.Range.rangeFitsLong x=true:=fun x a b=>by
  unfold Builtin.Range.rangeFitsLong;rw[Va,Ve,Ve];lia
 refine UX (yc hr ?_);dsimp only;rw[hs,fl 0 (by decide) (by decide),fl n (by lia) (by lia),fl 1 (by decide) (by decide),fl (-1) (by decide) (by decide),fl (0-1) (by decide) (by decide)];simp only[Wf,V9,V7,XB,W8];exact UX (VN (U1 ⟨_,rfl,h⟩))
theorem DI:isSubtype (.type "range_iterator") (.type "reversed")=pure false:=by
 rw[isSubtype_type]
 kernel_rfl
theorem A5{r:Yx}{n:Int}{t u v:Tok}{P1:Yu->Yw->Prop}(hr:IsRange s.heap r 0 n 1 t u v)(h0:0<=n)(h1:n<=1048576)
  (h:P1 (.ref s.heap.objs.size) {s with heap:=s.heap.push (PQ 0 1 n)}):codeAny (model prog w) A (.call (.builtin "reversed.__new__") ⟨[.type "reversed",.ref r],[]⟩) (wants P1 E) s:=by
 have hT:s.TypeIs (.ref r) "range":=⟨_,hr,rfl⟩
 apply codeAny_of_tree;show wpAny _ A.in1 (checkBuiltinCall "reversed.__new__" ⟨[.type "reversed",.ref r],[]⟩ >>= fun _=>again (.builtin "reversed.__new__" ⟨[.type "reversed",.ref r],[]⟩)) _ _ s;apply UX;apply W3 (PySem.F.newCall_reversed_1 _);refine U1 ⟨XM X2 _,XU PySem.F.entry_reversed_new ?_⟩;rw[W9 X2 _];unfold Builtin.«reversed.__new__»;apply UX;apply W3 (newClass_reversed _);try dsimp only
 apply UX;apply W3 (a:=()) (by first|rfl|kernel_rfl);apply UX;apply W3 (a:=()) (by first|rfl|kernel_rfl);try dsimp only
 apply UX;apply wpAny_specialOf hT PySem.F.slot_range_reversed.lookup;try dsimp only
 apply UX;apply W3 (PySem.F.slot_range_reversed.bind _);try dsimp only
 have nn:¬ ((Value.builtin "range.__reversed__" == Value.none)=true):=U3;first
  |rw[U8 nn]
  |(show wpAny _ _ (if(Value.builtin "range.__reversed__" == Value.none)=true then _ else _) _ _ _;rw[U8 nn])
 apply UX;apply Ye;refine UX (m:=runValue (.call (.builtin "range.__reversed__") ⟨[.ref r],[]⟩)) (show wpAny _ _ (call (.builtin "range.__reversed__") [.ref r]) _ _ _ from AZ hr h0 h1 ?_);first
  |exact U1 h
  |exact UX (U1 (U1 h))
theorem A8{r:Yx}{n:Int}{t u v:Tok}{Q:Yu->Yw->Prop}(hr:IsRange s.heap r 0 n 1 t u v)(h0:0<=n)(h1:n<=1048576)
  (h:Q (.ref s.heap.objs.size) {s with heap:=s.heap.push (PQ 0 1 n)}):wpAny (model prog w) A (call (.type "reversed") [.ref r]) Q E s:=by
 refine callType_other (U:="range_iterator") (Q₁:=fun obj s₁=>obj=.ref s.heap.objs.size/\s₁={s with heap:=s.heap.push (PQ 0 1 n)}) (by decide +kernel) PySem.F.create_reversed ⟨_,_,PySem.F.mro_reversed⟩ PySem.F.made_reversed DI (PySem.F.typeCall_reversed_1 _) (A5 hr h0 h1 ⟨rfl,rfl⟩) fun obj s₁ q=>?_
 obtain⟨q1,q2⟩:=q;subst q1 q2;exact⟨⟨_,Heap.get?_push_size _ rfl,rfl⟩,h⟩
end
section
variable{X:Cx}{pr:List (Yx×Obj)}{σ:L2.St}{H:Hp}{s:Yw}{scope:Scope}{N:List Str}{ix:List (Option Nat)}{fp:List Yx}
end
section
variable{X:Cx}{scope:Scope}{N:List Str}{ix:List (Option Nat)}{tg iter elt:Expr}{ifs:List Expr}{pos:Pos}{wi:TI}{g:TG}{tc:TT}{te:TE}
end
noncomputable def CXC(P:Yy)(w:World)(base:YB)(C:Yx):CXT:=fun outer H s E e s'=>
 ∃(a t:Yx) (B:YB) (H':Hp),e=.ref a/\s'.os=s.os/\AllBare s'.gens/\Un (MJ outer) [] H H' s.heap s'.heap/\HOk P w H' s'.heap/\Heap.FlyingW B outer a (.ref C) (.ref t) s'.heap/\
  (∀b u,s'.heap.get? b=some u->(H' b≠none\/∃o,s.heap.get? b=some o)->b∉MJ outer->B.get? b=some u)/\E (.ref C) none H'
section
variable{X:Cx}{st:Stmt}{dX:List Stmt}{t:TS}{u u':L2.St->Hp->Prop}{e:Expr}{es:List Expr}{x:Str}{C:Yx}{Ww:Hp->Prop}{np Jr pos:Pos}
end
def XP(X:Cx)(pr:List (Yx×Obj))(σ:L2.St)(C:Yx)(Ww:Hp->Prop)(e:Yu)(s':Yw):Prop:=∃(s1:Yw) (H1:Hp),Inv X pr σ H1 s1/\CXC X.prog X.w X.base C X.stack H1 s1 (fun _ _ H'=>Ww H') e s'
abbrev TX:=L2.St->Hp->(Hp->Prop)->Prop
section
variable{X:Cx}{st:Stmt}{dX:List Stmt}{tx:TX}{e a b:Expr}{es:List Expr}{x:Str}{C:Yx}{k:Nat}{sp:Sp}{p pos:Pos}
end
open PySem.Builtin.ObjectAttr PySem.Builtin.Getset_descriptor
section
variable{prog:Yy}{w:World}{A:Yz}{E:Yu->Yw->Prop}{s:Yw}{K:W.Frag}{x D:Yx}
end
section
variable{X:Cx}{pr:List (Yx×Obj)}{σ:L2.St}{H:Hp}{s:Yw}{a:Yx}{o:Obj}
end
end NX
namespace NX
open PySem PySem.W PySem.Spec PyProof.Rows L2
section
variable{prog:Yy}{w:World}{A:Yz}{E:Yu->Yw->Prop}{s:Yw}
end
section
variable{X:Cx}
end
end NX
namespace NX
open PySem PySem.Spec PyProof.Rows L2
section
variable{X:Cx}{es:List Expr}{kt:Nat}{pt:Pos}
end
end NX
namespace PV
open PySem L2 NX
inductive D where
 |non|bl (b:Bool)|int (i:Int)|str (l:List Nat)|tup (ds:List D)|lst (ds:List D)|dct (tk:Bool) (ks vs:List D)
inductive O where
 |f|l (c:O)|t (cs:List O)|d|pin (p:Yx) (c:O)
abbrev R:=O×D
abbrev Env:=List (Option R)
inductive Res(α:Type) where
 |ok (a:α)|exc (c:List Nat)|bad
def kD:Key->D
 | .inl i=>.int i
 | .inr x=>.str x.cps.toList
def isM:HO->Bool
 | .lst _=>true
 | .dK _=>true
 | .dT _=>true
 |_=>false
def isT:HO->Bool
 | .tup _=>true
 | .frz _ (.tup _)=>true
 |_=>false
def tU:Key->Prop
 | .inl _=>True
 | .inr x=>x.cps.toList.length<=sizeLine
def DictO(o:HO)(tk:Bool)(ks:List D)(xs:List V):Prop:=match tk with
 |true=>∃kvs:List (List Key×V),o=.dT kvs/\ks=kvs.map (fun kv=>D.tup (kv.1.map kD))/\xs=kvs.map (·.2)/\∀kv∈kvs,∀k∈kv.1,tU k
 |false=>∃kvs:List (Key×V),o=.dK kvs/\ks=kvs.map (fun kv=>kD kv.1)/\xs=kvs.map (·.2)/\∀kv∈kvs,tU kv.1
mutual
noncomputable def Rep(K:W.Frag)(G:Hp):D->V->Prop
 | .non,v=>v=.non
 | .bl b,v=>v=.bl b
 | .int i,v=>v=.int i
 | .str l,v=>v=.str (S l)/\l.length<=sizeLine
 | .tup ds,v=>∃p xs,v=.ref p/\G p=some (.tup xs)/\Reps K G ds xs
 | .lst ds,v=>∃p xs,v=.ref p/\SqL K G p xs/\Reps K G ds xs
 | .dct tk ks vs,v=>∃p xs o,v=.ref p/\Rd G p o/\DictO o tk ks xs/\Reps K G vs xs
noncomputable def Reps(K:W.Frag)(G:Hp):List D->List V->Prop
 |[],xs=>xs=[]
 |d::ds,xs=>∃y ys,xs=y::ys/\Rep K G d y/\Reps K G ds ys
end
def AllO(P:D->V->List Yx->Prop):List D->List V->List Yx->Prop
 |[],xs,fp=>xs=[]/\fp=[]
 |d::ds,xs,fp=>∃y ys a b,xs=y::ys/\fp=a++b/\P d y a/\AllO P ds ys b
mutual
noncomputable def RepO(K:W.Frag)(G H:Hp):O->D->V->List Yx->Prop
 | .f,d,v,fp=>Rep K G d v/\fp=[]
 | .l c,.lst ds,v,fp=>∃p xs Jf,v=.ref p/\H p=some (.lst xs)/\fp=p::Jf/\AllO (RepO K G H c) ds xs Jf
 | .t cs,.tup ds,v,fp=>∃p xs,v=.ref p/\G p=some (.tup xs)/\RepT K G H cs ds xs fp
 | .d,.dct tk ks vs,v,fp=>∃p xs o,v=.ref p/\H p=some o/\DictO o tk ks xs/\fp=[p]/\Reps K G vs xs
 | .pin p c,d,v,fp=>v=.ref p/\RepO K G H c d v fp
 |_,_,_,_=>False
noncomputable def RepT(K:W.Frag)(G H:Hp):List O->List D->List V->List Yx->Prop
 |[],[],xs,fp=>xs=[]/\fp=[]
 |c::cs,d::ds,xs,fp=>∃y ys a b,xs=y::ys/\fp=a++b/\RepO K G H c d y a/\RepT K G H cs ds ys b
 |_,_,_,_=>False
end
section
variable{K:W.Frag}{G G' H H':Hp}
theorem Rd.mono{p:Yx}{u:HO}(h:Same G G')(r:Rd G p u):Rd G' p u:=by
 rcases r with r|⟨o,r⟩
 .exact .inl (h _ _ r)
 .exact .inr ⟨o,h _ _ r⟩
theorem gS{p:Yx}{xs:List V}(h:Same G G')(r:SqL K G p xs):SqL K G' p xs:=r.elim (fun r=>.inl (Rd.mono h r)) .inr
theorem bW{p:Yx}{xs:List V}(h:Same G G')(r:SqT K G p xs):SqT K G' p xs:=r.elim (fun r=>.inl (Rd.mono h r)) .inr
mutual
theorem Rep.mono(h:Same G G'):∀{d:D}{v:V},Rep K G d v->Rep K G' d v
 | .non,_,r=>by simpa only[Rep] using r
 | .bl _,_,r=>by simpa only[Rep] using r
 | .int _,_,r=>by simpa only[Rep] using r
 | .str _,_,r=>by simpa only[Rep] using r
 | .tup ds,_,r=>by
  simp only[Rep]at r ⊢;obtain⟨p,xs,e,q,rs⟩:=r;exact⟨p,xs,e,h _ _ q,Reps.mono h rs⟩
 | .lst ds,_,r=>by
  simp only[Rep]at r ⊢;obtain⟨p,xs,e,q,rs⟩:=r;exact⟨p,xs,e,gS h q,Reps.mono h rs⟩
 | .dct tk ks vs,_,r=>by
  simp only[Rep]at r ⊢;obtain⟨p,xs,o,e,q,dd,rs⟩:=r;exact⟨p,xs,o,e,Rd.mono h q,dd,Reps.mono h rs⟩
theorem Reps.mono(h:Same G G'):∀{ds:List D}{xs:List V},Reps K G ds xs->Reps K G' ds xs
 |[],_,r=>by simpa only[Reps] using r
 |d::ds,_,r=>by
  simp only[Reps]at r ⊢;obtain⟨y,ys,e,r1,r2⟩:=r;exact⟨y,ys,e,Rep.mono h r1,Reps.mono h r2⟩
end
theorem AllO.imp{P P':D->V->List Yx->Prop}:∀{ds:List D}{xs:List V}{fp:List Yx},(∀d v a,(∀p∈a,p∈fp)->P d v a->P' d v a)->AllO P ds xs fp->AllO P' ds xs fp
 |[],_,_,_,r=>r
 |d::ds,xs,fp,h,r=>by
  obtain⟨y,ys,a,b,e1,e2,p,q⟩:=r;subst e2;exact⟨y,ys,a,b,e1,rfl,h _ _ _ (fun p hp=>U7 _ hp) p,AllO.imp (fun d v c hc=>h d v c fun p hp=>U2 _ (hc p hp)) q⟩
mutual
theorem RepO.step(h:Same G G'):∀{o:O}{d:D}{v:V}{fp:List Yx},(∀p∈fp,H' p=H p)->RepO K G H o d v fp->RepO K G' H' o d v fp
 | .f,d,v,fp,hk,r=>by
  simp only[RepO]at r ⊢;exact⟨Rep.mono h r.1,r.2⟩
 | .pin p c,d,v,fp,hk,r=>by
  simp only[RepO]at r ⊢;exact⟨r.1,RepO.step h hk r.2⟩
 | .l c,.lst ds,v,fp,hk,r=>by
  simp only[RepO]at r ⊢;obtain⟨p,xs,Jf,e,q,e2,a⟩:=r;subst e2;exact⟨p,xs,Jf,e,(hk p UY).trans q,rfl,AllO.imp (fun d v c hc=>RepO.step h fun z hz=>hk z (U4 _ (hc z hz))) a⟩
 | .t cs,.tup ds,v,fp,hk,r=>by
  simp only[RepO]at r ⊢;obtain⟨p,xs,e,q,a⟩:=r;exact⟨p,xs,e,h _ _ q,RepT.step h hk a⟩
 | .d,.dct tk ks vs,v,fp,hk,r=>by
  simp only[RepO]at r ⊢;obtain⟨p,xs,o,e,q,dd,e2,rs⟩:=r;subst e2;exact⟨p,xs,o,e,(hk p UY).trans q,dd,rfl,Reps.mono h rs⟩
 | .l _,.non,_,_,_,r | .l _,.bl _,_,_,_,r | .l _,.int _,_,_,_,r | .l _,.str _,_,_,_,r | .l _,.tup _,_,_,_,r | .l _,.dct _ _ _,_,_,_,r=>by simp only[RepO]at r
 | .t _,.non,_,_,_,r | .t _,.bl _,_,_,_,r | .t _,.int _,_,_,_,r | .t _,.str _,_,_,_,r | .t _,.lst _,_,_,_,r | .t _,.dct _ _ _,_,_,_,r=>by simp only[RepO]at r
 | .d,.non,_,_,_,r | .d,.bl _,_,_,_,r | .d,.int _,_,_,_,r | .d,.str _,_,_,_,r | .d,.tup _,_,_,_,r | .d,.lst _,_,_,_,r=>by simp only[RepO]at r
theorem RepT.step(h:Same G G'):∀{cs:List O}{ds:List D}{xs:List V}{fp:List Yx},(∀p∈fp,H' p=H p)->RepT K G H cs ds xs fp->RepT K G' H' cs ds xs fp
 |[],[],_,_,_,r=>by simpa only[RepT] using r
 |c::cs,d::ds,xs,fp,hk,r=>by
  simp only[RepT]at r ⊢;obtain⟨y,ys,a,b,e1,e2,r1,r2⟩:=r;subst e2;exact⟨y,ys,a,b,e1,rfl,RepO.step h (fun p hp=>hk p (U7 _ hp)) r1,RepT.step h (fun p hp=>hk p (U2 _ hp)) r2⟩
 |[],_::_,_,_,_,r=>by simp only[RepT]at r
 |_::_,[],_,_,_,r=>by simp only[RepT]at r
end
theorem AllO.frozen{P:D->V->List Yx->Prop}:∀{ds:List D}{xs:List V}{fp:List Yx},(∀d v a,(∀p∈a,p∈fp)->P d v a->Rep K G' d v)->AllO P ds xs fp->Reps K G' ds xs
 |[],_,_,_,r=>by simp only[Reps];exact r.1
 |d::ds,xs,fp,h,r=>by
  obtain⟨y,ys,a,b,e1,e2,p,q⟩:=r;subst e2;simp only[Reps];exact⟨y,ys,e1,h _ _ _ (fun p hp=>U7 _ hp) p,AllO.frozen (fun d v c hc=>h d v c fun p hp=>U2 _ (hc p hp)) q⟩
mutual
theorem RepO.frozen(h:Same G G'):∀{o:O}{d:D}{v:V}{fp:List Yx},(∀p∈fp,∀u,H p=some u->G' p=some u)->RepO K G H o d v fp->Rep K G' d v
 | .f,d,v,fp,hk,r=>by
  simp only[RepO]at r;exact Rep.mono h r.1
 | .pin p c,d,v,fp,hk,r=>by
  simp only[RepO]at r;exact RepO.frozen h hk r.2
 | .l c,.lst ds,v,fp,hk,r=>by
  simp only[RepO]at r;simp only[Rep];obtain⟨p,xs,Jf,e,q,e2,a⟩:=r;subst e2;exact⟨p,xs,e,SqL.of (hk p UY _ q),AllO.frozen (fun d v c hc=>RepO.frozen h fun z hz=>hk z (U4 _ (hc z hz))) a⟩
 | .t cs,.tup ds,v,fp,hk,r=>by
  simp only[RepO]at r;simp only[Rep];obtain⟨p,xs,e,q,a⟩:=r;exact⟨p,xs,e,h _ _ q,RepT.frozen h hk a⟩
 | .d,.dct tk ks vs,v,fp,hk,r=>by
  simp only[RepO]at r;simp only[Rep];obtain⟨p,xs,o,e,q,dd,e2,rs⟩:=r;subst e2;exact⟨p,xs,o,e,.inl (hk p UY _ q),dd,Reps.mono h rs⟩
 | .l _,.non,_,_,_,r | .l _,.bl _,_,_,_,r | .l _,.int _,_,_,_,r | .l _,.str _,_,_,_,r | .l _,.tup _,_,_,_,r | .l _,.dct _ _ _,_,_,_,r=>by simp only[RepO]at r
 | .t _,.non,_,_,_,r | .t _,.bl _,_,_,_,r | .t _,.int _,_,_,_,r | .t _,.str _,_,_,_,r | .t _,.lst _,_,_,_,r | .t _,.dct _ _ _,_,_,_,r=>by simp only[RepO]at r
 | .d,.non,_,_,_,r | .d,.bl _,_,_,_,r | .d,.int _,_,_,_,r | .d,.str _,_,_,_,r | .d,.tup _,_,_,_,r | .d,.lst _,_,_,_,r=>by simp only[RepO]at r
theorem RepT.frozen(h:Same G G'):∀{cs:List O}{ds:List D}{xs:List V}{fp:List Yx},(∀p∈fp,∀u,H p=some u->G' p=some u)->RepT K G H cs ds xs fp->Reps K G' ds xs
 |[],[],_,_,_,r=>by simp only[RepT]at r;simp only[Reps];exact r.1
 |c::cs,d::ds,xs,fp,hk,r=>by
  simp only[RepT]at r;simp only[Reps];obtain⟨y,ys,a,b,e1,e2,r1,r2⟩:=r;subst e2;exact⟨y,ys,e1,RepO.frozen h (fun p hp=>hk p (U7 _ hp)) r1,RepT.frozen h (fun p hp=>hk p (U2 _ hp)) r2⟩
 |[],_::_,_,_,_,r=>by simp only[RepT]at r
 |_::_,[],_,_,_,r=>by simp only[RepT]at r
end
theorem AllO.live{P:D->V->List Yx->Prop}:∀{ds:List D}{xs:List V}{fp:List Yx},(∀d v a,P d v a->∀p∈a,∃u,H p=some u)->AllO P ds xs fp->∀p∈fp,∃u,H p=some u
 |[],_,_,_,r=>by rw[r.2];intro p hp;cases hp
 |d::ds,xs,fp,h,r=>by
  obtain⟨y,ys,a,b,e1,e2,p,q⟩:=r;subst e2;intro z hz;rcases Vv.mp hz with hz|hz
  .exact h _ _ _ p z hz
  .exact AllO.live h q z hz
mutual
theorem RepO.live:∀{o:O}{d:D}{v:V}{fp:List Yx},RepO K G H o d v fp->∀p∈fp,∃u,H p=some u
 | .f,d,v,fp,r=>by
  simp only[RepO]at r;rw[r.2];intro p hp;cases hp
 | .pin p c,d,v,fp,r=>by
  simp only[RepO]at r;exact RepO.live r.2
 | .l c,.lst ds,v,fp,r=>by
  simp only[RepO]at r;obtain⟨p,xs,Jf,e,q,e2,a⟩:=r;subst e2;intro z hz;rcases Vb.mp hz with rfl|hz
  .exact⟨_,q⟩
  .exact AllO.live (fun d v a=>RepO.live) a z hz
 | .t cs,.tup ds,v,fp,r=>by
  simp only[RepO]at r;obtain⟨p,xs,e,q,a⟩:=r;exact RepT.live a
 | .d,.dct tk ks vs,v,fp,r=>by
  simp only[RepO]at r;obtain⟨p,xs,o,e,q,dd,e2,rs⟩:=r;subst e2;intro z hz;rw[Vn]at hz;exact⟨_,hz▸q⟩
 | .l _,.non,_,_,r | .l _,.bl _,_,_,r | .l _,.int _,_,_,r | .l _,.str _,_,_,r | .l _,.tup _,_,_,r | .l _,.dct _ _ _,_,_,r=>by simp only[RepO]at r
 | .t _,.non,_,_,r | .t _,.bl _,_,_,r | .t _,.int _,_,_,r | .t _,.str _,_,_,r | .t _,.lst _,_,_,r | .t _,.dct _ _ _,_,_,r=>by simp only[RepO]at r
 | .d,.non,_,_,r | .d,.bl _,_,_,r | .d,.int _,_,_,r | .d,.str _,_,_,r | .d,.tup _,_,_,r | .d,.lst _,_,_,r=>by simp only[RepO]at r
theorem RepT.live:∀{cs:List O}{ds:List D}{xs:List V}{fp:List Yx},RepT K G H cs ds xs fp->∀p∈fp,∃u,H p=some u
 |[],[],_,_,r=>by
  simp only[RepT]at r;rw[r.2];intro p hp;cases hp
 |c::cs,d::ds,xs,fp,r=>by
  simp only[RepT]at r;obtain⟨y,ys,a,b,e1,e2,r1,r2⟩:=r;subst e2;intro z hz;rcases Vv.mp hz with hz|hz
  .exact RepO.live r1 z hz
  .exact RepT.live r2 z hz
 |[],_::_,_,_,r=>by simp only[RepT]at r
 |_::_,[],_,_,r=>by simp only[RepT]at r
end
theorem DictO.isM{o:HO}{tk:Bool}{ks:List D}{xs:List V}(h:DictO o tk ks xs):PV.isM o=true:=by
 cases tk with
 |true=>
  obtain⟨kvs,e,_⟩:=h;rw[e];rfl
 |false=>
  obtain⟨kvs,e,_⟩:=h;rw[e];rfl
theorem AllO.mut{P:D->V->List Yx->Prop}:∀{ds:List D}{xs:List V}{fp:List Yx},(∀d v a,P d v a->∀p∈a,∃u,H p=some u/\isM u=true)->AllO P ds xs fp->∀p∈fp,∃u,H p=some u/\isM u=true
 |[],_,_,_,r=>by rw[r.2];intro p hp;cases hp
 |d::ds,xs,fp,h,r=>by
  obtain⟨y,ys,a,b,e1,e2,p,q⟩:=r;subst e2;intro z hz;rcases Vv.mp hz with hz|hz
  .exact h _ _ _ p z hz
  .exact AllO.mut h q z hz
mutual
theorem RepO.mut:∀{o:O}{d:D}{v:V}{fp:List Yx},RepO K G H o d v fp->∀p∈fp,∃u,H p=some u/\isM u=true
 | .f,d,v,fp,r=>by
  simp only[RepO]at r;rw[r.2];intro p hp;cases hp
 | .pin p c,d,v,fp,r=>by
  simp only[RepO]at r;exact RepO.mut r.2
 | .l c,.lst ds,v,fp,r=>by
  simp only[RepO]at r;obtain⟨p,xs,Jf,e,q,e2,a⟩:=r;subst e2;intro z hz;rcases Vb.mp hz with rfl|hz
  .exact⟨_,q,rfl⟩
  .exact AllO.mut (fun d v a=>RepO.mut) a z hz
 | .t cs,.tup ds,v,fp,r=>by
  simp only[RepO]at r;obtain⟨p,xs,e,q,a⟩:=r;exact RepT.mut a
 | .d,.dct tk ks vs,v,fp,r=>by
  simp only[RepO]at r;obtain⟨p,xs,o,e,q,dd,e2,rs⟩:=r;subst e2;intro z hz;rw[Vn]at hz;exact⟨_,hz▸q,dd.isM⟩
 | .l _,.non,_,_,r | .l _,.bl _,_,_,r | .l _,.int _,_,_,r | .l _,.str _,_,_,r | .l _,.tup _,_,_,r | .l _,.dct _ _ _,_,_,r=>by simp only[RepO]at r
 | .t _,.non,_,_,r | .t _,.bl _,_,_,r | .t _,.int _,_,_,r | .t _,.str _,_,_,r | .t _,.lst _,_,_,r | .t _,.dct _ _ _,_,_,r=>by simp only[RepO]at r
 | .d,.non,_,_,r | .d,.bl _,_,_,r | .d,.int _,_,_,r | .d,.str _,_,_,r | .d,.tup _,_,_,r | .d,.lst _,_,_,r=>by simp only[RepO]at r
theorem RepT.mut:∀{cs:List O}{ds:List D}{xs:List V}{fp:List Yx},RepT K G H cs ds xs fp->∀p∈fp,∃u,H p=some u/\isM u=true
 |[],[],_,_,r=>by
  simp only[RepT]at r;rw[r.2];intro p hp;cases hp
 |c::cs,d::ds,xs,fp,r=>by
  simp only[RepT]at r;obtain⟨y,ys,a,b,e1,e2,r1,r2⟩:=r;subst e2;intro z hz;rcases Vv.mp hz with hz|hz
  .exact RepO.mut r1 z hz
  .exact RepT.mut r2 z hz
 |[],_::_,_,_,r=>by simp only[RepT]at r
 |_::_,[],_,_,r=>by simp only[RepT]at r
end
noncomputable def RepE(K:W.Frag)(G H:Hp):Env->List (Option V)->List Yx->Prop
 |[],vs,fp=>vs=[]/\fp=[]
 |e::es,vs,fp=>∃y ys,vs=y::ys/\match e with
  |none=>RepE K G H es ys fp
  |some r=>∃v a b,y=some v/\fp=a++b/\RepO K G H r.1 r.2 v a/\RepE K G H es ys b
theorem RepE.step(h:Same G G'):∀{es:Env}{vs:List (Option V)}{fp:List Yx},(∀p∈fp,H' p=H p)->RepE K G H es vs fp->RepE K G' H' es vs fp
 |[],_,_,_,r=>r
 |none::es,vs,fp,hk,r=>by
  obtain⟨y,ys,e,r⟩:=r;exact⟨y,ys,e,RepE.step h hk r⟩
 |some r::es,vs,fp,hk,q=>by
  obtain⟨y,ys,e,v,a,b,e1,e2,r1,r2⟩:=q;subst e2;exact⟨y,ys,e,v,a,b,e1,rfl,RepO.step h (fun p hp=>hk p (U7 _ hp)) r1,RepE.step h (fun p hp=>hk p (U2 _ hp)) r2⟩
theorem RepE.live:∀{es:Env}{vs:List (Option V)}{fp:List Yx},RepE K G H es vs fp->∀p∈fp,∃u,H p=some u
 |[],_,_,r=>by
  rw[r.2];intro p hp;cases hp
 |none::es,vs,fp,r=>by
  obtain⟨y,ys,e,r⟩:=r;exact RepE.live r
 |some r::es,vs,fp,q=>by
  obtain⟨y,ys,e,v,a,b,e1,e2,r1,r2⟩:=q;subst e2;intro z hz;rcases Vv.mp hz with hz|hz
  .exact r1.live z hz
  .exact RepE.live r2 z hz
theorem RepE.mut:∀{es:Env}{vs:List (Option V)}{fp:List Yx},RepE K G H es vs fp->∀p∈fp,∃u,H p=some u/\isM u=true
 |[],_,_,r=>by
  rw[r.2];intro p hp;cases hp
 |none::es,vs,fp,r=>by
  obtain⟨y,ys,e,r⟩:=r;exact RepE.mut r
 |some r::es,vs,fp,q=>by
  obtain⟨y,ys,e,v,a,b,e1,e2,r1,r2⟩:=q;subst e2;intro z hz;rcases Vv.mp hz with hz|hz
  .exact r1.mut z hz
  .exact RepE.mut r2 z hz
theorem RepE.length:∀{es:Env}{vs:List (Option V)}{fp:List Yx},RepE K G H es vs fp->vs.length=es.length
 |[],_,_,r=>by rw[r.1];rfl
 |none::es,vs,fp,r=>by
  obtain⟨y,ys,e,r⟩:=r;rw[e,Vc,Vc,RepE.length r]
 |some r::es,vs,fp,q=>by
  obtain⟨y,ys,e,v,a,b,e1,e2,r1,r2⟩:=q;rw[e,Vc,Vc,RepE.length r2]
theorem RepE.take:∀{es:Env}{vs:List (Option V)}{fp:List Yx}{i:Nat}{r:R},RepE K G H es vs fp->es[i]?=some (some r)->
  ∃v a b,vs[i]?=some (some v)/\RepO K G H r.1 r.2 v a/\RepE K G H (es.set i none) vs b/\fp.Perm (a++b)
 |[],_,_,_,_,_,e=>by simp at e
 |none::es,vs,fp,0,r,q,e=>by simp at e
 |some r'::es,vs,fp,0,r,q,e=>by
  obtain⟨y,ys,e0,v,a,b,e1,e2,r1,r2⟩:=q;simp at e;subst e;subst e0;subst e1;exact⟨v,a,b,rfl,r1,⟨some v,ys,rfl,r2⟩,by rw[e2]⟩
 |none::es,vs,fp,i+1,r,q,e=>by
  obtain⟨y,ys,e0,q⟩:=q;obtain⟨v,a,b,g1,g2,g3,g4⟩:=RepE.take q (i:=i) (r:=r) (by simpa using e);subst e0;exact⟨v,a,b,by simpa using g1,g2,⟨y,ys,rfl,g3⟩,g4⟩
 |some r'::es,vs,fp,i+1,r,q,e=>by
  obtain⟨y,ys,e0,v',a',b',e1,e2,r1,r2⟩:=q;obtain⟨v,a,b,g1,g2,g3,g4⟩:=RepE.take r2 (i:=i) (r:=r) (by simpa using e);subst e0;refine⟨v,a,a'++b,by simpa using g1,g2,⟨y,ys,rfl,v',a',b,e1,rfl,r1,g3⟩,?_⟩;rw[e2];refine(YM a' g4).trans ?_;rw[<-VH,<-VH];exact YA b YN
theorem RepE.put:∀{es:Env}{vs:List (Option V)}{b:List Yx}{i:Nat}{r:R}{v:V}{a:List Yx},RepE K G H es vs b->es[i]?=some none->RepO K G H r.1 r.2 v a->
  ∃fp,RepE K G H (es.set i (some r)) (vs.set i (some v)) fp/\fp.Perm (a++b)
 |[],_,_,_,_,_,_,_,e,_=>by simp at e
 |none::es,vs,b,0,r,v,a,q,e,ro=>by
  obtain⟨y,ys,e0,q⟩:=q;subst e0;exact⟨a++b,⟨some v,ys,rfl,v,a,b,rfl,rfl,ro,q⟩,.refl _⟩
 |some r'::es,vs,b,0,r,v,a,q,e,ro=>by simp at e
 |none::es,vs,b,i+1,r,v,a,q,e,ro=>by
  obtain⟨y,ys,e0,q⟩:=q;obtain⟨fp,g1,g2⟩:=RepE.put q (i:=i) (r:=r) (by simpa using e) ro;subst e0;exact⟨fp,⟨y,_,rfl,g1⟩,g2⟩
 |some r'::es,vs,b,i+1,r,v,a,q,e,ro=>by
  obtain⟨y,ys,e0,v',a',b',e1,e2,r1,r2⟩:=q;obtain⟨fp,g1,g2⟩:=RepE.put r2 (i:=i) (r:=r) (by simpa using e) ro;subst e0;refine⟨a'++fp,⟨y,_,rfl,v',a',fp,e1,rfl,r1,g1⟩,?_⟩;rw[e2];refine(YM a' g2).trans ?_;rw[<-VH,<-VH];exact YA b' YN
structure Rel(K:W.Frag)(G H:Hp)(es:Env)(vs:List (Option V))(fp:List Yx):Prop where
 rep:RepE K G H es vs fp
 nd:fp.Nodup
 gn:∀p∈fp,G p=none
 gh:Same G H
structure Step(G H:Hp)(fp:List Yx)(G' H':Hp)(Jf:List Yx):Prop where
 gg:Same G G'
 keep:∀q u,H q=some u->q∉fp->H' q=some u
 fpn:∀q∈Jf,q∈fp\/H q=none
 gnew:∀q u,G' q=some u->G q=some u\/q∈fp\/H q=none\/isT u=true/\H q=some u
 there:∀q u,H q=some u->∃u',H' q=some u'
theorem Step.refl{fp:List Yx}:Step G H fp G H fp:=⟨.refl _,fun _ _ h _=>h,fun _ h=>.inl h,fun _ _ h=>.inl h,fun _ u h=>⟨u,h⟩⟩
theorem Step.trans{G1 H1 G2 H2:Hp}{fp Ju JF:List Yx}(a:Step G H fp G1 H1 Ju)(b:Step G1 H1 Ju G2 H2 JF):Step G H fp G2 H2 JF:=by
 refine⟨a.gg.trans b.gg,fun q u h n=>?_,fun q hq=>?_,fun q u hq=>?_,fun q u h=>?_⟩
 .refine b.keep q u (a.keep q u h n) fun hq=>?_
  rcases a.fpn q hq with z|z
  .exact n z
  .rw[z]at h;cases h
 .rcases b.fpn q hq with z|z
  .exact a.fpn q z
  .cases e:H q with
   |none=>exact .inr rfl
   |some u=>
    obtain⟨u',e'⟩:=a.there q u e;rw[z]at e';cases e'
 .rcases b.gnew q u hq with z|z|z|⟨t,z⟩
  .exact a.gnew q u z
  .exact .inr ((a.fpn q z).imp_right .inl)
  .cases e:H q with
   |none=>exact .inr (.inr (.inl rfl))
   |some u=>
    obtain⟨u',e'⟩:=a.there q u e;rw[z]at e';cases e'
  .cases e:H q with
   |none=>exact .inr (.inr (.inl rfl))
   |some u2=>
    by_cases hf:q∈fp
    .exact .inr (.inl hf)
    .rw[a.keep q u2 e hf]at z;cases z;exact .inr (.inr (.inr ⟨t,rfl⟩))
 .obtain⟨u',h'⟩:=a.there q u h;exact b.there q u' h'
theorem Step.perm{fp fq Jf Rq:List Yx}(a:Step G H fp G' H' Jf)(h:∀q,q∈fp<->q∈fq)(h':∀q∈Rq,q∈Jf):Step G H fq G' H' Rq:=
 ⟨a.gg,fun q u e n=>a.keep q u e fun z=>n ((h q).mp z),fun q hq=>(a.fpn q (h' q hq)).imp_left (h q).mp,fun q u e=>(a.gnew q u e).imp_right (Or.imp_left (h q).mp),a.there⟩
theorem Step.wide{fp fq Jf Rq:List Yx}(a:Step G H fp G' H' Jf)(h:∀q∈fp,q∈fq)(h':∀q∈Rq,q∈Jf\/q∈fq):Step G H fq G' H' Rq:=
 ⟨a.gg,fun q u e n=>a.keep q u e fun z=>n (h q z),fun q hq=>(h' q hq).elim (fun z=>(a.fpn q z).imp_left (h q)) .inl,fun q u e=>(a.gnew q u e).imp_right (Or.imp_left (h q)),a.there⟩
theorem Rel.perm{es:Env}{vs:List (Option V)}{fp fq:List Yx}(r:RepE K G H es vs fq)(nd:fp.Nodup)(gn:∀p∈fp,G p=none)(gh:Same G H)(h:fp.Perm fq):Rel K G H es vs fq:=
 ⟨r,h.nodup_iff.mp nd,fun p hp=>gn p (h.mem_iff.mpr hp),gh⟩
theorem Rel.frame{r:R}{v:V}{es:Env}{vs:List (Option V)}{fp:List Yx}(q:Rel K G H (some r::es) (some v::vs) fp):
  ∃a b,fp=a++b/\RepO K G H r.1 r.2 v a/\Rel K G H es vs b/\∀(G' H':Hp) (L3:Env) (Lv:List (Option V)) (b':List Yx),Step G H b G' H' b'->Rel K G' H' L3 Lv b'->
   Rel K G' H' (some r::L3) (some v::Lv) (a++b')/\Step G H (a++b) G' H' (a++b'):=by
 obtain⟨y,ys,e,v',a,b,e1,e2,r1,r2⟩:=q.rep;cases e;cases e1;subst e2;have nd:=Vs.mp q.nd;refine⟨a,b,rfl,r1,⟨r2,nd.2.1,fun p hp=>q.gn p (U2 _ hp),q.gh⟩,fun G' H' L3 Lv b' st k=>?_⟩;have nb:∀p∈a,p∉b:=fun p hp hb=>nd.2.2 p hp p hb rfl
 have same:∀p∈a,H' p=H p:=fun p hp=>by
  obtain⟨u,hu⟩:=r1.live p hp;rw[hu];exact st.keep p u hu (nb p hp)
 refine⟨⟨⟨some v,Lv,rfl,v,a,b',rfl,rfl,r1.step st.gg same,k.rep⟩,?_,fun p hp=>?_,k.gh⟩,st.wide (fun p hp=>U2 _ hp) fun p hp=>?_⟩
 .rw[Vs];refine⟨nd.1,k.nd,fun p hp z hz e=>?_⟩;subst e;obtain⟨u,hu⟩:=r1.live p hp;rcases st.fpn p hz with z|z
  .exact nb p hp z
  .rw[z]at hu;cases hu
 .rcases Vv.mp hp with hp|hp
  .cases e:G' p with
   |none=>rfl
   |some u=>
    exfalso;obtain⟨u',hu⟩:=r1.live p hp;rcases st.gnew p u e with z|z|z|⟨t,z⟩
    .rw[q.gn p (U7 _ hp)]at z;cases z
    .exact nb p hp z
    .rw[z]at hu;cases hu
    .obtain⟨u2,h2,hm⟩:=r1.mut p hp;rw[z]at h2;cases h2;cases u with
     |tup _=>cases hm
     |frz _ _=>cases hm
     |_=>cases t
  .exact k.gn p hp
 .rcases Vv.mp hp with hp|hp
  .exact .inr (U7 _ hp)
  .exact .inl hp
theorem Rel.freeze{r:R}{v:V}{es:Env}{vs:List (Option V)}{fp:List Yx}(q:Rel K G H (some r::es) (some v::vs) fp):
  ∃G' b,Rep K G' r.2 v/\Rel K G' H es vs b/\Step G H fp G' H b:=by
 obtain⟨y,ys,e,v',a,b,e1,e2,r1,r2⟩:=q.rep;cases e;cases e1;subst e2;have nd:=Vs.mp q.nd;have nb:∀p∈a,p∉b:=fun p hp hb=>nd.2.2 p hp p hb rfl
 have hg:Same G (fun p=>if p∈a then H p else G p):=fun p u e=>by
  show(if p∈a then H p else G p)=some u;by_cases hp:p∈a
  .rw[U5 hp];exact q.gh p u e
  .rw[U8 hp];exact e
 refine⟨fun p=>if p∈a then H p else G p,b,r1.frozen hg fun p hp u e=>?_,⟨r2.step hg fun _ _=>rfl,nd.2.1,fun p hp=>?_,fun p u e=>?_⟩,⟨hg,fun _ _ e _=>e,fun p hp=>.inl (U2 _ hp),fun p u e=>?_,fun _ u e=>⟨u,e⟩⟩⟩
 .show(if p∈a then H p else G p)=some u;rw[U5 hp];exact e
 .show(if p∈a then H p else G p)=none;rw[U8 (fun z=>nb p z hp)];exact q.gn p (U2 _ hp)
 .have e:(if p∈a then H p else G p)=some u:=e;by_cases hp:p∈a
  .rw[U5 hp]at e;exact e
  .rw[U8 hp]at e;exact q.gh p u e
 .have e:(if p∈a then H p else G p)=some u:=e;by_cases hp:p∈a
  .exact .inr (.inl (U7 _ hp))
  .rw[U8 hp]at e;exact .inl e
end
section
variable{K:W.Frag}{G G' H H':Hp}{es:Env}{vs:List (Option V)}{fp:List Yx}
theorem rA:∀{ds:List D}{xs:List V}{fp:List Yx},AllO (RepO K G H .f) ds xs fp<->Reps K G ds xs/\fp=[]
 |[],xs,fp=>by simp only[AllO,Reps]
 |d::ds,xs,fp=>by
  simp only[AllO,Reps,RepO];constructor
  .rintro⟨y,ys,a,b,e1,e2,⟨r,e3⟩,q⟩;obtain⟨q1,q2⟩:=rA.mp q;subst e3;subst q2;exact⟨⟨y,ys,e1,r,q1⟩,e2⟩
  .rintro⟨⟨y,ys,e1,r,q1⟩,e⟩;exact⟨y,ys,[],[],e1,e,⟨r,rfl⟩,rA.mpr ⟨q1,rfl⟩⟩
theorem eE{d:D}{v:V}{a:List Yx}:RepO K G H .f d v a<->Rep K G d v/\a=[]:=by simp only[RepO]
theorem iu{ds:List D}{v:V}{a:List Yx}:RepO K G H (.l .f) (.lst ds) v a<->∃p xs,v=.ref p/\H p=some (.lst xs)/\a=[p]/\Reps K G ds xs:=by
 rw[RepO];constructor
 .rintro⟨p,xs,b,e,q,e2,r⟩;obtain⟨r',eb⟩:=rA.mp r;subst eb;exact⟨p,xs,e,q,e2,r'⟩
 .rintro⟨p,xs,e,q,e2,r⟩;exact⟨p,xs,[],e,q,e2,rA.mpr ⟨r,rfl⟩⟩
theorem Reps.length:∀{ds:List D}{xs:List V},Reps K G ds xs->xs.length=ds.length
 |[],xs,r=>by simp only[Reps]at r;rw[r];rfl
 |d::ds,xs,r=>by
  simp only[Reps]at r;obtain⟨y,ys,e,_,q⟩:=r;rw[e,Vc,Vc,Reps.length q]
theorem Reps.get:∀{ds:List D}{xs:List V}{i:Nat}{d:D},Reps K G ds xs->ds[i]?=some d->∃v,xs[i]?=some v/\Rep K G d v
 |[],_,_,_,_,e=>by simp at e
 |d'::ds,xs,0,d,r,e=>by
  simp only[Reps]at r;obtain⟨y,ys,e1,q,_⟩:=r;simp at e;subst e;exact⟨y,by rw[e1];rfl,q⟩
 |d'::ds,xs,i+1,d,r,e=>by
  simp only[Reps]at r;obtain⟨y,ys,e1,_,q⟩:=r;obtain⟨v,a,b⟩:=Reps.get q (i:=i) (d:=d) (by simpa using e);exact⟨v,by rw[e1];simpa using a,b⟩
theorem Reps.app:∀{ds es:List D}{xs ys:List V},Reps K G ds xs->Reps K G es ys->Reps K G (ds++es) (xs++ys)
 |[],_,_,_,r,q=>by simp only[Reps]at r;rw[r];exact q
 |d::ds,es,xs,ys,r,q=>by
  simp only[Reps]at r;obtain⟨z,zs,e,r1,r2⟩:=r;rw[e];simp only[Wy,Reps];exact⟨z,_,rfl,r1,r2.app q⟩
theorem Reps.one{d:D}{v:V}(r:Rep K G d v):Reps K G [d] [v]:=by
 simp only[Reps];exact⟨v,[],rfl,r,rfl⟩
theorem Reps.nil:Reps K G [] []:=by simp only[Reps]
theorem Reps.cons{d:D}{v:V}{ds:List D}{xs:List V}(r:Rep K G d v)(q:Reps K G ds xs):Reps K G (d::ds) (v::xs):=by
 simp only[Reps];exact⟨v,xs,rfl,r,q⟩
theorem Reps.cons_iff{d:D}{v:V}{ds:List D}{xs:List V}:Reps K G (d::ds) (v::xs)<->Rep K G d v/\Reps K G ds xs:=by
 simp only[Reps];constructor
 .rintro⟨y,ys,e,r,q⟩;cases e;exact⟨r,q⟩
 .rintro⟨r,q⟩;exact⟨v,xs,rfl,r,q⟩
theorem Reps.take:∀{ds:List D}{xs:List V}(n:Nat),Reps K G ds xs->Reps K G (ds.take n) (xs.take n)
 |_,_,0,_=>by rw[Y0,Y0];exact Reps.nil
 |[],xs,n+1,r=>by simp only[Reps]at r;rw[r];exact Reps.nil
 |d::ds,xs,n+1,r=>by
  simp only[Reps]at r;obtain⟨y,ys,e,r1,r2⟩:=r;rw[e,Y4,Y4];exact .cons r1 (r2.take n)
theorem Reps.drop:∀{ds:List D}{xs:List V}(n:Nat),Reps K G ds xs->Reps K G (ds.drop n) (xs.drop n)
 |_,_,0,r=>r
 |[],xs,n+1,r=>by simp only[Reps]at r;rw[r];exact Reps.nil
 |d::ds,xs,n+1,r=>by
  simp only[Reps]at r;obtain⟨y,ys,e,r1,r2⟩:=r;rw[e,Y5,Y5];exact r2.drop n
theorem Reps.set:∀{ds:List D}{xs:List V}(n:Nat) {d:D}{v:V},Reps K G ds xs->Rep K G d v->Reps K G (ds.set n d) (xs.set n v)
 |[],xs,n,d,v,r,q=>by simp only[Reps]at r;rw[r];exact Reps.nil
 |d'::ds,xs,0,d,v,r,q=>by
  simp only[Reps]at r;obtain⟨y,ys,e,r1,r2⟩:=r;rw[e];exact .cons q r2
 |d'::ds,xs,n+1,d,v,r,q=>by
  simp only[Reps]at r;obtain⟨y,ys,e,r1,r2⟩:=r;rw[e];exact .cons r1 (r2.set n q)
theorem Reps.eraseIdx:∀{ds:List D}{xs:List V}(n:Nat),Reps K G ds xs->Reps K G (ds.eraseIdx n) (xs.eraseIdx n)
 |[],xs,n,r=>by simp only[Reps]at r;rw[r];exact Reps.nil
 |d'::ds,xs,0,r=>by
  simp only[Reps]at r;obtain⟨y,ys,e,r1,r2⟩:=r;rw[e];exact r2
 |d'::ds,xs,n+1,r=>by
  simp only[Reps]at r;obtain⟨y,ys,e,r1,r2⟩:=r;rw[e];exact .cons r1 (r2.eraseIdx n)
theorem Reps.ofAll{ds:List D}{xs:List V}(hl:xs.length=ds.length)(h:∀(i:Nat) (d:D) (v:V),ds[i]?=some d->xs[i]?=some v->Rep K G d v):Reps K G ds xs:=by
 induction ds generalizing xs with
 |nil=>simp only[Reps];exact VR hl
 |cons d ds ih=>
  cases xs with
  |nil=>simp at hl
  |cons v xs=>exact .cons (h 0 d v rfl rfl) (ih (by simpa using hl) fun i d v a b=>h (i+1) d v (by simpa using a) (by simpa using b))
theorem Step.cut{fq:List Yx}(h:∀q∈fq,q∈fp):Step G H fp G H fq:=⟨.refl _,fun _ _ e _=>e,fun q hq=>.inl (h q hq),fun _ _ e=>.inl e,fun _ u e=>⟨u,e⟩⟩
theorem Rel.drop{r:R}{y:Option V}(q:Rel K G H (some r::es) (y::vs) fp):∃b,Rel K G H es vs b/\Step G H fp G H b:=by
 obtain⟨y,ys,e,v',a,b,e1,e2,r1,r2⟩:=q.rep;cases e;cases e1;subst e2;have nd:=Vs.mp q.nd;exact⟨b,⟨r2,nd.2.1,fun p hp=>q.gn p (U2 _ hp),q.gh⟩,Step.cut fun p hp=>U2 _ hp⟩
theorem Rel.top{r:R}{v:V}(q:Rel K G H (some r::es) (some v::vs) fp):Rep K H r.2 v:=by
 obtain⟨y,ys,e,v',a,b,e1,e2,r1,r2⟩:=q.rep;cases e;cases e1;exact r1.frozen q.gh fun p hp u e=>e
theorem Rel.out{i:Nat}{r:R}(q:Rel K G H es vs fp)(e:es[i]?=some (some r)):∃v fq,vs[i]?=some (some v)/\Rel K G H (some r::es.set i none) (some v::vs) fq/\Step G H fp G H fq/\Step G H fq G H fp:=by
 obtain⟨v,a,b,e1,r1,r2,pm⟩:=q.rep.take e;exact⟨v,a++b,e1,Rel.perm ⟨some v,vs,rfl,v,a,b,rfl,rfl,r1,r2⟩ q.nd q.gn q.gh pm,Step.cut fun p hp=>pm.mem_iff.mpr hp,Step.cut fun p hp=>pm.mem_iff.mp hp⟩
theorem Rel.view{i:Nat}{r:R}(q:Rel K G H es vs fp)(e:es[i]?=some (some r)):∃v,vs[i]?=some (some v)/\Rep K H r.2 v:=by
 obtain⟨v,fq,e1,r1,_⟩:=q.out e;exact⟨v,e1,r1.top⟩
theorem mS{α:Type}{l:List α}{i:Nat}{x:α}(h:l[i]?=some x):l.set i x=l:=by
 apply Xx;intro j;by_cases e:i=j
 .subst e;rw[List.getElem?_set_self (List.getElem?_eq_some_iff.mp h).1,h]
 .rw[List.getElem?_set_ne e]
theorem Rel.store{i:Nat}{r:R}{v:V}(q:Rel K G H (some r::es) (some v::vs) fp)(hi:i<es.length):∃fq,Rel K G H (es.set i (some r)) (vs.set i (some v)) fq/\Step G H fp G H fq:=by
 obtain⟨y,ys,e,v',a,b,e1,e2,r1,r2⟩:=q.rep;cases e;cases e1;subst e2;obtain⟨c,hc⟩:∃c,es[i]?=some c:=⟨_,List.getElem?_eq_getElem hi⟩
 have nd:=Vs.mp q.nd;have key:∃b',RepE K G H (es.set i none) vs b'/\(∀p∈b',p∈b)/\b'.Nodup:=by
  cases c with
  |none=>exact⟨b,by rw[mS hc];exact r2,fun _ h=>h,nd.2.1⟩
  |some r'=>
   obtain⟨v2,a2,b2,_,_,g,pm⟩:=r2.take hc;refine⟨b2,g,fun p hp=>pm.mem_iff.mpr (U2 _ hp),?_⟩;exact(Vs.mp (pm.nodup_iff.mp nd.2.1)).2.1
 obtain⟨b',g,sub,ndb⟩:=key;obtain⟨fq,g2,pm⟩:=g.put (i:=i) (r:=r) (v:=v) (by rw[List.getElem?_set_self hi]) r1;rw[Wl]at g2;have PR:(a++b').Nodup:=by
  rw[Vs];exact⟨nd.1,ndb,fun p hp z hz=>nd.2.2 p hp z (sub z hz)⟩
 refine⟨fq,Rel.perm g2 PR (fun p hp=>?_) q.gh pm.symm,Step.cut fun p hp=>?_⟩
 .refine q.gn p ?_;rcases Vv.mp hp with hp|hp
  .exact U7 _ hp
  .exact U2 _ (sub p hp)
 .rcases Vv.mp (pm.mem_iff.mp hp) with hp|hp
  .exact U7 _ hp
  .exact U2 _ (sub p hp)
theorem Rel.back{i:Nat}{r:R}{v:V}(q:Rel K G H (some r::es) (some v::vs) fp)(hi:i<es.length)(hv:vs[i]?=some (some v)):∃fq,Rel K G H (es.set i (some r)) vs fq/\Step G H fp G H fq:=by
 obtain⟨fq,g,st⟩:=q.store hi;rw[mS hv]at g;exact⟨fq,g,st⟩
theorem Rel.freezeAt{i:Nat}{r:R}(q:Rel K G H es vs fp)(e:es[i]?=some (some r)):∃v G' fq,vs[i]?=some (some v)/\Rep K G' r.2 v/\Rel K G' H (es.set i (some (.f,r.2))) vs fq/\Step G H fp G' H fq:=by
 obtain⟨v,fq,ev,g,st,_⟩:=q.out e;obtain⟨G',b,rv,g2,Jj⟩:=g.freeze;have g3:Rel K G' H (some (.f,r.2)::es.set i none) (some v::vs) b:=by
  refine⟨⟨some v,vs,rfl,v,[],b,rfl,rfl,?_,g2.rep⟩,g2.nd,g2.gn,g2.gh⟩;exact eE.mpr ⟨rv,rfl⟩
 obtain⟨fz,g4,J3⟩:=g3.back (i:=i) (by rw[VO];exact(List.getElem?_eq_some_iff.mp e).1) ev;rw[Wl]at g4;exact⟨v,G',fz,ev,rv,g4,st.trans (Jj.trans J3)⟩
theorem Rel.push{d:D}{v:V}(q:Rel K G H es vs fp)(r:Rep K G d v):Rel K G H (some (.f,d)::es) (some v::vs) fp:=by
 refine⟨⟨some v,vs,rfl,v,[],fp,rfl,rfl,?_,q.rep⟩,q.nd,q.gn,q.gh⟩;exact eE.mpr ⟨r,rfl⟩
theorem Rel.newF{p:Yx}{u:HO}(q:Rel K G H es vs fp)(hp:H p=none):Rel K (upd G p u) (upd H p u) es vs fp/\Step G H fp (upd G p u) (upd H p u) fp:=by
 have gp:G p=none:=by
  cases e:G p with
  |none=>rfl
  |some o=>rw[q.gh p o e]at hp;cases hp
 have np:p∉fp:=fun z=>by
  obtain⟨u,e⟩:=q.rep.live p z;rw[hp]at e;cases e
 have sg:Same G (upd G p u):=fun b o e=>by rw[aF (bo e gp)];exact e
 have sh:Same H (upd H p u):=fun b o e=>by rw[aF (bo e hp)];exact e
 refine⟨⟨q.rep.step sg fun z hz=>aF fun e=>np (e▸hz),q.nd,fun z hz=>?_,fun b o e=>?_⟩,⟨sg,fun b o e _=>sh b o e,fun _ h=>.inl h,fun b o e=>?_,fun b o e=>⟨o,sh b o e⟩⟩⟩
 .have:z≠p:=fun e=>np (e▸hz)
  rw[aF this];exact q.gn z hz
 .by_cases hb:b=p
  .subst hb;rw[aU]at e ⊢;exact e
  .rw[aF hb]at e ⊢;exact q.gh b o e
 .by_cases hb:b=p
  .subst hb;exact .inr (.inr (.inl hp))
  .rw[aF hb]at e;exact .inl e
theorem Rel.newL{p:Yx}{ds:List D}{xs:List V}(q:Rel K G H es vs fp)(hp:H p=none)(r:Reps K G ds xs):
  Rel K G (upd H p (.lst xs)) (some (.l .f,.lst ds)::es) (some (.ref p)::vs) (p::fp)/\Step G H fp G (upd H p (.lst xs)) (p::fp):=by
 have gp:G p=none:=by
  cases e:G p with
  |none=>rfl
  |some o=>rw[q.gh p o e]at hp;cases hp
 have np:p∉fp:=fun z=>by
  obtain⟨u,e⟩:=q.rep.live p z;rw[hp]at e;cases e
 have sh:Same H (upd H p (.lst xs)):=fun b o e=>by rw[aF (bo e hp)];exact e
 refine⟨⟨⟨some (.ref p),vs,rfl,.ref p,[p],fp,rfl,rfl,iu.mpr ⟨p,xs,rfl,aU,rfl,r⟩,q.rep.step (.refl _) fun z hz=>aF fun e=>np (e▸hz)⟩,Vz.mpr ⟨np,q.nd⟩,fun z hz=>?_,fun b o e=>?_⟩,
  ⟨.refl _,fun b o e _=>sh b o e,fun b hb=>?_,fun b o e=>.inl e,fun b o e=>⟨o,sh b o e⟩⟩⟩
 .rcases Vb.mp hz with rfl|hz
  .exact gp
  .exact q.gn z hz
 .exact sh b o (q.gh b o e)
 .rcases Vb.mp hb with rfl|hb
  .exact .inr hp
  .exact .inl hb
theorem Rel.chg{i:Nat}{ds ds':List D}(q:Rel K G H es vs fp)(e:es[i]?=some (some (.l .f,.lst ds))):∃p xs,vs[i]?=some (some (.ref p))/\H p=some (.lst xs)/\Reps K G ds xs/\
  ∀Kl,Reps K G ds' Kl->∃fq,Rel K G (upd H p (.lst Kl)) (es.set i (some (.l .f,.lst ds'))) vs fq/\Step G H fp G (upd H p (.lst Kl)) fq:=by
 obtain⟨v,fq,ev,g,st,Kx⟩:=q.out e;obtain⟨y,ys,e0,v',a,b,e1,e2,r1,r2⟩:=g.rep;cases e0;cases e1;obtain⟨p,xs,e3,hp,e4,rs⟩:=iu.mp r1;subst e3;subst e4;subst e2;have nd:=Vz.mp (show(p::b).Nodup from g.nd);refine⟨p,xs,ev,hp,rs,fun Kl Lb=>?_⟩;have g2:Rel K G (upd H p (.lst Kl)) (some (.l .f,.lst ds')::es.set i none) (some (.ref p)::vs) (p::b):=by
  refine⟨⟨some (.ref p),vs,rfl,.ref p,[p],b,rfl,rfl,iu.mpr ⟨p,Kl,rfl,aU,rfl,Lb⟩,r2.step (.refl _) fun z hz=>aF fun e=>nd.1 (e▸hz)⟩,g.nd,g.gn,fun z o ez=>?_⟩;have:z≠p:=fun w=>by
   subst w;rw[g.gn z UY]at ez;cases ez
  rw[aF this];exact g.gh z o ez
 have Rr:Step G H (p::b) G (upd H p (.lst Kl)) (p::b):=by
  refine⟨.refl _,fun z o ez nz=>?_,fun z hz=>.inl hz,fun z o ez=>.inl ez,fun z o ez=>?_⟩
  .have:z≠p:=fun w=>nz (by rw[w];exact UY)
   rw[aF this];exact ez
  .by_cases w:z=p
   .subst w;exact⟨_,aU⟩
   .exact⟨o,by rw[aF w];exact ez⟩
 obtain⟨fz,g3,JB⟩:=g2.back (i:=i) (by rw[VO];exact(List.getElem?_eq_some_iff.mp e).1) ev;rw[Wl]at g3;exact⟨fz,g3,st.trans (Rr.trans JB)⟩
end
mutual
noncomputable def flatD:D->Bool
 | .tup ds=>flatDs ds
 | .lst _=>false
 | .dct _ _ _=>false
 |_=>true
noncomputable def flatDs:List D->Bool
 |[]=>true
 |d::ds=>flatD d&&flatDs ds
end
mutual
noncomputable def aO:O->D->Bool
 | .f,d=>flatD d
 | .l c,.lst ds=>ds.all (aO c)
 | .t cs,.tup ds=>jN cs ds
 | .d,.dct _ _ vs=>flatDs vs
 | .pin _ c,d=>aO c d
 |_,_=>false
noncomputable def jN:List O->List D->Bool
 |[],[]=>true
 |c::cs,d::ds=>aO c d&&jN cs ds
 |_,_=>false
end
def frz:Option R->Option R:=Option.map fun r=>(.f,r.2)
theorem cG:∀ds,flatDs ds=ds.all flatD
 |[]=>rfl
 |d::ds=>by rw[flatDs,WR,cG ds]
section
variable{K:W.Frag}{G G' G2 G3 H H' H2:Hp}{es:Env}{vs:List (Option V)}{fp:List Yx}
mutual
theorem Rep.flat(h:∀p u,isT u=true->G2 p=some u->G3 p=some u):∀{d:D}{v:V},flatD d=true->Rep K G2 d v->Rep K G3 d v
 | .non,_,_,r=>by simpa only[Rep] using r
 | .bl _,_,_,r=>by simpa only[Rep] using r
 | .int _,_,_,r=>by simpa only[Rep] using r
 | .str _,_,_,r=>by simpa only[Rep] using r
 | .tup ds,_,e,r=>by
  simp only[Rep]at r ⊢;simp only[flatD]at e;obtain⟨p,xs,ev,q,rs⟩:=r;exact⟨p,xs,ev,h _ _ rfl q,Reps.flat h e rs⟩
 | .lst ds,_,e,r=>by simp only[flatD]at e;cases e
 | .dct _ _ _,_,e,r=>by simp only[flatD]at e;cases e
theorem Reps.flat(h:∀p u,isT u=true->G2 p=some u->G3 p=some u):∀{ds:List D}{xs:List V},flatDs ds=true->Reps K G2 ds xs->Reps K G3 ds xs
 |[],_,_,r=>by simpa only[Reps] using r
 |d::ds,_,e,r=>by
  simp only[Reps]at r ⊢;simp only[flatDs,Va]at e;obtain⟨y,ys,ev,r1,r2⟩:=r;exact⟨y,ys,ev,Rep.flat h e.1 r1,Reps.flat h e.2 r2⟩
end
theorem AllO.clean{P P':D->V->List Yx->Prop}{c:D->Bool}:∀{ds:List D}{xs:List V}{fp:List Yx},(∀d v a,c d=true->P d v a->P' d v a)->ds.all c=true->AllO P ds xs fp->AllO P' ds xs fp
 |[],_,_,_,_,r=>r
 |d::ds,xs,fp,h,e,r=>by
  obtain⟨y,ys,a,b,e1,e2,p,q⟩:=r;rw[WR,Va]at e;exact⟨y,ys,a,b,e1,e2,h _ _ _ e.1 p,AllO.clean h e.2 q⟩
mutual
theorem RepO.clean(h:∀p u,isT u=true->G2 p=some u->G3 p=some u):∀{o:O}{d:D}{v:V}{fp:List Yx},aO o d=true->RepO K G2 H o d v fp->RepO K G3 H o d v fp
 | .f,d,v,fp,e,r=>by
  simp only[RepO]at r ⊢;simp only[aO]at e;exact⟨r.1.flat h e,r.2⟩
 | .pin p c,d,v,fp,e,r=>by
  simp only[RepO]at r ⊢;simp only[aO]at e;exact⟨r.1,RepO.clean h e r.2⟩
 | .l c,.lst ds,v,fp,e,r=>by
  rw[RepO]at r ⊢;rw[aO]at e;obtain⟨p,xs,Jf,ev,q,e2,a⟩:=r;exact⟨p,xs,Jf,ev,q,e2,AllO.clean (fun d v a=>RepO.clean h) e a⟩
 | .t cs,.tup ds,v,fp,e,r=>by
  rw[RepO]at r ⊢;rw[aO]at e;obtain⟨p,xs,ev,q,a⟩:=r;exact⟨p,xs,ev,h _ _ rfl q,RepT.clean h e a⟩
 | .d,.dct tk ks vs,v,fp,e,r=>by
  rw[RepO]at r ⊢;rw[aO]at e;obtain⟨p,xs,o,ev,q,dd,e2,rs⟩:=r;exact⟨p,xs,o,ev,q,dd,e2,rs.flat h e⟩
 | .l _,.non,_,_,_,r | .l _,.bl _,_,_,_,r | .l _,.int _,_,_,_,r | .l _,.str _,_,_,_,r | .l _,.tup _,_,_,_,r | .l _,.dct _ _ _,_,_,_,r=>by simp only[RepO]at r
 | .t _,.non,_,_,_,r | .t _,.bl _,_,_,_,r | .t _,.int _,_,_,_,r | .t _,.str _,_,_,_,r | .t _,.lst _,_,_,_,r | .t _,.dct _ _ _,_,_,_,r=>by simp only[RepO]at r
 | .d,.non,_,_,_,r | .d,.bl _,_,_,_,r | .d,.int _,_,_,_,r | .d,.str _,_,_,_,r | .d,.tup _,_,_,_,r | .d,.lst _,_,_,_,r=>by simp only[RepO]at r
theorem RepT.clean(h:∀p u,isT u=true->G2 p=some u->G3 p=some u):∀{cs:List O}{ds:List D}{xs:List V}{fp:List Yx},jN cs ds=true->RepT K G2 H cs ds xs fp->RepT K G3 H cs ds xs fp
 |[],[],_,_,_,r=>by simpa only[RepT] using r
 |c::cs,d::ds,xs,fp,e,r=>by
  rw[RepT]at r ⊢;rw[jN,Va]at e;obtain⟨y,ys,a,b,e1,e2,r1,r2⟩:=r;exact⟨y,ys,a,b,e1,e2,RepO.clean h e.1 r1,RepT.clean h e.2 r2⟩
 |[],_::_,_,_,_,r=>by simp only[RepT]at r
 |_::_,[],_,_,_,r=>by simp only[RepT]at r
end
theorem RepE.frz(h:Same G G'):∀{es:Env}{vs:List (Option V)}{fp:List Yx},(∀p∈fp,∀u,H p=some u->G' p=some u)->RepE K G H es vs fp->RepE K G' H' (es.map PV.frz) vs []
 |[],_,_,_,r=>⟨r.1,rfl⟩
 |none::es,vs,fp,hk,r=>by
  obtain⟨y,ys,e,r⟩:=r;exact⟨y,ys,e,RepE.frz h hk r⟩
 |some r::es,vs,fp,hk,q=>by
  obtain⟨y,ys,e,v,a,b,e1,e2,r1,r2⟩:=q;subst e2;exact⟨y,ys,e,v,[],[],e1,rfl,eE.mpr ⟨r1.frozen h (fun p hp=>hk p (U7 _ hp)),rfl⟩,RepE.frz h (fun p hp=>hk p (U2 _ hp)) r2⟩
theorem RepE.rep(h:Same G G'):∀{es:Env}{vs:List (Option V)}{fp:List Yx}{i:Nat}{r:R}{v:V},(∀p∈fp,∀u,H p=some u->G' p=some u)->RepE K G H es vs fp->es[i]?=some (some r)->vs[i]?=some (some v)->Rep K G' r.2 v:=fun{es vs fp i r v} hk q e ev=>by
 obtain⟨v',a,b,e1,r1,_,pm⟩:=q.take e;rw[ev]at e1;cases e1;exact r1.frozen h fun p hp=>hk p (pm.mem_iff.mpr (U7 _ hp))
theorem Rel.lend(q:Rel K G H es vs fp):∃G1,Same G G1/\Same G1 H/\(∀(i:Nat) (r:R) (v:V),es[i]?=some (some r)->vs[i]?=some (some v)->Rep K G1 r.2 v)/\
  RepE K G1 H (es.map PV.frz) vs []/\
  ∀(H2 G2:Hp) (JF:List Yx) (r:R) (v:V),Step G1 H [] G2 H2 JF->Rel K G2 H2 [some r] [some v] JF->
   (aO r.1 r.2=true->∃G3 Ke,Step G H fp G3 H2 Ke/\Rel K G3 H2 (some r::es) (some v::vs) Ke)/\
   ∃G3 Ke,Step G H fp G3 H2 Ke/\Rel K G3 H2 (some r::es.map PV.frz) (some v::vs) Ke:=by
 have hg:Same G (fun p=>if p∈fp then H p else G p):=fun p u e=>by
  show(if p∈fp then H p else G p)=some u;by_cases hp:p∈fp
  .rw[U5 hp];exact q.gh p u e
  .rw[U8 hp];exact e
 have hh:Same (fun p=>if p∈fp then H p else G p) H:=fun p u e=>by
  have e:(if p∈fp then H p else G p)=some u:=e;by_cases hp:p∈fp
  .rw[U5 hp]at e;exact e
  .rw[U8 hp]at e;exact q.gh p u e
 have hk:∀p∈fp,∀u,H p=some u->(fun p=>if p∈fp then H p else G p) p=some u:=fun p hp u e=>by
  show(if p∈fp then H p else G p)=some u;rw[U5 hp];exact e
 refine⟨fun p=>if p∈fp then H p else G p,hg,hh,fun i r v e ev=>q.rep.rep hg hk e ev,q.rep.frz hg hk,fun H2 G2 JF r v st k=>?_⟩;obtain⟨y,ys,e0,v',a,b,e1,e2,r1,r2⟩:=k.rep;cases e0;cases e1;obtain⟨_,e3⟩:=r2;subst e3;rw[Vo]at e2;subst e2;have fresh:∀p∈JF,H p=none:=fun p hp=>by
  rcases st.fpn p hp with z|z
  .cases z
  .exact z
 have kept:∀p∈fp,H2 p=H p:=fun p hp=>by
  obtain⟨u,hu⟩:=q.rep.live p hp;rw[hu];exact st.keep p u hu (by simp)
 refine⟨fun cl=>?_,⟨G2,JF,⟨hg.trans st.gg,fun p u e n=>st.keep p u e (by simp),fun p hp=>.inr (fresh p hp),fun p u e=>?_,st.there⟩,?_⟩⟩
 .have apart:∀p∈JF,p∉fp:=fun p hp hf=>by
   obtain⟨u,hu⟩:=q.rep.live p hf;rw[fresh p hp]at hu;cases hu
  have g3:Same G (fun p=>if p∈fp then none else G2 p):=fun p u e=>by
   show(if p∈fp then none else G2 p)=some u;rw[U8 (fun z=>by rw[q.gn p z]at e;cases e)];exact st.gg p u (hg p u e)
  refine⟨fun p=>if p∈fp then none else G2 p,JF++fp,⟨g3,fun p u e n=>st.keep p u e (by simp),fun p hp=>?_,fun p u e=>?_,st.there⟩,⟨⟨some v,vs,rfl,v,JF,fp,rfl,rfl,r1.clean (fun p u t e=>?_) cl,q.rep.step g3 kept⟩,?_,fun p hp=>?_,fun p u e=>?_⟩⟩
  .rcases Vv.mp hp with hp|hp
   .exact .inr (fresh p hp)
   .exact .inl hp
  .have e:(if p∈fp then none else G2 p)=some u:=e;by_cases hp:p∈fp
   .rw[U5 hp]at e;cases e
   .rw[U8 hp]at e;rcases st.gnew p u e with z|z|z
    .have z:(if p∈fp then H p else G p)=some u:=z;rw[U8 hp]at z;exact .inl z
    .cases z
    .exact .inr (.inr z)
  .show(if p∈fp then none else G2 p)=some u;by_cases hp:p∈fp
   .exfalso;obtain⟨u',hu,hm⟩:=q.rep.mut p hp;have:=st.gg p u' (hk p hp u' hu);rw[e]at this;cases this;cases u with
    |lst _=>cases t
    |dK _=>cases t
    |dT _=>cases t
    |_=>cases hm
   .rw[U8 hp];exact e
  .rw[Vs];exact⟨k.nd,q.nd,fun p hp z hz e=>apart p hp (e▸hz)⟩
  .show(if p∈fp then none else G2 p)=none;by_cases hf:p∈fp
   .rw[U5 hf]
   .rw[U8 hf];rcases Vv.mp hp with hp|hp
    .exact k.gn p hp
    .exact absurd hp hf
  .have e:(if p∈fp then none else G2 p)=some u:=e;by_cases hp:p∈fp
   .rw[U5 hp]at e;cases e
   .rw[U8 hp]at e;exact k.gh p u e
 .rcases st.gnew p u e with z|z|z
  .have z:(if p∈fp then H p else G p)=some u:=z;by_cases hp:p∈fp
   .exact .inr (.inl hp)
   .rw[U8 hp]at z;exact .inl z
  .cases z
  .exact .inr (.inr z)
 .refine⟨⟨some v,vs,rfl,v,JF,[],rfl,(Vo _).symm,r1,q.rep.frz (hg.trans st.gg) fun p hp u e=>st.gg p u (hk p hp u e)⟩,k.nd,k.gn,k.gh⟩
end
end PV
namespace PV
open PySem PySem.Spec PyProof.Rows L2 NX
def Res.bind{α β:Type}:Res α->(α->Res β)->Res β
 | .ok a,f=>f a
 | .exc c,_=>.exc c
 | .bad,_=>.bad
inductive BindOk{α β:Type}(x:Res α)(f:α->Res β)(b:β):Prop
 |mk (a:α) (h:x=.ok a) (k:f a=.ok b):BindOk x f b
def au{α β:Type}{x:Res α}{f:α->Res β}{b:β}(h:x.bind f=.ok b):BindOk x f b:=by
 cases x with
 |ok a=>exact⟨a,rfl,h⟩
 |exc c=>cases h
 |bad=>cases h
inductive Opd where
 |val (d:D)|var (i:Nat)
def OpdOk(K:W.Frag)(G:Hp)(σ:L2.St):Opd->V->Prop
 | .val d,v=>Rep K G d v
 | .var i,v=>σ[i]?=some (some v)
theorem OpdOk.mono{K:W.Frag}{G G':Hp}{σ:L2.St}{o:Opd}{v:V}(h:Same G G')(r:OpdOk K G σ o v):OpdOk K G' σ o v:=by
 cases o with
 |val d=>exact Rep.mono h r
 |var i=>exact r
def lZ(K:W.Frag)(G:Hp)(σ:L2.St):List Opd->List V->Prop
 |[],vs=>vs=[]
 |o::os,vs=>∃y ys,vs=y::ys/\OpdOk K G σ o y/\lZ K G σ os ys
def xw:O->Bool
 | .f=>true
 | .l .f=>true
 | .d=>true
 | .pin _ .f=>true
 | .pin _ (.l .f)=>true
 | .pin _ .d=>true
 |_=>false
def Kf(env:PV.Env):Opd->Res D
 | .val d=>.ok d
 | .var i=>match env[i]? with
  |some (some r)=>if xw r.1 then .ok r.2 else .bad
  |_=>.bad
def pS(env:PV.Env):Opd->Res D
 | .val d=>.ok d
 | .var i=>match env[i]? with
  |some (some r)=>.ok r.2
  |_=>.bad
def ders(env:PV.Env):List Opd->Res (List D)
 |[]=>.ok []
 |o::os=>(Kf env o).bind fun d=>(ders env os).bind fun ds=>.ok (d::ds)
def iV(env:PV.Env):List Opd->Res (List D)
 |[]=>.ok []
 |o::os=>(pS env o).bind fun d=>(iV env os).bind fun ds=>.ok (d::ds)
def Vw(K:W.Frag)(G H:Hp):D->V->Prop
 | .lst ds,v=>∃p xs,v=.ref p/\SqL K H p xs/\Reps K G ds xs
 | .dct tk ks vs,v=>∃p xs o,v=.ref p/\Rd H p o/\DictO o tk ks xs/\Reps K G vs xs
 |d,v=>Rep K G d v
def Pg(K:W.Frag)(G H:Hp):List D->List V->Prop
 |[],vs=>vs=[]
 |d::ds,vs=>∃y ys,vs=y::ys/\Vw K G H d y/\Pg K G H ds ys
section
variable{K:W.Frag}{G G' H H':Hp}{es:PV.Env}{σ:L2.St}{fp:List Yx}
theorem Vw.of{d:D}{v:V}(gh:Same G H)(r:Rep K G d v):Vw K G H d v:=by
 cases d with
 |lst ds=>
  rw[Rep]at r;obtain⟨p,xs,e,q,rs⟩:=r;exact⟨p,xs,e,gS gh q,rs⟩
 |dct tk ks vs=>
  rw[Rep]at r;obtain⟨p,xs,o,e,q,dd,rs⟩:=r;exact⟨p,xs,o,e,PV.Rd.mono gh q,dd,rs⟩
 |_=>exact r
theorem Vw.rep{d:D}{v:V}(gh:Same G H)(r:Vw K G H d v):Rep K H d v:=by
 cases d with
 |lst ds=>
  obtain⟨p,xs,e,q,rs⟩:=r;rw[Rep];exact⟨p,xs,e,q,rs.mono gh⟩
 |dct tk ks vs=>
  obtain⟨p,xs,o,e,q,dd,rs⟩:=r;rw[Rep];exact⟨p,xs,o,e,q,dd,rs.mono gh⟩
 |non=>exact Rep.mono gh r
 |bl b=>exact Rep.mono gh r
 |int i=>exact Rep.mono gh r
 |str l=>exact Rep.mono gh r
 |tup ds=>exact Rep.mono gh r
theorem RepO.vw0{o:O}{d:D}{v:V}{a:List Yx}(gh:Same G H)(hs:o=.f\/o=.l .f\/o=.d)(r:RepO K G H o d v a):Vw K G H d v:=by
 rcases hs with rfl|rfl|rfl
 .exact Vw.of gh (eE.mp r).1
 .cases d with
  |lst ds=>
   obtain⟨p,xs,e,q,_,rs⟩:=iu.mp r;exact⟨p,xs,e,SqL.of q,rs⟩
  |_=>simp only[RepO]at r
 .cases d with
  |dct tk ks vs=>
   rw[RepO]at r;obtain⟨p,xs,o,e,q,dd,_,rs⟩:=r;exact⟨p,xs,o,e,.inl q,dd,rs⟩
  |_=>simp only[RepO]at r
theorem RepO.vw{o:O}{d:D}{v:V}{a:List Yx}(gh:Same G H)(hs:xw o=true)(r:RepO K G H o d v a):Vw K G H d v:=by
 unfold xw at hs;split at hs
 .exact r.vw0 gh (.inl rfl)
 .exact r.vw0 gh (.inr (.inl rfl))
 .exact r.vw0 gh (.inr (.inr rfl))
 .rw[RepO]at r;exact r.2.vw0 gh (.inl rfl)
 .rw[RepO]at r;exact r.2.vw0 gh (.inr (.inl rfl))
 .rw[RepO]at r;exact r.2.vw0 gh (.inr (.inr rfl))
 .cases hs
theorem Rel.vw{o:Opd}{v:V}{d:D}(q:Rel K G H es σ fp)(k:OpdOk K G σ o v)(e:Kf es o=.ok d):Vw K G H d v:=by
 cases o with
 |val d'=>
  cases e;exact Vw.of q.gh k
 |var i=>
  unfold Kf at e;dsimp only at e;split at e
  .rename_i r hr;split at e
   .rename_i hs;cases e;obtain⟨v',a,b,ev,r1,_⟩:=q.rep.take hr;have k:σ[i]?=some (some v):=k;rw[k]at ev;cases ev;exact r1.vw q.gh hs
   .cases e
  .cases e
theorem Rel.vwA{o:Opd}{v:V}{d:D}(q:Rel K G H es σ fp)(k:OpdOk K G σ o v)(e:pS es o=.ok d):Rep K H d v:=by
 cases o with
 |val d'=>
  cases e;exact Rep.mono q.gh k
 |var i=>
  unfold pS at e;dsimp only at e;split at e
  .rename_i r hr;cases e;obtain⟨v',ev,r1⟩:=q.view hr;have k:σ[i]?=some (some v):=k;rw[k]at ev;cases ev;exact r1
  .cases e
theorem Rel.vws(q:Rel K G H es σ fp):∀{os:List Opd}{vs:List V}{ds:List D},lZ K G σ os vs->ders es os=.ok ds->Pg K G H ds vs
 |[],_,_,k,e=>by
  cases e;exact k
 |o::os,_,_,⟨y,ys,e0,k1,k2⟩,e=>by
  unfold ders at e;obtain⟨d,e1,e⟩:=au e;obtain⟨ds,e2,e⟩:=au e;cases e;exact⟨y,ys,e0,q.vw k1 e1,Rel.vws q k2 e2⟩
theorem gf{G1:Hp}(gg:Same G G1)(ht:∀(i:Nat) (r:R) (v:V),es[i]?=some (some r)->σ[i]?=some (some v)->Rep K G1 r.2 v):∀{os:List Opd}{vs:List V}{ds:List D},lZ K G σ os vs->iV es os=.ok ds->Reps K G1 ds vs
 |[],_,_,k,e=>by
  cases e;have k:_=_:=k;rw[k];exact Reps.nil
 |o::os,_,_,⟨y,ys,e0,k1,k2⟩,e=>by
  unfold iV at e;obtain⟨d,e1,e⟩:=au e;obtain⟨ds,e2,e⟩:=au e;cases e;rw[e0];refine .cons ?_ (gf gg ht k2 e2);cases o with
  |val d'=>
   cases e1;exact Rep.mono gg k1
  |var i=>
   unfold pS at e1;dsimp only at e1;split at e1
   .rename_i r hr;cases e1;exact ht i r y hr k1
   .cases e1
end
abbrev FX:=PV.Env->Res (R×PV.Env)
abbrev FO:=PV.Env->Res (Opd×PV.Env)
abbrev FOs:=PV.Env->Res (List Opd×PV.Env)
abbrev FT:=PV.Env->Res (Bool×PV.Env)
inductive Out where
 |nx (env:PV.Env)|rt (r:R)|bk (env:PV.Env)|ct (env:PV.Env)
abbrev FS:=PV.Env->Res Out
inductive tQ(K:W.Frag)(f:FX)(σ:L2.St)(H:Hp)(Q:VK):Prop
 |mk:∀G env fp r env',Rel K G H env σ fp->f env=.ok (r,env')->(∀v H' G' Jf,Step G H fp G' H' Jf->Rel K G' H' (some r::env') (some v::σ) Jf->Q v H')->tQ K f σ H Q
inductive tO(K:W.Frag)(f:FO)(σ:L2.St)(H:Hp)(Q:VK):Prop
 |mk:∀G env fp o env',Rel K G H env σ fp->f env=.ok (o,env')->(∀v H' G' Jf,Step G H fp G' H' Jf->Rel K G' H' env' σ Jf->OpdOk K G' σ o v->Q v H')->tO K f σ H Q
inductive tOs(K:W.Frag)(f:FOs)(σ:L2.St)(H:Hp)(Q:List V->Hp->Prop):Prop
 |mk:∀G env fp o env',Rel K G H env σ fp->f env=.ok (o,env')->(∀v H' G' Jf,Step G H fp G' H' Jf->Rel K G' H' env' σ Jf->lZ K G' σ o v->Q v H')->tOs K f σ H Q
inductive tQT(K:W.Frag)(f:FT)(σ:L2.St)(H:Hp)(Q:Bool->Hp->Prop):Prop
 |mk:∀G env fp b env',Rel K G H env σ fp->f env=.ok (b,env')->(∀H' G' Jf,Step G H fp G' H' Jf->Rel K G' H' env' σ Jf->Q b H')->tQT K f σ H Q
inductive Mode where
 |plain|mut
def Hw(md:Mode)(K:W.Frag)(G H:Hp)(r:R)(v:V)(fp:List Yx):Prop:=match md with
 | .plain=>Rel K G H [some r] [some v] fp
 | .mut=>∃o d p c d0,r=(.t [o,.pin p c],.tup [d,d0])/\Rel K G H [some (o,d),some (.pin p c,d0)] [some v,some (.ref p)] fp
noncomputable def OutOk{md:Mode}(K:W.Frag)(G H:Hp)(fp:List Yx)(Dd:Ends):Res Out->Prop
 | .ok (.nx env')=>∀σ' H' G' Jf,Step G H fp G' H' Jf->Rel K G' H' env' σ' Jf->Dd.nx σ' H'
 | .ok (.bk env')=>∀σ' H' G' Jf,Step G H fp G' H' Jf->Rel K G' H' env' σ' Jf->Dd.bk σ' H'
 | .ok (.ct env')=>∀σ' H' G' Jf,Step G H fp G' H' Jf->Rel K G' H' env' σ' Jf->Dd.ct σ' H'
 | .ok (.rt r)=>∀v H' G' Jf,Step G H fp G' H' Jf->Hw md K G' H' r v Jf->Dd.rt v H'
 |_=>False
inductive tQS{md:Mode}(K:W.Frag)(g:FS)(Dd:Ends)(σ:L2.St)(H:Hp):Prop
 |mk:∀G env fp,Rel K G H env σ fp->OutOk (md:=md) K G H fp Dd (g env)->tQS (md:=md) K g Dd σ H
def QE(X:Cx)(e:Expr)(f:FX):Prop:=PE X e (tQ X.K f)
def QO(X:Cx)(e:Expr)(f:FO):Prop:=PE X e (tO X.K f)
def Mj(X:Cx)(es:List Expr)(f:FOs):Prop:=PA X es (tOs X.K f)
def QT(X:Cx)(e:Expr)(f:FT):Prop:=PT X e (tQT X.K f)
def QW(X:Cx)(e:Expr)(f:FT):Prop:=PW X e (tQT X.K f)
def QS{md:Mode}(X:Cx)(st:Stmt)(g:FS):Prop:=PS X st (tQS (md:=md) X.K g)
def M6{md:Mode}(X:Cx)(st:List Stmt)(g:FS):Prop:=PSs X st (tQS (md:=md) X.K g)
def bx{X:Cx}{e:Expr}{t t':TE}(h:PE X e t)(k:∀σ H Q,t' σ H Q->t σ H Q):PE X e t':=fun pr s σ H Q I w=>h pr s σ H Q I (k σ H Q w)
def rB{X:Cx}{e:Expr}{t t':TT}(h:PT X e t)(k:∀σ H Q,t' σ H Q->t σ H Q):PT X e t':=fun pr s σ H Q I w=>h pr s σ H Q I (k σ H Q w)
def zr{X:Cx}{e:Expr}{t t':TT}(h:PW X e t)(k:∀σ H Q,t' σ H Q->t σ H Q):PW X e t':=fun wh pr s σ H Q I w=>h wh pr s σ H Q I (k σ H Q w)
def rD{X:Cx}{e:List Expr}{t t':TA}(h:PA X e t)(k:∀σ H Q,t' σ H Q->t σ H Q):PA X e t':=fun pos pr s σ H Q I w=>h pos pr s σ H Q I (k σ H Q w)
def e9{X:Cx}{e:Stmt}{t t':TS}(h:PS X e t)(k:∀D σ H,t' D σ H->t D σ H):PS X e t':=fun pr s σ H D I w=>h pr s σ H D I (k D σ H w)
def vp{X:Cx}{e:List Stmt}{t t':TS}(h:PSs X e t)(k:∀D σ H,t' D σ H->t D σ H):PSs X e t':=fun pr s σ H D I w=>h pr s σ H D I (k D σ H w)
def OutOk.imp{md:Mode}{K:W.Frag}{G H G1 H1:Hp}{fp Ju:List Yx}{Dd Rt:Ends}{r:Res Out}(st:Step G H fp G1 H1 Ju)(h:OutOk (md:=md) K G H fp Dd r)(n:∀σ H,Dd.nx σ H->Rt.nx σ H)(b:∀σ H,Dd.bk σ H->Rt.bk σ H)(c:∀σ H,Dd.ct σ H->Rt.ct σ H)(t:∀v H,Dd.rt v H->Rt.rt v H):OutOk (md:=md) K G1 H1 Ju Rt r:=by
 match r,h with
 | .ok (.nx env'),h=>exact fun σ' H' G' Jf s q=>n _ _ (h σ' H' G' Jf (st.trans s) q)
 | .ok (.bk env'),h=>exact fun σ' H' G' Jf s q=>b _ _ (h σ' H' G' Jf (st.trans s) q)
 | .ok (.ct env'),h=>exact fun σ' H' G' Jf s q=>c _ _ (h σ' H' G' Jf (st.trans s) q)
 | .ok (.rt r),h=>exact fun v H' G' Jf s q=>t _ _ (h v H' G' Jf (st.trans s) q)
def OutOk.after{md:Mode}{K:W.Frag}{G H G1 H1:Hp}{fp Ju:List Yx}{Dd:Ends}{r:Res Out}(st:Step G H fp G1 H1 Ju)(h:OutOk (md:=md) K G H fp Dd r):OutOk (md:=md) K G1 H1 Ju Dd r:=h.imp st (fun _ _ z=>z) (fun _ _ z=>z) (fun _ _ z=>z) fun _ _ z=>z
def aE(d:D):FX:=fun env=>.ok ((.f,d),env)
def fz:O->O
 | .pin p .f=>.pin p .f
 |_=>.f
def aR(i:Nat):FX:=fun env=>match env[i]? with
 |some (some r)=>.ok ((.f,r.2),env.set i (some (fz r.1,r.2)))
 |_=>.bad
def kg(i:Nat):FX:=fun env=>match env[i]? with
 |some (some r)=>.ok (r,env.set i none)
 |_=>.bad
def aq(f:FX):FO:=fun env=>(f env).bind fun p=>.ok (.val p.1.2,p.2)
def aw(i:Nat):FO:=fun env=>match env[i]? with
 |some (some _)=>.ok (.var i,env)
 |_=>.bad
def aG:FOs:=fun env=>.ok ([],env)
def ag(f:FO)(g:FOs):FOs:=fun env=>(f env).bind fun p=>(g p.2).bind fun q=>.ok (p.1::q.1,q.2)
section
variable{X:Cx}
theorem rE{e:Expr}{v:V}{d:D}(h:PE X e (tC v))(r:∀G,Rep X.K G d v):QE X e (aE d):=bx h fun σ H Q Jo=>by
 obtain⟨G,env,fp,rr,env',rel,e,k⟩:=Jo;cases e;exact k v H G fp .refl (rel.push (r G))
theorem ah{i j pos}:QE X (.Constant (.int i) j pos) (aE (.int i)):=rE zb fun G=>by rw[Rep]
theorem mT{i j pos}:QE X (.Constant (.bool i) j pos) (aE (.bl i)):=rE FK fun G=>by rw[Rep]
theorem fe{j pos}:QE X (.Constant .none j pos) (aE .non):=rE CQ fun G=>by rw[Rep]
theorem hJ{x j pos}{l:List Nat}(h:x=S l)(hl:l.length<=1000):QE X (.Constant (.str x) j pos) (aE (.str l)):=rE CS fun G=>by
 rw[Rep,h];exact⟨rfl,by rw[line_eq];lia⟩
theorem aD{i:Nat}{e:Expr}(h:PE X e (tf i)):QE X e (aR i):=bx h fun σ H Q Jo=>by
 obtain⟨G,env,fp,rr,env',rel,e,k⟩:=Jo;unfold aR at e;split at e
 .rename_i r hr;cases e;by_cases hf:fz r.1=.f
  .obtain⟨v,G',fq,ev,rv,JC,st⟩:=rel.freezeAt hr;rw[hf]at k;exact⟨v,ev,k v H G' fq st (JC.push rv)⟩
  .have hp:∃p,r.1=.pin p .f:=by
    unfold fz at hf;split at hf
    .rename_i p hp;exact⟨p,hp⟩
    .exact absurd rfl hf
   obtain⟨p,hp⟩:=hp;obtain⟨v,a,b,ev,r1,_,_⟩:=rel.rep.take hr;rw[hp,RepO]at r1;have es:env.set i (some (fz r.1,r.2))=env:=by
    refine mS ?_;rw[hr,hp];show some (some r)=some (some (.pin p .f,r.2));rw[<-hp]
   rw[es]at k;exact⟨v,ev,k v H G fp .refl (rel.push (eE.mp r1.2).1)⟩
 .cases e
theorem fJ{i:Nat}{e:Expr}(h:PE X e (tf i)):QE X e (kg i):=bx h fun σ H Q Jo=>by
 obtain⟨G,env,fp,rr,env',rel,e,k⟩:=Jo;unfold kg at e;split at e
 .rename_i r hr;cases e;obtain⟨v,fq,ev,JC,st,_⟩:=rel.out hr;exact⟨v,ev,k v H G fq st JC⟩
 .cases e
theorem aa{e:Expr}{f:FX}(h:QE X e f):QO X e (aq f):=bx h fun σ H Q Jo=>by
 obtain⟨G,env,fp,o,env',rel,e,k⟩:=Jo;obtain⟨⟨r,Jb⟩,e1,e⟩:=au e;cases e;refine⟨G,env,fp,r,Jb,rel,e1,fun v H' G' Jf st JC=>?_⟩;obtain⟨G2,b,rv,Jd,Jj⟩:=JC.freeze;exact k v H' G2 b (st.trans Jj) Jd rv
theorem ae{i:Nat}{e:Expr}(h:PE X e (tf i)):QO X e (aw i):=bx h fun σ H Q Jo=>by
 obtain⟨G,env,fp,o,env',rel,e,k⟩:=Jo;unfold aw at e;split at e
 .rename_i r hr;cases e;obtain⟨v,ev,_⟩:=rel.view hr;exact⟨v,ev,k v H G fp .refl rel ev⟩
 .cases e
theorem ax:Mj X [] aG:=rD jK fun σ H Q Jo=>by
 obtain⟨G,env,fp,o,env',rel,e,k⟩:=Jo;cases e;exact k [] H G fp .refl rel rfl
theorem af{e:Expr}{es:List Expr}{f:FO}{g:FOs}(h:QO X e f)(hs:Mj X es g)(MX:starEach (e::es) X.env=(false,eval e X.env)::starEach es X.env:=by rfl):Mj X (e::es) (ag f g):=
 rD (c5 h hs MX) fun σ H Q Jo=>by
  obtain⟨G,env,fp,o,env',rel,e,k⟩:=Jo;obtain⟨⟨o1,Jb⟩,e1,e⟩:=au e;obtain⟨⟨os,Jl⟩,e2,e⟩:=au e;cases e;exact⟨G,env,fp,o1,Jb,rel,e1,fun v H1 G1 Ju Jp Jc J5=>⟨G1,Jb,Ju,os,Jl,Jc,e2,fun vs H2 G2 JF Jj Jd M7=>k _ H2 G2 JF (Jp.trans Jj) Jd ⟨v,vs,rfl,J5.mono Jj.gg,M7⟩⟩⟩
def aB(g:D->D->Res R)(fa fb:FO):FX:=fun env=>(fa env).bind fun p=>(fb p.2).bind fun q=>(Kf q.2 p.1).bind fun a=>(Kf q.2 q.1).bind fun b=>(g a b).bind fun r=>.ok (r,q.2)
def cp(g:D->D->Res R)(fa fb:FO):FX:=fun env=>(fa env).bind fun p=>(fb p.2).bind fun q=>(pS q.2 p.1).bind fun a=>(pS q.2 q.1).bind fun b=>(g a b).bind fun r=>.ok (r,q.2)
structure Goes(K:W.Frag)(H:Hp)(G:Hp)(fp:List Yx)(es:PV.Env)(vs:L2.St)(r:R)(Q:VK):Prop where
 rel:Rel K G H es vs fp
 jo:∀v H' G' Jf,Step G H fp G' H' Jf->Rel K G' H' (some r::es) (some v::vs) Jf->Q v H'
inductive rG(K:W.Frag)(g:D->D->Res R)(x:V)(y:V)(H:Hp)(Q:VK):Prop
 |mk:∀G fp es vs a b r,Goes K H G fp es vs r Q->Vw K G H a x->Vw K G H b y->g a b=.ok r->rG K g x y H Q
inductive rGA(K:W.Frag)(g:D->D->Res R)(x:V)(y:V)(H:Hp)(Q:VK):Prop
 |mk:∀G fp es vs a b r,Goes K H G fp es vs r Q->Rep K H a x->Rep K H b y->g a b=.ok r->rGA K g x y H Q
variable{a b c:Expr}{fa fb fc:FO}{pos:Pos}{g g':D->D->Res R}
theorem rF{σ:L2.St}{H:Hp}{Q:VK}(h:tQ X.K (aB g fa fb) σ H Q):QH (rG X.K g) (tO X.K fa) (tO X.K fb) σ H Q:=by
 obtain⟨G,env,fp,r,env',rel,e,k⟩:=h;obtain⟨⟨oa,e1⟩,ha,e⟩:=au e;obtain⟨⟨ob,e2⟩,hb,e⟩:=au e;obtain⟨da,Ol,e⟩:=au e;obtain⟨db,KU,e⟩:=au e;obtain⟨r',hr,e⟩:=au e;cases e;exact⟨G,env,fp,oa,e1,rel,ha,fun x H1 G1 Ju Jp Jc J5=>⟨G1,e1,Ju,ob,e2,Jc,hb,fun y H2 G2 JF Jj Jd M7=>
  ⟨G2,JF,e2,σ,da,db,r,⟨Jd,fun v H' G' Jf st JC=>k v H' G' Jf (Jp.trans (Jj.trans st)) JC⟩,Jd.vw (J5.mono Jj.gg) Ol,Jd.vw M7 KU,hr⟩⟩⟩
theorem vq{σ:L2.St}{H:Hp}{Q:VK}(h:tQ X.K (cp g fa fb) σ H Q):QH (rGA X.K g) (tO X.K fa) (tO X.K fb) σ H Q:=by
 obtain⟨G,env,fp,r,env',rel,e,k⟩:=h;obtain⟨⟨oa,e1⟩,ha,e⟩:=au e;obtain⟨⟨ob,e2⟩,hb,e⟩:=au e;obtain⟨da,Ol,e⟩:=au e;obtain⟨db,KU,e⟩:=au e;obtain⟨r',hr,e⟩:=au e;cases e;exact⟨G,env,fp,oa,e1,rel,ha,fun x H1 G1 Ju Jp Jc J5=>⟨G1,e1,Ju,ob,e2,Jc,hb,fun y H2 G2 JF Jj Jd M7=>
  ⟨G2,JF,e2,σ,da,db,r,⟨Jd,fun v H' G' Jf st JC=>k v H' G' Jf (Jp.trans (Jj.trans st)) JC⟩,Jd.vwA (J5.mono Jj.gg) Ol,Jd.vwA M7 KU,hr⟩⟩⟩
theorem aJ{op:Operator}(ho:JT X (binaryOp op) (rG X.K g))(ha:QO X a fa)(hb:QO X b fb):QE X (.BinOp a op b pos) (aB g fa fb):=bx (F3 ho ha hb) fun _ _ _=>rF
theorem DJ{op:CmpOp}(ho:JT X (compareOp op) (rG X.K g))(ha:QO X a fa)(hb:QO X b fb)(hm:behindInMarks op b=false):QE X (.Compare a [op] [b] pos) (aB g fa fb):=bx (uL ho ha hb hm) fun _ _ _=>rF
theorem vy{op:CmpOp}(ho:JT X (compareOp op) (rGA X.K g))(ha:QO X a fa)(hb:QO X b fb)(hm:behindInMarks op b=false):QE X (.Compare a [op] [b] pos) (cp g fa fb):=bx (uL ho ha hb hm) fun _ _ _=>vq
def JE(f:FX):FT:=fun env=>(f env).bind fun p=>match p.1.2 with
 | .bl k=>.ok (k,p.2)
 |_=>.bad
theorem A9{f:FX}{σ:L2.St}{H:Hp}{Q:Bool->Hp->Prop}(h:tQT X.K (JE f) σ H Q):tQ X.K f σ H fun x H'=>∃k,x=.bl k/\Q k H':=by
 obtain⟨G,env,fp,k,env',rel,e,q⟩:=h;obtain⟨⟨⟨o,d⟩,Jb⟩,e1,e⟩:=au e;dsimp only at e;split at e
 .cases e;refine⟨G,env,fp,_,_,rel,e1,fun v H' G' Jf st JC=>?_⟩;have hv:=JC.top;rw[show((o,D.bl k):R).2=D.bl k from rfl,Rep]at hv;obtain⟨b,Jd,Jj⟩:=JC.drop;exact⟨k,hv,q H' G' b (st.trans Jj) Jd⟩
 .cases e
theorem fV{e:Expr}{f:FX}(h:QE X e f)(he:∀whole,isTrue e X.env whole=(do let v <-whole;standAt e.pos;holding [v] (truthy v)):=by intro _;rfl):QT X e (JE f):=rB (CT h he) fun _ _ _=>A9
theorem kK{op:CmpOp}(ho:JT X (compareOp op) (rG X.K g))(ha:QO X a fa)(hb:QO X b fb)(hm:behindInMarks op b=false):QT X (.Compare a [op] [b] pos) (JE (aB g fa fb)):=
 rB (uM ho ha hb hm) fun _ _ _ h=>rF (A9 h)
theorem bg{op:CmpOp}(ho:JT X (compareOp op) (rGA X.K g))(ha:QO X a fa)(hb:QO X b fb)(hm:behindInMarks op b=false):QT X (.Compare a [op] [b] pos) (JE (cp g fa fb)):=
 rB (uM ho ha hb hm) fun _ _ _ h=>vq (A9 h)
def Ba(f g:FT):FT:=fun env=>(f env).bind fun p=>if p.1 then g p.2 else .ok (false,p.2)
def Om(f g:FT):FT:=fun env=>(f env).bind fun p=>if p.1 then .ok (true,p.2) else g p.2
def tV(f:FT):FT:=fun env=>(f env).bind fun p=>.ok (!p.1,p.2)
variable{ga gb:FT}{dX:List Expr}
theorem kM(h:QT X a ga):QW X (.BoolOp .And [a] pos) ga:=Ac h
theorem rH(h:QT X a ga):QW X (.BoolOp .Or [a] pos) ga:=CU h
theorem oJ(h:QT X a ga)(h2:QW X (.BoolOp .And (b::dX) pos) gb):QW X (.BoolOp .And (a::b::dX) pos) (Ba ga gb):=zr (CV h h2) fun σ H Q Jo=>by
 obtain⟨G,env,fp,k,env',rel,e,q⟩:=Jo;obtain⟨⟨k1,Jb⟩,e1,e⟩:=au e;refine⟨G,env,fp,k1,Jb,rel,e1,fun H1 G1 Ju Jp Jc=>?_⟩;dsimp only at e;cases k1 with
 |true=>exact⟨G1,Jb,Ju,k,env',Jc,e,fun H2 G2 JF Jj Jd=>q H2 G2 JF (Jp.trans Jj) Jd⟩
 |false=>
  cases e;exact q H1 G1 Ju Jp Jc
theorem p7(h:QT X a ga)(h2:QW X (.BoolOp .Or (b::dX) pos) gb):QW X (.BoolOp .Or (a::b::dX) pos) (Om ga gb):=zr (FN h h2) fun σ H Q Jo=>by
 obtain⟨G,env,fp,k,env',rel,e,q⟩:=Jo;obtain⟨⟨k1,Jb⟩,e1,e⟩:=au e;refine⟨G,env,fp,k1,Jb,rel,e1,fun H1 G1 Ju Jp Jc=>?_⟩;dsimp only at e;cases k1 with
 |false=>exact⟨G1,Jb,Ju,k,env',Jc,e,fun H2 G2 JF Jj Jd=>q H2 G2 JF (Jp.trans Jj) Jd⟩
 |true=>
  cases e;exact q H1 G1 Ju Jp Jc
theorem QW.qt{e:Expr}{f:FT}(h:QW X e f):QT X e f:=h.pt
theorem gj(h:QT X a ga):QT X (.UnaryOp .Not a pos) (tV ga):=rB (CW h) fun σ H Q Jo=>by
 obtain⟨G,env,fp,k,env',rel,e,q⟩:=Jo;obtain⟨⟨k1,Jb⟩,e1,e⟩:=au e;cases e;exact⟨G,env,fp,k1,Jb,rel,e1,fun H1 G1 Ju Jp Jc=>q H1 G1 Ju Jp Jc⟩
def FC(f g:FX):FX:=fun env=>(f env).bind fun p=>match p.1.2 with
 | .bl true=>g p.2
 | .bl false=>.ok ((.f,.bl false),p.2)
 |_=>.bad
def eOr(f g:FX):FX:=fun env=>(f env).bind fun p=>match p.1.2 with
 | .bl true=>.ok ((.f,.bl true),p.2)
 | .bl false=>g p.2
 |_=>.bad
def Gu(f:FX):FX:=fun env=>(f env).bind fun p=>match p.1.2 with
 | .bl k=>.ok ((.f,.bl (!k)),p.2)
 |_=>.bad
def eIf(c:FT)(f g:FX):FX:=fun env=>(c env).bind fun p=>if p.1 then f p.2 else g p.2
variable{ea eb:FX}
theorem zt{op}(h:QE X a ea):QE X (.BoolOp op [a] pos) ea:=CY h
theorem cz{K:W.Frag}{G:Hp}(k:Bool):Rep K G (.bl k) (.bl k):=by rw[Rep]
theorem bO{K:W.Frag}{G:Hp}(k:Int):Rep K G (.int k) (.int k):=by rw[Rep]
theorem mU{K:W.Frag}{G:Hp}:Rep K G .non .non:=by rw[Rep]
theorem iw{K:W.Frag}{G:Hp}{l:List Nat}(h:l.length<=sizeLine):Rep K G (.str l) (.str (S l)):=by
 rw[Rep];exact⟨rfl,h⟩
theorem cY{K:W.Frag}{G:Hp}{k:Bool}{v:V}(h:Rep K G (.bl k) v):v=.bl k:=by rw[Rep]at h;exact h
theorem bJ{K:W.Frag}{G:Hp}{k:Int}{v:V}(h:Rep K G (.int k) v):v=.int k:=by rw[Rep]at h;exact h
theorem cx{K:W.Frag}{G:Hp}{v:V}(h:Rep K G .non v):v=.non:=by rw[Rep]at h;exact h
theorem bE{K:W.Frag}{G:Hp}{l:List Nat}{v:V}(h:Rep K G (.str l) v):v=.str (S l)/\l.length<=sizeLine:=by rw[Rep]at h;exact h
inductive OfT(K:W.Frag)(G:Hp)(l:List D)(v:V):Prop
 |mk (p:Yx) (xs:List V) (e:v=.ref p) (q:SqT K G p xs) (r:Reps K G l xs):OfT K G l v
inductive OfL(K:W.Frag)(G:Hp)(l:List D)(v:V):Prop
 |mk (p:Yx) (xs:List V) (e:v=.ref p) (q:SqL K G p xs) (r:Reps K G l xs):OfL K G l v
theorem bF{K:W.Frag}{G:Hp}{l:List D}{v:V}(h:Rep K G (.tup l) v):OfT K G l v:=by
 rw[Rep]at h;obtain⟨p,xs,e,q,r⟩:=h;exact⟨p,xs,e,SqT.of q,r⟩
theorem vz{K:W.Frag}{G:Hp}{l:List D}{v:V}(h:Rep K G (.tup l) v):∃p xs,v=.ref p/\G p=some (.tup xs)/\Reps K G l xs:=by rw[Rep]at h;exact h
theorem bK{K:W.Frag}{G:Hp}{l:List D}{v:V}(h:Rep K G (.lst l) v):OfL K G l v:=by
 rw[Rep]at h;obtain⟨p,xs,e,q,r⟩:=h;exact⟨p,xs,e,q,r⟩
theorem bz{K:W.Frag}{G H:Hp}{k:Int}{v:V}(h:Vw K G H (.int k) v):v=.int k:=bJ (K:=K) (G:=G) h
theorem fW{K:W.Frag}{G H:Hp}{l:List Nat}{v:V}(h:Vw K G H (.str l) v):v=.str (S l)/\l.length<=sizeLine:=bE (K:=K) (G:=G) h
theorem hU{K:W.Frag}{G H:Hp}{l:List D}{v:V}(h:Vw K G H (.tup l) v):OfT K G l v:=bF (K:=K) (G:=G) h
theorem zu(h:QE X a ea)(h2:QE X (.BoolOp .And (b::dX) pos) eb):QE X (.BoolOp .And (a::b::dX) pos) (FC ea eb):=bx (CZ h h2) fun σ H Q Jo=>by
 obtain⟨G,env,fp,r,env',rel,e,q⟩:=Jo;obtain⟨⟨⟨o,d⟩,Jb⟩,e1,e⟩:=au e;refine⟨G,env,fp,_,Jb,rel,e1,fun v H1 G1 Ju Jp Jc=>?_⟩;have hv:=Jc.top;obtain⟨b',Jd,Jj⟩:=Jc.drop;dsimp only at e hv;split at e
 .exact⟨true,cY hv,Fz ⟨G1,Jb,b',r,env',Jd,e,fun v H2 G2 JF JB Jy=>q v H2 G2 JF (Jp.trans (Jj.trans JB)) Jy⟩⟩
 .cases e;exact⟨false,cY hv,iteF (q _ H1 G1 b' (Jp.trans Jj) (Jd.push (cz _)))⟩
 .cases e
theorem DK(h:QE X a ea):QE X (.UnaryOp .Not a pos) (Gu ea):=bx (C0 h) fun σ H Q Jo=>by
 obtain⟨G,env,fp,r,env',rel,e,q⟩:=Jo;obtain⟨⟨⟨o,d⟩,Jb⟩,e1,e⟩:=au e;refine⟨G,env,fp,_,Jb,rel,e1,fun v H1 G1 Ju Jp Jc=>?_⟩;have hv:=Jc.top;obtain⟨b',Jd,Jj⟩:=Jc.drop;dsimp only at e hv;split at e
 .cases e;exact⟨_,cY hv,q _ H1 G1 b' (Jp.trans Jj) (Jd.push (cz _))⟩
 .cases e
noncomputable def Hx(g g':D->D->Res R)(fa fb fc:FO):FX:=fun env=>(fa env).bind fun p=>(fb p.2).bind fun q=>(Kf q.2 p.1).bind fun a=>(Kf q.2 q.1).bind fun b=>(g a b).bind fun r=>match r with
 |(.f,.bl true)=>(fc q.2).bind fun t=>(Kf t.2 q.1).bind fun b=>(Kf t.2 t.1).bind fun c=>(g' b c).bind fun r=>.ok (r,t.2)
 |(.f,.bl false)=>.ok ((.f,.bl false),q.2)
 |_=>.bad
inductive rC(K:W.Frag)(g:List D->Res R)(xs:List V)(H:Hp)(Q:VK):Prop
 |mk:∀G fp es vs ds r,Goes K H G fp es vs r Q->Pg K G H ds xs->g ds=.ok r->rC K g xs H Q
def a7(g:List D->Res R)(fs:FOs):FX:=fun env=>(fs env).bind fun p=>(ders p.2 p.1).bind fun ds=>(g ds).bind fun r=>.ok (r,p.2)
theorem vA{gg:List D->Res R}{fs:FOs}{σ:L2.St}{H:Hp}{Q:VK}(h:tQ X.K (a7 gg fs) σ H Q):S8 (rC X.K gg) (tOs X.K fs) σ H Q:=by
 obtain⟨G,env,fp,r,env',rel,e,k⟩:=h;obtain⟨⟨os,e1⟩,ha,e⟩:=au e;obtain⟨ds,hd,e⟩:=au e;obtain⟨r',hr,e⟩:=au e;cases e;exact⟨G,env,fp,os,e1,rel,ha,fun vs H1 G1 Ju Jp Jc J5=>⟨G1,Ju,e1,σ,ds,r,⟨Jc,fun v H' G' Jf st JC=>k v H' G' Jf (Jp.trans st) JC⟩,Jc.vws J5 hd,hr⟩⟩
variable{x:Str}{p:Pos}{e:Expr}{es:List Expr}{gg:List D->Res R}{fs:FOs}{id T:String}
theorem a8(hc:dS X (.builtin id) (rC X.K gg))(hg:Gl X x)(hm:X.mg x=none)(hv:bootBuiltins x=some (.builtin id))(ha:Mj X (e::es) fs)(hn:x≠"__name__":=by decide)(KU:(x==("__debug__" : Str))=false:=by decide)
  (he:starEach (e::es) X.env=(false,eval e X.env)::starEach es X.env:=by rfl) (Ka:(backTo pos (starEach es X.env)).any (·.1)=false:=by rfl):QE X (.Call (.Name x p) (e::es) [] pos) (a7 gg fs):=
 bx (qV hc hg hm hv ha hn KU he Ka) fun _ _ _=>vA
theorem bj(hc:dS X (.type T) (rC X.K gg))(hg:Gl X x)(hm:X.mg x=none)(hv:bootBuiltins x=some (.type T))(ha:Mj X (e::es) fs)(hn:x≠"__name__":=by decide)(KU:(x==("__debug__" : Str))=false:=by decide)
  (he:starEach (e::es) X.env=(false,eval e X.env)::starEach es X.env:=by rfl) (Ka:(backTo pos (starEach es X.env)).any (·.1)=false:=by rfl):QE X (.Call (.Name x p) (e::es) [] pos) (a7 gg fs):=
 bx (uP hc hg hm hv ha hn KU he Ka) fun _ _ _=>vA
inductive spF(K:W.Frag)(F:List D->Res R)(vs:List V)(H:Hp)(Q:VK)(zz:XK):Prop
 |mk:∀G ds r,Same G H->Reps K G ds vs->F ds=.ok r->(∀v H' G' Jf,Step G H [] G' H' Jf->Rel K G' H' [some r] [some v] Jf->Q v H')->spF K F vs H Q zz
def dA(F:List D->Res R)(fs:FOs):FX:=fun env=>(fs env).bind fun p=>(iV p.2 p.1).bind fun ds=>(F ds).bind fun r=>.ok (r,if aO r.1 r.2 then p.2 else p.2.map frz)
theorem aZ{F:List D->Res R}{k:Nat}(C:Ct X.prog X.w X.K X.mg X.base x k (spF X.K F))(hr:Room k X.A)(hg:Gl X x)(ha:Mj X (e::es) fs)(KU:(x==("__debug__" : Str))=false:=by decide)
  (he:starEach (e::es) X.env=(false,eval e X.env)::starEach es X.env:=by rfl) (Ka:(backTo pos (starEach es X.env)).any (·.1)=false:=by rfl):QE X (.Call (.Name x p) (e::es) [] pos) (dA F fs):=
 bx (xU C hr hg ha KU he Ka) fun σ H Q Jo=>by
  obtain⟨G,env,fp,r,env',rel,e,k⟩:=Jo;obtain⟨⟨os,e1⟩,ha,e⟩:=au e;obtain⟨ds,hd,e⟩:=au e;obtain⟨r',hr,e⟩:=au e;refine⟨G,env,fp,os,e1,rel,ha,fun vs H1 G1 Ju Jp Jc J5=>?_⟩;show spF X.K F (vs++[]) H1 Q _;rw[Vo];obtain⟨G2,Oo,PU,KA,_,KJ⟩:=Jc.lend;refine⟨G2,ds,r',PU,gf Oo KA J5 hd,hr,fun v H' G' Jf st JC=>?_⟩;obtain⟨k1,k2⟩:=KJ H' G' Jf r' v st JC;by_cases hc:aO r'.1 r'.2=true
  .rw[U5 hc]at e;cases e;obtain⟨G3,Ke,JB,Jy⟩:=k1 hc;exact k v H' G3 Ke (Jp.trans JB) Jy
  .rw[U8 hc]at e;cases e;obtain⟨G3,Ke,JB,Jy⟩:=k2;exact k v H' G3 Ke (Jp.trans JB) Jy
end
def sSeq(g1 g2:FS):FS:=fun env=>(g1 env).bind fun o=>match o with
 | .nx e=>g2 e
 |o=>.ok o
def bV:FS:=fun env=>.ok (.nx env)
def vB:FS:=fun _=>.bad
def bX(i:Nat)(f:FX):FS:=fun env=>(f env).bind fun p=>if i<p.2.length then .ok (.nx (p.2.set i (some p.1))) else .bad
def iW(f:FX):FS:=fun env=>(f env).bind fun p=>.ok (.nx p.2)
def dY(f:FX):FS:=fun env=>(f env).bind fun p=>.ok (.rt p.1)
def J0(c:FT)(g h:FS):FS:=fun env=>(c env).bind fun p=>if p.1 then g p.2 else h p.2
section
variable{md:Mode}{X:Cx}{st:Stmt}{Tr:List Stmt}{g h:FS}{f:FX}{c:FT}{pos:Pos}{e:Expr}
theorem aY:M6 (md:=md) X [] bV:=vp Ad fun D σ H ⟨G,env,fp,rel,k⟩=>k σ H G fp .refl rel
theorem az(a:QS (md:=md) X st g):M6 (md:=md) X [st] g:=Ae a
theorem ao(a:QS (md:=md) X st g)(b:M6 (md:=md) X Tr h):M6 (md:=md) X (st::Tr) (sSeq g h):=vp (xF a b) fun D σ H Jo=>by
 obtain⟨G,env,fp,rel,k⟩:=Jo;refine⟨G,env,fp,rel,?_⟩;have k:OutOk X.K G H fp D ((g env).bind fun o=>match o with | .nx e=>h e|o=>.ok o):=k;match q:g env,k with
 | .ok (.nx Jb),k=>exact fun σ1 H1 G1 Ju Jp Jc=>⟨G1,Jb,Ju,Jc,OutOk.after Jp k⟩
 | .ok (.bk Jb),k=>exact k
 | .ok (.ct Jb),k=>exact k
 | .ok (.rt r),k=>exact k
theorem rJ:QS (md:=md) X st vB:=e9 xG fun D σ H ⟨G,env,fp,rel,k⟩=>k
theorem vC{K:W.Frag}{G H:Hp}{fp:List Yx}{D:Ends}{i:Nat}{env:PV.Env}{σ:L2.St}(rel:Rel K G H env σ fp)(k:OutOk (md:=md) K G H fp D (bX i f env)):tQ K f σ H fun v H'=>D.nx (σ.set i (some v)) H':=by
 unfold bX at k;match q:f env,k with
 | .ok (r,Jb),k=>
  have k:OutOk K G H fp D (if i<Jb.length then .ok (.nx (Jb.set i (some r))) else .bad):=k;by_cases hi:i<Jb.length
  .rw[U5 hi]at k;refine⟨G,env,fp,r,Jb,rel,q,fun v H1 G1 Ju Jp Jc=>?_⟩;obtain⟨fq,Jd,Jj⟩:=Jc.store hi;exact k _ H1 G1 fq (Jp.trans Jj) Jd
  .rw[U8 hi]at k;exact k.elim
theorem aK{i:Nat}{x:Str}{pos':Pos}(hN:X.N.Nodup)(hi:X.N[i]?=some x)(hx:Loc X.env.scope x)(he:QE X e f)(hs:swapsWith e (some (.Name x pos')) pos.line X.env=pure false:=by rfl)(hf:X.fn x=true\/X.env.scope.names.lookup x=some .local:=by first|exact .inl rfl|exact .inr rfl|assumption):
  QS (md:=md) X (.Assign [.Name x pos'] e pos) (bX i f):=e9 (C5 (i:=i) hN hi hx he hs hf) fun D σ H ⟨G,env,fp,rel,k⟩=>vC rel k
theorem eV(he:QE X e f)(hs:swapsWith e none pos.line X.env=pure false:=by rfl):QS (md:=md) X (.Expr e pos) (iW f):=e9 (Af he hs) fun D σ H Jo=>by
 obtain⟨G,env,fp,rel,k⟩:=Jo;unfold iW at k;match q:f env,k with
 | .ok (r,Jb),k=>
  refine⟨G,env,fp,r,Jb,rel,q,fun v H1 G1 Ju Jp Jc=>?_⟩;obtain⟨b,Jd,Jj⟩:=Jc.drop;exact k _ H1 G1 b (Jp.trans Jj) Jd
theorem Rel.only{K:W.Frag}{G H:Hp}{r:R}{v:V}{es:PV.Env}{vs:L2.St}{fp:List Yx}(q:Rel K G H (some r::es) (some v::vs) fp):∃a,Rel K G H [some r] [some v] a/\Step G H fp G H a:=by
 obtain⟨y,ys,e,v',a,b,e1,e2,r1,r2⟩:=q.rep;cases e;cases e1;subst e2;have nd:=Vs.mp q.nd;exact⟨a,⟨⟨some v,[],rfl,v,a,[],rfl,(Vo _).symm,r1,rfl,rfl⟩,nd.1,fun p hp=>q.gn p (U7 _ hp),q.gh⟩,Step.cut fun p hp=>U7 _ hp⟩
theorem bc(he:QE X e f):QS (md:=.plain) X (.Return (some e) pos) (dY f):=e9 (zc he) fun D σ H Jo=>by
 obtain⟨G,env,fp,rel,k⟩:=Jo;unfold dY at k;match q:f env,k with
 | .ok (r,Jb),k=>
  refine⟨G,env,fp,r,Jb,rel,q,fun v H1 G1 Ju Jp Jc=>?_⟩;obtain⟨b,Jd,Jj⟩:=Jc.only;exact k _ H1 G1 b (Jp.trans Jj) Jd
theorem Rel.nilF{K:W.Frag}{G H:Hp}{es:PV.Env}{vs:L2.St}{fp:List Yx}(q:Rel K G H es vs fp):Rel K G H [] [] []:=⟨⟨rfl,rfl⟩,WH,(fun _ h=>nomatch h),q.gh⟩
theorem cA{a b:List Stmt}{ct:Expr}(hc:QT X ct c)(ha:M6 (md:=md) X a g)(hb:M6 (md:=md) X b h):QS (md:=md) X (.If ct a b pos) (J0 c g h):=e9 (FW hc ha hb) fun D σ H Jo=>by
 obtain⟨G,env,fp,rel,k⟩:=Jo;unfold J0 at k;match q:c env,k with
 | .ok (true,Jb),k=>exact⟨G,env,fp,true,Jb,rel,q,fun H1 G1 Ju Jp Jc=>Fz ⟨G1,Jb,Ju,Jc,OutOk.after Jp k⟩⟩
 | .ok (false,Jb),k=>exact⟨G,env,fp,false,Jb,rel,q,fun H1 G1 Ju Jp Jc=>iteF ⟨G1,Jb,Ju,Jc,OutOk.after Jp k⟩⟩
def dB(c:FT)(g:FS):Nat->FS
 | 0,_=>.bad
 |n+1,env=>(c env).bind fun p=>if p.1 then(g p.2).bind fun o=>match o with
  | .nx e=>dB c g n e
  | .ct e=>dB c g n e
  | .bk e=>.ok (.nx e)
  | .rt r=>.ok (.rt r)
  else .ok (.nx p.2)
theorem rK{ct:Expr}{body:List Stmt}(n:Nat)(hp:PassesOwn (model X.prog X.w) X.A X.env X.xe)(hc:QT X ct c)(hb:M6 (md:=md) X body g):QS (md:=md) X (.While ct body [] pos) (dB c g n):=
 e9 (xI hp hc hb) fun D σ H Jo=>by
  obtain⟨G,env,fp,rel,k⟩:=Jo;refine⟨fun m σ' H'=>∃G' env' Jf,Rel X.K G' H' env' σ' Jf/\OutOk X.K G' H' Jf D (dB c g m env'),⟨n,G,env,fp,rel,k⟩,?_⟩;rintro m σ1 H1 ⟨G1,Jb,Ju,Jc,k1⟩;cases m with
  |zero=>exact k1.elim
  |succ m=>
   unfold dB at k1;match q:c Jb,k1 with
   | .ok (false,Jl),k1=>exact⟨G1,Jb,Ju,false,Jl,Jc,q,fun H2 G2 JF Jj Jd=>iteF (k1 _ H2 G2 JF Jj Jd)⟩
   | .ok (true,Jl),k1=>
    refine⟨G1,Jb,Ju,true,Jl,Jc,q,fun H2 G2 JF Jj Jd=>Fz ?_⟩;refine⟨fun σ' H'=>∃G' env' Jf,Rel X.K G' H' env' σ' Jf/\OutOk X.K G' H' Jf D (dB c g m env'),fun σ' H' z=>⟨m,WU _,z⟩,G2,Jl,JF,Jd,?_⟩;have k2:OutOk X.K G1 H1 Ju D ((g Jl).bind fun o=>match o with | .nx e=>dB c g m e | .ct e=>dB c g m e | .bk e=>.ok (.nx e) | .rt r=>.ok (.rt r)):=k1;match q2:g Jl,k2 with
    | .ok (.nx e),k2=>exact fun σ' H' G' Jf st rel=>⟨G',e,Jf,rel,OutOk.after (Jj.trans st) k2⟩
    | .ok (.ct e),k2=>exact fun σ' H' G' Jf st rel=>⟨G',e,Jf,rel,OutOk.after (Jj.trans st) k2⟩
    | .ok (.bk e),k2=>exact fun σ' H' G' Jf st rel=>k2 σ' H' G' Jf (Jj.trans st) rel
    | .ok (.rt r),k2=>exact fun v H' G' Jf st rel=>k2 v H' G' Jf (Jj.trans st) rel
def Walk(K:W.Frag)(G:Hp)(J:It)(ds:List D):Prop:=∀G' H' es vs fp,Same G G'->Rel K G' H' es vs fp->∀i:Nat,
 (∀d,ds[i]?=some d->J.go i H'/\∀x H2,J.yld i H' x H2->∃G2,Rep K G2 d x/\Rel K G2 H2 es vs fp/\Step G' H' fp G2 H2 fp)/\(i=ds.length->J.stop i H')
abbrev FI:=PV.Env->Res (List D×PV.Env)
inductive tQI(K:W.Frag)(f:FI)(σ:L2.St)(H:Hp)(R:It->Hp->Prop):Prop
 |mk:∀G env fp ds env',Rel K G H env σ fp->f env=.ok (ds,env')->(∀J H' G' Jf,Step G H fp G' H' Jf->Rel K G' H' env' σ Jf->Walk K G' J ds->R J H')->tQI K f σ H R
def QI(X:Cx)(tg e:Expr)(f:FI):Prop:=PI X tg e (tQI X.K f)
theorem hV{X:Cx}{tg e:Expr}{t t':TI}(h:PI X tg e t)(k:∀σ H R,t' σ H R->t σ H R):PI X tg e t':=fun pr s σ H R I w=>h pr s σ H R I (k σ H R w)
abbrev FG:=D->PV.Env->Res PV.Env
inductive tQG(K:W.Frag)(a:FG)(v:V)(σ:L2.St)(H:Hp)(Q:L2.St->Hp->Prop):Prop
 |mk:∀G env fp d env',Rel K G H env σ fp->Rep K G d v->a d env=.ok env'->(∀σ' G' Jf,Step G H fp G' H Jf->Rel K G' H env' σ' Jf->Q σ' H)->tQG K a v σ H Q
def QG(X:Cx)(tg:Expr)(a:FG):Prop:=PG X tg (tQG X.K a)
def aH(i:Nat):FG:=fun d env=>if i<env.length then .ok (env.set i (some (.f,d))) else .bad
theorem zv{X:Cx}{tg:Expr}{t t':TG}(h:PG X tg t)(k:∀v σ H Q,t' v σ H Q->t v σ H Q):PG X tg t':=fun pr s σ H v u Q I r w=>h pr s σ H v u Q I r (k v σ H Q w)
theorem vD{X:Cx}{tg:List Expr}{t t':Pb}(h:Pq X tg t)(k:∀v σ H Q,t' v σ H Q->t v σ H Q):Pq X tg t':=fun pr s σ H v u Q I r w=>h pr s σ H v u Q I r (k v σ H Q w)
theorem aM{i:Nat}{x:Str}(hN:X.N.Nodup)(hi:X.N[i]?=some x)(hx:Loc X.env.scope x)(hf:X.fn x=true\/X.env.scope.names.lookup x=some .local:=by first|exact .inl rfl|exact .inr rfl|assumption):QG X (.Name x pos) (aH i):=
 zv (Ag (i:=i) hN hi hx hf) fun v σ H Q Jo=>by
  obtain⟨G,env,fp,d,env',rel,r,e,k⟩:=Jo;unfold aH at e;split at e
  .rename_i hl;cases e;obtain⟨fq,Jd,Jj⟩:=(rel.push r).store hl;exact k _ G fq Jj Jd
  .cases e
abbrev Oq:=List D->PV.Env->Res PV.Env
inductive tQGs(K:W.Frag)(a:Oq)(vs:List V)(σ:L2.St)(H:Hp)(Q:L2.St->Hp->Prop):Prop
 |mk:∀G env fp ds env',Rel K G H env σ fp->Reps K G ds vs->a ds env=.ok env'->(∀σ' G' Jf,Step G H fp G' H Jf->Rel K G' H env' σ' Jf->Q σ' H)->tQGs K a vs σ H Q
def SA(X:Cx)(tg:List Expr)(a:Oq):Prop:=Pq X tg (tQGs X.K a)
def dZ:Oq:=fun ds env=>match ds with
 |[]=>.ok env
 |_=>.bad
def aT(a:FG)(b:Oq):Oq:=fun ds env=>match ds with
 |d::ds=>(a d env).bind fun e=>b ds e
 |_=>.bad
theorem eW:SA X [] dZ:=vD Ah fun vs σ H Q Jo=>by
 obtain⟨G,env,fp,ds,env',rel,r,e,k⟩:=Jo;cases ds with
 |nil=>
  cases e;rw[Reps]at r;exact⟨r,k σ G fp .refl rel⟩
 |cons d ds=>cases e
theorem a9{tg:Expr}{M8:List Expr}{a:FG}{b:Oq}(h1:QG X tg a)(h2:SA X M8 b)(hs:(assignEach (tg::M8) X.env).map (·.2)=assign tg X.env::(assignEach M8 X.env).map (·.2):=by rfl):SA X (tg::M8) (aT a b):=
 vD (xH h1 h2 hs) fun vs σ H Q Jo=>by
  obtain⟨G,env,fp,ds,env',rel,r,e,k⟩:=Jo;cases ds with
  |nil=>cases e
  |cons d ds=>
   rw[Reps]at r;obtain⟨y,ys,ev,r1,r2⟩:=r;obtain⟨Jb,e1,e2⟩:=au e;exact⟨y,ys,ev,G,env,fp,d,Jb,rel,r1,e1,fun σ1 G1 Ju Jp Jc=>⟨G1,Jb,Ju,ds,env',Jc,r2.mono Jp.gg,e2,fun σ2 G2 JF Jj Jd=>k σ2 G2 JF (Jp.trans Jj) Jd⟩⟩
def ky(n:Nat)(a:Oq):FG:=fun d env=>match d with
 | .tup ds=>if ds.length=n then a ds env else .bad
 |_=>.bad
theorem hW{M8:List Expr}{k n:Nat}{a:Oq}(hc:X.calm=true)(h:SA X M8 a)(hn:(assignEach M8 X.env).length=n:=by rfl)(MX:(assignEach M8 X.env).findIdx? (·.1)=none:=by rfl):QG X (.Tuple M8 k pos) (ky n a):=
 zv (C3 hc h hn MX) fun v σ H Q Jo=>by
  obtain⟨G,env,fp,d,env',rel,r,e,k⟩:=Jo;unfold ky at e;split at e
  .rename_i ds;split at e
   .rename_i hl;obtain⟨p,xs,ev,sq,rs⟩:=bF r;exact⟨p,xs,ev,bW rel.gh sq,rs.length.trans hl,G,env,fp,ds,env',rel,rs,e,k⟩
   .cases e
  .cases e
def d4(a:FG)(g:FS):List D->FS
 |[],env=>.ok (.nx env)
 |d::ds,env=>(a d env).bind fun e=>(g e).bind fun o=>match o with
  | .nx e=>d4 a g ds e
  | .ct e=>d4 a g ds e
  | .bk e=>.ok (.nx e)
  | .rt r=>.ok (.rt r)
def pT(f:FI)(a:FG)(g:FS):FS:=fun env=>(f env).bind fun p=>d4 a g p.1 p.2
theorem fg{tg iter:Expr}{body:List Stmt}{fi:FI}{a:FG}(hp:PassesOwn (model X.prog X.w) X.A X.env X.xe)(hc:X.calm=true)(hi:QI X tg iter fi)(hg:QG X tg a)(hb:M6 (md:=md) X body g)(hs:∀x,foldedSetIterable iter X.env x=pure x:=by intro _;rfl):QS (md:=md) X (.For tg iter body [] pos) (pT fi a g):=
 e9 (zd hp hc hi hg hb hs) fun D σ H Jo=>by
  obtain⟨G,env,fp,rel,k⟩:=Jo;unfold pT at k;match q:fi env,k with
  | .ok (ds,Jb),k=>
   refine⟨G,env,fp,ds,Jb,rel,q,fun J H1 G1 Ju Jp Jc wk=>?_⟩;have k:OutOk X.K G H fp D (d4 a g ds Jb):=k;refine⟨fun i m σ' H'=>m=ds.length-i/\i<=ds.length/\∃G' env' Jf,Same G1 G'/\Rel X.K G' H' env' σ' Jf/\OutOk X.K G' H' Jf D (d4 a g (ds.drop i) env'),⟨_,rfl,VD _,G1,Jb,Ju,.refl _,Jc,OutOk.after Jp k⟩,?_⟩;rintro i m σ2 H2 ⟨rfl,hi,G2,Jl,JF,gg,Jd,k2⟩;obtain⟨w1,w2⟩:=wk G2 H2 _ _ _ gg Jd i;by_cases JL:i<ds.length
   .have hd:ds[i]?=some ds[i]:=List.getElem?_eq_getElem JL;obtain⟨go,yl⟩:=w1 _ hd;rw[Xb JL]at k2;refine .inr ⟨go,fun σ' H'=>∃G' env' Jf,Same G1 G'/\Rel X.K G' H' env' σ' Jf/\OutOk X.K G' H' Jf D (d4 a g (ds.drop (i+1)) env'),fun σ' H' z=>⟨ds.length-(i+1),by lia,rfl,JL,z⟩,fun x H3 y=>?_⟩;obtain⟨G3,rx,Jy,JB⟩:=yl x H3 y;unfold d4 at k2;match q3:a ds[i] Jl,k2 with
    | .ok JO,k2=>
     refine⟨G3,Jl,JF,ds[i],JO,Jy,rx,q3,fun σ4 G4 PX J3 JH=>⟨G4,JO,PX,JH,?_⟩⟩;have k3:OutOk X.K G2 H2 JF D ((g JO).bind fun o=>match o with | .nx e=>d4 a g (ds.drop (i+1)) e | .ct e=>d4 a g (ds.drop (i+1)) e | .bk e=>.ok (.nx e) | .rt r=>.ok (.rt r)):=k2;match q4:g JO,k3 with
     | .ok (.nx e),k3=>exact fun σ' H' G' Jf st rel=>⟨G',e,Jf,gg.trans (JB.gg.trans (J3.gg.trans st.gg)),rel,OutOk.after (JB.trans (J3.trans st)) k3⟩
     | .ok (.ct e),k3=>exact fun σ' H' G' Jf st rel=>⟨G',e,Jf,gg.trans (JB.gg.trans (J3.gg.trans st.gg)),rel,OutOk.after (JB.trans (J3.trans st)) k3⟩
     | .ok (.bk e),k3=>exact fun σ' H' G' Jf st rel=>k3 σ' H' G' Jf (JB.trans (J3.trans st)) rel
     | .ok (.rt r),k3=>exact fun v H' G' Jf st rel=>k3 v H' G' Jf (JB.trans (J3.trans st)) rel
   .have e:i=ds.length:=by lia
    subst e;rw[Ys]at k2;exact .inl ⟨w2 rfl,k2 σ2 H2 G2 JF .refl Jd⟩
def DL(f:FX):FI:=fun env=>(f env).bind fun p=>match p.1.2 with
 | .lst ds=>.ok (ds,p.2)
 |_=>.bad
def iy(f:FX):FI:=fun env=>(f env).bind fun p=>match p.1.2 with
 | .tup ds=>.ok (ds,p.2)
 |_=>.bad
variable{tg l:Expr}
theorem oK{K:W.Frag}{G:Hp}{a:Yx}{xs:List V}{ds:List D}(sq:SqL K G a xs)(rs:Reps K G ds xs):Walk K G (QF K a) ds:=by
 intro G' H' es vs fp gg rel i;have Kp:SqL K H' a xs:=gS rel.gh (gS gg sq);refine⟨fun d hd=>?_,fun e=>⟨xs,Kp,by rw[rs.length];lia⟩⟩;obtain⟨x,hx,rx⟩:=rs.get hd;refine⟨⟨xs,x,Kp,hx⟩,fun y H2 ⟨e,hy⟩=>?_⟩;subst e;have:=hy xs Kp;rw[hx]at this;cases this;exact⟨G',Rep.mono gg rx,rel,.refl⟩
theorem yd{K:W.Frag}{G:Hp}{a:Yx}{xs:List V}{ds:List D}(sq:SqT K G a xs)(rs:Reps K G ds xs):Walk K G (S3 K a) ds:=by
 intro G' H' es vs fp gg rel i;have Kp:SqT K H' a xs:=bW rel.gh (bW gg sq);refine⟨fun d hd=>?_,fun e=>⟨xs,Kp,by rw[rs.length];lia⟩⟩;obtain⟨x,hx,rx⟩:=rs.get hd;refine⟨⟨xs,x,Kp,hx⟩,fun y H2 ⟨e,hy⟩=>?_⟩;subst e;have:=hy xs Kp;rw[hx]at this;cases this;exact⟨G',Rep.mono gg rx,rel,.refl⟩
theorem Bb(h:QE X l f):QI X tg l (DL f):=hV (uE h) fun σ H R Jo=>by
 obtain⟨G,env,fp,ds,env',rel,e,k⟩:=Jo;obtain⟨⟨⟨o,d⟩,Jb⟩,e1,e⟩:=au e;dsimp only at e;split at e
 .cases e;refine⟨G,env,fp,_,_,rel,e1,fun v H1 G1 Ju Jp Jc=>?_⟩;obtain⟨G2,b,rv,Jd,Jj⟩:=Jc.freeze;obtain⟨p,xs,ev,sq,rs⟩:=bK rv;exact⟨p,ev,⟨xs,gS Jd.gh sq⟩,k _ H1 G2 b (Jp.trans Jj) Jd (oK sq rs)⟩
 .cases e
theorem jO(h:QE X l f):QI X tg l (iy f):=hV (C7 h) fun σ H R Jo=>by
 obtain⟨G,env,fp,ds,env',rel,e,k⟩:=Jo;obtain⟨⟨⟨o,d⟩,Jb⟩,e1,e⟩:=au e;dsimp only at e;split at e
 .cases e;refine⟨G,env,fp,_,_,rel,e1,fun v H1 G1 Ju Jp Jc=>?_⟩;obtain⟨G2,b,rv,Jd,Jj⟩:=Jc.freeze;obtain⟨p,xs,ev,sq,rs⟩:=bF rv;exact⟨p,ev,⟨xs,bW Jd.gh sq⟩,k _ H1 G2 b (Jp.trans Jj) Jd (yd sq rs)⟩
 .cases e
def iz(f:FX):FI:=fun env=>(f env).bind fun p=>match p.1.2 with
 | .str l=>.ok (l.map fun c=>.str [c],p.2)
 |_=>.bad
theorem jP(h:QE X l f):QI X tg l (iz f):=hV (Dx h) fun σ H R Jo=>by
 obtain⟨G,env,fp,ds,env',rel,e,k⟩:=Jo;obtain⟨⟨⟨o,d⟩,Jb⟩,e1,e⟩:=au e;dsimp only at e;split at e
 .rename_i cs;cases e;refine⟨G,env,fp,_,_,rel,e1,fun v H1 G1 Ju Jp Jc=>?_⟩;obtain⟨G2,b,rv,Jd,Jj⟩:=Jc.freeze;obtain⟨ev,hl⟩:=bE rv;refine⟨cs,ev,k _ H1 G2 b (Jp.trans Jj) Jd fun G' H' es vs Jf gg JC i=>⟨fun d hd=>?_,fun e=>?_⟩⟩
  .rw[List.getElem?_map]at hd;cases hc:cs[i]? with
   |none=>rw[hc]at hd;cases hd
   |some c=>
    rw[hc]at hd;cases hd;refine⟨(List.getElem?_eq_some_iff.mp hc).1,fun x H2 ⟨e1,e2⟩=>?_⟩;subst e1;refine⟨G',?_,JC,.refl⟩;rw[e2];show Rep X.K G' (.str [c]) (.str (S [cs.getD i 0]));rw[List.getD_eq_getElem?_getD,hc];exact iw (by rw[line_eq];simp)
  .rw[UZ]at e;exact e
 .cases e
def c6(f:FO):FI:=fun env=>(f env).bind fun p=>(Kf p.2 p.1).bind fun d=>match d with
 | .int j=>if -4611686018427387904<=j/\j<4611686018427387904 then .ok ((List.range j.toNat).map fun(k:Nat)=>D.int (k:Int),p.2) else .bad
 |_=>.bad
theorem l5{K:W.Frag}{G:Hp}(lo:Int)(n:Nat):Walk K G (Q5 lo n) ((List.range n).map fun(k:Nat)=>D.int (lo+(k:Int))):=by
 intro G' H' es vs fp gg rel i;refine⟨fun d hd=>?_,fun e=>?_⟩
 .rw[List.getElem?_map]at hd;cases hc:(List.range n)[i]? with
  |none=>rw[hc]at hd;cases hd
  |some c=>
   rw[hc]at hd;cases hd;obtain⟨h1,h2⟩:=List.getElem?_eq_some_iff.mp hc;rw[Vi]at h1;rw[X4]at h2;subst h2;refine⟨h1,fun x H2 ⟨e1,e2⟩=>?_⟩;subst e1;exact⟨G',by rw[e2];exact bO _,rel,.refl⟩
 .rw[UZ,Vi]at e;exact ZK e.symm
theorem dC{a:Expr}{fa:FO}{p pos:Pos}(hg:Gl X "range")(hm:X.mg "range" = none)(ha:QO X a fa)(hs:starEach [a] X.env=[(false,eval a X.env)]:=by rfl):QI X tg (.Call (.Name "range" p) [a] [] pos) (c6 fa):=
 hV (uF hg hm (af ha ax hs) hs) fun σ H R Jo=>by
  obtain⟨G,env,fp,ds,env',rel,e,k⟩:=Jo;obtain⟨⟨o,Jb⟩,e1,e⟩:=au e;obtain⟨d,e2,e⟩:=au e;dsimp only at e;split at e
  .rename_i j;split at e
   .rename_i hj;cases e;refine⟨G,env,fp,[o],_,rel,by show(fa env).bind _=_;rw[e1];rfl,fun vs H1 G1 Ju Jp Jc J5=>?_⟩;obtain⟨y,ys,ev,k1,k2⟩:=J5;have k2:ys=[]:=k2;subst k2;have hv:=bz (Jc.vw k1 e2);subst hv;refine⟨j,ev,by lia,by lia,k _ H1 G1 Ju Jp Jc ?_⟩;have w:=l5 (K:=X.K) (G:=G1) 0 j.toNat
    simpa using w
   .cases e
  .cases e
noncomputable def p8(fs:FOs):FI:=fun env=>(fs env).bind fun p=>(ders p.2 p.1).bind fun d=>match d with
 |[.int i,.int j]=>if(-4611686018427387904<=i/\i<4611686018427387904)/\-4611686018427387904<=j/\j<4611686018427387904 then .ok ((List.range (j-i).toNat).map fun(k:Nat)=>D.int (i+(k:Int)),p.2) else .bad
 |_=>.bad
theorem vE{a b:Expr}{fs:FOs}{p pos:Pos}(hg:Gl X "range")(hm:X.mg "range" = none)(ha:Mj X [a,b] fs)(hs:starEach [a,b] X.env=[(false,eval a X.env),(false,eval b X.env)]:=by rfl)(MY:starEach [b] X.env=[(false,eval b X.env)]:=by rfl):
  QI X tg (.Call (.Name "range" p) [a,b] [] pos) (p8 fs):=
 hV (uG hg hm ha hs MY) fun σ H R Jo=>by
  obtain⟨G,env,fp,ds,env',rel,e,k⟩:=Jo;obtain⟨⟨o,Jb⟩,e1,e⟩:=au e;obtain⟨d,e2,e⟩:=au e;dsimp only at e;split at e
  .rename_i i j;split at e
   .rename_i hj;cases e;refine⟨G,env,fp,o,_,rel,e1,fun vs H1 G1 Ju Jp Jc J5=>?_⟩;obtain⟨y,ys,ev,v1,z,zs,Ru,v2,e3⟩:=Jc.vws J5 e2;have e3:zs=[]:=e3;subst e3;have h1:=bz v1;have h2:=bz v2;subst h1;subst h2;subst Ru;exact⟨i,j,ev,⟨by lia,by lia,by lia,by lia⟩,k _ H1 G1 Ju Jp Jc (l5 i _)⟩
   .cases e
  .cases e
def jx(k:Bool):D->Res (List D)
 | .lst ds=>if k then .ok ds else .bad
 | .tup ds=>if k then .bad else .ok ds
 |_=>.bad
def tW(k1 k2:Bool)(fs:FOs):FI:=fun env=>(fs env).bind fun p=>match p.1 with
 |[.val d1,.val d2]=>(jx k1 d1).bind fun a=>(jx k2 d2).bind fun b=>.ok ((a.zip b).map fun z=>D.tup [z.1,z.2],p.2)
 |_=>.bad
theorem rL{K:W.Frag}{G:Hp}{k:Bool}{d:D}{ds:List D}{v:V}(e:jx k d=.ok ds)(r:Rep K G d v):∃p xs,v=.ref p/\(if k then SqL K G p xs else SqT K G p xs)/\Reps K G ds xs:=by
 cases d with
 |lst es=>
  cases k with
  |true=>
   cases e;obtain⟨p,xs,e1,q,rs⟩:=bK r;exact⟨p,xs,e1,q,rs⟩
  |false=>cases e
 |tup es=>
  cases k with
  |true=>cases e
  |false=>
   cases e;obtain⟨p,xs,e1,q,rs⟩:=bF r;exact⟨p,xs,e1,q,rs⟩
 |_=>cases e
theorem mV{K:W.Frag}{G G':Hp}{k:Bool}{p:Yx}{xs:List V}(h:Same G G')(r:if k then SqL K G p xs else SqT K G p xs):if k then SqL K G' p xs else SqT K G' p xs:=by
 cases k with
 |true=>exact gS h r
 |false=>exact bW h r
theorem ye{K:W.Frag}{G:Hp}{k1 k2:Bool}{p1 p2:Yx}{xs ys:List V}{as bs:List D}(s1:if k1 then SqL K G p1 xs else SqT K G p1 xs)(s2:if k2 then SqL K G p2 ys else SqT K G p2 ys)(r1:Reps K G as xs)(r2:Reps K G bs ys):
  Walk K G (Th K k1 k2 p1 p2) ((as.zip bs).map fun z=>D.tup [z.1,z.2]):=by
 intro G' H' es vs fp gg rel i;have g1:=mV (gg.trans rel.gh) s1;have g2:=mV (gg.trans rel.gh) s2;refine⟨fun d hd=>?_,fun e=>⟨xs,ys,g1,g2,?_⟩⟩
 .rw[List.getElem?_map]at hd;cases hz:(as.zip bs)[i]? with
  |none=>rw[hz]at hd;cases hd
  |some z=>
   rw[hz]at hd;cases hd;obtain⟨h1,h2⟩:=List.getElem?_zip_eq_some.mp hz;obtain⟨x,hx,rx⟩:=r1.get h1;obtain⟨y,hy,ry⟩:=r2.get h2;refine⟨⟨xs,ys,x,y,g1,g2,hx,hy⟩,fun v H2 ⟨T,hT,ev,hh⟩=>?_⟩;have e2:=hh xs ys x y g1 g2 hx hy;subst e2;obtain⟨Jd,Jj⟩:=rel.newF (u:=.tup [x,y]) hT;refine⟨_,?_,Jd,Jj⟩;rw[Rep];exact⟨T,[x,y],ev,aU,.cons (Rep.mono (gg.trans Jj.gg) rx) (.one (Rep.mono (gg.trans Jj.gg) ry))⟩
 .rw[UZ,Xo]at e;rw[r1.length,r2.length];exact e
theorem rM(k1 k2:Bool){M8:List Expr}{kt:Nat}{pt:Pos}{e1 e2:Expr}{fs:FOs}{p pos:Pos}(hg:Gl X "zip")(hm:X.mg "zip" = none)(ha:Mj X [e1,e2] fs)(he:starEach [e1,e2] X.env=(false,eval e1 X.env)::starEach [e2] X.env:=by rfl)(Ka:(backTo pos (starEach [e2] X.env)).any (·.1)=false:=by rfl):
  QI X (.Tuple M8 kt pt) (.Call (.Name "zip" p) [e1,e2] [] pos) (tW k1 k2 fs):=
 hV (DB k1 k2 hg hm ha he Ka) fun σ H R Jo=>by
  obtain⟨G,env,fp,ds,env',rel,e,k⟩:=Jo;obtain⟨⟨o,Jb⟩,e1,e⟩:=au e;dsimp only at e;split at e
  .rename_i d1 d2;obtain⟨a,ea,e⟩:=au e;obtain⟨b,eb,e⟩:=au e;cases e;refine⟨G,env,fp,_,_,rel,e1,fun vs H1 G1 Ju Jp Jc J5=>?_⟩;obtain⟨y,ys,ev,v1,z,zs,Ru,v2,e3⟩:=J5;have e3:zs=[]:=e3;subst e3;obtain⟨p1,xs1,ep1,q1,r1⟩:=rL ea v1;obtain⟨p2,QQ,ep2,q2,r2⟩:=rL eb v2;subst ep1;subst ep2;subst Ru;exact⟨p1,p2,xs1,QQ,ev,mV Jc.gh q1,mV Jc.gh q2,k _ H1 G1 Ju Jp Jc (ye q1 q2 r1 r2)⟩
  .cases e
end
def fBody(np nn:Nat)(g:FS):List D->Res R:=fun ds=>if ds.length=np then(g (ds.map (fun d=>some (O.f,d))++List.replicate nn none)).bind fun o=>match o with
 | .rt r=>.ok r
 | .nx _=>.ok (.f,.non)
 |_=>.bad
 else .bad
theorem gk{K:W.Frag}{G H:Hp}(n:Nat):∀{ds:List D}{vs:List V},Reps K G ds vs->RepE K G H (ds.map (fun d=>some (O.f,d))++List.replicate n none) (vs.map some++List.replicate n none) []
 |[],vs,r=>by
  rw[Reps]at r;subst r;show RepE K G H (List.replicate n none) (List.replicate n none) [];induction n with
  |zero=>exact⟨rfl,rfl⟩
  |succ n ih=>exact⟨none,_,rfl,ih⟩
 |d::ds,vs,r=>by
  rw[Reps]at r;obtain⟨y,ys,e,r1,r2⟩:=r;subst e;exact⟨some y,_,rfl,y,[],[],rfl,rfl,eE.mpr ⟨r1,rfl⟩,gk n r2⟩
def dD{P:Yy}{w:World}{K:W.Frag}{mg:Str->Option Yu}{base:YB}{x:Str}{st:Stmt}{N ps:List Str}{k:Nat}{g:FS}(Df:Def K mg x st)(sc:FnScope N ps (defScope st))
  (hb:∀(kV doc pm:Yu) (an:Option Yx) (Jz ct:Yu) (us:List Yu),us.length=ps.length->bindArgs (PySem.W.fnOf x x (eU st) (cO st) (defScope st) .none kV doc pm an Jz ct) ⟨us,[]⟩=pure (ps.zip us))
  (body:∀(f:Yx) (Jz:Yu) (A:Yz) (outer:List PySem.Env) (s:Yw) (H:Hp) (E:XK),Room k (A.deeper (envOfC x (defScope st) s.heap.objs.size f Jz))->M6 (md:=.plain) (xv M3 P w K mg base N x (defScope st) f Jz A outer s H E).nox (cO st) g):
  Ct P w K mg base x (k+1) (spF K (fBody ps.length (N.length-ps.length) g)):=by
 obtain⟨f,fd,F,m⟩:=Df;refine⟨f,fd,ps,F.ok sc (fun vs H Q E h=>?_) (fun Jz A outer s H vs Q E hr h=>?_),m,F.kp,F.binds hb⟩
 .obtain⟨G,ds,r,_,rs,e,_⟩:=h;unfold fBody at e;split at e
  .rename_i hl;rw[rs.length,hl]
  .cases e
 .obtain⟨G,ds,r,gh,rs,e,q⟩:=h;unfold fBody at e;split at e
  .rename_i hl;refine⟨_,body f Jz A outer s H E hr,G,ds.map (fun d=>some (O.f,d))++List.replicate (N.length-ps.length) none,[],⟨?_,WH,(fun _ h=>nomatch h),gh⟩,?_⟩
   .have:=gk (K:=K) (G:=G) (H:=H) (N.length-ps.length) rs;unfold L2.j8;rw[rs.length,hl];exact this
   .obtain⟨o,eo,e⟩:=au e;rw[eo];cases o with
    |rt r'=>
     cases e;exact fun v H' G' Jf st rel=>q v H' G' Jf st rel
    |nx env'=>
     cases e;exact fun σ' H' G' Jf st rel=>q .non H' G' [] (st.trans (Step.cut fun _ h=>nomatch h)) (rel.nilF.push mU)
    |bk env'=>cases e
    |ct env'=>cases e
  .cases e
def d5(ix:List (Option Nat))(env:PV.Env):PV.Env:=ix.map fun j=>j.bind fun j=>match env[j]? with
 |some (some r)=>some (O.f,r.2)
 |_=>none
def eF:FT:=fun env=>.ok (true,env)
def c7(a:FG)(c:FT)(f:FX):List D->PV.Env->Res (List D)
 |[],_=>.ok []
 |d::ds,env=>(a d env).bind fun e=>(c e).bind fun p=>if p.1 then(f p.2).bind fun q=>(c7 a c f ds q.2).bind fun rs=>.ok (q.1.2::rs) else c7 a c f ds p.2
def c8(fi:FI)(ix:List (Option Nat))(a:FG)(c:FT)(f:FX):FX:=fun env=>(fi env).bind fun p=>(c7 a c f p.1 (d5 ix p.2)).bind fun ds=>if ds.length<=sizeLine then .ok ((.l .f,.lst ds),if flatDs ds then p.2 else p.2.map frz) else .bad
theorem kz:∀ds,ds.all (aO .f)=flatDs ds
 |[]=>rfl
 |d::ds=>by rw[WR,flatDs,kz ds,aO]
theorem gm{K:W.Frag}{G1 H:Hp}{es:PV.Env}{σ:L2.St}(ht:∀(i:Nat) (r:R) (v:V),es[i]?=some (some r)->σ[i]?=some (some v)->Rep K G1 r.2 v)(hv:∀(i:Nat) (r:R),es[i]?=some (some r)->∃v,σ[i]?=some (some v)):
  ∀ix:List (Option Nat),RepE K G1 H (d5 ix es) (lW ix σ) []
 |[]=>⟨rfl,rfl⟩
 |none::ix=>⟨none,_,rfl,gm ht hv ix⟩
 |some j::ix=>by
  show RepE K G1 H ((match es[j]? with|some (some r)=>some (O.f,r.2)|_=>none)::d5 ix es) ((σ[j]?).bind id::lW ix σ) [];cases e:es[j]? with
  |none=>exact⟨_,_,rfl,gm ht hv ix⟩
  |some r=>
   cases r with
   |none=>exact⟨_,_,rfl,gm ht hv ix⟩
   |some r=>
    obtain⟨v,ev⟩:=hv j r e;refine⟨_,_,rfl,v,[],[],?_,rfl,eE.mpr ⟨ht j r v e ev,rfl⟩,gm ht hv ix⟩;rw[ev];rfl
section
variable{md:Mode}{X:Cx}{scope:Scope}{N:List Str}{tg iter elt:Expr}{ifs:List Expr}{pos:Pos}{fi:FI}{a:FG}{c:FT}{f:FX}
def SD(X:Cx)(ifs:List Expr)(c:FT):Prop:=QL X ifs (tQT X.K c)
theorem bZ:SD X [] eF:=fun pr s σ H Q I Jo=>by
 obtain⟨G,env,fp,b,env',rel,e,k⟩:=Jo;cases e;exact AB pr s σ H Q I (k H G fp .refl rel)
theorem Bc{t:Expr}(h:QT X t c):SD X [t] c:=AD h
end
section
variable{X:Cx}
inductive rCatS(K:W.Frag)(x:V)(y:V)(H:Hp)(Q:VK):Prop
 |mk:∀l b xs zs,x=.ref l->y=.ref b->SqL K H l xs->SqL K H b zs->xs.length+zs.length<=sizeLine->(∀p,H p=none->Q (.ref p) (upd H p (.lst (xs++zs))))->rCatS K x y H Q
theorem Bd:JT X (binaryOp .Add) (rCatS X.K):=by
 intro pr s σ H x y v u Q I rx ry h;obtain⟨l,b,xs,zs,rfl,rfl,hH,hB,hz,q⟩:=h;cases rx;cases ry;obtain⟨Je,r1,p1,_⟩:=I.list hH;obtain⟨Mo,r2,p2,_⟩:=I.list hB;have l1:=r1.length;have l2:=r2.length;obtain⟨⟨cls,dd,data,sl⟩,ho,hc,n,hd⟩:=id p1.isList;obtain⟨⟨Ob,MK,data2,ML⟩,Ks,L5,n2,hd2⟩:=id p2.isList;simp only at hc hd L5 hd2;subst hc hd L5 hd2;have e:Je.toArray++Mo.toArray=(Je++Mo).toArray:=by simp
 refine YF ⟨_,ho,rfl⟩ ⟨_,Ks,rfl⟩ noFill_list_add seq_list_add PySem.F.slot_list_add PySem.F.entry_list_add (PySem.F.args_list_add_2 _ _) (list_addW l b Je.toArray Mo.toArray n n2 dd MK sl ML (by rw[U0,U0];lia)) ⟨ho,Ks,?_⟩;rw[e];exact⟨.ref _,_,I.lnew (t':=s.toks) (r1.append r2) (by rw[Vr];lia),rfl,q _ I.fresh⟩
end
noncomputable def addD:D->D->Res R
 | .int i,.int j=>.ok (.f,.int (i+j))
 | .str a,.str b=>if a.length+b.length<=sizeLine then .ok (.f,.str (a++b)) else .bad
 | .lst a,.lst b=>if a.length+b.length<=sizeLine then .ok (.l .f,.lst (a++b)) else .bad
 | .tup a,.tup b=>if a≠[]/\a.length+b.length<=sizeLine then .ok (.f,.tup (a++b)) else .bad
 |_,_=>.bad
section
variable{X:Cx}
theorem mW{K:W.Frag}{G H:Hp}{fp:List Yx}{es:PV.Env}{vs:L2.St}{ds:List D}{xs:List V}{p:Yx}(rel:Rel K G H es vs fp)(hp:H p=none)(r:Reps K G ds xs):
  ∃G',Rel K G' (upd H p (.tup xs)) (some (.f,.tup ds)::es) (some (.ref p)::vs) fp/\Step G H fp G' (upd H p (.tup xs)) fp:=by
 obtain⟨Jd,Jj⟩:=rel.newF (u:=.tup xs) hp;refine⟨_,Jd.push ?_,Jj⟩;rw[Rep];exact⟨p,xs,rfl,aU,r.mono Jj.gg⟩
theorem DM:JT X (binaryOp .Add) (rG X.K addD):=by
 rintro pr s σ H x y v u Q I rx ry ⟨G,fp,es,vs,a,b,r,⟨rel,k⟩,va,vb,e⟩;unfold addD at e;split at e
 .rename_i i j;cases e;cases bz va;cases bz vb;exact C8 pr s σ H _ _ v u Q I rx ry ⟨i,j,rfl,rfl,k _ H G fp .refl (rel.push (bO _))⟩
 .rename_i i j;split at e
  .rename_i hl;cases e;obtain⟨e1,h1⟩:=fW va;obtain⟨e2,h2⟩:=fW vb;subst e1;subst e2;refine tu pr s σ H _ _ v u Q I rx ry ⟨_,_,rfl,rfl,by rw[lN,lN];exact hl,?_⟩;rw[Gg];exact k _ H G fp .refl (rel.push (iw (by rw[Vr];exact hl)))
  .cases e
 .rename_i i j;split at e
  .rename_i hl;cases e;obtain⟨p,xs,e1,h1,r1⟩:=va;obtain⟨p2,QQ,e2,h2,r2⟩:=vb;subst e1;subst e2;refine Bd pr s σ H _ _ v u Q I rx ry ⟨p,p2,xs,QQ,rfl,rfl,h1,h2,by rw[r1.length,r2.length];exact hl,fun q hq=>?_⟩;obtain⟨Jd,Jj⟩:=rel.newL hq (r1.app r2);exact k _ _ G _ Jj Jd
  .cases e
 .rename_i i j;split at e
  .rename_i hl;cases e;obtain⟨p,xs,e1,h1,r1⟩:=hU va;obtain⟨p2,QQ,e2,h2,r2⟩:=hU vb;subst e1;subst e2;have hx:xs≠[]:=fun z=>hl.1 (VR (by rw[<-r1.length,z];rfl))
   refine Ar pr s σ H _ _ v u Q I rx ry ⟨p,p2,xs,QQ,rfl,rfl,bW rel.gh h1,bW rel.gh h2,hx,by rw[r1.length,r2.length];exact hl.2,fun z=>?_,fun z q hq=>?_⟩
   .have:j=[]:=VR (by rw[<-r2.length,z];rfl);subst this;rw[Vo]at k;exact k _ H G fp .refl (rel.push va)
   .obtain⟨G',Jd,Jj⟩:=mW rel hq (r1.app r2);exact k _ _ G' _ Jj Jd
  .cases e
 .cases e
def nQ:D->D->Res R
 | .int i,.int j=>.ok (.f,.int (i-j))
 |_,_=>.bad
theorem hX:JT X (binaryOp .Sub) (rG X.K nQ):=by
 rintro pr s σ H x y v u Q I rx ry ⟨G,fp,es,vs,a,b,r,⟨rel,k⟩,va,vb,e⟩;unfold nQ at e;split at e
 .rename_i i j;cases e;cases bz va;cases bz vb;exact C9 pr s σ H _ _ v u Q I rx ry ⟨i,j,rfl,rfl,k _ H G fp .refl (rel.push (bO _))⟩
 .cases e
def dE(i:Int):Bool:=decide (-(2 ^ 64)<i/\i<2 ^ 64)
def Gv:D->D->Res R
 | .int i,.int j=>if dE i||dE j then .ok (.f,.int (i*j)) else .bad
 |_,_=>.bad
theorem DN:JT X (binaryOp .Mult) (rG X.K Gv):=by
 rintro pr s σ H x y v u Q I rx ry ⟨G,fp,es,vs,a,b,r,⟨rel,k⟩,va,vb,e⟩;unfold Gv at e;split at e
 .rename_i i j;split at e
  .rename_i hc;cases e;cases bz va;cases bz vb;have hc:CMul i j:=by
    rw[YH]at hc;exact hc.imp W6 W6
   exact Dc pr s σ H _ _ v u Q I rx ry ⟨i,j,rfl,rfl,hc,k _ H G fp .refl (rel.push (bO _))⟩
  .cases e
 .cases e
def dk:D->D->Res R
 | .int i,.int j=>if 0<j/\j<1073741824 then .ok (.f,.int (i / j)) else .bad
 |_,_=>.bad
theorem cB:JT X (binaryOp .FloorDiv) (rG X.K dk):=by
 rintro pr s σ H x y v u Q I rx ry ⟨G,fp,es,vs,a,b,r,⟨rel,k⟩,va,vb,e⟩;unfold dk at e;split at e
 .rename_i i j;split at e
  .rename_i hc;cases e;cases bz va;cases bz vb;exact Ai pr s σ H _ _ v u Q I rx ry ⟨i,j,rfl,rfl,hc,k _ H G fp .refl (rel.push (bO _))⟩
  .cases e
 .cases e
def eC:D->D->Res R
 | .int i,.int j=>if 0<j then .ok (.f,.int (i%j)) else .bad
 |_,_=>.bad
theorem bQ:JT X (binaryOp .Mod) (rG X.K eC):=by
 rintro pr s σ H x y v u Q I rx ry ⟨G,fp,es,vs,a,b,r,⟨rel,k⟩,va,vb,e⟩;unfold eC at e;split at e
 .rename_i i j;split at e
  .rename_i hc;cases e;cases bz va;cases bz vb;exact De pr s σ H _ _ v u Q I rx ry ⟨i,j,rfl,rfl,hc,k _ H G fp .refl (rel.push (bO _))⟩
  .cases e
 .cases e
def yf:D->D->Res R
 | .int i,.int j=>if 0<=j/\j<=1000000/\i.natAbs<2 ^ 64 then .ok (.f,.int (i ^ j.toNat)) else .bad
 |_,_=>.bad
theorem zw:JT X (binaryOp .Pow) (rG X.K yf):=by
 rintro pr s σ H x y v u Q I rx ry ⟨G,fp,es,vs,a,b,r,⟨rel,k⟩,va,vb,e⟩;unfold yf at e;split at e
 .rename_i i j;split at e
  .rename_i hc;cases e;cases bz va;cases bz vb;exact Dg pr s σ H _ _ v u Q I rx ry ⟨i,j,rfl,rfl,hc,k _ H G fp .refl (rel.push (bO _))⟩
  .cases e
 .cases e
def QM:D->D->Res R
 | .int i,.int j=>.ok (.f,.bl (decide (i<j)))
 | .str a,.str b=>.ok (.f,.bl (decide (a<b)))
 |_,_=>.bad
theorem Gw:JT X (compareOp .Lt) (rG X.K QM):=by
 rintro pr s σ H x y v u Q I rx ry ⟨G,fp,es,vs,a,b,r,⟨rel,k⟩,va,vb,e⟩;unfold QM at e;split at e
 .rename_i i j;cases e;cases bz va;cases bz vb;exact F6 pr s σ H _ _ v u Q I rx ry ⟨i,j,rfl,rfl,k _ H G fp .refl (rel.push (cz _))⟩
 .rename_i i j;cases e;obtain⟨e1,h1⟩:=fW va;obtain⟨e2,h2⟩:=fW vb;subst e1;subst e2;refine uJ pr s σ H _ _ v u Q I rx ry ⟨_,_,rfl,rfl,?_⟩;rw[dy,dy];exact k _ H G fp .refl (rel.push (cz _))
 .cases e
def leD:D->D->Res R
 | .int i,.int j=>.ok (.f,.bl (decide (i<=j)))
 | .str a,.str b=>.ok (.f,.bl (!decide (b<a)))
 |_,_=>.bad
def PY:D->D->Res R
 | .int i,.int j=>.ok (.f,.bl (decide (j<i)))
 |_,_=>.bad
theorem Be:JT X (compareOp .Gt) (rG X.K PY):=by
 rintro pr s σ H x y v u Q I rx ry ⟨G,fp,es,vs,a,b,r,⟨rel,k⟩,va,vb,e⟩;unfold PY at e;split at e
 .rename_i i j;cases e;cases bz va;cases bz vb;exact F7 pr s σ H _ _ v u Q I rx ry ⟨i,j,rfl,rfl,k _ H G fp .refl (rel.push (cz _))⟩
 .cases e
def Ts:D->D->Res R
 | .int i,.int j=>.ok (.f,.bl (decide (j<=i)))
 |_,_=>.bad
theorem Gx:JT X (compareOp .GtE) (rG X.K Ts):=by
 rintro pr s σ H x y v u Q I rx ry ⟨G,fp,es,vs,a,b,r,⟨rel,k⟩,va,vb,e⟩;unfold Ts at e;split at e
 .rename_i i j;cases e;cases bz va;cases bz vb;exact F8 pr s σ H _ _ v u Q I rx ry ⟨i,j,rfl,rfl,k _ H G fp .refl (rel.push (cz _))⟩
 .cases e
end
abbrev FDs:=PV.Env->Res (List D×PV.Env)
inductive tDs(K:W.Frag)(f:FDs)(σ:L2.St)(H:Hp)(Q:List V->Hp->Prop):Prop
 |mk:∀G env fp ds env',Rel K G H env σ fp->f env=.ok (ds,env')->(∀vs H' G' Jf,Step G H fp G' H' Jf->Rel K G' H' env' σ Jf->Reps K G' ds vs->Q vs H')->tDs K f σ H Q
def Rv(X:Cx)(es:List Expr)(f:FDs):Prop:=PA X es (tDs X.K f)
def br:FDs:=fun env=>.ok ([],env)
def aA(f:FX)(g:FDs):FDs:=fun env=>(f env).bind fun p=>(g p.2).bind fun q=>.ok (p.1.2::q.1,q.2)
section
variable{X:Cx}
theorem aN:Rv X [] br:=rD jK fun σ H Q Jo=>by
 obtain⟨G,env,fp,o,env',rel,e,k⟩:=Jo;cases e;exact k [] H G fp .refl rel .nil
theorem av{e:Expr}{es:List Expr}{f:FX}{g:FDs}(h:QE X e f)(hs:Rv X es g)(MX:starEach (e::es) X.env=(false,eval e X.env)::starEach es X.env:=by rfl):Rv X (e::es) (aA f g):=
 rD (c5 h hs MX) fun σ H Q Jo=>by
  obtain⟨G,env,fp,o,env',rel,e,k⟩:=Jo;obtain⟨⟨r,Jb⟩,e1,e⟩:=au e;obtain⟨⟨ds,Jl⟩,e2,e⟩:=au e;cases e;refine⟨G,env,fp,r,Jb,rel,e1,fun v H1 G1 Ju Jp Jc=>?_⟩;obtain⟨G2,b,rv,Jd,Jj⟩:=Jc.freeze;exact⟨G2,Jb,b,ds,Jl,Jd,e2,fun vs H3 G3 Ke JB Jy rs=>k _ H3 G3 Ke (Jp.trans (Jj.trans JB)) Jy (.cons (Rep.mono JB.gg rv) rs)⟩
def fH(fs:FDs):FX:=fun env=>(fs env).bind fun p=>if p.1.length<=1000 then .ok ((.f,.tup p.1),p.2) else .bad
def nR(fs:FDs):FX:=fun env=>(fs env).bind fun p=>if p.1.length<=1000 then .ok ((.l .f,.lst p.1),p.2) else .bad
variable{es:List Expr}{fs:FDs}{pos:Pos}
theorem bN{x1}(h:Rv X es fs):QE X (.Tuple es x1 pos) (fH fs):=bx (qT h) fun σ H Q Jo=>by
 obtain⟨G,env,fp,r,env',rel,e,k⟩:=Jo;obtain⟨⟨ds,Jb⟩,e1,e⟩:=au e;dsimp only at e;split at e
 .rename_i hl;cases e;refine⟨G,env,fp,ds,env',rel,e1,fun vs H1 G1 Ju Jp Jc rs=>⟨by rw[rs.length,line_eq];lia,fun p hp=>?_⟩⟩;obtain⟨G2,Jd,Jj⟩:=mW Jc hp rs;exact k _ _ G2 _ (Jp.trans Jj) Jd
 .cases e
theorem dP(h:Rv X es fs):QE X (.List es pos) (nR fs):=bx (Di h) fun σ H Q Jo=>by
 obtain⟨G,env,fp,r,env',rel,e,k⟩:=Jo;obtain⟨⟨ds,Jb⟩,e1,e⟩:=au e;dsimp only at e;split at e
 .rename_i hl;cases e;refine⟨G,env,fp,ds,env',rel,e1,fun vs H1 G1 Ju Jp Jc rs=>⟨by rw[rs.length,line_eq];lia,fun p hp=>?_⟩⟩;obtain⟨Jd,Jj⟩:=Jc.newL hp rs;exact k _ _ G1 _ (Jp.trans Jj) Jd
 .cases e
noncomputable def Ji:D->D->Res R
 | .lst ds,.int i=>match Kd ds i with
  |some d=>.ok (.f,d)
  |none=>.bad
 | .tup ds,.int i=>match Kd ds i with
  |some d=>.ok (.f,d)
  |none=>.bad
 | .str l,.int i=>match Kd l i with
  |some c=>.ok (.f,.str [c])
  |none=>.bad
 |_,_=>.bad
theorem rN{K:W.Frag}{G:Hp}{ds:List D}{xs:List V}{i:Int}{d:D}(r:Reps K G ds xs)(e:Kd ds i=some d):∃v,Kd xs i=some v/\Rep K G d v:=by
 unfold Kd at e ⊢;rw[r.length];cases hn:ixN ds.length i with
 |none=>rw[hn]at e;cases e
 |some j=>
  rw[hn]at e;exact r.get e
theorem Gy:Rb X (rG X.K Ji):=by
 rintro value slice pr s σ H x y v u Q I rx ry ⟨G,fp,es,vs,a,b,r,⟨rel,k⟩,va,vb,e⟩ hs;unfold Ji at e;split at e
 .rename_i ds i;split at e
  .rename_i d hd;cases e;obtain⟨p,xs,ev,sq,rs⟩:=va;subst ev;cases bz vb;obtain⟨w',hw,M0⟩:=rN rs hd;exact As value slice pr s σ H _ _ v u Q I rx ry ⟨p,xs,i,w',rfl,rfl,sq,hw,k _ H G fp .refl (rel.push M0)⟩ hs
  .cases e
 .rename_i ds i;split at e
  .rename_i d hd;cases e;obtain⟨p,xs,ev,sq,rs⟩:=hU va;subst ev;cases bz vb;obtain⟨w',hw,M0⟩:=rN rs hd;exact zf value slice pr s σ H _ _ v u Q I rx ry ⟨p,xs,i,w',rfl,rfl,bW rel.gh sq,hw,k _ H G fp .refl (rel.push M0)⟩ hs
  .cases e
 .rename_i l i;split at e
  .rename_i c hc;cases e;obtain⟨ev,hl⟩:=fW va;subst ev;cases bz vb;refine Dp value slice pr s σ H _ _ v u Q I rx ry ⟨_,i,c,rfl,rfl,by rw[lN];exact hl,by rw[dy];exact hc,?_⟩ hs;exact k _ H G fp .refl (rel.push (iw (l:=[c]) (by rw[line_eq];simp)))
  .cases e
 .cases e
variable{a b:Expr}{fa fb:FO}
theorem aQ(ha:QO X a fa)(hb:QO X b fb)(hs:uT b:=by exact fun _ _=>rfl):QE X (.Subscript a b pos) (aB Ji fa fb):=bx (Dn Gy ha hb hs) fun _ _ _=>rF
abbrev FP:=PV.Env->Res (Option Int×PV.Env)
inductive tQP(K:W.Frag)(f:FP)(σ:L2.St)(H:Hp)(Q:Option Int->Hp->Prop):Prop
 |mk:∀G env fp i env',Rel K G H env σ fp->f env=.ok (i,env')->(∀H' G' Jf,Step G H fp G' H' Jf->Rel K G' H' env' σ Jf->Q i H')->tQP K f σ H Q
def QP(X:Cx)(e:Option Expr)(f:FP):Prop:=PO X e (tQP X.K f)
def mX:FP:=fun env=>.ok (none,env)
def iX(f:FX):FP:=fun env=>(f env).bind fun p=>match p.1.2 with
 | .int i=>.ok (some i,p.2)
 |_=>.bad
theorem zx{X:Cx}{e:Option Expr}{t t':TO}(h:PO X e t)(k:∀σ H Q,t' σ H Q->t σ H Q):PO X e t':=fun pr s σ H Q I w=>h pr s σ H Q I (k σ H Q w)
theorem iA:QP X none mX:=zx Ap fun σ H Q Jo=>by
 obtain⟨G,env,fp,i,env',rel,e,k⟩:=Jo;cases e;exact k H G fp .refl rel
theorem dO{e:Expr}{f:FX}(h:QE X e f):QP X (some e) (iX f):=zx (Aq h) fun σ H Q Jo=>by
 obtain⟨G,env,fp,i,env',rel,e,k⟩:=Jo;obtain⟨⟨⟨o,d⟩,Jb⟩,e1,e⟩:=au e;dsimp only at e;split at e
 .rename_i j;cases e;refine⟨G,env,fp,_,_,rel,e1,fun v H1 G1 Ju Jp Jc=>?_⟩;have hv:=Jc.top;obtain⟨b,Jd,Jj⟩:=Jc.drop;exact⟨j,bJ hv,k H1 G1 b (Jp.trans Jj) Jd⟩
 .cases e
def cutD{α:Type}(xs:List α)(lo hi:Option Int):List α:=(xs.drop (HT.sIx xs.length 0 lo)).take (HT.sIx xs.length xs.length hi-HT.sIx xs.length 0 lo)
noncomputable def Rw(k:D)(lo hi:Option Int):Res R:=match k with
 | .lst ds=>.ok (.l .f,.lst (cutD ds lo hi))
 | .tup ds=>if ¬ (HT.sIx ds.length 0 lo=0/\HT.sIx ds.length ds.length hi=ds.length) then .ok (.f,.tup (cutD ds lo hi)) else .bad
 | .str l=>.ok (.f,.str (cutD l lo hi))
 |_=>.bad
def eSl(fa:FO)(lo hi:FP):FX:=fun env=>(fa env).bind fun p=>(lo p.2).bind fun q=>(hi q.2).bind fun t=>(Kf t.2 p.1).bind fun d=>(Rw d q.1 t.1).bind fun r=>.ok (r,t.2)
theorem rO{K:W.Frag}{G:Hp}{ds:List D}{xs:List V}{lo hi:Option Int}(r:Reps K G ds xs):Reps K G (cutD ds lo hi) (ze xs lo hi):=by
 unfold cutD ze;rw[r.length];exact(r.drop _).take _
theorem Bf{α:Type}(xs:List α)(lo hi:Option Int):(cutD xs lo hi).length<=xs.length:=by
 unfold cutD;rw[Vt,Wa];lia
inductive rSl(K:W.Frag)(x:V)(lo:Option Int)(hi:Option Int)(H:Hp)(Q:VK):Prop
 |mk:∀G fp es vs d r,Goes K H G fp es vs r Q->Vw K G H d x->Rw d lo hi=.ok r->rSl K x lo hi H Q
theorem DO:Pt X (rSl X.K):=by
 rintro pr s σ H x v vl vu lo hi sl Q I rx hs pl pu ⟨G,fp,es,vs,d,r,⟨rel,k⟩,vd,e⟩;unfold Rw at e;split at e
 .rename_i ds;cases e;obtain⟨p,xs,ev,sq,rs⟩:=vd;subst ev;refine Au pr s σ H _ v vl vu lo hi sl Q I rx hs pl pu ⟨p,xs,rfl,sq,fun q hq=>?_⟩;obtain⟨Jd,Jj⟩:=rel.newL hq (rO (lo:=lo) (hi:=hi) rs);exact k _ _ G _ Jj Jd
 .rename_i ds;split at e
  .rename_i hw;cases e;obtain⟨p,xs,ev,sq,rs⟩:=hU vd;subst ev;refine Dm pr s σ H _ v vl vu lo hi sl Q I rx hs pl pu ⟨p,xs,rfl,bW rel.gh sq,by rw[rs.length];exact hw,fun q hq=>?_⟩;obtain⟨G2,Jd,Jj⟩:=mW rel hq (rO (lo:=lo) (hi:=hi) rs);exact k _ _ G2 _ Jj Jd
  .cases e
 .rename_i l;cases e;obtain⟨ev,hl⟩:=fW vd;subst ev;exact Dv pr s σ H _ v vl vu lo hi sl Q I rx hs pl pu ⟨l,rfl,hl,k _ H G fp .refl (rel.push (iw (l:=Du l lo hi) (Vx (Bf l lo hi) hl)))⟩
 .cases e
def qe(env:PV.Env)(i:Nat):Bool:=match env[i]? with
 |some (some (_,.lst _))=>true
 |_=>false
theorem rP{K:W.Frag}{G H:Hp}{es:PV.Env}{σ:L2.St}{fp:List Yx}{i:Nat}(rel:Rel K G H es σ fp)(h:qe es i=true):∃v,σ[i]?=some (some v)/\Sr K "list" v H:=by
 unfold qe at h;split at h
 .rename_i o ds hr;obtain⟨v,ev,rv⟩:=rel.view hr;obtain⟨p,xs,e,sq,_⟩:=bK rv;subst e;exact⟨_,ev,.inl ⟨rfl,xs,sq⟩⟩
 .cases h
def vF(i:Nat)(f:FX):FX:=fun env=>if qe env i then(f env).bind fun p=>match p.2[i]? with
 |some (some (.l .f,.lst ds))=>if ds.length<sizeLine then .ok ((.f,.non),p.2.set i (some (.l .f,.lst (ds++[p.1.2])))) else .bad
 |_=>.bad
 else .bad
theorem dF{i:Nat}{o e:Expr}{f:FX}{apos Jr:Pos}(ho:PE X o (tf i))(he:QE X e f)
  (JQ:attributeBase o "append" X.env (eval o X.env)=eval o X.env:=by rfl)
  (KW:((backTo Jr (starEach [e] X.env)).all (fun x=>!x.1)&&(backToKw Jr (keywordEach [] X.env)).all (fun x=>x.1.isSome)&&decide ([e].length+([]:List Keyword).length+(if([]:List Keyword).isEmpty then 0 else 1)<30))=true:=by rfl)
  (JR:(apos.endLine==Jr.line)=true:=by rfl) (hs:starEach [e] X.env=(false,eval e X.env)::starEach [] X.env:=by rfl) (JM:(backTo Jr (starEach [] X.env)).any (·.1)=false:=by rfl):
  QE X (.Call (.Attribute o "append" apos) [e] [] Jr) (vF i f):=by
 refine bx (xP WS PySem.F.slot_list_append PySem.F.type_list_append ox ho (av he aN hs) JQ KW JR hs JM) fun σ H Q Jx=>?_
 obtain⟨G,env,fp,r,env',rel,e,k⟩:=Jx;unfold vF at e;split at e
 .rename_i Ml;obtain⟨v,ev,ty⟩:=rP rel Ml;obtain⟨⟨r1,Jb⟩,e1,e⟩:=au e;dsimp only at e;split at e
  .rename_i ds Np;split at e
   .rename_i hl;cases e;refine⟨v,ev,ty,G,env,fp,[r1.2],Jb,rel,by show(f env).bind _=_;rw[e1];rfl,fun vs H1 G1 Ju Jp Jc rs=>?_⟩;rw[Reps]at rs;obtain⟨y,ys,Tt,ry,rn⟩:=rs;rw[Reps]at rn;subst rn;obtain⟨p,xs,ep,hp,N5,cg⟩:=Jc.chg (ds':=ds++[r1.2]) Np;rw[ev]at ep;cases ep;obtain⟨fq,Jd,Jj⟩:=cg (xs++[y]) (N5.app (.one ry));exact⟨p,xs,y,rfl,Tt,hp,by rw[N5.length];exact hl,k _ _ G1 fq (Jp.trans Jj) (Jd.push mU)⟩
   .cases e
  .cases e
 .cases e
def Gz:List D->Res R
 |[.lst ds]=>.ok (.f,.int ds.length)
 |[.tup ds]=>.ok (.f,.int ds.length)
 |[.str l]=>.ok (.f,.int l.length)
 |_=>.bad
theorem nS{K:W.Frag}{G H:Hp}{d:D}{xs:List V}(h:Pg K G H [d] xs):∃v,xs=[v]/\Vw K G H d v:=by
 obtain⟨y,ys,e,v1,e2⟩:=h;have e2:ys=[]:=e2;subst e2;exact⟨y,e,v1⟩
theorem Iy{K:W.Frag}{G H:Hp}{d d':D}{xs:List V}(h:Pg K G H [d,d'] xs):∃v w,xs=[v,w]/\Vw K G H d v/\Vw K G H d' w:=by
 obtain⟨y,ys,e,v1,h2⟩:=h;obtain⟨z,e2,v2⟩:=nS h2;subst e2;exact⟨y,z,e,v1,v2⟩
theorem DP:dS X (.builtin "len") (rC X.K Gz):=by
 rintro pr s σ H xs us Q I rx ⟨G,fp,es,vs,ds,r,⟨rel,k⟩,vd,e⟩;unfold Gz at e;split at e
 .rename_i ds;cases e;obtain⟨v,ev,p,ys,ep,sq,rs⟩:=nS vd;subst ev;subst ep;refine jL pr s σ H _ us Q I rx ⟨p,ys,rfl,.inl sq,?_⟩;rw[rs.length];exact k _ H G fp .refl (rel.push (bO _))
 .rename_i ds;cases e;obtain⟨v,ev,vt⟩:=nS vd;obtain⟨p,ys,ep,sq,rs⟩:=hU vt;subst ev;subst ep;refine jL pr s σ H _ us Q I rx ⟨p,ys,rfl,.inr (bW rel.gh sq),?_⟩;rw[rs.length];exact k _ H G fp .refl (rel.push (bO _))
 .rename_i l;cases e;obtain⟨v,ev,vt⟩:=nS vd;obtain⟨ep,hl⟩:=fW vt;subst ev;subst ep;refine ot pr s σ H _ us Q I rx ⟨S l,rfl,by rw[lN];exact hl,?_⟩;rw[lN];exact k _ H G fp .refl (rel.push (bO _))
 .cases e
def mY:List D->Res R
 |[.lst ds]=>.ok (.l .f,.lst ds)
 |[.tup ds]=>.ok (.l .f,.lst ds)
 |_=>.bad
theorem jy:dS X (.type "list") (rC X.K mY):=by
 rintro pr s σ H xs us Q I rx ⟨G,fp,es,vs,ds,r,⟨rel,k⟩,vd,e⟩;unfold mY at e;split at e
 .rename_i ds;cases e;obtain⟨v,ev,p,ys,ep,sq,rs⟩:=nS vd;subst ev;subst ep;refine jM pr s σ H _ us Q I rx ⟨p,ys,rfl,.inl sq,fun q hq=>?_⟩;obtain⟨Jd,Jj⟩:=rel.newL hq rs;exact k _ _ G _ Jj Jd
 .rename_i ds;cases e;obtain⟨v,ev,vt⟩:=nS vd;obtain⟨p,ys,ep,sq,rs⟩:=hU vt;subst ev;subst ep;refine jM pr s σ H _ us Q I rx ⟨p,ys,rfl,.inr (bW rel.gh sq),fun q hq=>?_⟩;obtain⟨Jd,Jj⟩:=rel.newL hq rs;exact k _ _ G _ Jj Jd
 .cases e
def cT:List D->Res R
 |[.lst ds]=>.ok (.f,.tup ds)
 |[.tup ds]=>.ok (.f,.tup ds)
 |_=>.bad
theorem cH:dS X (.type "tuple") (rC X.K cT):=by
 rintro pr s σ H xs us Q I rx ⟨G,fp,es,vs,ds,r,⟨rel,k⟩,vd,e⟩;unfold cT at e;split at e
 .rename_i ds;cases e;obtain⟨v,ev,p,ys,ep,sq,rs⟩:=nS vd;subst ev;subst ep;refine iQ pr s σ H _ us Q I rx ⟨p,ys,rfl,.inl ⟨sq,fun q hq=>?_⟩⟩;obtain⟨G2,Jd,Jj⟩:=mW rel hq rs;exact k _ _ G2 _ Jj Jd
 .rename_i ds;cases e;obtain⟨v,ev,vt⟩:=nS vd;obtain⟨p,ys,ep,sq,rs⟩:=hU vt;subst ev;subst ep;exact iQ pr s σ H _ us Q I rx ⟨p,ys,rfl,.inr ⟨bW rel.gh sq,k _ H G fp .refl (rel.push vt)⟩⟩
 .cases e
def oM:List D->Option (List Bool)
 |[]=>some []
 | .bl b::ds=>(oM ds).map (b:: ·)
 |_=>none
def dQ:List D->Option (List Int)
 |[]=>some []
 | .int b::ds=>(dQ ds).map (b:: ·)
 |_=>none
theorem l6{K:W.Frag}{G:Hp}:∀{ds:List D}{bs:List Bool}{xs:List V},oM ds=some bs->Reps K G ds xs->xs=bs.map V.bl
 |[],_,_,e,r=>by
  cases e;rw[Reps]at r;exact r
 | .bl b::ds,_,_,e,r=>by
  rw[oM,VA]at e;obtain⟨bs,e1,e2⟩:=e;subst e2;rw[Reps]at r;obtain⟨y,ys,e3,r1,r2⟩:=r;rw[e3,cY r1,l6 e1 r2];rfl
 | .non::_,_,_,e,_ | .int _::_,_,_,e,_ | .str _::_,_,_,e,_ | .tup _::_,_,_,e,_ | .lst _::_,_,_,e,_ | .dct _ _ _::_,_,_,e,_=>by simp[oM]at e
theorem iC{K:W.Frag}{G:Hp}:∀{ds:List D}{bs:List Int}{xs:List V},dQ ds=some bs->Reps K G ds xs->xs=bs.map V.int
 |[],_,_,e,r=>by
  cases e;rw[Reps]at r;exact r
 | .int b::ds,_,_,e,r=>by
  rw[dQ,VA]at e;obtain⟨bs,e1,e2⟩:=e;subst e2;rw[Reps]at r;obtain⟨y,ys,e3,r1,r2⟩:=r;rw[e3,bJ r1,iC e1 r2];rfl
 | .non::_,_,_,e,_ | .bl _::_,_,_,e,_ | .str _::_,_,_,e,_ | .tup _::_,_,_,e,_ | .lst _::_,_,_,e,_ | .dct _ _ _::_,_,_,e,_=>by simp[dQ]at e
theorem tX(ns:List Int):dQ (ns.map D.int)=some ns:=by
 induction ns with
 |nil=>rfl
 |cons n ns ih=>rw[Vf,dQ,ih];rfl
theorem vH(ns:List Bool):oM (ns.map D.bl)=some ns:=by
 induction ns with
 |nil=>rfl
 |cons n ns ih=>rw[Vf,oM,ih];rfl
def oN:D->Option (List D)
 | .lst ds=>some ds
 | .tup ds=>some ds
 |_=>none
theorem vI{K:W.Frag}{G H:Hp}{d:D}{ds:List D}{v:V}(gh:Same G H)(e:oN d=some ds)(h:Vw K G H d v):∃p xs,v=.ref p/\(SqL K H p xs\/SqT K H p xs)/\Reps K G ds xs:=by
 cases d with
 |lst es=>
  cases e;obtain⟨p,xs,ev,sq,rs⟩:=h;exact⟨p,xs,ev,.inl sq,rs⟩
 |tup es=>
  cases e;obtain⟨p,xs,ev,sq,rs⟩:=bF h;exact⟨p,xs,ev,.inr (bW gh sq),rs⟩
 |_=>cases e
def DQ:List D->Res R
 |[d]=>match(oN d).bind oM with
  |some bs=>.ok (.f,.bl (bs.all id))
  |none=>.bad
 |_=>.bad
theorem yg(bs:List Bool):(bs.map V.bl).all Gh=true:=by
 rw[Wm,Vy];intro b _;rfl
theorem Bg(bs:List Bool):(bs.map V.bl).all Dy=bs.all id:=by
 rw[Wm];rfl
theorem DR(hc:X.calm=true):dS X (.builtin "all") (rC X.K DQ):=by
 rintro pr s σ H xs us Q I rx ⟨G,fp,es,vs,ds,r,⟨rel,k⟩,vd,e⟩;unfold DQ at e;split at e
 .rename_i d;split at e
  .rename_i bs hb;cases e;obtain⟨l,hl,hb⟩:=VB.mp hb;obtain⟨v,ev,vt⟩:=nS vd;obtain⟨p,ys,ep,sq,rs⟩:=vI rel.gh hl vt;have:=l6 hb rs;subst this;subst ev;subst ep;refine xW hc pr s σ H _ us Q I rx ⟨p,_,rfl,sq,yg bs,?_⟩;rw[Bg];exact k _ H G fp .refl (rel.push (cz _))
  .cases e
 .cases e
def maxD:List D->Res R
 |[d]=>match(oN d).bind dQ with
  |some (n::ns)=>.ok (.f,.int (tI (n::ns)))
  |_=>.bad
 |[.int i,.int j]=>.ok (.f,.int (if i<j then j else i))
 |_=>.bad
theorem oO{K:W.Frag}{G H:Hp}{d:D}{ns:List Int}{v:V}(gh:Same G H)(hb:(oN d).bind dQ=some ns)(vt:Vw K G H d v):∃p,v=.ref p/\(SqL K H p (ns.map V.int)\/SqT K H p (ns.map V.int)):=by
 obtain⟨l,hl,hb⟩:=VB.mp hb;obtain⟨p,ys,ep,sq,rs⟩:=vI gh hl vt;have:=iC hb rs;subst this;exact⟨p,ep,sq⟩
end
mutual
noncomputable def Jg:D->D->Bool
 | .non,.non=>true
 | .bl a,.bl b=>a==b
 | .bl a,.int j=>(if a then 1 else 0)==j
 | .int i,.bl b=>i==(if b then 1 else 0)
 | .int i,.int j=>i==j
 | .str a,.str b=>a==b
 | .tup a,.tup b=>iY a b
 | .lst a,.lst b=>iY a b
 |_,_=>false
noncomputable def iY:List D->List D->Bool
 |[],[]=>true
 |a::as,b::bs=>Jg a b&&iY as bs
 |_,_=>false
end
mutual
noncomputable def plainD:Nat->D->Bool
 |n+1,.tup ds=>plainDs n ds
 |n+1,.lst ds=>plainDs n ds
 | 0,.tup _=>false
 | 0,.lst _=>false
 |_,.dct _ _ _=>false
 |_,_=>true
noncomputable def plainDs:Nat->List D->Bool
 |_,[]=>true
 |n,d::ds=>plainD n d&&plainDs n ds
end
theorem plainDs_mem:∀{n:Nat}{ds:List D},plainDs n ds=true->∀{i:Nat}{d:D},ds[i]?=some d->plainD n d=true
 |_,[],_,_,_,e=>by simp at e
 |n,a::ds,h,0,d,e=>by
  rw[plainDs,Va]at h;simp at e;rw[<-e];exact h.1
 |n,a::ds,h,i+1,d,e=>by
  rw[plainDs,Va]at h;exact plainDs_mem h.2 (i:=i) (by simpa using e)
theorem iZ:∀{a b:List D},a.length≠b.length->iY a b=false
 |[],[],h=>absurd rfl h
 |[],_::_,_=>by simp only[iY]
 |_::_,[],_=>by simp only[iY]
 |x::xs,y::ys,h=>by
  rw[iY,iZ (fun e=>h (by simp[e])),X7]
theorem ft:∀{a b:List D},a.length=b.length->(List.range a.length).all (fun j=>Jg (a.getD j .non) (b.getD j .non))=iY a b
 |[],[],_=>rfl
 |[],_::_,h=>by simp at h
 |_::_,[],h=>by simp at h
 |x::xs,y::ys,h=>by
  rw[iY,<-ft (a:=xs) (b:=ys) (by simpa using h),Vc,Xu,WR,Wm];rfl
section
variable{X:Cx}{pr:List (Yx×Obj)}{σ:L2.St}{H:Hp}{s:Yw}
theorem kN(I:Inv X pr σ H s){p:Yx}{xs ys:List V}(h:SqL X.K H p xs)(h':SqT X.K H p ys):False:=by
 obtain⟨us,_,p1,_⟩:=I.list h;obtain⟨ws,_,p2,_⟩:=I.tuple h';exact SeqAt.ne_of_list_tuple p1.isList (show s.heap.IsTuple p ws.toArray from p2) rfl
mutual
theorem kO(I:Inv X pr σ H s):∀(d e:D) (x:V) (n:Nat),plainD n d=true->Rep X.K H d x->Rep X.K H e x->d=e
 | .non,e,x,n,_,r,q=>by
  cases cx r;cases e with
  |non=>rfl
  |bl b=>cases cY q
  |int i=>cases bJ q
  |str l=>cases(bE q).1
  |tup l=>obtain⟨p,xs,ev,_⟩:=bF q;cases ev
  |lst l=>obtain⟨p,xs,ev,_⟩:=bK q;cases ev
  |dct tk ks vs=>rw[Rep]at q;obtain⟨p,xs,o,ev,_⟩:=q;cases ev
 | .bl b,e,x,n,_,r,q=>by
  cases cY r;cases e with
  |non=>cases cx q
  |bl b=>cases cY q;rfl
  |int i=>cases bJ q
  |str l=>cases(bE q).1
  |tup l=>obtain⟨p,xs,ev,_⟩:=bF q;cases ev
  |lst l=>obtain⟨p,xs,ev,_⟩:=bK q;cases ev
  |dct tk ks vs=>rw[Rep]at q;obtain⟨p,xs,o,ev,_⟩:=q;cases ev
 | .int i,e,x,n,_,r,q=>by
  cases bJ r;cases e with
  |non=>cases cx q
  |bl b=>cases cY q
  |int i=>cases bJ q;rfl
  |str l=>cases(bE q).1
  |tup l=>obtain⟨p,xs,ev,_⟩:=bF q;cases ev
  |lst l=>obtain⟨p,xs,ev,_⟩:=bK q;cases ev
  |dct tk ks vs=>rw[Rep]at q;obtain⟨p,xs,o,ev,_⟩:=q;cases ev
 | .str l,e,x,n,_,r,q=>by
  have hr:=(bE r).1;subst hr;cases e with
  |non=>cases cx q
  |bl b=>cases cY q
  |int i=>cases bJ q
  |str l'=>
   have hq:=(bE q).1;injection hq with hq;rw[S_inj hq]
  |tup l=>obtain⟨p,xs,ev,_⟩:=bF q;cases ev
  |lst l=>obtain⟨p,xs,ev,_⟩:=bK q;cases ev
  |dct tk ks vs=>rw[Rep]at q;obtain⟨p,xs,o,ev,_⟩:=q;cases ev
 | .tup l,e,x,n,h,r,q=>by
  obtain⟨p,xs,ev,sq,rs⟩:=bF r;subst ev;cases e with
  |non=>cases cx q
  |bl b=>cases cY q
  |int i=>cases bJ q
  |str l=>cases(bE q).1
  |tup l'=>
   obtain⟨p',Kl,K0,Kp,Lb⟩:=bF q;cases K0;have:=I.tuple_inj sq Kp;subst this;cases n with
   |zero=>simp only[plainD]at h;cases h
   |succ n=>
    simp only[plainD]at h;rw[m5 I l l' xs n h rs Lb]
  |lst l'=>
   obtain⟨p',Kl,K0,Kp,Lb⟩:=bK q;cases K0;exact(kN I Kp sq).elim
  |dct tk ks vs=>
   exfalso;rw[Rep]at q;obtain⟨p',Kl,o,K0,rd,dd,_⟩:=q;cases K0;obtain⟨Je,_,ip,_⟩:=I.tuple sq;obtain⟨ob,ho,hc,_⟩:=ip;have Rx:=rd.ok I.hok;cases tk with
   |true=>
    obtain⟨kvs,eo,_⟩:=dd;subst eo;obtain⟨_,_,_,_,o2,_,_,Ks,ex,_⟩:=Rx;rw[ho]at Ks;cases Ks;rw[ex.1]at hc;exact absurd hc (by decide)
   |false=>
    obtain⟨kvs,eo,_⟩:=dd;subst eo;obtain⟨_,_,_,_,o2,_,_,Ks,ex,_⟩:=Rx;rw[ho]at Ks;cases Ks;rw[ex.1]at hc;exact absurd hc (by decide)
 | .lst l,e,x,n,h,r,q=>by
  obtain⟨p,xs,ev,sq,rs⟩:=bK r;subst ev;cases e with
  |non=>cases cx q
  |bl b=>cases cY q
  |int i=>cases bJ q
  |str l=>cases(bE q).1
  |tup l'=>
   obtain⟨p',Kl,K0,Kp,Lb⟩:=bF q;cases K0;exact(kN I sq Kp).elim
  |lst l'=>
   obtain⟨p',Kl,K0,Kp,Lb⟩:=bK q;cases K0;have:=I.list_inj sq Kp;subst this;cases n with
   |zero=>simp only[plainD]at h;cases h
   |succ n=>
    simp only[plainD]at h;rw[m5 I l l' xs n h rs Lb]
  |dct tk ks vs=>
   exfalso;rw[Rep]at q;obtain⟨p',Kl,o,K0,rd,dd,_⟩:=q;cases K0;obtain⟨Je,_,ip,_⟩:=I.list sq;obtain⟨ob,_,ho,hc,_⟩:=ip;have Rx:=rd.ok I.hok;cases tk with
   |true=>
    obtain⟨kvs,eo,_⟩:=dd;subst eo;obtain⟨_,_,_,_,o2,_,_,Ks,ex,_⟩:=Rx;rw[ho]at Ks;cases Ks;rw[ex.1]at hc;exact absurd hc (by decide)
   |false=>
    obtain⟨kvs,eo,_⟩:=dd;subst eo;obtain⟨_,_,_,_,o2,_,_,Ks,ex,_⟩:=Rx;rw[ho]at Ks;cases Ks;rw[ex.1]at hc;exact absurd hc (by decide)
 | .dct _ _ _,_,_,n,h,_,_=>by cases n <;> (simp only[plainD]at h;cases h)
theorem m5(I:Inv X pr σ H s):∀(ds es:List D) (xs:List V) (n:Nat),plainDs n ds=true->Reps X.K H ds xs->Reps X.K H es xs->ds=es
 |[],es,xs,n,_,r,q=>by
  rw[Reps]at r;subst r;cases es with
  |nil=>rfl
  |cons e es=>
   rw[Reps]at q;obtain⟨y,ys,ev,_⟩:=q;cases ev
 |d::ds,es,xs,n,h,r,q=>by
  rw[Reps]at r;obtain⟨y,ys,ev,r1,r2⟩:=r;subst ev;rw[plainDs,Va]at h;cases es with
  |nil=>
   rw[Reps]at q;cases q
  |cons e es=>
   rw[Reps]at q;obtain⟨y',ys',ev,q1,q2⟩:=q;cases ev;rw[kO I d e y n h.1 r1 q1,m5 I ds es ys n h.2 r2 q2]
end
mutual
theorem i4:∀(d:D) (n:Nat),plainD n d=true->Jg d d=true
 | .non,_,_=>by simp only[Jg]
 | .bl _,_,_=>by simp only[Jg,Wg]
 | .int _,_,_=>by simp only[Jg,Wg]
 | .str _,_,_=>by simp only[Jg,Wg]
 | .tup ds,0,h=>by simp only[plainD]at h;cases h
 | .tup ds,n+1,h=>by simp only[plainD]at h;simp only[Jg];exact kP ds n h
 | .lst ds,0,h=>by simp only[plainD]at h;cases h
 | .lst ds,n+1,h=>by simp only[plainD]at h;simp only[Jg];exact kP ds n h
 | .dct _ _ _,n,h=>by cases n <;> (simp only[plainD]at h;cases h)
theorem kP:∀(ds:List D) (n:Nat),plainDs n ds=true->iY ds ds=true
 |[],_,_=>by simp only[iY]
 |d::ds,n,h=>by
  rw[plainDs,Va]at h;rw[iY,i4 d n h.1,kP ds n h.2];rfl
end
open PySem.SeqAt
theorem bR{n:Nat}{tk:Bool}{ks vs:List D}(h:plainD n (.dct tk ks vs)=true):False:=by cases n <;> (simp only[plainD]at h;cases h)
mutual
theorem Bh(I:Inv X pr σ H s):∀(d e:D) (x y:V) (v u:Yu) (A:Yz) (n:Nat),plainD n d=true->plainD n e=true->A.units+n<cLine->Rep X.K H d x->Rep X.K H e y->RelV x v->RelV y u->EqAt A s v u (Jg d e)
 | .non,e,x,y,v,u,A,n,h,h',hu,r,q,rx,ry=>by
  cases cx r;cases rx;cases e with
  |non=>cases cx q;cases ry;simp only[Jg];exact .same _
  |bl b=>cases cY q;cases ry;simp only[Jg];exact .none_bool _
  |int i=>cases bJ q;obtain⟨t,rfl⟩:=ry;simp only[Jg];exact .none_int _ _
  |str l=>cases(bE q).1;obtain⟨t,rfl⟩:=ry;simp only[Jg];exact .none_str _ _
  |tup l=>obtain⟨p,xs,rfl,sq,_⟩:=bF q;cases ry;obtain⟨Je,_,ip,_⟩:=I.tuple sq;simp only[Jg];exact .none_tuple (show s.heap.IsTuple p Je.toArray from ip) (by lia)
  |lst l=>obtain⟨p,xs,rfl,sq,_⟩:=bK q;cases ry;obtain⟨Je,_,ip,_⟩:=I.list sq;simp only[Jg];exact .none_list ip.isList (by lia)
  |dct tk ks vs=>exact(bR h').elim
 | .bl b,e,x,y,v,u,A,n,h,h',hu,r,q,rx,ry=>by
  cases cY r;cases rx;cases e with
  |non=>cases cx q;cases ry;simp only[Jg];exact .bool_none _
  |bl b=>cases cY q;cases ry;simp only[Jg];exact .bool_bool _ _
  |int i=>cases bJ q;obtain⟨t,rfl⟩:=ry;simp only[Jg];exact .bool_int _ _ _
  |str l=>cases(bE q).1;obtain⟨t,rfl⟩:=ry;simp only[Jg];exact .bool_str _ _ _
  |tup l=>obtain⟨p,xs,rfl,sq,_⟩:=bF q;cases ry;obtain⟨Je,_,ip,_⟩:=I.tuple sq;simp only[Jg];exact .bool_tuple _ (show s.heap.IsTuple p Je.toArray from ip) (by lia)
  |lst l=>obtain⟨p,xs,rfl,sq,_⟩:=bK q;cases ry;obtain⟨Je,_,ip,_⟩:=I.list sq;simp only[Jg];exact .bool_list _ ip.isList (by lia)
  |dct tk ks vs=>exact(bR h').elim
 | .int b,e,x,y,v,u,A,n,h,h',hu,r,q,rx,ry=>by
  cases bJ r;obtain⟨t0,rfl⟩:=rx;cases e with
  |non=>cases cx q;cases ry;simp only[Jg];exact .int_none _ _
  |bl b=>cases cY q;cases ry;simp only[Jg];exact .int_bool _ _ _
  |int i=>cases bJ q;obtain⟨t,rfl⟩:=ry;simp only[Jg];exact .int_int _ _ _ _
  |str l=>cases(bE q).1;obtain⟨t,rfl⟩:=ry;simp only[Jg];exact .int_str _ _ _ _
  |tup l=>obtain⟨p,xs,rfl,sq,_⟩:=bF q;cases ry;obtain⟨Je,_,ip,_⟩:=I.tuple sq;simp only[Jg];exact .int_tuple _ _ (show s.heap.IsTuple p Je.toArray from ip) (by lia)
  |lst l=>obtain⟨p,xs,rfl,sq,_⟩:=bK q;cases ry;obtain⟨Je,_,ip,_⟩:=I.list sq;simp only[Jg];exact .int_list _ _ ip.isList (by lia)
  |dct tk ks vs=>exact(bR h').elim
 | .str b,e,x,y,v,u,A,n,h,h',hu,r,q,rx,ry=>by
  have hr:=(bE r).1;subst hr;obtain⟨t0,rfl⟩:=rx;cases e with
  |non=>cases cx q;cases ry;simp only[Jg];exact .str_none _ _
  |bl b=>cases cY q;cases ry;simp only[Jg];exact .str_bool _ _ _
  |int i=>cases bJ q;obtain⟨t,rfl⟩:=ry;simp only[Jg];exact .str_int _ _ _ _
  |str l=>
   have hq:=(bE q).1;subst hq;obtain⟨t,rfl⟩:=ry;have e1:(b==l)=(S b==S l):=by
    rw[Vp,VL,VL];exact⟨fun z=>by rw[z],S_inj⟩
   simp only[Jg,e1];exact .str_str _ _ _ _
  |tup l=>obtain⟨p,xs,rfl,sq,_⟩:=bF q;cases ry;obtain⟨Je,_,ip,_⟩:=I.tuple sq;simp only[Jg];exact .str_tuple _ _ (show s.heap.IsTuple p Je.toArray from ip) (by lia)
  |lst l=>obtain⟨p,xs,rfl,sq,_⟩:=bK q;cases ry;obtain⟨Je,_,ip,_⟩:=I.list sq;simp only[Jg];exact .str_list _ _ ip.isList (by lia)
  |dct tk ks vs=>exact(bR h').elim
 | .tup l,e,x,y,v,u,A,n,h,h',hu,r,q,rx,ry=>by
  have rr:=r;obtain⟨p,xs,ev,sq,rs⟩:=bF r;subst ev;cases rx;obtain⟨Je,vl,ip,_⟩:=I.tuple sq;have ip:s.heap.IsTuple p Je.toArray:=ip;cases e with
  |non=>cases cx q;cases ry;simp only[Jg];exact .tuple_none ip (by lia)
  |bl b=>cases cY q;cases ry;simp only[Jg];exact .tuple_bool _ ip (by lia)
  |int i=>cases bJ q;obtain⟨t,rfl⟩:=ry;simp only[Jg];exact .tuple_int _ _ ip (by lia)
  |str l=>cases(bE q).1;obtain⟨t,rfl⟩:=ry;simp only[Jg];exact .tuple_str _ _ ip (by lia)
  |tup l'=>
   obtain⟨p',Kl,K0,Kp,Lb⟩:=bF q;subst K0;cases ry;by_cases hp:p=p'
   .subst hp;have hz:=kO I _ _ _ n h rr q;rw[<-hz,i4 _ n h];exact .same _
   .obtain⟨its',NA,KI,_⟩:=I.tuple Kp;have KI:s.heap.IsTuple p' its'.toArray:=KI;cases n with
    |zero=>simp only[plainD]at h;cases h
    |succ n=>
     simp only[plainD]at h h';have l1:=vl.length;have l2:=NA.length;have l3:=rs.length;have l4:=Lb.length;have key:=RcAt.tuples (A:=A) (e:=fun j=>Jg (l.getD j .non) (l'.getD j .non)) ip KI (by lia) fun j h1 h2=>by
      simp only[U0]at h1 h2;have g1:l[j]?=some (l[j]'(by lia)):=List.getElem?_eq_getElem _;have g2:l'[j]?=some (l'[j]'(by lia)):=List.getElem?_eq_getElem _;obtain⟨w1,Ms,Mt⟩:=rs.get g1;obtain⟨w2,NB,NC⟩:=Lb.get g2;obtain⟨u1,Lj,Mu⟩:=vl.get Ms;obtain⟨u2,L8,ND⟩:=NA.get NB;have q1:Je.toArray[j]=u1:=by rw[List.getElem?_eq_getElem h1]at Lj;simpa using Lj
      have q2:its'.toArray[j]=u2:=by rw[List.getElem?_eq_getElem h2]at L8;simpa using L8
      rw[q1,q2,List.getD_eq_getElem?_getD,List.getD_eq_getElem?_getD,g1,g2];exact oP I l j _ g1 _ w1 w2 u1 u2 A.in1 n (plainDs_mem h g1) (plainDs_mem h' g2) (by show A.units+1+n<cLine;lia) Mt NC Mu ND
     simp only[Jg];have fin:((List.range (min Je.toArray.size its'.toArray.size)).all (fun j=>Jg (l.getD j .non) (l'.getD j .non))&&Je.toArray.size==its'.toArray.size)=iY l l':=by
      simp only[U0];by_cases hl:l.length=l'.length
      .rw[<-ft hl,show min Je.length its'.length=l.length by lia,show(Je.length==its'.length)=true by rw[VL];lia,WD]
      .rw[iZ hl,show(Je.length==its'.length)=false by rw[V2];lia,X7]
     rw[<-fin];exact .of_refs hp key
  |lst l'=>obtain⟨p',Kl,K0,Kp,_⟩:=bK q;subst K0;cases ry;obtain⟨its',_,KI,_⟩:=I.list Kp;simp only[Jg];exact .tuple_list ip KI.isList (by lia)
  |dct tk ks vs=>exact(bR h').elim
 | .lst l,e,x,y,v,u,A,n,h,h',hu,r,q,rx,ry=>by
  have rr:=r;obtain⟨p,xs,ev,sq,rs⟩:=bK r;subst ev;cases rx;obtain⟨Je,vl,ip,_⟩:=I.list sq;have ip:=ip.isList;cases e with
  |non=>cases cx q;cases ry;simp only[Jg];exact .list_none ip (by lia)
  |bl b=>cases cY q;cases ry;simp only[Jg];exact .list_bool _ ip (by lia)
  |int i=>cases bJ q;obtain⟨t,rfl⟩:=ry;simp only[Jg];exact .list_int _ _ ip (by lia)
  |str l=>cases(bE q).1;obtain⟨t,rfl⟩:=ry;simp only[Jg];exact .list_str _ _ ip (by lia)
  |lst l'=>
   obtain⟨p',Kl,K0,Kp,Lb⟩:=bK q;subst K0;cases ry;by_cases hp:p=p'
   .subst hp;have hz:=kO I _ _ _ n h rr q;rw[<-hz,i4 _ n h];exact .same _
   .obtain⟨its',NA,KI,_⟩:=I.list Kp;have KI:=KI.isList;cases n with
    |zero=>simp only[plainD]at h;cases h
    |succ n=>
     simp only[plainD]at h h';have l1:=vl.length;have l2:=NA.length;have l3:=rs.length;have l4:=Lb.length;simp only[Jg];by_cases hl:l.length=l'.length
     .have key:=RcAt.lists (A:=A) (e:=fun j=>Jg (l.getD j .non) (l'.getD j .non)) ip KI (by simp only[U0];lia) (by lia) fun j h1 h2=>by
       simp only[U0]at h1 h2;have g1:l[j]?=some (l[j]'(by lia)):=List.getElem?_eq_getElem _;have g2:l'[j]?=some (l'[j]'(by lia)):=List.getElem?_eq_getElem _;obtain⟨w1,Ms,Mt⟩:=rs.get g1;obtain⟨w2,NB,NC⟩:=Lb.get g2;obtain⟨u1,Lj,Mu⟩:=vl.get Ms;obtain⟨u2,L8,ND⟩:=NA.get NB;have q1:Je.toArray[j]=u1:=by rw[List.getElem?_eq_getElem h1]at Lj;simpa using Lj
       have q2:its'.toArray[j]=u2:=by rw[List.getElem?_eq_getElem h2]at L8;simpa using L8
       rw[q1,q2,List.getD_eq_getElem?_getD,List.getD_eq_getElem?_getD,g1,g2];exact oP I l j _ g1 _ w1 w2 u1 u2 A.in1 n (plainDs_mem h g1) (plainDs_mem h' g2) (by show A.units+1+n<cLine;lia) Mt NC Mu ND
      rw[<-ft hl,show l.length=Je.toArray.size by simp only[U0];lia];exact .of_refs hp key
     .rw[iZ hl];exact .of_refs hp (RcAt.lists_lengths ip KI (by simp only[U0,bne_iff_ne];lia) (by lia))
  |tup l'=>obtain⟨p',Kl,K0,Kp,_⟩:=bF q;subst K0;cases ry;obtain⟨its',_,KI,_⟩:=I.tuple Kp;simp only[Jg];exact .list_tuple ip (show s.heap.IsTuple p' its'.toArray from KI) (by lia)
  |dct tk ks vs=>exact(bR h').elim
 | .dct _ _ _,_,_,_,_,_,_,n,h,_,_,_,_,_,_=>(bR h).elim
theorem oP(I:Inv X pr σ H s):∀(ds:List D) (j:Nat) (d:D),ds[j]?=some d->∀(e:D) (x y:V) (v u:Yu) (A:Yz) (n:Nat),plainD n d=true->plainD n e=true->A.units+n<cLine->Rep X.K H d x->Rep X.K H e y->RelV x v->RelV y u->EqAt A s v u (Jg d e)
 |[],_,_,hj=>by simp at hj
 |d'::ds,0,d,hj=>by
  simp at hj;subst hj;exact Bh I d'
 |d'::ds,j+1,d,hj=>oP I ds j d (by simpa using hj)
end
end
section
variable{X:Cx}
def KS(a b:D):Res R:=if plainD 40 a&&plainD 40 b then .ok (.f,.bl (Jg a b)) else .bad
def LO(a b:D):Res R:=if plainD 40 a&&plainD 40 b then .ok (.f,.bl (!Jg a b)) else .bad
open PySem.SeqAt in
theorem DS{pr:List (Yx×Obj)}{σ:L2.St}{H:Hp}{s:Yw}(I:Inv X pr σ H s){d e:D}{x y:V}{v u:Yu}{A:Yz}(h:plainD 40 d=true)(h':plainD 40 e=true)(hu:A.units+64<cLine)(r:Rep X.K H d x)(q:Rep X.K H e y)(rx:RelV x v)(ry:RelV y u):
  RcAt A s v u (Jg d e)/\RcNeAt A s v u (!Jg d e):=by
 cases d with
 |non=>
  cases cx r;cases rx;cases e with
  |non=>cases cx q;cases ry;simp only[Jg];exact⟨.none_none,.none_none⟩
  |bl b=>cases cY q;cases ry;simp only[Jg];exact⟨.none_bool _,.none_bool _⟩
  |int i=>cases bJ q;obtain⟨t,rfl⟩:=ry;simp only[Jg];exact⟨.none_int _ _,.none_int _ _⟩
  |str l=>cases(bE q).1;obtain⟨t,rfl⟩:=ry;simp only[Jg];exact⟨.none_str _ _,.none_str _ _⟩
  |tup l=>obtain⟨p,xs,rfl,sq,_⟩:=bF q;cases ry;obtain⟨Je,_,ip,_⟩:=I.tuple sq;simp only[Jg];exact⟨.none_tuple (show s.heap.IsTuple p Je.toArray from ip) (by lia),.none_tuple (show s.heap.IsTuple p Je.toArray from ip) (by lia)⟩
  |lst l=>obtain⟨p,xs,rfl,sq,_⟩:=bK q;cases ry;obtain⟨Je,_,ip,_⟩:=I.list sq;simp only[Jg];exact⟨.none_list ip.isList (by lia),.none_list ip.isList (by lia)⟩
  |dct tk ks vs=>exact(bR h').elim
 |bl b=>
  cases cY r;cases rx;cases e with
  |non=>cases cx q;cases ry;simp only[Jg];exact⟨.bool_none _,.bool_none _⟩
  |bl b=>cases cY q;cases ry;simp only[Jg];exact⟨.bool_bool _ _,.bool_bool _ _⟩
  |int i=>cases bJ q;obtain⟨t,rfl⟩:=ry;simp only[Jg];exact⟨.bool_int _ _ _,.bool_int _ _ _⟩
  |str l=>cases(bE q).1;obtain⟨t,rfl⟩:=ry;simp only[Jg];exact⟨.bool_str _ _ _,.bool_str _ _ _⟩
  |tup l=>obtain⟨p,xs,rfl,sq,_⟩:=bF q;cases ry;obtain⟨Je,_,ip,_⟩:=I.tuple sq;simp only[Jg];exact⟨.bool_tuple _ (show s.heap.IsTuple p Je.toArray from ip) (by lia),.bool_tuple _ (show s.heap.IsTuple p Je.toArray from ip) (by lia)⟩
  |lst l=>obtain⟨p,xs,rfl,sq,_⟩:=bK q;cases ry;obtain⟨Je,_,ip,_⟩:=I.list sq;simp only[Jg];exact⟨.bool_list _ ip.isList (by lia),.bool_list _ ip.isList (by lia)⟩
  |dct tk ks vs=>exact(bR h').elim
 |int b=>
  cases bJ r;obtain⟨t0,rfl⟩:=rx;cases e with
  |non=>cases cx q;cases ry;simp only[Jg];exact⟨.int_none _ _,.int_none _ _⟩
  |bl b=>cases cY q;cases ry;simp only[Jg];exact⟨.int_bool _ _ _,.int_bool _ _ _⟩
  |int i=>cases bJ q;obtain⟨t,rfl⟩:=ry;simp only[Jg];exact⟨.int_int _ _ _ _,.int_int _ _ _ _⟩
  |str l=>cases(bE q).1;obtain⟨t,rfl⟩:=ry;simp only[Jg];exact⟨.int_str _ _ _ _,.int_str _ _ _ _⟩
  |tup l=>obtain⟨p,xs,rfl,sq,_⟩:=bF q;cases ry;obtain⟨Je,_,ip,_⟩:=I.tuple sq;simp only[Jg];exact⟨.int_tuple _ _ (show s.heap.IsTuple p Je.toArray from ip) (by lia),.int_tuple _ _ (show s.heap.IsTuple p Je.toArray from ip) (by lia)⟩
  |lst l=>obtain⟨p,xs,rfl,sq,_⟩:=bK q;cases ry;obtain⟨Je,_,ip,_⟩:=I.list sq;simp only[Jg];exact⟨.int_list _ _ ip.isList (by lia),.int_list _ _ ip.isList (by lia)⟩
  |dct tk ks vs=>exact(bR h').elim
 |str b=>
  have hr:=(bE r).1;subst hr;obtain⟨t0,rfl⟩:=rx;cases e with
  |non=>cases cx q;cases ry;simp only[Jg];exact⟨.str_none _ _,.str_none _ _⟩
  |bl b=>cases cY q;cases ry;simp only[Jg];exact⟨.str_bool _ _ _,.str_bool _ _ _⟩
  |int i=>cases bJ q;obtain⟨t,rfl⟩:=ry;simp only[Jg];exact⟨.str_int _ _ _ _,.str_int _ _ _ _⟩
  |str l=>
   have hq:=(bE q).1;subst hq;obtain⟨t,rfl⟩:=ry;have e1:(b==l)=(S b==S l):=by
    rw[Vp,VL,VL];exact⟨fun z=>by rw[z],S_inj⟩
   simp only[Jg,e1];exact⟨.str_str _ _ _ _,.str_str _ _ _ _⟩
  |tup l=>obtain⟨p,xs,rfl,sq,_⟩:=bF q;cases ry;obtain⟨Je,_,ip,_⟩:=I.tuple sq;simp only[Jg];exact⟨.str_tuple _ _ (show s.heap.IsTuple p Je.toArray from ip) (by lia),.str_tuple _ _ (show s.heap.IsTuple p Je.toArray from ip) (by lia)⟩
  |lst l=>obtain⟨p,xs,rfl,sq,_⟩:=bK q;cases ry;obtain⟨Je,_,ip,_⟩:=I.list sq;simp only[Jg];exact⟨.str_list _ _ ip.isList (by lia),.str_list _ _ ip.isList (by lia)⟩
  |dct tk ks vs=>exact(bR h').elim
 |tup l=>
  obtain⟨p,xs,ev,sq,rs⟩:=bF r;subst ev;cases rx;obtain⟨Je,vl,ip,_⟩:=I.tuple sq;have ip:s.heap.IsTuple p Je.toArray:=ip;cases e with
  |non=>cases cx q;cases ry;simp only[Jg];exact⟨.tuple_none ip (by lia),.tuple_none ip (by lia)⟩
  |bl b=>cases cY q;cases ry;simp only[Jg];exact⟨.tuple_bool _ ip (by lia),.tuple_bool _ ip (by lia)⟩
  |int i=>cases bJ q;obtain⟨t,rfl⟩:=ry;simp only[Jg];exact⟨.tuple_int _ _ ip (by lia),.tuple_int _ _ ip (by lia)⟩
  |str l=>cases(bE q).1;obtain⟨t,rfl⟩:=ry;simp only[Jg];exact⟨.tuple_str _ _ ip (by lia),.tuple_str _ _ ip (by lia)⟩
  |tup l'=>
   obtain⟨p',Kl,K0,Kp,Lb⟩:=bF q;subst K0;cases ry;obtain⟨its',NA,KI,_⟩:=I.tuple Kp;have KI:s.heap.IsTuple p' its'.toArray:=KI;simp only[plainD]at h h';have l1:=vl.length;have l2:=NA.length;have l3:=rs.length;have l4:=Lb.length;have el:∀j (h1:j<Je.toArray.size) (h2:j<its'.toArray.size),EqAt A.in1 s Je.toArray[j] its'.toArray[j] ((fun j=>Jg (l.getD j .non) (l'.getD j .non)) j):=fun j h1 h2=>by
    simp only[U0]at h1 h2;have g1:l[j]?=some (l[j]'(by lia)):=List.getElem?_eq_getElem _;have g2:l'[j]?=some (l'[j]'(by lia)):=List.getElem?_eq_getElem _;obtain⟨w1,Ms,Mt⟩:=rs.get g1;obtain⟨w2,NB,NC⟩:=Lb.get g2;obtain⟨u1,Lj,Mu⟩:=vl.get Ms;obtain⟨u2,L8,ND⟩:=NA.get NB;have q1:Je.toArray[j]=u1:=by rw[List.getElem?_eq_getElem h1]at Lj;simpa using Lj
    have q2:its'.toArray[j]=u2:=by rw[List.getElem?_eq_getElem h2]at L8;simpa using L8
    dsimp only;rw[q1,q2,List.getD_eq_getElem?_getD,List.getD_eq_getElem?_getD,g1,g2];exact oP I l j _ g1 _ w1 w2 u1 u2 A.in1 39 (plainDs_mem h g1) (plainDs_mem h' g2) (by show A.units+1+39<cLine;lia) Mt NC Mu ND
   simp only[Jg];have fin:((List.range (min Je.toArray.size its'.toArray.size)).all (fun j=>Jg (l.getD j .non) (l'.getD j .non))&&Je.toArray.size==its'.toArray.size)=iY l l':=by
    simp only[U0];by_cases hl:l.length=l'.length
    .rw[<-ft hl,show min Je.length its'.length=l.length by lia,show(Je.length==its'.length)=true by rw[VL];lia,WD]
    .rw[iZ hl,show(Je.length==its'.length)=false by rw[V2];lia,X7]
   rw[<-fin];exact⟨.tuples ip KI (by lia) el,.tuples ip KI (by lia) el⟩
  |lst l'=>obtain⟨p',Kl,K0,Kp,_⟩:=bK q;subst K0;cases ry;obtain⟨its',_,KI,_⟩:=I.list Kp;simp only[Jg];exact⟨.tuple_list ip KI.isList (by lia),.tuple_list ip KI.isList (by lia)⟩
  |dct tk ks vs=>exact(bR h').elim
 |lst l=>
  obtain⟨p,xs,ev,sq,rs⟩:=bK r;subst ev;cases rx;obtain⟨Je,vl,ip,_⟩:=I.list sq;have ip:=ip.isList;cases e with
  |non=>cases cx q;cases ry;simp only[Jg];exact⟨.list_none ip (by lia),.list_none ip (by lia)⟩
  |bl b=>cases cY q;cases ry;simp only[Jg];exact⟨.list_bool _ ip (by lia),.list_bool _ ip (by lia)⟩
  |int i=>cases bJ q;obtain⟨t,rfl⟩:=ry;simp only[Jg];exact⟨.list_int _ _ ip (by lia),.list_int _ _ ip (by lia)⟩
  |str l=>cases(bE q).1;obtain⟨t,rfl⟩:=ry;simp only[Jg];exact⟨.list_str _ _ ip (by lia),.list_str _ _ ip (by lia)⟩
  |lst l'=>
   obtain⟨p',Kl,K0,Kp,Lb⟩:=bK q;subst K0;cases ry;obtain⟨its',NA,KI,_⟩:=I.list Kp;have KI:=KI.isList;simp only[plainD]at h h';have l1:=vl.length;have l2:=NA.length;have l3:=rs.length;have l4:=Lb.length;simp only[Jg];by_cases hl:l.length=l'.length
   .have el:∀j (h1:j<Je.toArray.size) (h2:j<its'.toArray.size),EqAt A.in1 s Je.toArray[j] its'.toArray[j] ((fun j=>Jg (l.getD j .non) (l'.getD j .non)) j):=fun j h1 h2=>by
     simp only[U0]at h1 h2;have g1:l[j]?=some (l[j]'(by lia)):=List.getElem?_eq_getElem _;have g2:l'[j]?=some (l'[j]'(by lia)):=List.getElem?_eq_getElem _;obtain⟨w1,Ms,Mt⟩:=rs.get g1;obtain⟨w2,NB,NC⟩:=Lb.get g2;obtain⟨u1,Lj,Mu⟩:=vl.get Ms;obtain⟨u2,L8,ND⟩:=NA.get NB;have q1:Je.toArray[j]=u1:=by rw[List.getElem?_eq_getElem h1]at Lj;simpa using Lj
     have q2:its'.toArray[j]=u2:=by rw[List.getElem?_eq_getElem h2]at L8;simpa using L8
     dsimp only;rw[q1,q2,List.getD_eq_getElem?_getD,List.getD_eq_getElem?_getD,g1,g2];exact oP I l j _ g1 _ w1 w2 u1 u2 A.in1 39 (plainDs_mem h g1) (plainDs_mem h' g2) (by show A.units+1+39<cLine;lia) Mt NC Mu ND
    rw[<-ft hl,show l.length=Je.toArray.size by simp only[U0];lia];exact⟨.lists ip KI (by simp only[U0];lia) (by lia) el,.lists ip KI (by simp only[U0];lia) (by lia) el⟩
   .rw[iZ hl];exact⟨.lists_lengths ip KI (by simp only[U0,bne_iff_ne];lia) (by lia),.lists_lengths ip KI (by simp only[U0,bne_iff_ne];lia) (by lia)⟩
  |tup l'=>obtain⟨p',Kl,K0,Kp,_⟩:=bF q;subst K0;cases ry;obtain⟨its',_,KI,_⟩:=I.tuple Kp;simp only[Jg];exact⟨.list_tuple ip (show s.heap.IsTuple p' its'.toArray from KI) (by lia),.list_tuple ip (show s.heap.IsTuple p' its'.toArray from KI) (by lia)⟩
  |dct tk ks vs=>exact(bR h').elim
 |dct tk ks vs=>exact(bR h).elim
theorem i5(hu:X.A.units+64<cLine):JT X (compareOp .Eq) (rGA X.K KS):=by
 rintro pr s σ H x y v u Q I rx ry ⟨G,fp,es,vs,a,b,r,⟨rel,k⟩,va,vb,e⟩;unfold KS at e;split at e
 .rename_i hp;cases e;rw[Va]at hp;exact(DS I hp.1 hp.2 hu va vb rx ry).1 _ _ _ _ ⟨.bl _,H,I,rfl,k _ H G fp .refl (rel.push (cz _))⟩
 .cases e
theorem oQ(hu:X.A.units+64<cLine):JT X (compareOp .NotEq) (rGA X.K LO):=by
 rintro pr s σ H x y v u Q I rx ry ⟨G,fp,es,vs,a,b,r,⟨rel,k⟩,va,vb,e⟩;unfold LO at e;split at e
 .rename_i hp;cases e;rw[Va]at hp;exact(DS I hp.1 hp.2 hu va vb rx ry).2 _ _ _ _ ⟨.bl _,H,I,rfl,k _ H G fp .refl (rel.push (cz _))⟩
 .cases e
def xx(a:D)(ds:List D):Bool:=ds.any fun d=>Jg d a
noncomputable def NF(a b:D):Res R:=match b with
 | .lst ds=>if plainD 40 a&&plainDs 40 ds then .ok (.f,.bl (xx a ds)) else .bad
 | .tup ds=>if plainD 40 a&&plainDs 40 ds then .ok (.f,.bl (xx a ds)) else .bad
 | .str l=>match a with
  | .str [c]=>.ok (.f,.bl (decide (c∈l)))
  |_=>.bad
 |_=>.bad
def CJ(a b:D):Res R:=(NF a b).bind fun r=>match r.2 with
 | .bl k=>.ok (.f,.bl (!k))
 |_=>.bad
open PySem.SeqAt in
theorem rQ{pr:List (Yx×Obj)}{σ:L2.St}{H:Hp}{s:Yw}(I:Inv X pr σ H s){a:D}{x:V}{v:Yu}{A:Yz}(h:plainD 40 a=true)(hu:A.units+64<cLine)(r:Rep X.K H a x)(rx:RelV x v):
  ∀(ds:List D) (xs:List V) (us:List Yu),plainDs 40 ds=true->Reps X.K H ds xs->Vals xs us->∃e:Yu->Bool,us.any e=xx a ds/\∀u∈us,EqAt A s u v (e u):=by
 classical
 intro ds xs us hp rs vl;refine⟨fun u=>decide (∃(j:Nat) (d:D),ds[j]?=some d/\us[j]?=some u/\Jg d a=true),?_,fun u Ot=>?_⟩
 .rw[Vp,Wi];unfold xx;rw[Wi];constructor
  .rintro⟨u,_,hd⟩;obtain⟨j,d,h1,_,h2⟩:=W6 hd;exact⟨d,Vm h1,h2⟩
  .rintro⟨d,hd,h2⟩;obtain⟨j,hj⟩:=VP.mp hd;obtain⟨w1,Ms,Mt⟩:=rs.get hj;obtain⟨u1,Lj,Mu⟩:=vl.get Ms;exact⟨u1,Vm Lj,Vu ⟨j,d,hj,Lj,h2⟩⟩
 .obtain⟨j,hj⟩:=VP.mp Ot;have l1:=vl.length;have l2:=rs.length;have hjl:=(List.getElem?_eq_some_iff.mp hj).1;have g1:ds[j]?=some (ds[j]'(by lia)):=List.getElem?_eq_getElem _;obtain⟨w1,Ms,Mt⟩:=rs.get g1;obtain⟨u1,Lj,Mu⟩:=vl.get Ms;rw[hj]at Lj;cases Lj;have z:=Bh I _ _ w1 x u v A 40 (plainDs_mem hp g1) h (by lia) Mt r Mu rx;have e:decide (∃(j:Nat) (d:D),ds[j]?=some d/\us[j]?=some u/\Jg d a=true)=Jg (ds[j]'(by lia)) a:=by
   rw[Vp,Ve];constructor
   .rintro⟨j2,d2,k1,k2,k3⟩;obtain⟨w2,NB,NC⟩:=rs.get k1;obtain⟨u2,L8,ND⟩:=vl.get NB;rw[k2]at L8;cases L8;have:=Mu.inj ND;subst this;rw[kO I _ _ _ 40 (plainDs_mem hp g1) Mt NC];exact k3
   .intro k3;exact⟨j,_,g1,hj,k3⟩
  show EqAt A s u v (decide (∃(j:Nat) (d:D),ds[j]?=some d/\us[j]?=some u/\Jg d a=true));rw[e];exact z
theorem oR(l:List Nat)(c:Nat):(!(Builtin.Str.occurrences (S l) (S [c]) 0 (S l).length 1).isEmpty)=decide (c∈l):=by
 have h:=PySem.StrLaws.found_one (S l) c;rw[dy]at h;exact h
theorem m6{e:Yu->Bool}(us:List Yu):us.toArray.any e=us.any e:=by simp
theorem GA(hu:X.A.units+65<cLine):JT X (compareOp .In) (rGA X.K NF):=by
 rintro pr s σ H x y v u Q I rx ry ⟨G,fp,es,vs,a,b,r,⟨rel,k⟩,va,vb,e⟩;unfold NF at e;split at e
 .rename_i ds;split at e
  .rename_i hp;cases e;rw[Va]at hp;obtain⟨p,xs,ev,sq,rs⟩:=bK vb;subst ev;cases ry;obtain⟨Je,vl,ip,_⟩:=I.list sq;obtain⟨ef,e1,e2⟩:=rQ (A:=X.A.in1) I hp.1 (by show X.A.units+1+64<cLine;lia) va rx ds xs Je hp.2 rs vl;refine SeqAt.in_listAt ef ip.isList (fun z hz=>e2 z (by simpa using hz)) ?_;rw[m6,e1];exact⟨.bl _,H,I,rfl,k _ H G fp .refl (rel.push (cz _))⟩
  .cases e
 .rename_i ds;split at e
  .rename_i hp;cases e;rw[Va]at hp;obtain⟨p,xs,ev,sq,rs⟩:=bF vb;subst ev;cases ry;obtain⟨Je,vl,ip,_⟩:=I.tuple sq;obtain⟨ef,e1,e2⟩:=rQ (A:=X.A.in1) I hp.1 (by show X.A.units+1+64<cLine;lia) va rx ds xs Je hp.2 rs vl;refine SeqAt.in_tupleAt ef (show s.heap.IsTuple p Je.toArray from ip) (fun z hz=>e2 z (by simpa using hz)) ?_;rw[m6,e1];exact⟨.bl _,H,I,rfl,k _ H G fp .refl (rel.push (cz _))⟩
  .cases e
 .rename_i l;split at e
  .rename_i c;cases e;obtain⟨e1,h1⟩:=bE va;obtain⟨e2,h2⟩:=bE vb;subst e1;subst e2;refine uK pr s σ H _ _ v u Q I rx ry ⟨_,_,rfl,rfl,?_⟩;rw[oR];exact k _ H G fp .refl (rel.push (cz _))
  .cases e
 .cases e
theorem DT(hu:X.A.units+65<cLine):JT X (compareOp .NotIn) (rGA X.K CJ):=by
 rintro pr s σ H x y v u Q I rx ry ⟨G,fp,es,vs,a,b,r,⟨rel,k⟩,va,vb,e⟩;unfold CJ at e;obtain⟨r0,e0,e⟩:=au e;unfold NF at e0;split at e0
 .rename_i ds;split at e0
  .rename_i hp;cases e0;cases e;rw[Va]at hp;obtain⟨p,xs,ev,sq,rs⟩:=bK vb;subst ev;cases ry;obtain⟨Je,vl,ip,_⟩:=I.list sq;obtain⟨ef,e1,e2⟩:=rQ (A:=X.A.in1) I hp.1 (by show X.A.units+1+64<cLine;lia) va rx ds xs Je hp.2 rs vl;refine SeqAt.notIn_listAt ef ip.isList (fun z hz=>e2 z (by simpa using hz)) ?_;rw[m6,e1];exact⟨.bl _,H,I,rfl,k _ H G fp .refl (rel.push (cz _))⟩
  .cases e0
 .rename_i ds;split at e0
  .rename_i hp;cases e0;cases e;rw[Va]at hp;obtain⟨p,xs,ev,sq,rs⟩:=bF vb;subst ev;cases ry;obtain⟨Je,vl,ip,_⟩:=I.tuple sq;obtain⟨ef,e1,e2⟩:=rQ (A:=X.A.in1) I hp.1 (by show X.A.units+1+64<cLine;lia) va rx ds xs Je hp.2 rs vl;refine SeqAt.notIn_tupleAt ef (show s.heap.IsTuple p Je.toArray from ip) (fun z hz=>e2 z (by simpa using hz)) ?_;rw[m6,e1];exact⟨.bl _,H,I,rfl,k _ H G fp .refl (rel.push (cz _))⟩
  .cases e0
 .rename_i l;split at e0
  .rename_i c;cases e0;cases e;obtain⟨e1,h1⟩:=bE va;obtain⟨e2,h2⟩:=bE vb;subst e1;subst e2;refine nZ pr s σ H _ _ v u Q I rx ry ⟨_,_,rfl,rfl,?_⟩;rw[oR];exact k _ H G fp .refl (rel.push (cz _))
  .cases e0
 .cases e0
def PZ(a b:D):Res R:=match b with
 | .bl k=>.ok (.f,.bl (match a with | .bl j=>j==k|_=>false))
 | .non=>.ok (.f,.bl (match a with | .non=>true|_=>false))
 |_=>.bad
def isnO(a b:D):Res R:=(PZ a b).bind fun r=>match r.2 with
 | .bl k=>.ok (.f,.bl (!k))
 |_=>.bad
theorem rR{K:W.Frag}{H:Hp}{a b:D}{x y:V}{v u:Yu}{r:R}(va:Rep K H a x)(vb:Rep K H b y)(rx:RelV x v)(ry:RelV y u)(e:PZ a b=.ok r):plainIs v u=true/\r=(.f,.bl (v==u)):=by
 unfold PZ at e;split at e
 .rename_i k;cases e;cases cY vb;cases ry;cases a with
  |non=>cases cx va;cases rx;exact⟨rfl,rfl⟩
  |bl j=>cases cY va;cases rx;refine⟨rfl,?_⟩;cases j <;> cases k <;> rfl
  |int i=>cases bJ va;obtain⟨t,rfl⟩:=rx;exact⟨rfl,rfl⟩
  |str l=>cases(bE va).1;obtain⟨t,rfl⟩:=rx;exact⟨rfl,rfl⟩
  |tup l=>obtain⟨p,xs,rfl,_⟩:=bF va;cases rx;exact⟨rfl,rfl⟩
  |lst l=>obtain⟨p,xs,rfl,_⟩:=bK va;cases rx;exact⟨rfl,rfl⟩
  |dct tk ks vs=>rw[Rep]at va;obtain⟨p,xs,o,rfl,_⟩:=va;cases rx;exact⟨rfl,rfl⟩
 .cases e;cases cx vb;cases ry;cases a with
  |non=>cases cx va;cases rx;exact⟨rfl,rfl⟩
  |bl j=>cases cY va;cases rx;exact⟨rfl,rfl⟩
  |int i=>cases bJ va;obtain⟨t,rfl⟩:=rx;exact⟨rfl,rfl⟩
  |str l=>cases(bE va).1;obtain⟨t,rfl⟩:=rx;exact⟨rfl,rfl⟩
  |tup l=>obtain⟨p,xs,rfl,_⟩:=bF va;cases rx;exact⟨rfl,rfl⟩
  |lst l=>obtain⟨p,xs,rfl,_⟩:=bK va;cases rx;exact⟨rfl,rfl⟩
  |dct tk ks vs=>rw[Rep]at va;obtain⟨p,xs,o,rfl,_⟩:=va;cases rx;exact⟨rfl,rfl⟩
 .cases e
theorem GC:JT X (compareOp .Is) (rGA X.K PZ):=by
 rintro pr s σ H x y v u Q I rx ry ⟨G,fp,es,vs,a,b,r,⟨rel,k⟩,va,vb,e⟩;obtain⟨h1,h2⟩:=rR va vb rx ry e;subst h2;exact wpAny_is_plain h1 ⟨.bl _,H,I,rfl,k _ H G fp .refl (rel.push (cz _))⟩
theorem kQ:JT X (compareOp .IsNot) (rGA X.K isnO):=by
 rintro pr s σ H x y v u Q I rx ry ⟨G,fp,es,vs,a,b,r,⟨rel,k⟩,va,vb,e⟩;obtain⟨r0,e0,e⟩:=au e;obtain⟨h1,h2⟩:=rR va vb rx ry e0;subst h2;cases e;exact wpAny_isNot_plain h1 ⟨.bl _,H,I,rfl,k _ H G fp .refl (rel.push (cz _))⟩
end
section
variable{X:Cx}
theorem vJ(hc:X.calm=true):dS X (.builtin "max") (rC X.K maxD):=by
 rintro pr s σ H xs us Q I rx ⟨G,fp,es,vs,ds,r,⟨rel,k⟩,vd,e⟩;unfold maxD at e;split at e
 .rename_i d;split at e
  .rename_i n ns hb;cases e;obtain⟨v,ev,vt⟩:=nS vd;obtain⟨p,ep,sq⟩:=oO rel.gh hb vt;subst ev;subst ep;exact u0 hc pr s σ H _ us Q I rx ⟨p,n::ns,rfl,sq,by simp,k _ H G fp .refl (rel.push (bO _))⟩
  .cases e
 .rename_i i j;cases e;obtain⟨v,w',ev,v1,v2⟩:=Iy vd;subst ev;cases bz v1;cases bz v2;obtain⟨u,u',rfl,⟨t,rfl⟩,t',rfl⟩:=Aj rx;refine max_two_ints (I.ok.hd hc) fun h' tk kk=>?_
  have I2:Inv X pr σ H {s with heap:=h',toks:=tk}:=I.kept kk;refine⟨.int (if i<j then j else i),H,I2,?_,k _ H G fp .refl (rel.push (bO _))⟩;by_cases N4:i<j
  .rw[U5 N4,U5 (show j>i from N4)];exact⟨_,rfl⟩
  .rw[U8 N4,U8 (show ¬ j>i from N4)];exact⟨_,rfl⟩
 .cases e
def Bi(f g:FX):FX:=fun env=>(f env).bind fun p=>(g p.2).bind fun q=>match(oN p.1.2).bind dQ,q.1.2 with
 |some ns,.int d=>.ok ((.f,.int (NX.maxD ns d)),q.2)
 |_,_=>.bad
theorem Bj{e k:Expr}{f g:FX}{p pos MZ:Pos}(hc:X.calm=true)(hg:Gl X "max")(hm:X.mg "max" = none)(he:QE X e f)(hk:QE X k g)(hs:starEach [e] X.env=[(false,eval e X.env)]:=by rfl):
  QE X (.Call (.Name "max" p) [e] [⟨some "default",k,MZ⟩] pos) (Bi f g):=bx (AG hc hg hm he hk hs) fun σ H Q Jo=>by
 obtain⟨G,env,fp,r,env',rel,e,k⟩:=Jo;obtain⟨⟨r1,Jb⟩,e1,e⟩:=au e;obtain⟨⟨r2,Jl⟩,e2,e⟩:=au e;dsimp only at e;split at e
 .rename_i ns d QJ hd;cases e;refine⟨G,env,fp,r1,Jb,rel,e1,fun v H1 G1 Ju Jp Jc=>?_⟩;obtain⟨G2,b,rv,Jd,Jj⟩:=Jc.freeze;refine⟨G2,Jb,b,r2,_,Jd,e2,fun w' H3 G3 Ke JB Jy=>?_⟩;have hw:=Jy.top;obtain⟨b3,JH,J3⟩:=Jy.drop;rw[hd]at hw;obtain⟨p',ep,sq⟩:=oO JH.gh QJ (Vw.of JH.gh (Rep.mono JB.gg rv));subst ep;exact⟨p',ns,d,rfl,by rw[bJ hw],sq,k _ H3 G3 b3 (Jp.trans (Jj.trans (JB.trans J3))) (JH.push (bO _))⟩
 .cases e
def IY:List D->Res R
 |[.bl b]=>.ok (.f,.int (if b then 1 else 0))
 |[.int i]=>.ok (.f,.int i)
 |_=>.bad
def qf:D->String
 | .non=>"NoneType"
 | .bl _=>"bool"
 | .int _=>"int"
 | .str _=>"str"
 | .tup _=>"tuple"
 | .lst _=>"list"
 | .dct _ _ _=>"dict"
def xy(T:String)(d:D):Bool:=qf d==T||(qf d == "bool" && T == "int")
def Ou(T:String)(f:FO):FX:=fun env=>(f env).bind fun p=>(pS p.2 p.1).bind fun d=>.ok ((.f,.bl (xy T d)),p.2)
theorem DU(K:W.Frag)(d:D){T:String}(hT:T = "int"\/T = "bool"\/T = "str"\/T = "list"\/T = "tuple"\/T = "dict"):PySem.W.kitOne K (.type (qf d)) (.type T)=some (xy T d):=by
 rcases hT with rfl|rfl|rfl|rfl|rfl|rfl <;> cases d <;> (unfold PySem.W.kitOne PySem.W.kitCls PySem.W.subIn;kernel_rfl)
theorem yh:dS X (.builtin "isinstance") (fun xs H Q=>∃d x T,xs=[x,.ty T]/\Rep X.K H d x/\(T = "int"\/T = "bool"\/T = "str"\/T = "list"\/T = "tuple"\/T = "dict")/\Q (.bl (xy T d)) H):=by
 intro pr s σ H xs us Q I r h;obtain⟨d,x,T,rfl,rd,hT,q⟩:=h;obtain⟨u,w',rfl,r1,r2⟩:=Aj r;cases(show w'=Value.type T from r2);have e:=DU X.K d hT;have fin:∀tk,EP X pr σ Q (.bool (xy T d)) {s with toks:=tk}:=fun tk=>⟨.bl (xy T d),H,I.tok tk,rfl,q⟩
 cases d with
 |non=>cases cx rd;cases(show u=Value.none from r1);exact Ws PySem.W.kitx_none I.kIn True.intro e (fun z=>nomatch z) fin
 |bl y=>cases cY rd;cases(show u=Value.bool y from r1);exact Ws PySem.W.kitx_bool I.kIn True.intro e (fun z=>nomatch z) fin
 |int i=>cases bJ rd;obtain⟨t,z⟩:=(show ∃t,u=Value.int i t from r1);cases z;exact Ws PySem.W.kitx_int I.kIn True.intro e (fun z=>nomatch z) fin
 |str l=>
  have hr:=(bE rd).1;subst hr;obtain⟨t,z⟩:=(show ∃t,u=Value.str (S l) t from r1)
  cases z;exact Ws PySem.W.kitx_str I.kIn True.intro e (fun z=>nomatch z) fin
 |lst l=>
  obtain⟨p,xs,ev,sq,_⟩:=bK rd;subst ev;cases(show u=Value.ref p from r1);obtain⟨Je,_,ip,_⟩:=I.list sq;obtain⟨o,ho,hc,_⟩:=ip.isList;exact Ws PySem.W.kitx_list I.kIn ⟨o,ho,hc⟩ e (fun z=>nomatch z) fin
 |tup l=>
  obtain⟨p,xs,ev,sq,_⟩:=bF rd;subst ev;cases(show u=Value.ref p from r1);obtain⟨Je,_,ip,_⟩:=I.tuple sq;obtain⟨o,ho,hc,_⟩:=ip;exact Ws PySem.W.kitx_tuple I.kIn ⟨o,ho,hc⟩ e (fun z=>nomatch z) fin
 |dct tk ks vs=>
  rw[Rep]at rd;obtain⟨p,xs,o,ev,hr,dd,_⟩:=rd;subst ev;cases(show u=Value.ref p from r1);have ok:=hr.ok I.hok;cases tk with
  |true=>
   obtain⟨kvs,eo,_⟩:=dd;subst eo;obtain⟨_,_,_,_,o2,_,_,Ks,ex,_⟩:=ok;exact Ws PySem.W.kitx_dict I.kIn ⟨o2,Ks,ex.1⟩ e (fun z=>nomatch z) fin
  |false=>
   obtain⟨kvs,eo,_⟩:=dd;subst eo;obtain⟨_,_,_,_,o2,_,_,Ks,ex,_⟩:=ok;exact Ws PySem.W.kitx_dict I.kIn ⟨o2,Ks,ex.1⟩ e (fun z=>nomatch z) fin
theorem qg{T:String}{x:Str}{e:Expr}{f:FO}{p q pos:Pos}(hT:T = "int"\/T = "bool"\/T = "str"\/T = "list"\/T = "tuple"\/T = "dict")(he:QO X e f)(hg:Gl X "isinstance")(hm:X.mg "isinstance" = none)(Ry:Gl X x)(Rz:X.mg x=none)(SE:bootBuiltins x=some (.type T))(hn:x≠"__name__":=by decide)(KU:(x==("__debug__" : Str))=false:=by decide)
  (hs:starEach [e,.Name x q] X.env=(false,eval e X.env)::starEach [.Name x q] X.env:=by rfl) (MY:starEach [.Name x q] X.env=(false,eval (.Name x q) X.env)::starEach [] X.env:=by rfl) (Ka:(backTo pos (starEach [.Name x q] X.env)).any (·.1)=false:=by rfl):
  QE X (.Call (.Name "isinstance" p) [e,.Name x q] [] pos) (Ou T f):=
 bx (qV yh hg hm mG (c5 he (c5 (Ab (v:=.ty T) Ry Rz SE rfl hn KU) jK MY) hs) (by decide) (by decide) hs Ka) fun σ H Q Jo=>by
  obtain⟨G,env,fp,r,env',rel,e,k⟩:=Jo;obtain⟨⟨o,Jb⟩,e1,e⟩:=au e;obtain⟨d,e2,e⟩:=au e;cases e;exact⟨G,env,fp,o,_,rel,e1,fun v H1 G1 Ju Jp Jc J5=>⟨d,v,T,rfl,Jc.vwA J5 e2,hT,k _ H1 G1 Ju Jp (Jc.push (cz _))⟩⟩
def Kh{α:Type}(f g:PV.Env->Res α):PV.Env->Res α:=fun env=>match f env with
 | .ok a=>.ok a
 |_=>g env
theorem zy{α:Type}{f g:PV.Env->Res α}{env:PV.Env}{a:α}(h:Kh f g env=.ok a):f env=.ok a\/g env=.ok a:=by
 unfold Kh at h;split at h
 .rename_i b hb;cases h;exact .inl hb
 .exact .inr h
theorem vK{tg e:Expr}{f g:FI}(h:QI X tg e f)(h2:QI X tg e g):QI X tg e (Kh f g):=fun pr s σ H R I Jo=>by
 obtain⟨G,env,fp,ds,env',rel,ee,k⟩:=Jo;rcases zy ee with z|z
 .exact h pr s σ H R I ⟨G,env,fp,ds,env',rel,z,k⟩
 .exact h2 pr s σ H R I ⟨G,env,fp,ds,env',rel,z,k⟩
end
section
variable{α:Type}
def ins(lt:α->α->Bool)(x:α):List α->List α
 |[]=>[x]
 |y::ys=>if lt y x then y::ins lt x ys else x::y::ys
def aV(lt:α->α->Bool)(l:List α):List α:=l.foldr (ins lt) []
structure Ord(lt:α->α->Bool):Prop where
 irr:∀a,lt a a=false
 trans:∀a b c,lt a b=true->lt b c=true->lt a c=true
 tot:∀a b,lt a b=false->lt b a=false->a=b
theorem m7(lt:α->α->Bool)(x:α):∀l,(ins lt x l).Perm (x::l)
 |[]=>.refl _
 |y::ys=>by
  unfold ins;split
  .exact(List.Perm.cons y (m7 lt x ys)).trans (List.Perm.swap x y ys)
  .exact .refl _
theorem dW(lt:α->α->Bool):∀l,(aV lt l).Perm l
 |[]=>.refl _
 |x::l=>(m7 lt x _).trans (List.Perm.cons x (dW lt l))
theorem l7{lt:α->α->Bool}(o:Ord lt)(x:α):∀l:List α,l.Pairwise (fun a b=>lt b a=false)->(ins lt x l).Pairwise (fun a b=>lt b a=false)
 |[],_=>by simp[ins]
 |y::ys,h=>by
  rw[WY]at h;unfold ins;split
  .rename_i hy;rw[WY];refine⟨fun z hz=>?_,l7 o x ys h.2⟩;rcases Vb.mp ((m7 lt x ys).mem_iff.mp hz) with rfl|hz
   .cases e:lt z y with
    |false=>rfl
    |true=>
     have:=o.trans y z y hy e;rw[o.irr]at this;cases this
   .exact h.1 z hz
  .rename_i hy;have hy:lt y x=false:=by simpa using hy
   rw[WY,WY];refine⟨fun z hz=>?_,h⟩;rcases Vb.mp hz with rfl|N6
   .exact hy
   .cases e:lt z x with
    |false=>rfl
    |true=>
     exfalso;cases e2:lt x y with
     |true=>
      have:=o.trans z x y e e2;rw[h.1 z N6]at this;cases this
     |false=>
      have hxy:=o.tot x y e2 hy;rw[hxy,h.1 z N6]at e;cases e
theorem eG{lt:α->α->Bool}(o:Ord lt):∀l:List α,(aV lt l).Pairwise (fun a b=>lt b a=false)
 |[]=>.nil
 |x::l=>l7 o x _ (eG o l)
theorem oS{lt:α->α->Bool}(o:Ord lt):∀{a b:List α},a.Perm b->a.Pairwise (fun a b=>lt b a=false)->b.Pairwise (fun a b=>lt b a=false)->a=b
 |[],_,p,_,_=>p.nil_eq
 |x::xs,[],p,_,_=>absurd p.length_eq (by simp)
 |x::xs,y::ys,p,ha,hb=>by
  rw[WY]at ha hb;have hx:x∈y::ys:=p.mem_iff.mp UY;have hy:y∈x::xs:=p.mem_iff.mpr UY;have e:x=y:=by
   rcases Vb.mp hx with e|hx
   .exact e
   .rcases Vb.mp hy with e|hy
    .exact e.symm
    .exact o.tot x y (hb.1 x hx) (ha.1 y hy)
  subst e;rw[oS o p.cons_inv ha.2 hb.2]
theorem i6{lt:α->α->Bool}(o:Ord lt){l ms:List α}(p:ms.Perm l)(h:ms.Pairwise (fun a b=>lt b a=false)):ms=aV lt l:=oS o (p.trans (dW lt l).symm) h (eG o l)
end
def ltI(a b:Int):Bool:=decide (a<b)
def M9(a b:List Nat):Bool:=decide (a<b)
def Bk:Ord ltI:=⟨fun a=>by simp[ltI],fun a b c=>by simp only[ltI,Ve];lia,fun a b=>by simp only[ltI,VZ];lia⟩
def qh:Ord M9:=by
 refine⟨fun a=>?_,fun a b c h1 h2=>?_,fun a b h1 h2=>?_⟩
 .unfold M9;rw[VZ];exact List.lt_irrefl a
 .unfold M9 at *;rw[Ve] at *;exact List.lt_trans h1 h2
 .unfold M9 at *;rw[VZ] at *;exact List.le_antisymm (Yn.mp h2) (Yn.mp h1)
def vL:Ord dN:=⟨iq,gP,gQ⟩
def fX:List D->Option (List (List Nat))
 |[]=>some []
 | .str b::ds=>(fX ds).map (b:: ·)
 |_=>none
def kR:D->Option Key
 | .int i=>some (.inl i)
 | .str l=>some (.inr (S l))
 |_=>none
def fK:List D->Option (List Key)
 |[]=>some []
 |d::ds=>(kR d).bind fun k=>(fK ds).map (k:: ·)
def fL:D->Option (List Key)
 | .tup ds=>fK ds
 |_=>none
def jQ:List D->Option (List (List Key))
 |[]=>some []
 |d::ds=>(fL d).bind fun k=>(jQ ds).map (k:: ·)
def kT(k:List Key):D:=.tup (k.map kD)
section
variable{K:W.Frag}{G:Hp}
theorem iE:∀{ds:List D}{bs:List (List Nat)}{xs:List V},fX ds=some bs->Reps K G ds xs->xs=bs.map (fun l=>V.str (S l))/\∀l∈bs,l.length<=sizeLine
 |[],_,_,e,r=>by
  cases e;rw[Reps]at r;exact⟨r,fun _ h=>nomatch h⟩
 |d::ds,_,_,e,r=>by
  cases d with
  |str b=>
   rw[fX,VA]at e;obtain⟨bs,e1,e2⟩:=e;subst e2;rw[Reps]at r;obtain⟨y,ys,e3,r1,r2⟩:=r;obtain⟨h1,h2⟩:=iE e1 r2;obtain⟨h3,h4⟩:=bE r1;subst h3;refine⟨by rw[e3,h1];rfl,fun l hl=>?_⟩;rcases Vb.mp hl with rfl|hl
   .exact h4
   .exact h2 l hl
  |_=>simp[fX]at e
theorem gT{d:D}{k:Key}{v:V}(e:kR d=some k)(r:Rep K G d v):v=kV k/\d=kD k:=by
 cases d with
 |int i=>
  cases e;exact⟨bJ r,rfl⟩
 |str l=>
  cases e;refine⟨(bE r).1,?_⟩;show D.str l=D.str (S l).cps.toList;rw[dy]
 |_=>cases e
theorem jR:∀{ds:List D}{ks:List Key}{xs:List V},fK ds=some ks->Reps K G ds xs->xs=ks.map kV/\ds=ks.map kD
 |[],_,_,e,r=>by
  cases e;rw[Reps]at r;exact⟨r,rfl⟩
 |d::ds,_,_,e,r=>by
  rw[fK,VB]at e;obtain⟨k,e1,e⟩:=e;rw[VA]at e;obtain⟨ks,e2,e3⟩:=e;subst e3;rw[Reps]at r;obtain⟨y,ys,e4,r1,r2⟩:=r;obtain⟨h1,h2⟩:=gT e1 r1;obtain⟨h3,h4⟩:=jR e2 r2;rw[e4,h1,h2,h3,h4];exact⟨rfl,rfl⟩
theorem cP{d:D}{ks:List Key}{v:V}(e:fL d=some ks)(r:Rep K G d v):∃p,v=.ref p/\G p=some (.tup (ks.map kV))/\d=kT ks:=by
 cases d with
 |tup ds=>
  obtain⟨p,xs,ev,g,rs⟩:=vz r;obtain⟨h1,h2⟩:=jR e rs;subst h1;exact⟨p,ev,g,by rw[h2];rfl⟩
 |_=>cases e
theorem kS:∀{ds:List D}{Lk:List (List Key)}{xs:List V},jQ ds=some Lk->Reps K G ds xs->∃al:List (Yx×List Key),xs=al.map (fun a=>V.ref a.1)/\Lk=al.map (·.2)/\ds=al.map (fun a=>kT a.2)/\∀a∈al,G a.1=some (.tup (a.2.map kV))/\Rep K G (kT a.2) (.ref a.1)
 |[],_,_,e,r=>by
  cases e;rw[Reps]at r;exact⟨[],r,rfl,rfl,fun _ h=>nomatch h⟩
 |d::ds,_,_,e,r=>by
  rw[jQ,VB]at e;obtain⟨k,e1,e⟩:=e;rw[VA]at e;obtain⟨ks,e2,e3⟩:=e;subst e3;rw[Reps]at r;obtain⟨y,ys,e4,r1,r2⟩:=r;obtain⟨p,h1,h2,h5⟩:=cP e1 r1;obtain⟨al,h3,h4,h6,h7⟩:=kS e2 r2;subst h1;refine⟨(p,k)::al,by rw[e4,h3];rfl,by rw[h4];rfl,by rw[h5,h6];rfl,fun a ha=>?_⟩;rcases Vb.mp ha with rfl|ha
  .exact⟨h2,by rw[<-h5];exact r1⟩
  .exact h7 a ha
theorem fM{α:Type}{f:α->D}{g:α->V}:∀{l:List α},(∀a∈l,Rep K G (f a) (g a))->Reps K G (l.map f) (l.map g)
 |[],_=>Reps.nil
 |a::l,h=>.cons (h a UY) (fM fun b hb=>h b (U4 _ hb))
end
def sameKinds(k:List Key)(Lk:List (List Key)):Bool:=!k.isEmpty&&Lk.all fun j=>kinds j==kinds k
noncomputable def kU(ds:List D):Option (List D):=match dQ ds with
 |some ns=>some ((aV ltI ns).map D.int)
 |none=>match fX ds with
  |some ls=>some ((aV M9 ls).map D.str)
  |none=>match jQ ds with
   |some (k::Lk)=>if sameKinds k Lk then some ((aV dN (k::Lk)).map kT) else none
   |_=>none
noncomputable def fN:List D->Res R
 |[.lst ds]=>if ds.length<64 then match kU ds with
  |some l=>.ok (.l .f,.lst l)
  |none=>.bad
  else .bad
 |[.dct true ks _]=>if ks.length<64 then match ks,jQ ks with
  |[],_=>.ok (.l .f,.lst [])
  |_,some (k::Lk)=>if sameKinds k Lk then .ok (.l .f,.lst ((aV dN (k::Lk)).map kT)) else .bad
  |_,_=>.bad
  else .bad
 |_=>.bad
def i7{k:List Key}{Lk:List (List Key)}(h:sameKinds k Lk=true):∃top t,∀j∈k::Lk,kinds j=top::t:=by
 unfold sameKinds at h;rw[Va,Vy]at h;cases k with
 |nil=>simp at h
 |cons a k=>
  refine⟨a.isLeft,kinds k,fun j hj=>?_⟩;rcases Vb.mp hj with rfl|hj
  .rfl
  .exact VL.mp (h.2 j hj)
def jS(H G:Hp):Hp:=fun p=>match H p with
 |some (HO.tup xs)=>some (HO.tup xs)
 |_=>G p
def tY{H G:Hp}{p:Yx}{xs:List V}(e:H p=some (.tup xs)):jS H G p=some (.tup xs):=by
 unfold jS;rw[e]
def kW{H G:Hp}{p:Yx}{u:HO}(e:jS H G p=some u):G p=some u\/(isT u=true/\H p=some u):=by
 unfold jS at e;split at e
 .rename_i xs hx;cases e;exact .inr ⟨rfl,hx⟩
 .exact .inl e
def vM{H G:Hp}(gh:Same G H):Same G (jS H G):=fun p u e=>by
 unfold jS;rw[gh p u e];cases u with
 |tup xs=>rfl
 |_=>exact e
def Rel.addT{K:W.Frag}{G H:Hp}{es:PV.Env}{vs:L2.St}{fp:List Yx}(q:Rel K G H es vs fp):∃G',Rel K G' H es vs fp/\Step G H fp G' H fp/\∀p xs,H p=some (.tup xs)->G' p=some (.tup xs):=by
 have gg:=vM q.gh;refine⟨jS H G,⟨q.rep.step gg fun _ _=>rfl,q.nd,fun p hp=>?_,fun p u e=>?_⟩,⟨gg,fun _ _ e _=>e,fun _ h=>.inl h,fun p u e=>(kW e).imp_right fun z=>.inr (.inr z),fun _ u e=>⟨u,e⟩⟩,fun p xs e=>tY e⟩
 .cases e:jS H G p with
  |none=>rfl
  |some u=>
   exfalso;rcases kW e with z|⟨t,z⟩
   .rw[q.gn p hp]at z;cases z
   .obtain⟨u2,h2,hm⟩:=q.rep.mut p hp;rw[z]at h2;cases h2;cases u with
    |tup _=>cases hm
    |frz _ _=>cases hm
    |_=>cases t
 .rcases kW e with z|z
  .exact q.gh p u z
  .exact z.2
def vN{K:W.Frag}{G:Hp}{k:Key}(h:tU k):Rep K G (kD k) (kV k):=by
 cases k with
 |inl i=>exact bO i
 |inr x=>
  have:=iw (K:=K) (G:=G) (l:=x.cps.toList) h;rw[oz]at this;exact this
def DV(k:Key):kR (kD k)=some k:=by
 cases k with
 |inl i=>rfl
 |inr x=>
  show some (Sum.inr (S x.cps.toList))=_;rw[oz]
theorem kX:∀ks:List Key,fK (ks.map kD)=some ks
 |[]=>rfl
 |k::ks=>by
  rw[Vf,fK,DV,kX ks];rfl
theorem jz:∀Lk:List (List Key),jQ (Lk.map kT)=some Lk
 |[]=>rfl
 |k::Lk=>by
  rw[Vf,jQ];show(fK (k.map kD)).bind _=_;rw[kX,jz Lk];rfl
section
variable{X:Cx}
theorem Uk{α:Type}{lt:α->α->Bool}{p:α->α->Prop}(h:∀a b,p a b->lt b a=false){l:List α}(q:l.Pairwise p):l.Pairwise (fun a b=>lt b a=false):=q.imp (h _ _)
theorem kY(hc:X.calm=true):dS X (.builtin "sorted") (rC X.K fN):=by
 rintro pr s σ H xs us Q I rx ⟨G,fp,es,vs,ds,r,⟨rel,k⟩,vd,e⟩;unfold fN at e;split at e
 .rename_i ds;split at e
  .rename_i M5;split at e
   .rename_i l hl;cases e;obtain⟨v,ev,p,ys,ep,sq,rs⟩:=nS vd;subst ev;subst ep;unfold kU at hl;split at hl
    .rename_i ns QJ;cases hl;have hy:=iC QJ rs;subst hy;have hlen:ns.length<64:=by have:=rs.length;rw[UZ]at this;lia
     refine j9 hc pr s σ H _ us Q I rx ⟨p,ns,rfl,sq,hlen,fun q ms hq pm sm=>?_⟩;have em:=i6 Bk pm (Uk (fun a b h=>by unfold ltI;rw[VZ];lia) sm);subst em;obtain⟨Jd,Jj⟩:=rel.newL hq (fM (K:=X.K) (G:=G) (f:=D.int) (g:=V.int) fun a _=>bO a);exact k _ _ G _ Jj Jd
    .split at hl
     .rename_i ls hls;cases hl;obtain⟨hy,hz⟩:=iE hls rs;subst hy;have hlen:ls.length<64:=by have:=rs.length;rw[UZ]at this;lia
      refine ka hc pr s σ H _ us Q I rx ⟨p,ls,rfl,sq,hlen,fun q ms hq pm sm=>?_⟩;have em:=i6 qh pm (Uk (fun a b h=>by unfold M9;rw[VZ];exact h) sm);obtain⟨Jd,Jj⟩:=rel.newL hq (fM (K:=X.K) (G:=G) (f:=D.str) (g:=fun l=>V.str (S l)) (l:=ms) fun a ha=>iw (hz a (pm.mem_iff.mp ha)));rw[<-em]at k;exact k _ _ G _ Jj Jd
     .split at hl
      .rename_i kk Lk hk;split at hl
       .rename_i hsk;cases hl;obtain⟨al,h1,h2,h3,h4⟩:=kS hk rs;obtain⟨top,t,Ll⟩:=i7 hsk;subst h1;have hlen:al.length<64:=by have:=rs.length;rw[UZ]at this;lia
        refine kc hc pr s σ H _ us Q I rx ⟨p,al,top,t,rfl,sq,fun a ha=>⟨SqT.of (rel.gh _ _ (h4 a ha).1),Ll a.2 (by rw[h2];exact VX.mpr ⟨a,ha,rfl⟩)⟩,hlen,fun q ms hq pm sm=>?_⟩;have em:ms.map (·.2)=aV dN (kk::Lk):=by
         rw[h2];refine i6 vL (pm.map _) ?_;rw[Xz];exact sm
        obtain⟨Jd,Jj⟩:=rel.newL hq (fM (K:=X.K) (G:=G) (f:=fun a:Yx×List Key=>kT a.2) (g:=fun a=>V.ref a.1) (l:=ms) fun a ha=>(h4 a (pm.mem_iff.mp ha)).2);have ek:ms.map (fun a=>kT a.2)=(aV dN (kk::Lk)).map kT:=by rw[<-em,Vj];rfl
        rw[ek]at Jd;exact k _ _ G _ Jj Jd
       .cases hl
      .cases hl
   .cases e
  .cases e
 .rename_i ks vv;split at e
  .rename_i M5;obtain⟨v,ev,vt⟩:=nS vd;obtain⟨p,ys,o,ep,rd,dd,rs⟩:=vt;subst ev;subst ep;obtain⟨kvs,eo,ek,ex,Mv⟩:=dd;subst eo;have ek:ks=(kvs.map (·.1)).map kT:=by rw[ek,Vj];rfl
   have hlen:kvs.length<64:=by rw[ek,UZ,UZ]at M5;exact M5
   have go:∀(top:Bool) (t:List Bool),(∀kv∈kvs,kinds kv.1=top::t)->r=(.l .f,.lst ((aV dN (kvs.map (·.1))).map kT))->wpAny (model X.prog X.w) X.A (call (.builtin "sorted") us) (EP X pr σ Q) X.xe s:=fun top t Ll er=>by
    subst er;refine lQ hc pr s σ H _ us Q I rx ⟨p,kvs,top,t,rfl,rd,Ll,hlen,fun q ms hq hm pm sm=>?_⟩;have em:ms.map (·.2)=aV dN (kvs.map (·.1)):=by
     refine i6 vL pm ?_;rw[Xz];exact sm
    obtain⟨G2,Jd,Jj,ht⟩:=rel.addT;have KA:∀a∈ms,Rep X.K G2 (kT a.2) (.ref a.1):=fun a ha=>by
     unfold kT;rw[Rep];refine⟨a.1,_,rfl,ht _ _ (hm a ha),?_⟩;refine fM (f:=kD) (g:=kV) fun key KC=>vN ?_
     have:a.2∈kvs.map (·.1):=pm.mem_iff.mp (VX.mpr ⟨a,ha,rfl⟩);obtain⟨kv,La,e2⟩:=VX.mp this;exact Mv kv La key (by rw[e2];exact KC)
    obtain⟨Jy,JB⟩:=Jd.newL hq (fM (K:=X.K) (G:=G2) (f:=fun a:Yx×List Key=>kT a.2) (g:=fun a=>V.ref a.1) (l:=ms) KA);have ek:ms.map (fun a=>kT a.2)=(aV dN (kvs.map (·.1))).map kT:=by rw[<-em,Vj];rfl
    rw[ek]at Jy;exact k _ _ G2 _ (Jj.trans JB) Jy
   rw[ek,jz]at e;split at e
   .rename_i hnil;cases e;have:kvs=[]:=by
     cases kvs with
     |nil=>rfl
     |cons a b=>cases hnil
    subst this;exact go true [] (fun _ h=>nomatch h) rfl
   .rename_i kk Lk heq K9;split at e
    .rename_i hsk;cases e;obtain⟨top,t,Ll⟩:=i7 hsk;have heq:kvs.map (·.1)=kk::Lk:=by
      injection heq
     refine go top t (fun kv La=>Ll kv.1 ?_) (by rw[heq]);rw[<-heq];exact VX.mpr ⟨kv,La,rfl⟩
    .cases e
   .cases e
  .cases e
 .cases e
def Mw(a b:D):Res R:=match fL a,fL b with
 |some ks,some js=>if kinds ks==kinds js then .ok (.f,.bl (dN ks js)) else .bad
 |_,_=>QM a b
def RA(a b:D):Res R:=match fL a,fL b with
 |some ks,some js=>if kinds ks==kinds js then .ok (.f,.bl (!dN ks js)) else .bad
 |_,_=>match a,b with
  | .str a,.str b=>.ok (.f,.bl (!decide (a<b)))
  |a,b=>Ts a b
theorem rS(hu:X.A.units<cLine):JT X (compareOp .Lt) (rG X.K Mw):=by
 rintro pr s σ H x y v u Q I rx ry ⟨G,fp,es,vs,a,b,r,⟨rel,k⟩,va,vb,e⟩;unfold Mw at e;split at e
 .rename_i ks js h1 h2;split at e
  .rename_i hk;cases e;have ra:Rep X.K G a x:=by cases a <;> first|exact va|cases h1
   have rb:Rep X.K G b y:=by cases b <;> first|exact vb|cases h2
   obtain⟨p,e1,g1,_⟩:=cP h1 ra;obtain⟨p2,e2,g2,_⟩:=cP h2 rb;subst e1;subst e2;exact DG hu pr s σ H _ _ v u Q I rx ry ⟨p,p2,ks,js,rfl,rfl,SqT.of (rel.gh _ _ g1),SqT.of (rel.gh _ _ g2),VL.mp hk,k _ H G fp .refl (rel.push (cz _))⟩
  .cases e
 .exact Gw pr s σ H x y v u Q I rx ry ⟨G,fp,es,vs,a,b,r,⟨rel,k⟩,va,vb,e⟩
theorem DW(hu:X.A.units<cLine):JT X (compareOp .GtE) (rG X.K RA):=by
 rintro pr s σ H x y v u Q I rx ry ⟨G,fp,es,vs,a,b,r,⟨rel,k⟩,va,vb,e⟩;unfold RA at e;split at e
 .rename_i ks js h1 h2;split at e
  .rename_i hk;cases e;have ra:Rep X.K G a x:=by cases a <;> first|exact va|cases h1
   have rb:Rep X.K G b y:=by cases b <;> first|exact vb|cases h2
   obtain⟨p,e1,g1,_⟩:=cP h1 ra;obtain⟨p2,e2,g2,_⟩:=cP h2 rb;subst e1;subst e2;exact DH hu pr s σ H _ _ v u Q I rx ry ⟨p,p2,ks,js,rfl,rfl,SqT.of (rel.gh _ _ g1),SqT.of (rel.gh _ _ g2),VL.mp hk,k _ H G fp .refl (rel.push (cz _))⟩
  .cases e
 .split at e
  .rename_i l l';cases e;obtain⟨e1,h1⟩:=fW va;obtain⟨e2,h2⟩:=fW vb;subst e1;subst e2;obtain⟨t,rfl⟩:=rx;obtain⟨t',rfl⟩:=ry;refine PySem.P.ge_str ?_;rw[dy,dy];exact⟨.bl _,H,I,rfl,k _ H G fp .refl (rel.push (cz _))⟩
  .exact Gx pr s σ H x y v u Q I rx ry ⟨G,fp,es,vs,_,_,r,⟨rel,k⟩,va,vb,e⟩
end
def eNewD(tk:Bool):FX:=fun env=>.ok ((.d,.dct tk [] []),env)
section
variable{md:Mode}{X:Cx}
def qi(ks vs:List D)(k v:D):List D×List D:=if ks.any (Jg k) then(ks,(ks.zip vs).map fun p=>if Jg k p.1 then v else p.2) else(ks++[k],vs++[v])
def eX(tk:Bool)(k:D):Bool:=if tk then(fL k).isSome else(kR k).isSome
noncomputable def IZ(i:Nat)(fk fv:FX):FS:=fun env=>(fv env).bind fun p=>(fk p.2).bind fun q=>match p.2[i]?,q.2[i]? with
 |some (some _),some (some (.d,.dct tk ks vs))=>if eX tk q.1.2&&decide (ks.length<sizeLine) then .ok (.nx (q.2.set i (some (.d,.dct tk (qi ks vs q.1.2 p.1.2).1 (qi ks vs q.1.2 p.1.2).2)))) else .bad
 |_,_=>.bad
theorem vO(a b:Key):Jg (kD a) (kD b)=decide (a=b):=by
 cases a with
 |inl i=>
  cases b with
  |inl j=>simp only[kD,Jg];rw[Vp];simp
  |inr y=>simp only[kD,Jg];simp
 |inr x=>
  cases b with
  |inl j=>simp only[kD,Jg];simp
  |inr y=>
   simp only[kD,Jg];rw[Vp];simp only[VL,Ve,Sum.inr.injEq];exact⟨fun h=>by rw[<-oz x,<-oz y,h],fun h=>by rw[h]⟩
theorem vP:∀a b:List Key,iY (a.map kD) (b.map kD)=decide (a=b)
 |[],[]=>by simp[iY]
 |[],_::_=>by simp[iY]
 |_::_,[]=>by simp[iY]
 |a::r,b::t=>by
  rw[Vf,Vf,iY,vO,vP r t,Vp];simp
theorem zH(a b:List Key):Jg (kT a) (kT b)=decide (a=b):=by
 unfold kT;rw[Jg];exact vP a b
theorem oT{κ:Type}[DecidableEq κ]{K:W.Frag}{G:Hp}(f:κ->D)(hf:∀a b,Jg (f a) (f b)=decide (a=b)){kvs:List (κ×V)}{vs:List D}{k:κ}{v:D}{y:V}(r:Reps K G vs (kvs.map (·.2)))(ry:Rep K G v y):
  (ke kvs k y).map (fun kv=>f kv.1)=(qi (kvs.map fun kv=>f kv.1) vs (f k) v).1/\Reps K G (qi (kvs.map fun kv=>f kv.1) vs (f k) v).2 ((ke kvs k y).map (·.2)):=by
 have e:(kvs.map fun kv=>f kv.1).any (Jg (f k))=kvs.any fun kv=>decide (kv.1=k):=by
  rw[Xj];congr 1
  funext kv
  show Jg (f k) (f kv.1)=_;rw[hf,Vp];simp only[Ve];exact⟨fun z=>z.symm,fun z=>z.symm⟩
 unfold qi ke;rw[e];split
 .refine⟨?_,?_⟩
  .rw[Vj];refine VW fun kv _=>?_
   show f (if kv.1=k then(kv.1,y) else kv).1=f kv.1;split <;> rfl
  .rename_i hany;clear e hany;induction kvs generalizing vs with
   |nil=>
    have:vs=[]:=VR (by rw[<-r.length];rfl);subst this;exact Reps.nil
   |cons kv kvs ih=>
    cases vs with
    |nil=>have:=r.length;simp at this
    |cons d vs=>
     rw[Vf,Reps.cons_iff]at r;rw[Vf,V0,Vf,Vf,Vf];refine .cons ?_ (ih r.2);show Rep K G (if Jg (f k) (f kv.1)=true then v else d) (if kv.1=k then(kv.1,y) else kv).2;rw[hf];by_cases hk:kv.1=k
     .rw[U5 (by simp[hk]),U5 hk];exact ry
     .rw[U8 (by simp;exact fun z=>hk z.symm),U8 hk];exact r.1
 .refine⟨?_,?_⟩
  .rw[Vh];rfl
  .rw[Vh];exact r.app (.one ry)
theorem Rel.chgD{K:W.Frag}{G H:Hp}{es:PV.Env}{vs:L2.St}{fp:List Yx}{i:Nat}{tk:Bool}{ks ws:List D}(q:Rel K G H es vs fp)(e:es[i]?=some (some (.d,.dct tk ks ws))):∃p xs u,vs[i]?=some (some (.ref p))/\H p=some u/\DictO u tk ks xs/\Reps K G ws xs/\
  ∀u' Ko Kl Nz,DictO u' tk Ko Kl->Reps K G Nz Kl->∃fq,Rel K G (upd H p u') (es.set i (some (.d,.dct tk Ko Nz))) vs fq/\Step G H fp G (upd H p u') fq:=by
 obtain⟨v,fq,ev,g,st,Kx⟩:=q.out e;obtain⟨y,ys,e0,v',a,b,e1,e2,r1,r2⟩:=g.rep;cases e0;cases e1;rw[RepO]at r1;obtain⟨p,xs,u,e3,hp,dd,e4,rs⟩:=r1;subst e3;subst e4;subst e2;have nd:=Vz.mp (show(p::b).Nodup from g.nd);refine⟨p,xs,u,ev,hp,dd,rs,fun u' Ko Kl Nz Oh Lb=>?_⟩;have g2:Rel K G (upd H p u') (some (.d,.dct tk Ko Nz)::es.set i none) (some (.ref p)::vs) (p::b):=by
  refine⟨⟨some (.ref p),vs,rfl,.ref p,[p],b,rfl,rfl,?_,r2.step (.refl _) fun z hz=>aF fun e=>nd.1 (e▸hz)⟩,g.nd,g.gn,fun z o ez=>?_⟩
  .rw[RepO];exact⟨p,Kl,u',rfl,aU,Oh,rfl,Lb⟩
  .have:z≠p:=fun w=>by
    subst w;rw[g.gn z UY]at ez;cases ez
   rw[aF this];exact g.gh z o ez
 have Rr:Step G H (p::b) G (upd H p u') (p::b):=by
  refine⟨.refl _,fun z o ez nz=>?_,fun z hz=>.inl hz,fun z o ez=>.inl ez,fun z o ez=>?_⟩
  .have:z≠p:=fun w=>nz (by rw[w];exact UY)
   rw[aF this];exact ez
  .by_cases w:z=p
   .subst w;exact⟨_,aU⟩
   .exact⟨o,by rw[aF w];exact ez⟩
 obtain⟨fz,g3,JB⟩:=g2.back (i:=i) (by rw[VO];exact(List.getElem?_eq_some_iff.mp e).1) ev;rw[Wl]at g3;exact⟨fz,g3,st.trans (Rr.trans JB)⟩
theorem vQ{K:W.Frag}{G:Hp}{d:D}{k:Key}{v:V}(e:kR d=some k)(r:Rep K G d v):tU k:=by
 cases d with
 |int i=>cases e;trivial
 |str l=>
  cases e;show(S l).cps.toList.length<=sizeLine;rw[dy];exact(bE r).2
 |_=>cases e
theorem vR{K:W.Frag}{G:Hp}:∀{ds:List D}{ks:List Key}{xs:List V},fK ds=some ks->Reps K G ds xs->∀k∈ks,tU k
 |[],_,_,e,_=>by
  cases e;exact fun _ h=>nomatch h
 |d::ds,_,_,e,r=>by
  rw[fK,VB]at e;obtain⟨k,e1,e⟩:=e;rw[VA]at e;obtain⟨ks,e2,e3⟩:=e;subst e3;rw[Reps]at r;obtain⟨y,ys,e4,r1,r2⟩:=r;intro z hz;rcases Vb.mp hz with rfl|hz
  .exact vQ e1 r1
  .exact vR e2 r2 z hz
theorem rT{κ:Type}[DecidableEq κ]{P:κ->Prop}{kvs:List (κ×V)}{k:κ}{y:V}(h:∀kv∈kvs,P kv.1)(hk:P k):∀kv∈ke kvs k y,P kv.1:=by
 intro kv La;unfold ke at La;split at La
 .obtain⟨z,hz,e⟩:=VX.mp La;rw[<-e];split
  .exact h z hz
  .exact h z hz
 .rcases Vv.mp La with La|La
  .exact h kv La
  .rw[Vn]at La;rw[La];exact hk
end
end PV
namespace NX
open PySem PySem.Spec PyProof.Rows L2
section
variable{prog:Yy}{w:World}{A:Yz}{E:Yu->Yw->Prop}{s:Yw}{d:Yx}{es:Array DictEntry}{ep:Nat}
theorem m9(nm:(d==sysModules)=false):MeetsIn prog w (Builtin.«dict.__len__» ⟨[.ref d],[]⟩) (fun _ R s=>RawD s.heap d es ep/\R (.ok (.ret (.int es.size s.toks))) {s with toks:=s.toks+1}):=
 .of_wp fun A R s Jo=>by
  obtain⟨⟨o,g,_,dat⟩,h⟩:=Jo;show wpAny _ _ (dictSize d >>= fun _=>_) _ _ s;unfold dictSize;refine UX (UX (Xy g dat (U1 ?_)));show wpAny _ _ (Builtin.Dict.pendingCount d >>= fun _=>_) _ _ s;refine UX (wpAny_pendingCount_other nm (wpAny_ret_mkInt ?_));rw[Nat.add_zero];exact h
theorem Bl{Q:Yu->Yw->Prop}(nm:(d==sysModules)=false)(x:RawD s.heap d es ep)(hf:(es.size:Int)<2 ^ 63)(h:Q (.int es.size (s.toks+1)) {s with toks:=s.toks+1+1}):wpAny (model prog w) A (call (.builtin "len") [.ref d]) Q E s:=by
 have ty:=kx x;refine Xa kind_len plain_len entry_len (args_len1 _) ?_;unfold Builtin.«len»;refine UX (m:=oneArg "len" _) (U1 (UX (m:=callSpecial? (.ref d) (Str.ofString "__len__")) (wpAny_callSpecial?_slot (name:=Str.ofString "__len__") ty F.slot_dict_len
  (call_meetsIn F.slot_dict_len ty F.entry_dict_len (F.args_dict_len_1 _) (m9 (es:=es) (ep:=ep) nm) ⟨x,?_⟩))))
 show wpAny _ _ _ _ _ {s with toks:=s.toks+1};refine UX (WA (U1 (UX (Xe ?_))));show wpAny _ _ (if((es.size:Nat):Int)<0 then _ else _) _ _ _;rw[U8 (Int.not_lt.mpr (Int.natCast_nonneg _))];show wpAny _ _ (if((es.size:Nat):Int)>=2 ^ 63 then _ else _) _ _ _;rw[U8 (Int.not_le.mpr hf)];exact UX (wpAny_mkInt (U1 ⟨_,rfl,h⟩))
end
end NX
namespace PV
open PySem PySem.Spec PyProof.Rows L2 NX
section
variable{X:Cx}
def f7:List D->Res R
 |[.dct _ ks _]=>.ok (.f,.int ks.length)
 |ds=>Gz ds
theorem DX{pr:List (Yx×Obj)}{σ:L2.St}{H:Hp}{s:Yw}(I:Inv X pr σ H s){p:Yx}{o:HO}{tk:Bool}{ks:List D}{xs:List V}(rd:Rd H p o)(dd:DictO o tk ks xs):(p==sysModules)=false/\∃es ep,RawD s.heap p es ep/\es.size=ks.length/\ks.length<=sizeLine:=by
 have ok:=rd.ok I.hok;cases tk with
 |true=>
  obtain⟨kvs,eo,ek,_⟩:=dd;subst eo;obtain⟨z,nm,ws,r,o2,es,ep,h1,h2,h3,h4,_⟩:=ok;refine⟨nm,es,ep,⟨o2,h1,h2,h3⟩,?_,by rw[ek,UZ];exact z⟩;have:=V5 List.length h4;rw[UZ,V3,<-XJ r]at this;rw[ek,UZ];exact this
 |false=>
  obtain⟨kvs,eo,ek,_⟩:=dd;subst eo;obtain⟨z,nm,ws,r,o2,es,ep,h1,h2,h3,h4,h5,_⟩:=ok;refine⟨nm,es,ep,⟨o2,h1,h2,h3⟩,?_,by rw[ek,UZ];exact z⟩;have l1:=h5.length;have l2:kvs.length=ws.length:=XJ r;rw[ek,UZ];rw[V3]at l1;lia
theorem cv:dS X (.builtin "len") (rC X.K f7):=by
 rintro pr s σ H xs us Q I rx ⟨G,fp,es,vs,ds,r,⟨rel,k⟩,vd,e⟩;unfold f7 at e;split at e
 .rename_i tk ks ws;cases e;obtain⟨v,ev,p,ys,o,ep,rd,dd,_⟩:=nS vd;subst ev;subst ep;obtain⟨u,rfl,ru⟩:=f9 rx;cases ru;obtain⟨nm,en,ep,raw,h1,h2⟩:=DX I rd dd;refine Bl nm raw (by rw[h1];rw[VT]at h2;lia) ?_;refine⟨.int ks.length,H,I.tok _,⟨_,by rw[h1]⟩,k _ H G fp .refl (rel.push (bO _))⟩
 .exact DP pr s σ H xs us Q I rx ⟨G,fp,es,vs,_,r,⟨rel,k⟩,vd,e⟩
def GD(g:List Nat->List D->Res R)(fa:FO)(fs:FOs):FX:=fun env=>(fa env).bind fun p=>match Kf p.2 p.1 with
 | .ok (.str l)=>(fs p.2).bind fun q=>(ders q.2 q.1).bind fun ds=>(g l ds).bind fun r=>.ok (r,q.2)
 |_=>.bad
inductive rMtS(K:W.Frag)(g:List Nat->List D->Res R)(x:V)(xs:List V)(H:Hp)(Q:VK):Prop
 |mk:∀G fp es vs l ds r,Goes K H G fp es vs r Q->x=.str (S l)->l.length<=sizeLine->Pg K G H ds xs->g l ds=.ok r->rMtS K g x xs H Q
theorem DY{g:List Nat->List D->Res R}{id:String}{name:Str}{o e:Expr}{es:List Expr}{fa:FO}{fs:FOs}{apos Jr:Pos}(slot:Slot "str" name id)(M1:typeOf (.builtin id)=pure (.type "method_descriptor"))(hm:Od X id (rMtS X.K g))(ho:QO X o fa)(ha:Mj X (e::es) fs)
  (JQ:attributeBase o name X.env (eval o X.env)=eval o X.env:=by rfl)
  (KW:((backTo Jr (starEach (e::es) X.env)).all (fun x=>!x.1)&&(backToKw Jr (keywordEach [] X.env)).all (fun x=>x.1.isSome)&&decide ((e::es).length+([]:List Keyword).length+(if([]:List Keyword).isEmpty then 0 else 1)<30))=true:=by rfl)
  (JR:(apos.endLine==Jr.line)=true:=by rfl) (hs:starEach (e::es) X.env=(false,eval e X.env)::starEach es X.env:=by rfl) (JM:(backTo Jr (starEach es X.env)).any (·.1)=false:=by rfl):
  QE X (.Call (.Attribute o name apos) (e::es) [] Jr) (GD g fa fs):=by
 refine bx (xP PySem.F.plainAttrs_str slot M1 hm ho ha JQ KW JR hs JM) fun σ H Q Jx=>?_
 obtain⟨G,env,fp,r,env',rel,e,k⟩:=Jx;obtain⟨⟨oa,Jb⟩,e1,e⟩:=au e;dsimp only at e;split at e
 .rename_i l hl;obtain⟨⟨os,Jl⟩,e2,e⟩:=au e;obtain⟨ds,e3,e⟩:=au e;obtain⟨r',e4,e⟩:=au e;cases e;refine⟨G,env,fp,oa,Jb,rel,e1,fun v H1 G1 Ju Jp Jc J5=>?_⟩;obtain⟨ev,hz⟩:=fW (Jc.vw J5 hl);subst ev;exact⟨rfl,G1,Jb,Ju,os,Jl,Jc,e2,fun vs H2 G2 JF Jj Jd M7=>⟨G2,JF,Jl,σ,l,ds,r,⟨Jd,fun v H' G' Jf st JC=>k v H' G' Jf (Jp.trans (Jj.trans st)) JC⟩,rfl,hz,Jd.vws M7 e3,e4⟩⟩
 .cases e
end
def fnok_of{P:Yy}{w:World}{K:W.Frag}{mg:Str->Option Yu}{base:YB}{x:Str}{st:Stmt}{N ps:List Str}{k:Nat}{g:FS}{f:Yx}{fd:FuncData}(F:Fun K x x st f fd)(sc:FnScope N ps (defScope st))
  (body:∀(Jz:Yu) (A:Yz) (outer:List PySem.Env) (s:Yw) (H:Hp) (E:XK),Room k (A.deeper (envOfC x (defScope st) s.heap.objs.size f Jz))->M6 (md:=.plain) (xv M3 P w K mg base N x (defScope st) f Jz A outer s H E).nox (cO st) g):
  FnOk P w K mg base M3 (k+1) f fd ps (spF K (fBody ps.length (N.length-ps.length) g)):=by
 refine F.ok sc (fun vs H Q E h=>?_) (fun Jz A outer s H vs Q E hr h=>?_)
 .obtain⟨G,ds,r,_,rs,e,_⟩:=h;unfold fBody at e;split at e
  .rename_i hl;rw[rs.length,hl]
  .cases e
 .obtain⟨G,ds,r,gh,rs,e,q⟩:=h;unfold fBody at e;split at e
  .rename_i hl;refine⟨_,body Jz A outer s H E hr,G,ds.map (fun d=>some (O.f,d))++List.replicate (N.length-ps.length) none,[],⟨?_,WH,(fun _ h=>nomatch h),gh⟩,?_⟩
   .have:=gk (K:=K) (G:=G) (H:=H) (N.length-ps.length) rs;unfold L2.j8;rw[rs.length,hl];exact this
   .obtain⟨o,eo,e⟩:=au e;rw[eo];cases o with
    |rt r'=>
     cases e;exact fun v H' G' Jf st rel=>q v H' G' Jf st rel
    |nx env'=>
     cases e;exact fun σ' H' G' Jf st rel=>q .non H' G' [] (st.trans (Step.cut fun _ h=>nomatch h)) (rel.nilF.push mU)
    |bk env'=>cases e
    |ct env'=>cases e
  .cases e
def yi(K:W.Frag):Sp:=fun vs H Q _=>∃(a:Yx) (ns:List Int),vs=[.ref a]/\SqL K H a (ns.map V.int)/\ns.length<=63/\∀H',Q (.bl true) H'
def DZ{K:W.Frag}{F:List D->Res R}(h:∀ns:List Int,ns.length<=63->∃o,F [.lst (ns.map D.int)]=.ok (o,.bl true)):∀vs H Q E,yi K vs H Q E->spF K F vs H Q E:=by
 rintro vs H Q E ⟨a,ns,rfl,sq,hl,q⟩;obtain⟨o,e⟩:=h ns hl;refine⟨H,_,_,.refl _,?_,e,fun v H' G' Jf st rel=>?_⟩
 .refine .one ?_;rw[Rep];exact⟨a,_,rfl,sq,fM fun n _=>bO n⟩
 .rw[cY rel.top];exact q H'
def _root_.L2.Room.u65{k:Nat}{A:Yz}(r:Room k A):A.units+65<cLine:=by have:=r.un;lia
def D1(f:FX)(a:FG):FS:=fun env=>(f env).bind fun p=>(a p.1.2 p.2).bind fun e=>.ok (.nx e)
def zI{X:Cx}{tg e:Expr}{f:FX}{a:FG}{pos:Pos}(he:QE X e f)(hg:QG X tg a)(hs:swapsWithSole [tg] e pos.line X.env=pure false:=by rfl)(hw:swappedStores [tg] e X.env=pure none:=by rfl)
  (h1:(assignEach [tg] X.env).map (·.2)=[assign tg X.env]:=by rfl):QS (md:=md) X (.Assign [tg] e pos) (D1 f a):=e9 (C4 he hg hs hw h1) fun Dd σ H Jo=>by
 obtain⟨G,env,fp,rel,k⟩:=Jo;unfold D1 at k;match q:f env,k with
 | .ok (r,Jb),k=>
  have k:OutOk X.K G H fp Dd ((a r.2 Jb).bind fun e=>.ok (.nx e)):=k;match q2:a r.2 Jb,k with
  | .ok Jl,k=>
   refine⟨G,env,fp,r,Jb,rel,q,fun v H1 G1 Ju Jp Jc=>?_⟩;obtain⟨G2,b,rv,Jd,Jj⟩:=Jc.freeze;exact⟨G2,Jb,b,r.2,Jl,Jd,rv,q2,fun σ' G' Jf st JC=>k σ' H1 G' Jf (Jp.trans (Jj.trans st)) JC⟩
def walk{l:PySem.W.OpenLaw}{q:Yy}{loose:List Str}{XP:(Str->Option Yu)->YB->Prop}{YP:World->YB->Prop}{d:DefRec}{K:Params->W.Frag}{k:Nat}{x:Str}(hn:l.most=some 63)(Rc:d.params.defaults=[])(hr:Room k PySem.callerA)
  (hY:∀(w:World) (h:YB),YP w h->(K w.params).In h)
  (F:∀(w:World) (mg:Str->Option Yu) (fa:Yx) (h:YB),(K w.params).In h->h.Ns mainGlobals mg->mg d.name=some (.ref fa)->
   ∃fd:FuncData,(∀(s:Yw) (u:Yu),BindsTo s fd ⟨[u],[]⟩ [(x,u)])/\∀base:YB,(K w.params).In base->base.Ns mainGlobals mg->FnOk l.prog w (K w.params) mg base M3 k fa fd [x] (yi (K w.params))):
  PySem.W.WalkO q loose XP YP l.row.toRowW d [] (fun f vs=>PySem.call f vs):=
 L2.Aw (n:=63) (k:=k) (x:=x) (CX:=fun _=>M3) (sp:=fun w=>yi (K w.params)) hn (by decide) Rc hr hY F (fun _ _ a ns hl _ hS=>⟨a,ns,rfl,hS,hl,fun _=>rfl⟩) fun _ _ _ _ _ z=>z
def vS:bootBuiltins "max" = some (.builtin "max"):=by decide +kernel
def D2:bootBuiltins "all" = some (.builtin "all"):=by decide +kernel
def kZ:bootBuiltins "sorted" = some (.builtin "sorted"):=by decide +kernel
def D3{K:W.Frag}{h:YB}{mg:Str->Option Yu}{x:Str}{st:Stmt}{f:Yx}{oc:Yu}{od an:Option Yx}{N1:Array (Option Yu)}{kV doc pm Jz ct:Yu}(X:K.In h)(G:h.Ns mainGlobals mg)
  (a:PySem.W.nsIn K mainGlobals x=some (some (.ref f))) (l:K.lookup f=some ⟨oc,od,.func (PySem.W.fnOf x x (eU st) (cO st) (defScope st) .none kV doc pm an Jz ct),N1⟩)
  (c:PySem.W.codeIn K Jz x=true) (k:PySem.W.keepIn K (.ref f)=true):Def K mg x st:=⟨f,_,zi l c k,PySem.W.mg_of X G a⟩
inductive tQL(K:W.Frag)(f:FI)(σ:L2.St)(H:Hp)(R:It->Hp->Prop):Prop
 |mk:∀G env fp ds env',Rel K G H env σ fp->f env=.ok (ds,env')->(∀J H' G' Jf,Step G H fp G' H' Jf->Rel K G' H' env' σ Jf->(∀G2,Same G' G2->(∀(i:Nat) (r:PV.R) (v:V),env'[i]?=some (some r)->σ[i]?=some (some v)->Rep K G2 r.2 v)->Walk K G2 J ds)->R J H')->tQL K f σ H R
def P2(X:Cx)(tg e:Expr)(f:FI):Prop:=PI X tg e (tQL X.K f)
def Walk.mono{K:W.Frag}{G G2:Hp}{J:It}{ds:List D}(w:Walk K G J ds)(gg:Same G G2):Walk K G2 J ds:=fun G' H' es vs fp g rel=>w G' H' es vs fp (gg.trans g) rel
def zJ{K:W.Frag}{fi:FI}{ix:List (Option Nat)}{a:FG}{c:FT}{f:FX}{σ:L2.St}{H:Hp}{Q:VK}(h:tQ K (c8 fi ix a c f) σ H Q):Az (tQL K fi) ix (tQG K a) (tQT K c) (tQ K f) σ H Q:=by
 obtain⟨G,env,fp,r,env',rel,e,k⟩:=h;obtain⟨⟨ds,Jb⟩,e1,e⟩:=au e;obtain⟨rs,e2,e⟩:=au e;refine⟨G,env,fp,ds,Jb,rel,e1,fun J H1 G1 Ju Jp Jc wk D hD=>?_⟩;dsimp only at e e2;split at e
 .rename_i hz;have er:r=(.l .f,.lst rs):=by cases e;rfl
  have ee:env'=if flatDs rs then Jb else Jb.map frz:=by cases e;rfl
  subst er;obtain⟨G2,Oo,PU,KA,hrE,KJ⟩:=Jc.lend;have wk2:=wk G2 Oo KA;have Jd:Rel K G2 H1 (d5 ix Jb) (lW ix σ) []:=⟨gm KA (fun i r er=>let⟨v,ev,_⟩:=Jc.view er;⟨v,ev⟩) ix,WH,(fun _ h=>nomatch h),PU⟩
  obtain⟨Jy,JB⟩:=Jd.newL (ds:=[]) (xs:=[]) hD .nil;refine⟨fun i m σ1 H2=>m=ds.length-i/\i<=ds.length/\∃G' es Jf acc dX,Step G2 H1 [] G' H2 Jf/\Rel K G' H2 (some (.l .f,.lst acc)::es) (some (.ref D)::σ1) Jf/\c7 a c f (ds.drop i) es=.ok dX/\acc++dX=rs,
   ⟨_,rfl,VD _,G2,d5 ix Jb,_,[],rs,JB,Jy,e2,rfl⟩,?_⟩
  rintro i m σ1 H2 ⟨rfl,hi,G3,es,Ke,acc,dX,J3,JH,e4,NG⟩;obtain⟨w1,w2⟩:=wk2 G3 H2 _ _ _ J3.gg JH i;by_cases JL:i<ds.length
  .have hd:ds[i]?=some ds[i]:=List.getElem?_eq_getElem JL;obtain⟨go,yl⟩:=w1 _ hd;rw[Xb JL]at e4;unfold c7 at e4;obtain⟨Ul,h1,e4⟩:=au e4;obtain⟨⟨b,RB⟩,h2,e4⟩:=au e4;dsimp only at e4;refine .inr ⟨go,fun x H3 y=>?_⟩;obtain⟨G4,rx,Kq,Lh⟩:=yl x H3 y;obtain⟨fa,fb,Um,ra,relb,bk⟩:=Kq.frame;refine⟨G4,es,fb,ds[i],Ul,relb,rx,h1,fun σ2 G5 RC RD NH=>?_⟩;refine⟨G5,Ul,RC,b,RB,NH,h2,fun H6 G6 QR st7 RE=>?_⟩;have RF:=RD.trans st7;cases b with
   |false=>
    refine iteF ⟨ds.length-(i+1),by lia,rfl,JL,?_⟩;obtain⟨NI,Ov⟩:=bk G6 H6 RB σ2 QR RF RE;rw[<-Um]at Ov;exact⟨G6,RB,_,acc,dX,J3.trans (Lh.trans Ov),NI,e4,NG⟩
   |true=>
    have e4:((f RB).bind fun q=>(c7 a c f (ds.drop (i+1)) q.2).bind fun rs=>.ok (q.1.2::rs))=.ok dX:=e4;obtain⟨⟨r,Tu⟩,h3,e4⟩:=au e4;obtain⟨RG,h4,e4⟩:=au e4;cases e4;refine Fz ⟨G6,RB,QR,r,Tu,RE,h3,fun v H7 G7 fp7 st8 rel8=>?_⟩;obtain⟨G8,fp8,rv,rel9,st9⟩:=rel8.freeze;obtain⟨NI,Ov⟩:=bk G8 H7 Tu σ2 fp8 (RF.trans (st8.trans st9)) rel9;rw[<-Um]at Ov;obtain⟨p,xs,ep,hp,N5,cg⟩:=NI.chg (i:=0) (ds:=acc) (ds':=acc++[r.2]) rfl;have ep:some (some (V.ref D))=some (some (V.ref p)):=ep;cases ep;obtain⟨fq,rely,sty⟩:=cg (xs++[v]) (N5.app (.one rv));refine⟨xs,hp,?_,ds.length-(i+1),by lia,rfl,JL,G8,Tu,fq,acc++[r.2],RG,J3.trans (Lh.trans (Ov.trans sty)),rely,h4,?_⟩
    .rw[N5.length];have:=V5 List.length NG;rw[Vr,Vc]at this;lia
    .rw[<-NG,VH];rfl
  .have ei:i=ds.length:=by lia
   subst ei;rw[Ys]at e4;cases e4;rw[Vo]at NG;subst NG;refine .inl ⟨w2 rfl,?_⟩;obtain⟨fa,relo,sto⟩:=JH.only;obtain⟨k1,k2⟩:=KJ H2 G3 fa _ _ (J3.trans sto) relo;rw[ee]at k;by_cases hc:flatDs acc=true
   .rw[U5 hc]at k;obtain⟨G5,RC,Lh,Kq⟩:=k1 (by rw[aO,kz];exact hc);exact k _ H2 G5 RC (Jp.trans Lh) Kq
   .rw[U8 hc]at k;obtain⟨G5,RC,Lh,Kq⟩:=k2;exact k _ H2 G5 RC (Jp.trans Lh) Kq
 .cases e
section
variable{md:Mode}{X:Cx}{scope:Scope}{N:List Str}{tg iter elt:Expr}{ifs:List Expr}{pos:Pos}{fi:FI}{a:FG}{c:FT}{f:FX}
variable{l e:Expr}{g fj:FI}
theorem bU(h:QI X tg e fi):P2 X tg e fi:=hV h fun σ H R ⟨G,env,fp,ds,env',rel,e,k⟩=>⟨G,env,fp,ds,env',rel,e,fun J H' G' Jf st JC wk=>k J H' G' Jf st JC fun _ gg _=>wk.mono gg⟩
theorem eI(h:P2 X tg e fi)(h2:P2 X tg e fj):P2 X tg e (Kh fi fj):=fun pr s σ H R I Jo=>by
 obtain⟨G,env,fp,ds,env',rel,ee,k⟩:=Jo;rcases zy ee with z|z
 .exact h pr s σ H R I ⟨G,env,fp,ds,env',rel,z,k⟩
 .exact h2 pr s σ H R I ⟨G,env,fp,ds,env',rel,z,k⟩
def jA(i:Nat):FI:=fun env=>match env[i]? with
 |some (some (_,.lst ds))=>.ok (ds,env)
 |_=>.bad
theorem iF{i:Nat}(h:PE X l (tf i)):P2 X tg l (jA i):=hV (uE h) fun σ H R Jo=>by
 obtain⟨G,env,fp,ds,env',rel,e,k⟩:=Jo;unfold jA at e;split at e
 .rename_i o ds hr;cases e;obtain⟨v,ev,rv⟩:=rel.view hr;obtain⟨p,xs,Uo,sq,rs⟩:=bK rv;refine⟨v,ev,p,Uo,⟨xs,sq⟩,k _ H G fp .refl rel fun G2 gg KA=>?_⟩;obtain⟨p',Kl,RH,Kp,Lb⟩:=bK (KA i _ v hr ev);rw[Uo]at RH;cases RH;exact oK Kp Lb
 .cases e
theorem bH(ix:List (Option Nat))(N:List Str)(hc:X.calm=true)(hi:P2 X tg iter fi)(hg:∀C s H fp pn,QG (cn X scope N C s H fp pn) tg a)(ht:∀C s H fp pn,SD (cn X scope N C s H fp pn) ifs c)(he:∀C s H fp pn,QE (cn X scope N C s H fp pn) elt f)
  (hf:iR scope X.env=true:=by rfl) (hk:scope.kind=.function:=by rfl) (JW:∀y∈scope.names,y.2≠.cell:=by decide +kernel) (Kz:∀y∈scope.names,y.2=.local->scope.names.lookup y.1=some .local:=by decide +kernel) (Ky:zk X scope N ix=true:=by rfl)
  (hs:∀x,foldedSetIterable iter X.env x=pure x:=by intro _;rfl):QE X (.ListComp elt [⟨tg,iter,ifs,0⟩] scope pos) (c8 fi ix a c f):=
 bx (AE (g:=tQG X.K a) (tc:=tQT X.K c) (te:=tQ X.K f) ix N hc hi hg ht he hf hk JW Kz Ky hs) fun _ _ _=>zJ
theorem rV{i:Nat}{y:Str}{py Lu:Pos}(ix:List (Option Nat))(N:List Str)(hN:X.N.Nodup)(Tf:X.N[i]?=some y)(hy:Loc X.env.scope y)(hc:X.calm=true)(hi:P2 X tg iter fi)(hg:∀C s H fp pn,QG (cn X scope N C s H fp pn) tg a)(ht:∀C s H fp pn,SD (cn X scope N C s H fp pn) ifs c)
  (he:∀C s H fp pn,QE (cn X scope N C s H fp pn) elt f) (Tg:swapsWith (.ListComp elt [⟨tg,iter,ifs,0⟩] scope pos) (some (.Name y py)) Lu.line X.env=pure true:=by rfl)
  (hf:iR scope X.env=true:=by rfl) (hk:scope.kind=.function:=by rfl) (JW:∀y∈scope.names,y.2≠.cell:=by decide +kernel) (Kz:∀y∈scope.names,y.2=.local->scope.names.lookup y.1=some .local:=by decide +kernel) (Ky:zk X scope N ix=true:=by rfl)
  (hs:∀x,foldedSetIterable iter X.env x=pure x:=by intro _;rfl) (Oa:X.fn y=true\/X.env.scope.names.lookup y=some .local:=by first|exact .inl rfl|exact .inr rfl):
  QS (md:=md) X (.Assign [.Name y py] (.ListComp elt [⟨tg,iter,ifs,0⟩] scope pos) Lu) (bX i (c8 fi ix a c f)):=
 e9 (AF (i:=i) (g:=tQG X.K a) (tc:=tQT X.K c) (te:=tQ X.K f) ix N hN Tf hy hc hi hg ht he Tg hf hk JW Kz Ky hs Oa) fun D σ H ⟨G,env,fp,rel,k⟩=>zJ (vC rel k)
end
section
variable{X:Cx}{a:Expr}{pos:Pos}{fa:FO}
def FD(fa:FO):FX:=fun env=>(fa env).bind fun p=>(Kf p.2 p.1).bind fun d=>match d with
 | .int i=>.ok ((.f,.int (-i)),p.2)
 |_=>.bad
theorem zL(ha:QO X a fa):QE X (.UnaryOp .USub a pos) (FD fa):=bx (F4 Dh ha) fun σ H Q Jo=>by
 obtain⟨G,env,fp,r,env',rel,e,k⟩:=Jo;obtain⟨⟨o,e1⟩,h1,e⟩:=au e;obtain⟨d,h2,e⟩:=au e;dsimp only at e;split at e
 .rename_i i;cases e;refine⟨G,env,fp,o,_,rel,h1,fun v H1 G1 Ju Jp Jc J5=>?_⟩;have:=bz (Jc.vw J5 h2);exact⟨i,this,k _ H1 G1 Ju Jp (Jc.push (bO _))⟩
 .cases e
theorem vT{i:Int}(h:i.natAbs<2 ^ 1000):Builtin.Int.intBits i<=2 ^ 20:=by
 unfold Builtin.Int.intBits;split
 .exact VD _
 .rename_i h0;have h1:i.natAbs≠0:=by
   intro e;rw[Int.natAbs_eq_zero]at e;exact h0 (by rw[e];rfl)
  have:=(Nat.log2_lt h1).mpr h;have e:(2:Nat) ^ 20=1048576:=by decide
  lia
theorem Bm:JT X (binaryOp .Mult) (rI (fun i j=>i.natAbs<2 ^ 1000/\j.natAbs<2 ^ 1000) fun i j=>.int (i*j)):=Q7 fun _ _ _ _ _ _ _ hc q=>mul_int q (.of_bits (vT hc.1) (vT hc.2))
theorem oU{α:Type}:∀(ls:List (Array α)) (acc:Array α),(ls.foldl (·++·) acc).toList=acc.toList++(ls.map Array.toList).flatten
 |[],acc=>by simp
 |a::ls,acc=>by
  rw[W0,oU ls,Array.toList_append,Vf,Wo,VH]
theorem GF(l:List Nat)(n:Nat):(⟨(List.replicate n (S l).cps).foldl (·++·) #[]⟩:Str)=S (List.replicate n l).flatten:=by
 have h:((List.replicate n (S l).cps).foldl (·++·) #[]).toList=(List.replicate n l).flatten:=by
  rw[oU,List.map_replicate];simp only[dy,W4]
 show Str.mk _=Str.mk _;rw[<-h]
theorem Bn(a b:Int):Gv (.int a) (.int b)=if dE a||dE b then .ok (.f,.int (a*b)) else .bad:=rfl
noncomputable def Bo:D->D->Res R
 | .int i,.int j=>if dE i||dE j then .ok (.f,.int (i*j)) else if i.natAbs<2 ^ 1000/\j.natAbs<2 ^ 1000 then .ok (.f,.int (i*j)) else .bad
 | .str l,.int k=>if 2<=k/\k<=1000/\1<=l.length/\l.length<=1000 then .ok (.f,.str (List.replicate k.toNat l).flatten) else .bad
 |_,_=>.bad
theorem Bp:JT X (binaryOp .Mult) (rG X.K Bo):=by
 rintro pr s σ H x y v u Q I rx ry ⟨G,fp,es,vs,a,b,r,⟨rel,k⟩,va,vb,e⟩;unfold Bo at e;split at e
 .rename_i i j;split at e
  .rename_i hc;exact DN pr s σ H x y v u Q I rx ry ⟨G,fp,es,vs,.int i,.int j,r,⟨rel,k⟩,va,vb,by rw[Bn,U5 hc];exact e⟩
  .split at e
   .rename_i hc;cases e;cases bz va;cases bz vb;exact Bm pr s σ H _ _ v u Q I rx ry ⟨i,j,rfl,rfl,hc,k _ H G fp .refl (rel.push (bO _))⟩
   .cases e
 .rename_i l j;split at e
  .rename_i hc;cases e;obtain⟨ev,hl⟩:=fW va;subst ev;cases bz vb;obtain⟨t,rfl⟩:=rx;obtain⟨t',rfl⟩:=ry;have hlen:(S l).length=l.length:=lN l;have hz:(List.replicate j.toNat l).flatten.length<=1000000:=by
    rw[mF];exact Nat.mul_le_mul (by lia:j.toNat<=1000) hc.2.2.2
   have N6:(List.replicate j.toNat l).flatten.length<=sizeLine:=Vx hz (by decide);refine PySem.P.mul_str ?_ ?_ ?_ ?_
   .rw[Vq (by lia),Vq (by lia)];rfl
   .intro _ _;rw[hlen];have h1:1000<=(2 ^ 63-1) / j:=(Int.le_ediv_iff_mul_le (by lia)).mpr (by lia);lia
   .intro _ _;unfold Builtin.Str.tooLong;rw[VZ,hlen,ZL,<-mF];lia
   .rw[U8 (by lia),U8 (by rw[hlen,YH,VL,VL];lia),GF];refine⟨?_,?_⟩
    .rw[lN];exact N6
    .exact⟨.str (S (List.replicate j.toNat l).flatten),H,I.tok _,⟨_,rfl⟩,k _ H G fp .refl (rel.push (iw N6))⟩
  .cases e
 .cases e
end
end PV
namespace HT
open PySem PySem.Spec PyProof.Rows L2
variable{prog:Yy}{w:World}{A:Yz}{E:Yu->Yw->Prop}{s:Yw}
theorem i8{t sl:Yx}{items:Array Yu}{vl vu:Yu}{lo hi:Option Int}{Q:Yu->Yw->Prop}(ht:IsTup s.heap t items)(hs:s.heap.IsSliceOf sl vl vu .none)(pl:IsPart vl lo)(pu:IsPart vu hi)
  (hw:sIx items.size 0 lo=0/\sIx items.size items.size hi=items.size) (h:Q (.ref t) s):wpAny (model prog w) A (getItem (.ref t) (.ref sl)) Q E s:=by
 obtain⟨os,Oc,Sq,Np⟩:=id hs;have S9:s.TypeIs (.ref sl) "slice":=⟨os,Oc,Sq⟩
 unfold getItem;try with_reducible refine WA ?_
 first|refine UX (U1 ?_)|skip
 refine UX (wpAny_sequenceKey ht.typeIs (by decide) ?_);refine UX (wpAny_callSpecial?_slot (name:=Str.ofString "__getitem__") ht.typeIs Wd
  (VQ Wd ht.typeIs entry_tuple_getitem ?_ (args_tuple_getitem _ _)))
 show wpAny _ _ (Builtin.Tuple.tupleItemsOf (.ref t) >>= _) _ _ s;refine UX (tupleItemsOf_ ht ?_);refine UX (Xi S9 ?_);rw[U5 (by decide)];refine UX (fU hs pl pu ?_);have hyes:(((sIx items.size 0 lo:Nat):Int)==0&&(1:Int)==1&&(sIx items.size items.size hi-sIx items.size 0 lo)==items.size)=true:=by
  rw[hw.1,hw.2];simp
 show wpAny _ _ (if(((sIx items.size 0 lo:Nat):Int)==0&&(1:Int)==1&&(sIx items.size items.size hi-sIx items.size 0 lo)==items.size)=true then _ else _) _ _ s;rw[U5 hyes];refine UX (m:=Builtin.Tuple.tupleIsExact _) ?_;unfold Builtin.Tuple.tupleIsExact;refine UX (Xi ht.typeIs (U1 ?_));rw[U5 (by decide)];exact UX (Ye (U1 ⟨_,rfl,U1 h⟩))
end HT
namespace PV
open PySem PySem.Spec PyProof.Rows L2 NX
section
variable{X:Cx}{pos:Pos}{fa:FO}
theorem Bq:Pt X (fun x lo hi H Q=>∃a xs,x=.ref a/\SqT X.K H a xs/\(HT.sIx xs.length 0 lo=0/\HT.sIx xs.length xs.length hi=xs.length)/\Q x H):=by
 intro pr s σ H x v vl vu lo hi sl Q I rx hs pl pu h;obtain⟨a,xs,rfl,hx,hw,q⟩:=h;cases rx;obtain⟨Je,r,ht,hz⟩:=I.tuple hx;have hlen:Je.toArray.size=xs.length:=by rw[U0];exact r.length.symm
 refine⟨"tuple",_,PyProof.Rows.slot_tuple_getitem.lookup,ht.typeIs,?_⟩;exact HT.i8 ht hs pl pu (by rw[hlen];exact hw) ⟨.ref a,H,I,rfl,q⟩
def RI(k:D)(lo hi:Option Int):Res R:=match k with
 | .tup ds=>if HT.sIx ds.length 0 lo=0/\HT.sIx ds.length ds.length hi=ds.length then .ok (.f,.tup ds) else Rw k lo hi
 |_=>Rw k lo hi
def xA(fa:FO)(lo hi:FP):FX:=fun env=>(fa env).bind fun p=>(lo p.2).bind fun q=>(hi q.2).bind fun t=>(Kf t.2 p.1).bind fun d=>(RI d q.1 t.1).bind fun r=>.ok (r,t.2)
inductive rSlW(K:W.Frag)(x:V)(lo:Option Int)(hi:Option Int)(H:Hp)(Q:VK):Prop
 |mk:∀G fp es vs d r,Goes K H G fp es vs r Q->Vw K G H d x->RI d lo hi=.ok r->rSlW K x lo hi H Q
theorem D4:Pt X (rSlW X.K):=by
 rintro pr s σ H x v vl vu lo hi sl Q I rx hs pl pu ⟨G,fp,es,vs,d,r,⟨rel,k⟩,vd,e⟩;unfold RI at e;split at e
 .rename_i ds;split at e
  .rename_i hw;cases e;obtain⟨p,xs,ev,sq,rs⟩:=hU vd;subst ev;refine Bq pr s σ H _ v vl vu lo hi sl Q I rx hs pl pu ⟨p,xs,rfl,bW rel.gh sq,by rw[rs.length];exact hw,?_⟩;exact k _ H G fp .refl (rel.push vd)
  .exact DO pr s σ H x v vl vu lo hi sl Q I rx hs pl pu ⟨G,fp,es,vs,_,r,⟨rel,k⟩,vd,e⟩
 .exact DO pr s σ H x v vl vu lo hi sl Q I rx hs pl pu ⟨G,fp,es,vs,_,r,⟨rel,k⟩,vd,e⟩
theorem jT{e:Expr}{lo hi:Option Expr}{p2:Pos}{fl fh:FP}(he:QO X e fa)(hl:QP X lo fl)(hh:QP X hi fh):QE X (.Subscript e (.Slice lo hi none p2) pos) (xA fa fl fh):=
 bx (xM D4 he hl hh) fun σ H Q Jo=>by
  obtain⟨G,env,fp,r,env',rel,e,k⟩:=Jo;obtain⟨⟨o,Jb⟩,e1,e⟩:=au e;obtain⟨⟨i,Jl⟩,e2,e⟩:=au e;obtain⟨⟨j,JO⟩,e3,e⟩:=au e;obtain⟨d,e4,e⟩:=au e;obtain⟨r',e5,e⟩:=au e;cases e;exact⟨G,env,fp,o,Jb,rel,e1,fun v H1 G1 Ju Jp Jc J5=>⟨G1,Jb,Ju,i,Jl,Jc,e2,fun H2 G2 JF Jj Jd=>⟨G2,Jl,JF,j,JO,Jd,e3,fun H3 G3 Ke JB Jy=>
   ⟨G3,Ke,JO,σ,d,r,⟨Jy,fun v H' G' Jf st JC=>k v H' G' Jf (Jp.trans (Jj.trans (JB.trans st))) JC⟩,Jy.vw ((J5.mono Jj.gg).mono JB.gg) e4,e5⟩⟩⟩⟩
end
end PV
namespace L2
open PySem PySem.Spec PyProof.Rows
def RJ(lo c:Int)(n:Nat):It where
 go:=fun i _=>i<n
 yld:=fun i H x H'=>H'=H/\x=V.int (lo+(i:Int)*c)
 stop:=fun i _=>n<=i
def l8{P:Yy}{w:World}{K:W.Frag}{tg:Expr}(it:Yx)(lo c:Int)(n:Nat):Turn P w K tg (RJ lo c n) [it] it (fun i h=>IsRangeIter h it (lo+(i:Nat)*c) ((n:Int)-(i:Nat)) c) where
 mem:=by simp
 obj:=fun i h st b hb=>by
  have e:b=it:=by simpa using hb
  subst e;exact⟨_,st,fun v z=>by
   have z':Data.fields _=Data.cell v:=z;cases z'⟩
 keep:=fun i h h' st k=>k it (by simp) _ st
 item:=by
  intro X hP hw hK hc i pr s σ H E I hf st hg;subst hP hw hK;obtain⟨f0,f1,f2,f3,f4,f5⟩:=hf it (by simp);have W:=Walks.range (prog:=X.prog) (w:=X.w) (I.ok.hd hc) it lo c n;refine W.item i s _ _ hg st fun v h' tk hv Kx kk=>?_
  obtain⟨t,rfl⟩:=hv;have I1:Inv X pr σ H {s with heap:=h',toks:=tk}:=I.turned (fun b o hb e=>kk b o (by simpa using hb) e) f0 f1 f3 f4 f5;exact⟨_,rfl,tj (s:={s with heap:=h',toks:=tk}) (n:="range_iterator") Kx rfl rfl (by decide) ⟨.int (lo+i*c),H,I1,⟨t,rfl⟩,⟨rfl,rfl⟩,Kx,fun b hb=>(hf b hb).1⟩⟩
 done:=by
  intro X hP hw hK hc i pr s σ H E I hf st hg;subst hP hw hK;obtain⟨f0,f1,f2,f3,f4,f5⟩:=hf it (by simp);exact wpAny_pyNext_range_end (I.ok.hd hc) st (by have:n<=i:=hg;lia) fun h' eb=>⟨rfl,I.turned (t':=s.toks) (fun b o hb e=>eb b o hb e) f0 f1 f3 f4 f5⟩
 self:=fun _ _ _ _ _ st h=>Xr st h
def gU{n:Int}(h:-(2 ^ 63)<=n)(h2:n<2 ^ 63):Builtin.Range.rangeFitsLong n=true:=by
 unfold Builtin.Range.rangeFitsLong;simp;lia
def jU{lo hi c:Int}(h1:-1048576<=lo)(h2:lo<=1048576)(h3:-1048576<=hi)(h4:hi<=1048576)(hc:c = -1\/1<=c):0<=Builtin.Range.rangeSize lo hi c/\Builtin.Range.rangeSize lo hi c<=4194304:=by
 unfold Builtin.Range.rangeSize;rcases hc with rfl|hc
 .rw[U8 (by decide)];split
  .show 0<=(lo-hi-1) / 1+1/\(lo-hi-1) / 1+1<=_;rw[Int.ediv_one];lia
  .lia
 .rw[U5 (by lia)];split
  .have:=Int.ediv_le_self c (show 0<=hi-lo-1 by lia);have:=Int.ediv_nonneg (show 0<=hi-lo-1 by lia) (show 0<=c by lia);lia
  .lia
def qj{lo hi c:Int}(h1:-1048576<=lo)(h2:lo<=1048576)(h3:-1048576<=hi)(h4:hi<=1048576)(hc:c = -1\/1<=c)(h5:c<=1048576):Builtin.Range.small lo hi c=true:=by
 obtain⟨r1,r2⟩:=jU h1 h2 h3 h4 hc;unfold Builtin.Range.small;rw[gU (by lia) (by lia),gU (by lia) (by lia),gU (by lia) (by lia),gU (by lia) (by lia),gU (by lia) (by lia),gU (by lia) (by lia)];simp
section
variable{X:Cx}{tg:Expr}
theorem yj{pr:List (Yx×Obj)}{σ:St}{H:Hp}{s:Yw}{R:It->Hp->Prop}{E:Yu->Yw->Prop}{lo hi c:Int}{t u v:Tok}{tk:Nat}(I:Inv X pr σ H s)(sm:Builtin.Range.small lo hi c=true)(r0:0<=Builtin.Range.rangeSize lo hi c)
  (q:R (RJ lo c (Builtin.Range.rangeSize lo hi c).toNat) H):wpAny (model X.prog X.w) X.A (pyIter (.ref s.heap.objs.size)) (S2 X pr σ tg R) E {s with heap:=s.heap.push {cls:=.type "range",data:=.fields #[.int lo t,.int hi u,.int c v]},toks:=tk}:=by
 refine wpAny_pyIter_range (IsRange.new ..) sm ?_;have I1:Inv X pr σ H {s with heap:=s.heap.push {cls:=.type "range",data:=.fields #[.int lo t,.int hi u,.int c v]},toks:=tk}:=I.kept fun b o e=>Heap.get?_push_of_some _ e
 refine⟨(s.heap.push {cls:=.type "range",data:=.fields #[.int lo t,.int hi u,.int c v]}).objs.size,[(s.heap.push {cls:=.type "range",data:=.fields #[.int lo t,.int hi u,.int c v]}).objs.size],_,_,H,rfl,
  I1.kept (t':=tk) fun b o e=>Heap.get?_push_of_some _ e,l8 _ lo c (Builtin.Range.rangeSize lo hi c).toNat,?_,fun b hb=>?_,q⟩
 .have e1:lo+((0:Nat):Int)*c=lo:=by simp
  have e2:(((Builtin.Range.rangeSize lo hi c).toNat:Nat):Int)-((0:Nat):Int)=Builtin.Range.rangeSize lo hi c:=by lia
  show IsRangeIter _ _ (lo+((0:Nat):Int)*c) ((((Builtin.Range.rangeSize lo hi c).toNat:Nat):Int)-((0:Nat):Int)) c;rw[e1,e2];exact Heap.get?_push_size _ rfl
 .have e:b=(s.heap.push {cls:=.type "range",data:=.fields #[.int lo t,.int hi u,.int c v]}).objs.size:=by simpa using hb
  subst e;exact I1.fpOk (U6 _) (I1.hok.fresh (U6 _))
def k4(i j c:Int):Prop:=(-1048576<=i/\i<=1048576)/\(-1048576<=j/\j<=1048576)/\(c = -1\/1<=c)/\c<=1048576
instance (i j c:Int):Decidable (k4 i j c):=by unfold k4;infer_instance
def GH(ta:TA):TI:=fun σ H R=>ta σ H fun vs H1=>∃i j c:Int,vs=[.int i,.int j,.int c]/\k4 i j c/\R (RJ i c (Builtin.Range.rangeSize i j c).toNat) H1
theorem yk{x c:Int}(hc:c = -1\/1<=c)(h5:c<=1048576):Builtin.divisionGoesByPylong x c=false:=by
 unfold Builtin.divisionGoesByPylong;have h:¬ ((if(c==0)=true then 0 else c.natAbs.log2 / 30+1)>300):=by
  split
  .lia
  .have:c.natAbs.log2<60:=(Nat.log2_lt (by lia)).mpr (by lia);lia
 simp only[Vq h,XA]
theorem vU{a b d:Expr}{ta:TA}{p pos:Pos}(hg:Gl X "range")(hm:X.mg "range" = none)(ha:PA X [a,b,d] ta)(hs:starEach [a,b,d] X.env=[(false,eval a X.env),(false,eval b X.env),(false,eval d X.env)]:=by rfl)(MY:starEach [b,d] X.env=[(false,eval b X.env),(false,eval d X.env)]:=by rfl):
  PI X tg (.Call (.Name "range" p) [a,b,d] [] pos) (GH ta):=by
 intro pr s σ H R I h;refine Call_ (g8 I hg hm boot_range (VM (Jt (ha pos pr s σ H _ I h) fun us s1 ⟨vs,H1,I1,r1,q1⟩=>?_) (by rw[hs,MY]) (by rw[MY];rfl)));obtain⟨i,j,c,e,⟨⟨q1,q2⟩,⟨q3,q4⟩,q5,q6⟩,q⟩:=q1;subst e;cases r1 with
 |cons r rr=>
  cases rr with
  |cons r' rr=>
   cases rr with
   |cons r'' rr=>
    cases rr;obtain⟨t,rfl⟩:=r;obtain⟨t',rfl⟩:=r';obtain⟨t'',rfl⟩:=r'';exact call_range_3 (by lia) (yj (tk:=s1.toks) I1 (qj q1 q2 q3 q4 q5 q6) (jU q1 q2 q3 q4 q5).1 q) (.inl (yk q5 q6))
end
end L2
namespace PV
open PySem PySem.Spec PyProof.Rows L2 NX
section
variable{X:Cx}{tg:Expr}
def I0:List D->Res R
 |[d]=>match(oN d).bind dQ with
  |some (n::ns)=>.ok (.f,.int (Gi (n::ns)))
  |_=>.bad
 |[.int i,.int j]=>.ok (.f,.int (if j<i then j else i))
 |_=>.bad
def Ja:List D->Res R
 |[.int i]=>.ok (.f,.int (if i<0 then -i else i))
 |_=>.bad
noncomputable def ql(fs:FOs):FI:=fun env=>(fs env).bind fun p=>(ders p.2 p.1).bind fun d=>match d with
 |[.int i,.int j,.int c]=>if k4 i j c then .ok ((List.range (Builtin.Range.rangeSize i j c).toNat).map fun(k:Nat)=>D.int (i+(k:Int)*c),p.2) else .bad
 |_=>.bad
theorem l9{K:W.Frag}{G:Hp}(lo c:Int)(n:Nat):Walk K G (RJ lo c n) ((List.range n).map fun(k:Nat)=>D.int (lo+(k:Int)*c)):=by
 intro G' H' es vs fp gg rel i;refine⟨fun d hd=>?_,fun e=>?_⟩
 .rw[List.getElem?_map]at hd;cases hc:(List.range n)[i]? with
  |none=>rw[hc]at hd;cases hd
  |some c=>
   rw[hc]at hd;cases hd;obtain⟨h1,h2⟩:=List.getElem?_eq_some_iff.mp hc;rw[Vi]at h1;rw[X4]at h2;subst h2;refine⟨h1,fun x H2 ⟨e1,e2⟩=>?_⟩;subst e1;exact⟨G',by rw[e2];exact bO _,rel,.refl⟩
 .rw[UZ,Vi]at e;exact ZK e.symm
theorem vV{a b d:Expr}{fs:FOs}{p pos:Pos}(hg:Gl X "range")(hm:X.mg "range" = none)(ha:Mj X [a,b,d] fs)(hs:starEach [a,b,d] X.env=[(false,eval a X.env),(false,eval b X.env),(false,eval d X.env)]:=by rfl)(MY:starEach [b,d] X.env=[(false,eval b X.env),(false,eval d X.env)]:=by rfl):
  QI X tg (.Call (.Name "range" p) [a,b,d] [] pos) (ql fs):=
 hV (vU hg hm ha hs MY) fun σ H R Jo=>by
  obtain⟨G,env,fp,ds,env',rel,e,k⟩:=Jo;obtain⟨⟨o,Jb⟩,e1,e⟩:=au e;obtain⟨d,e2,e⟩:=au e;dsimp only at e;split at e
  .rename_i i j c;split at e
   .rename_i hj;cases e;refine⟨G,env,fp,o,_,rel,e1,fun vs H1 G1 Ju Jp Jc J5=>?_⟩;obtain⟨y,ys,ev,v1,z,zs,Ru,v2,y3,zs3,SF,v3,e3⟩:=Jc.vws J5 e2;have e3:zs3=[]:=e3;subst e3;have h1:=bz v1;have h2:=bz v2;have h3:=bz v3;subst h1 h2 h3 SF Ru;exact⟨i,j,c,ev,hj,k _ H1 G1 Ju Jp Jc (l9 i c _)⟩
   .cases e
  .cases e
end
end PV
namespace NX
open PySem PySem.Spec PyProof.Rows L2
section
open PySem.SeqAt
open PySem.AutoSeq1 (wpAny_loadPart')
def k7{M:Model}{A:Yz}{E:Yu->Yw->Prop}{s:Yw}{β:Type}(f:Nat->β->Sem (ForInStep β))(n:Nat)(I:Nat->β->Yw->Prop)(Q:β->Yw->Prop)
  (turn:∀(i:Nat) (b:β) (s:Yw),i<n->I i b s->wpAny M A (f i b) (fun r s'=>match r with | .yield b'=>I (i+1) b' s' | .done b'=>Q b' s') E s)
  (fin:∀(b:β) (s:Yw),I n b s->Q b s) (b:β) (h:I 0 b s):wpAny M A (forIn [0:n] b f) Q E s:=by
 rw[Std.Legacy.Range.forIn_eq_forIn_range'];refine Yr f (fun dX b s=>∃i,i<=n/\dX=List.range' i (n-i)/\I i b s) Q ?_ ?_ _ b ?_
 .rintro x dX b s ⟨i,hi,hr,h⟩;by_cases Tv:i<n
  .have e:n-i=(n-(i+1))+1:=by lia
   rw[e,List.range'_succ]at hr;injection hr with h1 h2;subst h1;refine Jt (turn x b s Tv h) fun r s' Up=>?_
   cases r with
   |yield b'=>exact⟨x+1,by lia,h2,Up⟩
   |done b'=>exact Up
  .have e:n-i=0:=by lia
   rw[e]at hr;cases hr
 .rintro b s ⟨i,hi,hr,h⟩;by_cases Tv:i<n
  .have e:n-i=(n-(i+1))+1:=by lia
   rw[e,List.range'_succ]at hr;cases hr
  .have e:i=n:=by lia
   subst e;exact fin b s h
 .refine⟨0,VD _,?_,h⟩;simp[Std.Legacy.Range.size]
def kh(l:Yx)(items:Array Yu)(n:Nat)(dd:Option Yx)(sl:Array (Option Yu))(ns:List Str)(c:Str)(t:Tok)(hi:Vals (ns.map V.str) items.toList)(i:Nat)(hx:ns[i]?=some c)(h0:∀j,j<i->ns[j]?≠some c):
  Meets (Builtin.«tuple.index» ⟨[.ref l,.str c t],[]⟩)
   (fun _ R s=>s.heap.get? l=some {cls:=.type "tuple",dict:=dd,data:=.seq items n,slots:=sl}/\R (.ok (.ret (.int (i:Int) s.toks))) {s with toks:=s.toks+1}):=
 .of_wp fun prog w A R s h=>by
  obtain⟨hp,g,d,tk,os⟩:=s;obtain⟨hl,h⟩:=h;have z1:items.size=ns.length:=by have:=hi.length;simp at this;lia
  have Tv:i<ns.length:=(List.getElem?_eq_some_iff.mp hx).1;have key:∀(j:Nat),j<ns.length->∃(b:Str) (u:Tok),items[j]?=some (.str b u)/\ns[j]?=some b:=by
   intro j hj;obtain⟨v,hv,hr⟩:=hi.get (i:=j) (x:=V.str ns[j]) (by simp[hj]);obtain⟨u,rfl⟩:=hr;exact⟨ns[j],u,by rw[<-Array.getElem?_toList];exact hv,by simp[hj]⟩
  wp_walk using wpAny_loadPart' hl,k7 _ _ (fun j b s'=>b.1=none/\s'=⟨hp,g,d,tk,os⟩/\j<=i) _
  case turn=>
   rintro j ⟨b1,b2⟩ s' hj ⟨hb,rfl,Uq⟩;simp only at hb;subst hb;obtain⟨b,u,e1,e2⟩:=key j (by lia);have he:EqAt A.in1 ⟨hp,g,d,tk,os⟩ (.str b u) (.str c t) (b==c):=EqAt.str_str b u c t;by_cases hbc:b=c
   .have hji2:j=i:=by
     rcases Nat.lt_or_ge j i with JL|hge
     .exact absurd (by rw[e2,hbc]) (h0 j JL)
     .lia
    subst hji2 hbc;rw[e1];refine UX (he prog w _ _ ?_);rw[show(b==b)=true from Wg b]
    wp_walk
    exact⟨_,rfl,h⟩
   .rw[e1];refine UX (he prog w _ _ ?_);rw[show(b==c)=false from V2.mpr hbc]
    wp_walk
    refine⟨rfl,rfl,?_⟩;rcases Nat.lt_or_ge j i with JL|hge
    .exact JL
    .have:j=i:=by lia
     subst this;rw[e2]at hx;cases hx;exact absurd rfl hbc
  case fin=>
   rintro⟨b1,b2⟩ s' ⟨hb,rfl,Uq⟩;rw[Nat.min_self]at Uq;lia
  case h=>exact⟨rfl,rfl,VD _⟩
end
end NX
namespace L2
open PySem PySem.Spec PyProof.Rows
section
variable{X:Cx}{o e:Expr}{es:List Expr}{to:TE}{t:TA}{name:Str}{apos Jr:Pos}{id:String}{r:V->List V->Hp->VK->Prop}
def Iz(K:W.Frag)(r:V->List V->Hp->VK->Prop)(to:TE)(t:TA):TE:=fun σ H Q=>to σ H fun x H1=>(∃p ys,x=.ref p/\SqT K H1 p ys)/\t σ H1 fun xs H2=>r x xs H2 Q
theorem D5(slot:Slot "tuple" name id)(M1:typeOf (.builtin id)=pure (.type "method_descriptor"))(hm:Od X id r)(ho:PE X o to)(ha:PA X (e::es) t)
  (JQ:attributeBase o name X.env (eval o X.env)=eval o X.env:=by rfl)
  (KW:((backTo Jr (starEach (e::es) X.env)).all (fun x=>!x.1)&&(backToKw Jr (keywordEach [] X.env)).all (fun x=>x.1.isSome)
   && decide ((e::es).length+([]:List Keyword).length+(if([]:List Keyword).isEmpty then 0 else 1)<30))=true:=by rfl)
  (JR:(apos.endLine==Jr.line)=true:=by rfl) (hs:starEach (e::es) X.env=(false,eval e X.env)::starEach es X.env:=by rfl) (JM:(backTo Jr (starEach es X.env)).any (·.1)=false:=by rfl):
  PE X (.Call (.Attribute o name apos) (e::es) [] Jr) (Iz X.K r to t):=by
 intro pr s σ H Q I h;refine wpAny_Call_method_late JQ KW JR rfl (Jt (ho pr s σ H _ I h) fun v s1 Jx=>?_);obtain⟨x,H1,I1,r1,⟨p,ys,ex,sq⟩,q1⟩:=Jx;subst ex;cases r1;obtain⟨Je,_,⟨ob,ho,hc,⟨n,hd⟩,hn⟩,_⟩:=I1.tupleN sq;refine⟨"tuple",id,PySem.F.plainAttrs_tuple,slot,M1,⟨ob,ho,hc⟩,fun a e2=>?_,?_⟩
 .cases e2;exact⟨ob,ho,hn⟩
 have hA:=ha Jr pr s1 σ H1 _ I1 q1;rw[hs]at hA ⊢;refine Xt (by show(false||(backTo Jr (starEach es X.env)).any (·.1))=false;rw[JM] <;> rfl) (Calls.evalArgs_plain ?_);exact Jt hA fun us s2 ⟨vs,H2,I2,r2,q2⟩=>hm pr s2 σ H2 (.ref p) vs _ us Q I2 rfl r2 q2
end
end L2
namespace PV
open PySem PySem.Spec PyProof.Rows L2 NX
section
variable{X:Cx}
noncomputable def D6(g:List D->List D->Res R)(fa:FO)(fs:FOs):FX:=fun env=>(fa env).bind fun p=>(Kf p.2 p.1).bind fun a=>match a with
 | .tup _=>(fs p.2).bind fun q=>(Kf q.2 p.1).bind fun a2=>match a2 with
  | .tup l=>(ders q.2 q.1).bind fun ds=>(g l ds).bind fun r=>.ok (r,q.2)
  |_=>.bad
 |_=>.bad
inductive rMtT(K:W.Frag)(g:List D->List D->Res R)(x:V)(xs:List V)(H:Hp)(Q:VK):Prop
 |mk:∀G fp es vs l ds r,Goes K H G fp es vs r Q->Vw K G H (.tup l) x->Pg K G H ds xs->g l ds=.ok r->rMtT K g x xs H Q
theorem vW{g:List D->List D->Res R}{id:String}{name:Str}{o e:Expr}{es:List Expr}{fa:FO}{fs:FOs}{apos Jr:Pos}(slot:Slot "tuple" name id)(M1:typeOf (.builtin id)=pure (.type "method_descriptor"))(hm:Od X id (rMtT X.K g))(ho:QO X o fa)(ha:Mj X (e::es) fs)
  (JQ:attributeBase o name X.env (eval o X.env)=eval o X.env:=by rfl)
  (KW:((backTo Jr (starEach (e::es) X.env)).all (fun x=>!x.1)&&(backToKw Jr (keywordEach [] X.env)).all (fun x=>x.1.isSome)&&decide ((e::es).length+([]:List Keyword).length+(if([]:List Keyword).isEmpty then 0 else 1)<30))=true:=by rfl)
  (JR:(apos.endLine==Jr.line)=true:=by rfl) (hs:starEach (e::es) X.env=(false,eval e X.env)::starEach es X.env:=by rfl) (JM:(backTo Jr (starEach es X.env)).any (·.1)=false:=by rfl):
  QE X (.Call (.Attribute o name apos) (e::es) [] Jr) (D6 g fa fs):=by
 refine bx (D5 slot M1 hm ho ha JQ KW JR hs JM) fun σ H Q Jx=>?_
 obtain⟨G,env,fp,r,env',rel,e,k⟩:=Jx;obtain⟨⟨oa,Jb⟩,e1,e⟩:=au e;obtain⟨da,Ol,e⟩:=au e;dsimp only at e;split at e
 .obtain⟨⟨os,Jl⟩,e2,e⟩:=au e;obtain⟨d2,hd2,e⟩:=au e;dsimp only at e;split at e
  .obtain⟨ds,e3,e⟩:=au e;obtain⟨r',e4,e⟩:=au e;cases e;refine⟨G,env,fp,oa,Jb,rel,e1,fun v H1 G1 Ju Jp Jc J5=>?_⟩;obtain⟨p,xs,ev,sq,_⟩:=bF (Vw.rep Jc.gh (Jc.vw J5 Ol));exact⟨⟨p,xs,ev,sq⟩,G1,Jb,Ju,os,_,Jc,e2,fun vs H2 G2 JF Jj Jd M7=>⟨G2,JF,_,σ,_,ds,r,⟨Jd,fun v H' G' Jf st JC=>k v H' G' Jf (Jp.trans (Jj.trans st)) JC⟩,Jd.vw (J5.mono Jj.gg) hd2,Jd.vws M7 e3,e4⟩⟩
  .cases e
 .cases e
def oV(l:List D):List D->Res R
 |[.str c]=>match fX l with
  |some bs=>if c∈bs then .ok (.f,.int (bs.idxOf c:Nat)) else .bad
  |none=>.bad
 |_=>.bad
theorem D7{a b:List Nat}(h:S a=S b):a=b:=by
 have:=V5 (fun s:Str=>s.cps.toList) h;simpa only[dy] using this
theorem rW:∀(bs:List (List Nat)) (c:List Nat) (j:Nat),bs[j]?=some c->bs.idxOf c<=j
 |[],c,j,h=>by simp at h
 |b::bs,c,0,h=>by
  simp at h;subst h;simp[List.idxOf_cons]
 |b::bs,c,j+1,h=>by
  rw[List.getElem?_cons_succ]at h;have:=rW bs c j h;rw[List.idxOf_cons];cases b==c with
  |true=>exact VD _
  |false=>exact Nat.succ_le_succ this
theorem iG:Od X "tuple.index" (rMtT X.K oV):=by
 rintro pr s σ H x xs v us Q I rx rv ⟨G,fp,es,vs,l,ds,r,⟨rel,k⟩,vx,vd,e⟩;unfold oV at e;split at e
 .rename_i c;split at e
  .rename_i bs hb;split at e
   .rename_i hc;cases e;obtain⟨p,ys,ev,sq,rs⟩:=bF (Vw.rep rel.gh vx);obtain⟨hy,_⟩:=iE hb rs;subst ev;cases rx;obtain⟨w',ew,vc⟩:=nS vd;obtain⟨ev,_⟩:=fW vc;subst ew;subst ev;obtain⟨u,rfl,t',rfl⟩:=f9 rv;obtain⟨Je,vl,⟨ob,h1,h2,⟨n,h3⟩,h4⟩,_⟩:=I.tupleN sq;subst hy;obtain⟨cls,dict,data,slots⟩:=ob;dsimp only at h2 h3 h4;subst h2 h3 h4;have JL:=VY hc;refine PySem.call_meets WL ⟨_,h1,rfl⟩ PySem.F.entry_tuple_index (PySem.F.args_tuple_index_2 _ _) (kh p Je.toArray n _ _ (bs.map S) (S c) t' (by rw[Vj];exact vl) (bs.idxOf c) ?_ ?_) ⟨h1,⟨.int (bs.idxOf c:Nat),H,I.tok _,⟨_,rfl⟩,k _ H G fp .refl (rel.push (bO _))⟩⟩
    .rw[List.getElem?_map,List.getElem?_eq_getElem JL,List.getElem_idxOf JL];rfl
    .intro j hj he;rw[List.getElem?_map,List.getElem?_eq_getElem (by lia)]at he;have he:=D7 (Vg he);have:=rW bs c j (by rw[List.getElem?_eq_getElem (by lia),he]);lia
   .cases e
  .cases e
 .cases e
def addO(a b:D):Res R:=match a,b with
 | .tup [],.tup l=>.ok (.f,.tup l)
 |a,b=>addD a b
theorem aP:JT X (binaryOp .Add) (rG X.K addO):=by
 rintro pr s σ H x y v u Q I rx ry ⟨G,fp,es,vs,a,b,r,⟨rel,k⟩,va,vb,e⟩;unfold addO at e;split at e
 .rename_i l;cases e;obtain⟨p,xs,e1,h1,r1⟩:=hU va;obtain⟨p2,QQ,e2,h2,r2⟩:=hU vb;subst e1;subst e2;cases rx;cases ry;have hx:xs=[]:=VR (by rw[r1.length];rfl);subst hx;obtain⟨Je,v1,⟨⟨cls,dd,data,sl⟩,ho,hc,n,hd⟩,_⟩:=I.tuple (bW rel.gh h1);obtain⟨Mo,v2,⟨⟨Ob,MK,data2,ML⟩,Ks,L5,n2,hd2⟩,_⟩:=I.tuple (bW rel.gh h2);dsimp only at hc hd L5 hd2;subst hc hd L5 hd2;cases v1;exact YF ⟨_,ho,rfl⟩ ⟨_,Ks,rfl⟩ Yp Zb Xs Xl (Xh _ _) (tuple_addW0 p p2 _ _ n n2 dd MK sl ML rfl) ⟨ho,Ks,⟨.ref p2,H,I,rfl,k _ H G fp .refl (rel.push vb)⟩⟩
 .exact DM pr s σ H _ _ v u Q I rx ry ⟨G,fp,es,vs,a,b,r,⟨rel,k⟩,va,vb,e⟩
def qm(fs:FOs):FI:=Kh (tW true true fs) (Kh (tW true false fs) (Kh (tW false true fs) (tW false false fs)))
theorem ng{M8:List Expr}{kt:Nat}{pt:Pos}{e1 e2:Expr}{fs:FOs}{p pos:Pos}(hg:Gl X "zip")(hm:X.mg "zip" = none)(ha:Mj X [e1,e2] fs)(he:starEach [e1,e2] X.env=(false,eval e1 X.env)::starEach [e2] X.env:=by rfl)(Ka:(backTo pos (starEach [e2] X.env)).any (·.1)=false:=by rfl):
  QI X (.Tuple M8 kt pt) (.Call (.Name "zip" p) [e1,e2] [] pos) (qm fs):=vK (rM true true hg hm ha he Ka) (vK (rM true false hg hm ha he Ka) (vK (rM false true hg hm ha he Ka) (rM false false hg hm ha he Ka)))
end
end PV
namespace NX
open PySem PySem.Spec PyProof.Rows L2
section
open PySem.AutoSeq1 (wpAny_loadPart')
def oW(l:Yx)(items:Array Yu)(n:Nat)(dd:Option Yx)(sl:Array (Option Yu))(x:Int)(u:Tok)(h1:¬ (!Builtin.List.listFitsIndex x)=true)(h2:¬ items.size*x.toNat>(2 ^ 63-1) / 8)(h3:¬ Builtin.List.listTooLong (items.size*x.toNat)=true)(h4:(List.foldl (fun x1 x2=>x1++x2) #[] (List.replicate (if items.isEmpty=true then 0 else x.toNat) items)).size<=sizeLine):
  Meets (Builtin.«list.__mul__» ⟨[.ref l,.int x u],[]⟩)
   (fun _ R s=>s.heap.get? l=some {cls:=.type "list",dict:=dd,data:=.seq items n,slots:=sl}/\R (.ok (.ret (.ref s.heap.objs.size))) {s with heap:=s.heap.push {cls:=.type "list",data:=.seq (List.foldl (fun x1 x2=>x1++x2) #[] (List.replicate (if items.isEmpty=true then 0 else x.toNat) items))}}):=
 .of_wp fun prog w A R s h=>by
  obtain⟨hp,g,d,tk,os⟩:=s;obtain⟨hl,h⟩:=h
  wp_walk using wpAny_loadPart' hl
  rw[U8 (by lia)]
  wp_walk
  exact⟨_,rfl,h⟩
def oX(a:Int)(t:Tok)(l:Yx)(T:String)(items:Array Yu)(n:Nat)(dd:Option Yx)(sl:Array (Option Yu)):
  Meets (Builtin.«int.__rmul__» ⟨[.int a t,.ref l],[]⟩)
   (fun _ R s=>s.heap.get? l=some {cls:=.type "list",dict:=dd,data:=.seq items n,slots:=sl}/\R (.ok (.ret .notImplemented)) s):=
 .of_wp fun prog w A R s h=>by
  obtain⟨hp,g,d,tk,os⟩:=s;obtain⟨hl,h⟩:=h
  wp_walk using wpAny_loadPart' hl
  exact⟨_,rfl,h⟩
end
end NX
namespace PV
open PySem PySem.Spec PyProof.Rows L2 NX
section
variable{md:Mode}{X:Cx}
inductive rRepS(K:W.Frag)(x:V)(y:V)(H:Hp)(Q:VK):Prop
 |mk:∀l k xs,x=.ref l->y=.int k->SqL K H l xs->-(2 ^ 62)<=k->k<2 ^ 62->xs.length*k.toNat<=sizeLine->(∀p,H p=none->Q (.ref p) (upd H p (.lst (List.replicate k.toNat xs).flatten)))->rRepS K x y H Q
theorem Br:JT X (binaryOp .Mult) (rRepS X.K):=by
 intro pr s σ H x y v u Q I rx ry h;obtain⟨l,k,xs,rfl,rfl,hH,h1,h2,hz,q⟩:=h;cases rx;obtain⟨t,rfl⟩:=ry;obtain⟨Je,r,p1,_⟩:=I.list hH;have hl:=r.length;obtain⟨⟨cls,dd,data,sl⟩,ho,hc,n,hd⟩:=id p1.isList;simp only at hc hd;subst hc hd;have hlen:Je.toArray.size*k.toNat<=sizeLine:=by rw[U0,<-hl];exact hz
 have hcap:¬ Je.toArray.size*k.toNat>(2 ^ 63-1) / 8:=by
  have:(sizeLine:Nat)<=(2 ^ 63-1) / 8:=by decide
  lia
 have Mv:¬ (!Builtin.List.listFitsIndex k)=true:=by
  rw[fitsIndex_both (by lia) (by lia)];exact U3
 have RK:¬ Builtin.List.listTooLong (Je.toArray.size*k.toNat)=true:=by
  rw[xQ hlen];exact U3
 have RL:List.foldl (fun x1 x2=>x1++x2) #[] (List.replicate (if Je.toArray.isEmpty=true then 0 else k.toNat) Je.toArray)=(List.replicate k.toNat Je).flatten.toArray:=by
  have f0:∀m:Nat,List.foldl (fun x1 x2=>x1++x2) #[] (List.replicate m Je.toArray)=(List.replicate m Je).flatten.toArray:=fun m=>by
   have:=ou Je m [];rw[W4]at this;exact this
  rw[f0];cases Je with
  |nil=>simp
  |cons a r'=>rw[U8 (by simp)]
 have hsz:(List.foldl (fun x1 x2=>x1++x2) #[] (List.replicate (if Je.toArray.isEmpty=true then 0 else k.toNat) Je.toArray)).size<=sizeLine:=by
  rw[RL,U0,mF,ZL];rw[U0]at hlen;exact hlen
 refine wpAny_binaryOp_repeat_ref (T:="list") (U:="int") (by decide) ⟨_,ho,rfl⟩ (fun s'=>YT s' k t) noFill_list_mul F.fills_int_mul F.slot_int_rmul repeat_list F.slot_int_index.lookup
  (Ya F.slot_int_rmul (YT s k t) F.entry_int_rmul (F.args_int_rmul_2 _ _) (oX k t l "" Je.toArray n dd sl)
   ⟨ho,rfl,⟨_,ho,rfl⟩,Ya F.slot_list_mul ⟨_,ho,rfl⟩ F.entry_list_mul (F.args_list_mul_2 _ _) (oW l Je.toArray n dd sl k t Mv hcap RK hsz) ⟨ho,?_⟩⟩)
 rw[RL];exact⟨.ref _,_,I.lnew (t':=s.toks) (r.rep k.toNat) (by rw[mF,ZL];exact hz),rfl,q _ I.fresh⟩
theorem rX{K:W.Frag}{G:Hp}{ds:List D}{xs:List V}(r:Reps K G ds xs):∀n:Nat,Reps K G (List.replicate n ds).flatten (List.replicate n xs).flatten
 | 0=>.nil
 |n+1=>by
  rw[We,We,Wo,Wo];exact r.app (rX r n)
def jr(a b:D):Res R:=match a,b with
 | .lst ds,.int k=>if 0<=k/\k<1000000/\ds.length*k.toNat<=sizeLine then .ok (.l .f,.lst (List.replicate k.toNat ds).flatten) else .bad
 |a,b=>Bo a b
theorem d6:JT X (binaryOp .Mult) (rG X.K jr):=by
 rintro pr s σ H x y v u Q I rx ry ⟨G,fp,es,vs,a,b,r,⟨rel,k⟩,va,vb,e⟩;unfold jr at e;split at e
 .rename_i ds j;split at e
  .rename_i hj;cases e;obtain⟨p,xs,e1,h1,r1⟩:=va;subst e1;cases bz vb;refine Br pr s σ H _ _ v u Q I rx ry ⟨p,j,xs,rfl,rfl,h1,by lia,by lia,by rw[r1.length];exact hj.2.2,fun q hq=>?_⟩;obtain⟨Jd,Jj⟩:=rel.newL hq (rX r1 j.toNat);exact k _ _ G _ Jj Jd
  .cases e
 .exact Bp pr s σ H _ _ v u Q I rx ry ⟨G,fp,es,vs,a,b,r,⟨rel,k⟩,va,vb,e⟩
def GI(td ty tv:TE):TS:=fun Dd σ H=>tv σ H fun v H1=>td σ H1 fun x H2=>ty σ H2 fun y H3=>Dq x y v H3 fun H4=>Dd.nx σ H4
theorem Bs{o i value:Expr}{td ty tv:TE}{pos pos':Pos}(ho:PE X o td)(hi:PE X i ty)(hv:PE X value tv)(hs:swapsWith value (some (.Subscript o i pos')) pos.line X.env=pure false):
  PS X (.Assign [.Subscript o i pos'] value pos) (GI td ty tv):=by
 intro pr s σ H Dd I h;refine wpAny_Assign_Subscript (Jt (hv pr s σ H _ I h) fun r s1 ⟨v,H1,I1,rv,q1⟩=>Jt (ho pr s1 σ H1 _ I1 q1) fun u s2 ⟨x,H2,I2,rx,q2⟩=>Jt (hi pr s2 σ H2 _ I2 q2) fun iv s3 ⟨y,H3,I3,ry,q3⟩=>?_) hs;exact Jt (xN pr s3 σ H3 x y v u iv r _ I3 rx ry rv q3) fun _ s4 ⟨H4,I4,q4⟩=>⟨σ,H4,I4,q4⟩
noncomputable def ym(i:Nat)(fk fv:FX):FS:=fun env=>(fv env).bind fun p=>(fk p.2).bind fun q=>match p.2[i]?,q.2[i]? with
 |some (some _),some (some (.l .f,.lst ds))=>(match q.1.2 with
  | .int k=>(match ixN ds.length k with
   |some j=>.ok (.nx (q.2.set i (some (.l .f,.lst (ds.set j p.1.2)))))
   |none=>.bad)
  |_=>.bad)
 |_,_=>.bad
theorem Bt{i:Nat}{o ix value:Expr}{fk fv:FX}{pos pos':Pos}(ho:PE X o (tf i))(hi:QE X ix fk)(hv:QE X value fv)(hs:swapsWith value (some (.Subscript o ix pos')) pos.line X.env=pure false:=by rfl):
  QS (md:=md) X (.Assign [.Subscript o ix pos'] value pos) (ym i fk fv):=e9 (Bs ho hi hv hs) fun Dd σ H Jo=>by
 obtain⟨G,env,fp,rel,k⟩:=Jo;unfold ym at k;match q1:fv env,k with
 | .ok (r1,Jb),k=>
  have k:OutOk X.K G H fp Dd ((fk Jb).bind fun q=>match Jb[i]?,q.2[i]? with
   |some (some _),some (some (.l .f,.lst ds))=>(match q.1.2 with
    | .int k=>(match ixN ds.length k with
     |some j=>.ok (.nx (q.2.set i (some (.l .f,.lst (ds.set j r1.2)))))
     |none=>.bad)
    |_=>.bad)
   |_,_=>.bad):=k
  match q2:fk Jb,k with
  | .ok (r2,Jl),k=>
   have k:OutOk X.K G H fp Dd (match Jb[i]?,Jl[i]? with
    |some (some _),some (some (.l .f,.lst ds))=>(match r2.2 with
     | .int k=>(match ixN ds.length k with
      |some j=>.ok (.nx (Jl.set i (some (.l .f,.lst (ds.set j r1.2)))))
      |none=>.bad)
     |_=>.bad)
    |_,_=>.bad):=k
   split at k
   .rename_i rr ds h1 h2;split at k
    .rename_i kk L7;split at k
     .rename_i j hj;refine⟨G,env,fp,r1,Jb,rel,q1,fun y H1 G1 Ju Jp Jc=>?_⟩;obtain⟨G2,b,ry,Jd,Jj⟩:=Jc.freeze;obtain⟨v0,QU,_⟩:=Jd.view h1;refine⟨v0,QU,G2,Jb,b,r2,Jl,Jd,q2,fun z H3 G3 Ke JB Jy=>?_⟩;obtain⟨G4,b4,rz,JH,J3⟩:=Jy.freeze;have SG:Rep X.K G4 r1.2 y:=Rep.mono (JB.gg.trans J3.gg) ry;obtain⟨p,xs,ep,hp,rs,cg⟩:=JH.chg (ds':=ds.set j r1.2) h2;rw[QU]at ep;cases ep;rw[L7]at rz;have hz:=bJ rz;obtain⟨fq,Kq,Lh⟩:=cg _ (rs.set j SG);exact⟨p,xs,kk,j,rfl,hz,hp,by rw[rs.length];exact hj,k _ _ G4 fq (Jp.trans (Jj.trans (JB.trans (J3.trans Lh)))) Kq⟩
     .exact k.elim
    .exact k.elim
   .exact k.elim
end
section
variable{X:Cx}
theorem Rel.own{K:W.Frag}{G H:Hp}{es:PV.Env}{vs:L2.St}{fp:List Yx}{p:Yx}{u:HO}{tk:Bool}{ks ws:List D}{xs:List V}(q:Rel K G H es vs fp)(np:p∉fp)(gp:G p=none)(h:DictO u tk ks xs)(rs:Reps K G ws xs):
  Rel K G (upd H p u) (some (.d,.dct tk ks ws)::es) (some (.ref p)::vs) (p::fp):=by
 refine⟨⟨some (.ref p),vs,rfl,.ref p,[p],fp,rfl,rfl,?_,q.rep.step (.refl _) fun z hz=>aF fun e=>np (e▸hz)⟩,Vz.mpr ⟨np,q.nd⟩,fun z hz=>?_,fun b o e=>?_⟩
 .rw[RepO];exact⟨p,xs,u,rfl,aU,h,rfl,rs⟩
 .rcases Vb.mp hz with rfl|hz
  .exact gp
  .exact q.gn z hz
 .rw[aF fun z=>by subst z;rw[gp]at e;cases e];exact q.gh b o e
theorem Rel.aside{K:W.Frag}{G H:Hp}{es:PV.Env}{vs:L2.St}{fp:List Yx}{p:Yx}{u:HO}(q:Rel K G H es vs fp)(hp:H p=none):Rel K G (upd H p u) es vs fp:=by
 have np:p∉fp:=fun z=>by
  obtain⟨u,e⟩:=q.rep.live p z;rw[hp]at e;cases e
 exact⟨q.rep.step (.refl _) fun z hz=>aF fun e=>np (e▸hz),q.nd,q.gn,fun b o e=>by rw[aF (bo (q.gh b o e) hp)];exact q.gh b o e⟩
theorem Step.aside{K:W.Frag}{G H G2 H2:Hp}{es:PV.Env}{vs:L2.St}{fp JF:List Yx}{p:Yx}{u u2:HO}(q:Rel K G H es vs fp)(hp:H p=none)(hu:isT u=false)(st:Step G (upd H p u) fp G2 H2 JF):
  Step G H fp G2 (upd H2 p u2) (p::JF)/\p∉JF/\G2 p=none/\H2 p=some u:=by
 have np:p∉fp:=fun z=>by
  obtain⟨u,e⟩:=q.rep.live p z;rw[hp]at e;cases e
 have ne:∀{b o},H b=some o->b≠p:=fun e=>bo e hp
 refine⟨⟨st.gg,fun b o e nb=>?_,fun b hb=>?_,fun b o e=>?_,fun b o e=>?_⟩,fun z=>?_,?_,st.keep p u aU np⟩
 .rw[aF (ne e)];exact st.keep b o (by rw[aF (ne e)];exact e) nb
 .rcases Vb.mp hb with rfl|hb
  .exact .inr hp
  .rcases st.fpn b hb with h|h
   .exact .inl h
   .by_cases e:b=p
    .subst e;exact .inr hp
    .rw[aF e]at h;exact .inr h
 .rcases st.gnew b o e with h|h|h|⟨h1,h2⟩
  .exact .inl h
  .exact .inr (.inl h)
  .by_cases e:b=p
   .subst e;exact .inr (.inr (.inl hp))
   .rw[aF e]at h;exact .inr (.inr (.inl h))
  .by_cases e:b=p
   .subst e;exact .inr (.inr (.inl hp))
   .rw[aF e]at h2;exact .inr (.inr (.inr ⟨h1,h2⟩))
 .obtain⟨o',h⟩:=st.there b o (by rw[aF (ne e)];exact e);exact⟨o',by rw[aF (ne e)];exact h⟩
 .rcases st.fpn p z with h|h
  .exact np h
  .rw[aU]at h;cases h
 .cases e:G2 p with
  |none=>rfl
  |some o=>
   rcases st.gnew p o e with h|h|h|⟨h1,h2⟩
   .have:=q.gh p o h;rw[hp]at this;cases this
   .exact absurd h np
   .rw[aU]at h;cases h
   .rw[aU]at h2;cases h2;rw[hu]at h1;cases h1
def vX(fk fv:FX):FX:=fun env=>(fk env).bind fun p=>(fv p.2).bind fun q=>if eX false p.1.2 then .ok ((.d,.dct false [p.1.2] [q.1.2]),q.2) else .bad
theorem yn{k v:Expr}{fk fv:FX}{pos:Pos}(hk:QE X k fk)(hv:QE X v fv):QE X (.Dict [some k] [v] pos) (vX fk fv):=
 bx (AU (x5 hk hv AS) rfl rfl (Yt _ _) (show 1<=15 by decide)) fun σ H Q Jo p hp=>by
  obtain⟨G,env,fp,r,env',rel,e,kk⟩:=Jo;obtain⟨⟨r1,Jb⟩,e1,e⟩:=au e;obtain⟨⟨r2,Jl⟩,e2,e⟩:=au e;dsimp only at e;split at e
  .rename_i KC;cases e;refine⟨G,env,fp,r1,Jb,rel.aside hp,e1,fun x H1 G1 Ju Jp Jc=>?_⟩;obtain⟨G2,b,rx,Jd,Jj⟩:=Jc.freeze;refine⟨G2,Jb,b,r2,_,Jd,e2,fun y H3 G3 Ke JB Jy=>?_⟩;obtain⟨G4,b4,ry,JH,J3⟩:=Jy.freeze;have Ur:Rep X.K G4 r1.2 x:=Rep.mono (JB.gg.trans J3.gg) rx;unfold eX at KC;rw[U8 U3,V4]at KC;obtain⟨kd,Ri⟩:=KC;obtain⟨ex,dx⟩:=gT Ri Ur;obtain⟨st,np,gp,Pf⟩:=Step.aside (u2:=.dK [(kd,y)]) rel hp rfl (Jp.trans (Jj.trans (JB.trans J3)));refine⟨Pf,[(kd,y)],by rw[ex];rfl,(show 1<=15 by decide),?_⟩;exact kk _ _ G4 _ st (JH.own np gp ⟨[(kd,y)],rfl,by rw[dx];rfl,rfl,fun kv La=>by rw[Vn.mp La];exact vQ Ri Ur⟩ (.one ry))
  .cases e
def getD(ks vs:List D)(k:D):Option D:=((ks.zip vs).find? fun p=>Jg k p.1).map (·.2)
theorem k8{κ:Type}[DecidableEq κ]{K:W.Frag}{G:Hp}(f:κ->D)(hf:∀a b,Jg (f a) (f b)=decide (a=b)){k:κ}:∀{kvs:List (κ×V)}{vs:List D},Reps K G vs (kvs.map (·.2))->((getD (kvs.map fun kv=>f kv.1) vs (f k)).isSome=(oE kvs k).isSome)/\∀d,getD (kvs.map fun kv=>f kv.1) vs (f k)=some d->∃v,oE kvs k=some v/\Rep K G d v
 |[],vs,r=>⟨rfl,fun d h=>nomatch h⟩
 |kv::kvs,vs,r=>by
  cases vs with
  |nil=>have:=r.length;simp at this
  |cons d0 vs=>
   rw[Vf,Reps.cons_iff]at r;obtain⟨h1,h2⟩:=k8 f hf (k:=k) r.2;unfold getD oE at h1 h2 ⊢;rw[Vf,V0];have e:Jg (f k) (f kv.1)=decide (kv.1=k):=by
    rw[hf,Vp,Ve,Ve];exact⟨fun z=>z.symm,fun z=>z.symm⟩
   by_cases hk:kv.1=k
   .rw[List.find?_cons_of_pos (by show Jg (f k) (f kv.1)=true;rw[e];exact Vu hk),List.find?_cons_of_pos (by exact Vu hk)];refine⟨rfl,fun d h=>?_⟩;cases h;exact⟨_,rfl,r.1⟩
   .rw[List.find?_cons_of_neg (by show ¬ Jg (f k) (f kv.1)=true;rw[e];simpa using hk),List.find?_cons_of_neg (by simpa using hk)];exact⟨h1,h2⟩
theorem qo{K:W.Frag}{G H:Hp}(gh:Same G H){tk:Bool}{ks vs:List D}{xs:List V}{o:HO}{p:Yx}{b:D}{y:V}(rd:Rd H p o)(dd:DictO o tk ks xs)(rs:Reps K G vs xs)(hk:eX tk b=true)(ry:Rep K G b y):
  ∃ov,DGet H p y ov/\(getD ks vs b).isSome=ov.isSome/\∀d,getD ks vs b=some d->∃v,ov=some v/\Rep K G d v:=by
 unfold eX at hk;cases tk with
 |true=>
  rw[U5 rfl,V4]at hk;obtain⟨kk,hk⟩:=hk;obtain⟨pz,ez,gz,dz⟩:=cP hk ry;obtain⟨kvs,eo,ek,ex,_⟩:=dd;subst eo ex ez dz;have ek:ks=kvs.map fun kv=>kT kv.1:=ek
  obtain⟨h1,h2⟩:=k8 (K:=K) (G:=G) kT zH (k:=kk) rs;rw[<-ek]at h1 h2;exact⟨oE kvs kk,.inr ⟨kvs,kk,pz,rd,rfl,gh _ _ gz,rfl⟩,h1,h2⟩
 |false=>
  rw[U8 U3,V4]at hk;obtain⟨kk,hk⟩:=hk;obtain⟨ez,dz⟩:=gT hk ry;obtain⟨kvs,eo,ek,ex,_⟩:=dd;subst eo ex ez dz;obtain⟨h1,h2⟩:=k8 (K:=K) (G:=G) kD vO (k:=kk) rs;rw[<-ek]at h1 h2;exact⟨oE kvs kk,.inl ⟨kvs,kk,rd,rfl,rfl⟩,h1,h2⟩
def Na(a b:D):Res R:=match a with
 | .dct tk ks vs=>if eX tk b then(match getD ks vs b with
  |some d=>.ok (.f,d)
  |none=>.bad) else .bad
 |_=>.bad
theorem qp{a b:Expr}{fa fb:FO}{pos:Pos}(hu:X.A.units+1<cLine)(ha:QO X a fa)(hb:QO X b fb)(hs:NoSl b:=by exact fun _ _=>rfl):QE X (.Subscript a b pos) (aB Na fa fb):=
 bx (AQ hu ha hb hs) fun σ H Q h=>by
  obtain⟨G,env,fp,r,env',rel,e,k⟩:=h;obtain⟨⟨oa,e1⟩,ha,e⟩:=au e;obtain⟨⟨ob,e2⟩,hb,e⟩:=au e;obtain⟨da,Ol,e⟩:=au e;obtain⟨db,KU,e⟩:=au e;obtain⟨r',hr,e⟩:=au e;cases e;refine⟨G,env,fp,oa,e1,rel,ha,fun x H1 G1 Ju Jp Jc J5=>⟨G1,e1,Ju,ob,e2,Jc,hb,fun y H2 G2 JF Jj Jd M7=>?_⟩⟩;have va:=Jd.vw (J5.mono Jj.gg) Ol;have vb:=Jd.vw M7 KU;unfold Na at hr;split at hr
  .rename_i tk ks vs;split at hr
   .rename_i KC;split at hr
    .rename_i d hd;cases hr;obtain⟨p,xs,o,ev,rd,dd,rs⟩:=va;subst ev;have vb':Rep X.K G2 db y:=by
      cases db with
      |lst l=>cases tk <;> simp[eX,fL,kR]at KC
      |dct _ _ _=>cases tk <;> simp[eX,fL,kR]at KC
      |_=>exact vb
     obtain⟨ov,g,_,h2⟩:=qo Jd.gh rd dd rs KC vb';obtain⟨v,ho,rv⟩:=h2 d hd;subst ho;exact⟨p,v,rfl,g,k _ H2 G2 JF (Jp.trans Jj) (Jd.push rv)⟩
    .cases hr
   .cases hr
  .cases hr
def SH(a b:D):Res R:=match b with
 | .dct tk ks vs=>if eX tk a then .ok (.f,.bl (getD ks vs a).isSome) else .bad
 |_=>NF a b
def Bu(a b:D):Res R:=match b with
 | .dct tk ks vs=>if eX tk a then .ok (.f,.bl (!(getD ks vs a).isSome)) else .bad
 |_=>CJ a b
theorem D8(hu:X.A.units+65<cLine):JT X (compareOp .In) (rGA X.K SH):=by
 rintro pr s σ H x y v u Q I rx ry ⟨G,fp,es,vs,a,b,r,⟨rel,k⟩,va,vb,e⟩;unfold SH at e;split at e
 .rename_i tk ks ws;split at e
  .rename_i KC;cases e;obtain⟨p,xs,o,ev,rd,dd,rs⟩:=vb;subst ev;cases ry;obtain⟨ov,g,h1,_⟩:=qo (K:=X.K) (G:=H) (fun _ _ z=>z) rd dd rs KC va;exact Iw (by lia) I g rx fun s' I'=>⟨.bl ov.isSome,H,I',rfl,by rw[<-h1];exact k _ H G fp .refl (rel.push (cz _))⟩
  .cases e
 .exact GA hu pr s σ H x y v u Q I rx ry ⟨G,fp,es,vs,a,b,r,⟨rel,k⟩,va,vb,e⟩
theorem vY(hu:X.A.units+65<cLine):JT X (compareOp .NotIn) (rGA X.K Bu):=by
 rintro pr s σ H x y v u Q I rx ry ⟨G,fp,es,vs,a,b,r,⟨rel,k⟩,va,vb,e⟩;unfold Bu at e;split at e
 .rename_i tk ks ws;split at e
  .rename_i KC;cases e;obtain⟨p,xs,o,ev,rd,dd,rs⟩:=vb;subst ev;cases ry;obtain⟨ov,g,h1,_⟩:=qo (K:=X.K) (G:=H) (fun _ _ z=>z) rd dd rs KC va;exact AN (by lia) I g rx fun s' I'=>⟨.bl (!ov.isSome),H,I',rfl,by rw[<-h1];exact k _ H G fp .refl (rel.push (cz _))⟩
  .cases e
 .exact DT hu pr s σ H x y v u Q I rx ry ⟨G,fp,es,vs,a,b,r,⟨rel,k⟩,va,vb,e⟩
end
def isLf:O->Bool
 | .l .f=>true
 | .pin _ (.l .f)=>true
 |_=>false
section
variable{K:W.Frag}{G G' H H':Hp}{es:PV.Env}{vs:L2.St}{fp:List Yx}
theorem RepE.append:∀{es L3:PV.Env}{vs Lv:L2.St}{a b:List Yx},RepE K G H es vs a->RepE K G H L3 Lv b->RepE K G H (es++L3) (vs++Lv) (a++b)
 |[],L3,vs,Lv,a,b,r,q=>by
  rw[r.1,r.2];exact q
 |none::es,L3,vs,Lv,a,b,r,q=>by
  obtain⟨y,ys,e,r⟩:=r;subst e;exact⟨y,ys++Lv,rfl,RepE.append r q⟩
 |some x::es,L3,vs,Lv,a,b,r,q=>by
  obtain⟨y,ys,e,v,a1,b1,e1,e2,r1,r2⟩:=r;subst e e2;exact⟨y,ys++Lv,rfl,v,a1,b1++b,e1,VH _ _ _,r1,RepE.append r2 q⟩
theorem RepE.clean{G2 G3:Hp}(h:∀p u,isT u=true->G2 p=some u->G3 p=some u):∀{es:PV.Env}{vs:L2.St}{a:List Yx},(∀r,some r∈es->aO r.1 r.2=true)->RepE K G2 H es vs a->RepE K G3 H es vs a
 |[],_,_,_,r=>r
 |none::es,vs,a,hc,r=>by
  obtain⟨y,ys,e,r⟩:=r;exact⟨y,ys,e,RepE.clean h (fun r hr=>hc r (U4 _ hr)) r⟩
 |some x::es,vs,a,hc,r=>by
  obtain⟨y,ys,e,v,a1,b1,e1,e2,r1,r2⟩:=r;exact⟨y,ys,e,v,a1,b1,e1,e2,r1.clean h (hc x UY),RepE.clean h (fun r hr=>hc r (U4 _ hr)) r2⟩
end
section
variable{X:Cx}
def IA(i:Nat):FX:=fun env=>match env[i]? with
 |some (some (ow,.lst ds))=>if isLf ow then(match ds.getLast? with
  |some d=>.ok ((.f,d),env.set i (some (ow,.lst ds.dropLast)))
  |none=>.bad) else .bad
 |_=>.bad
theorem Reps.dropLast{K:W.Frag}{G:Hp}:∀{ds:List D}{xs:List V},Reps K G ds xs->Reps K G ds.dropLast xs.dropLast
 |[],xs,r=>by rw[Reps]at r;subst r;exact .nil
 |[d],xs,r=>by
  rw[Reps]at r;obtain⟨y,ys,e,r1,r2⟩:=r;rw[Reps]at r2;subst e r2;exact .nil
 |d::d2::ds,xs,r=>by
  rw[Reps]at r;obtain⟨y,ys,e,r1,r2⟩:=r;subst e;have h:=Reps.dropLast r2;cases ys with
  |nil=>have:=r2.length;simp at this
  |cons z zs=>
   rw[XO (Yt _ _),XO (Yt _ _)];exact .cons r1 h
def k9(i:Nat)(f:FX):FS:=fun env=>(f env).bind fun p=>match p.2[i]? with
 |some (some (.pin q c,d0))=>.ok (.rt (.t [p.1.1,.pin q c],.tup [p.1.2,d0]))
 |_=>.bad
theorem iH{i:Nat}{e:Expr}{f:FX}{pos:Pos}(he:QE X e f):QS (md:=.mut) X (.Return (some e) pos) (k9 i f):=e9 (zc he) fun Dd σ H Jo=>by
 obtain⟨G,env,fp,rel,k⟩:=Jo;unfold k9 at k;match q:f env,k with
 | .ok (r,Jb),k=>
  have k:OutOk (md:=.mut) X.K G H fp Dd (match Jb[i]? with
   |some (some (.pin q c,d0))=>.ok (.rt (.t [r.1,.pin q c],.tup [r.2,d0]))
   |_=>.bad):=k
  split at k
  .rename_i z c d0 hz;refine⟨G,env,fp,r,Jb,rel,q,fun v H1 G1 Ju Jp Jc=>?_⟩;obtain⟨y,ys,ey,v',a,b,e1,e2,r1,r2⟩:=Jc.rep;cases ey;cases e1;subst e2;obtain⟨v0,a0,b0,QU,ro,_,pm⟩:=r2.take hz;have hv0:v0=.ref z:=by
    have:=ro;rw[RepO]at this;exact this.1
   subst hv0;have sub:∀w∈a++a0,w∈a++b:=fun w hw=>by
    rcases Vv.mp hw with hw|hw
    .exact U7 _ hw
    .exact U2 _ (pm.mem_iff.mpr (U7 _ hw))
   have nd:=Vs.mp Jc.nd;have nd2:=Vs.mp (pm.nodup_iff.mp nd.2.1);refine k v H1 G1 (a++a0) (Jp.trans (Step.cut sub)) ⟨r.1,r.2,z,c,d0,rfl,⟨⟨some v,[some (.ref z)],rfl,v,a,a0,rfl,rfl,r1,some (.ref z),[],rfl,.ref z,a0,[],rfl,(Vo _).symm,ro,rfl,rfl⟩,?_,fun p hp=>Jc.gn p (sub p hp),Jc.gh⟩⟩;rw[Vs];exact⟨nd.1,nd2.1,fun p hp w hw e=>nd.2.2 p hp w (pm.mem_iff.mpr (U7 _ hw)) e⟩
  .exact k.elim
def ma(np nn:Nat)(c:O)(g:FS)(p:Yx):List D->Res R
 |d0::ds=>if ds.length+1=np then(g (some (.pin p c,d0)::(ds.map (fun d=>some (O.f,d))++List.replicate nn none))).bind fun o=>match o with
  | .rt r=>.ok r
  |_=>.bad
  else .bad
 |[]=>.bad
inductive spM(K:W.Frag)(c:O)(F:Yx->List D->Res R)(vs:List V)(H:Hp)(Q:VK)(zz:XK):Prop
 |mk:∀G p Lv d0 ds r Nb,Same G H->vs=.ref p::Lv->RepO K G H c d0 (.ref p) Nb->Nb.Nodup->(∀z∈Nb,G z=none)->Reps K G ds Lv->F p (d0::ds)=.ok r->(∀v H' G' Jf,Step G H Nb G' H' Jf->Hw .mut K G' H' r v Jf->Q v H')->spM K c F vs H Q zz
theorem D9{P:Yy}{w:World}{K:W.Frag}{mg:Str->Option Yu}{base:YB}{x:Str}{st:Stmt}{N ps:List Str}{k:Nat}{c:O}{g:FS}(Df:Def K mg x st)(sc:FnScope N ps (defScope st))
  (hb:∀(kV doc pm:Yu) (an:Option Yx) (Jz ct:Yu) (us:List Yu),us.length=ps.length->bindArgs (PySem.W.fnOf x x (eU st) (cO st) (defScope st) .none kV doc pm an Jz ct) ⟨us,[]⟩=pure (ps.zip us))
  (body:∀(f:Yx) (Jz:Yu) (A:Yz) (outer:List PySem.Env) (s:Yw) (H:Hp) (E:XK),Room k (A.deeper (envOfC x (defScope st) s.heap.objs.size f Jz))->M6 (md:=.mut) (xv M3 P w K mg base N x (defScope st) f Jz A outer s H E).nox (cO st) g):
  Ct P w K mg base x (k+1) (spM K c (ma ps.length (N.length-ps.length) c g)):=by
 obtain⟨f,fd,F,m⟩:=Df;refine⟨f,fd,ps,F.ok sc (fun vs H Q E h=>?_) (fun Jz A outer s H vs Q E hr h=>?_),m,F.kp,F.binds hb⟩
 .obtain⟨G,p,Lv,d0,ds,r,Nb,_,ev,_,_,_,rs,e,_⟩:=h;unfold ma at e;split at e
  .rename_i Tw ds' heq;cases heq;split at e
   .rename_i hl;rw[ev,Vc,rs.length,hl]
   .cases e
  .cases e
 .obtain⟨G,p,Lv,d0,ds,r,Nb,gh,ev,r0,nd,gn,rs,e,q⟩:=h;unfold ma at e;split at e
  .rename_i Tw ds' heq;cases heq;split at e
   .rename_i hl;refine⟨_,body f Jz A outer s H E hr,G,some (.pin p c,d0)::(ds.map (fun d=>some (O.f,d))++List.replicate (N.length-ps.length) none),Nb,⟨?_,nd,gn,gh⟩,?_⟩
    .have:=gk (K:=K) (G:=G) (H:=H) (N.length-ps.length) rs;unfold L2.j8;rw[ev,Vc,rs.length,hl];exact⟨some (.ref p),_,rfl,.ref p,Nb,[],rfl,(Vo _).symm,by rw[RepO];exact⟨rfl,r0⟩,this⟩
    .obtain⟨o,eo,e⟩:=au e;rw[eo];cases o with
     |rt r'=>
      cases e;exact fun v H' G' Jf st rel=>q v H' G' Jf st rel
     |nx env'=>cases e
     |bk env'=>cases e
     |ct env'=>cases e
   .cases e
  .cases e
def oY:O->O->Bool
 | .l .f,.l .f=>true
 | .l .f,.pin _ (.l .f)=>true
 | .d,.d=>true
 | .d,.pin _ .d=>true
 |_,_=>false
theorem zM{K:W.Frag}{G H:Hp}{c ow:O}{d:D}{v:V}{a:List Yx}(h:oY c ow=true)(r:RepO K G H ow d v a):(∃p,v=.ref p)/\RepO K G H c d v a/\∀(G' H':Hp) (d':D) (a':List Yx),RepO K G' H' c d' v a'->RepO K G' H' ow d' v a':=by
 have P4:∀{d:D},RepO K G H (.l .f) d v a->∃p,v=.ref p:=fun{d} r=>by
  cases d with
  |lst ds=>obtain⟨p,_,e,_⟩:=iu.mp r;exact⟨p,e⟩
  |_=>simp only[RepO]at r
 have P5:∀{d:D},RepO K G H .d d v a->∃p,v=.ref p:=fun{d} r=>by
  cases d with
  |dct tk ks ws=>rw[RepO]at r;obtain⟨p,_,_,e,_⟩:=r;exact⟨p,e⟩
  |_=>simp only[RepO]at r
 unfold oY at h;split at h
 .exact⟨P4 r,r,fun _ _ _ _ z=>z⟩
 .rw[RepO]at r;exact⟨⟨_,r.1⟩,r.2,fun _ _ _ _ z=>by rw[RepO];exact⟨r.1,z⟩⟩
 .exact⟨P5 r,r,fun _ _ _ _ z=>z⟩
 .rw[RepO]at r;exact⟨⟨_,r.1⟩,r.2,fun _ _ _ _ z=>by rw[RepO];exact⟨r.1,z⟩⟩
 .cases h
open Classical in
def jB(F:Yx->List D->Res R)(c:O)(d0:D)(ds:List D):Res (R×D):=
 if h:∃x:R×D,∀p,F p (d0::ds)=.ok (.t [x.1.1,.pin p c],.tup [x.1.2,x.2]) then .ok (Classical.choose h) else .bad
theorem rY{F:Yx->List D->Res R}{c:O}{d0:D}{ds:List D}{r:R}{d':D}(h:∀p,F p (d0::ds)=.ok (.t [r.1,.pin p c],.tup [r.2,d'])):jB F c d0 ds=.ok (r,d'):=by
 have h':∃x:R×D,∀p,F p (d0::ds)=.ok (.t [x.1.1,.pin p c],.tup [x.1.2,x.2]):=⟨(r,d'),h⟩
 unfold jB;rw[dif_pos h'];have e:=(YO h' 0).symm.trans (h 0);generalize Classical.choose h'=x at e;obtain⟨⟨o,d⟩,d2⟩:=x;cases e;rfl
theorem rZ{F:Yx->List D->Res R}{c:O}{d0:D}{ds:List D}{x:R×D}(h:jB F c d0 ds=.ok x)(p:Yx):F p (d0::ds)=.ok (.t [x.1.1,.pin p c],.tup [x.1.2,x.2]):=by
 unfold jB at h;split at h
 .rename_i h';cases h;exact YO h' p
 .cases h
end
section
variable{X:Cx}{x:Str}{p pos:Pos}{e:Expr}{es:List Expr}{fs:FOs}
end
section
variable{K:W.Frag}{G G' H H':Hp}
end
section
variable{X:Cx}{md:Mode}
end
end PV
namespace NX
open PySem PySem.Spec PyProof.Rows L2
def Ea{P:Yy}{w:World}{k:Key}{u:Yu}(h:(mixKind P w).is k u=true):RelV (kV k) u:=by
 rw[sZ]at h;cases k with
 |inl i=>
  have h:Value.isInt i u=true:=h;cases u with
  |int j t=>
   have e:(j==i)=true:=h;rw[VL]at e;exact⟨t,by rw[e]⟩
  |_=>cases h
 |inr x=>
  obtain⟨t,e⟩:=Value.isStrOf_shape h;exact⟨t,e⟩
def Eb{κ:Type}{kvs:List (κ×V)}{vs:List (κ×Yu)}(r:KV kvs vs):∀{i:Nat}{k:κ}{v:V},kvs[i]?=some (k,v)->∃u,vs[i]?=some (k,u)/\RelV v u:=by
 induction r with
 |nil=>intro i k v e;simp at e
 | @cons p q ps qs hq _ ih=>
  intro i k v e;cases i with
  |zero=>
   simp at e;subst e;obtain⟨qk,qv⟩:=q;obtain⟨e1,e2⟩:=hq;cases e1;exact⟨qv,rfl,e2⟩
  |succ i=>exact ih (by simpa using e)
def r6{X:Cx}{pr:List (Yx×Obj)}{σ:L2.St}{H:Hp}{s:Yw}{a:Yx}{o:Obj}{ep:Nat}{es:Array DictEntry}{kvs:List (Key×V)}(I:Inv X pr σ H s)(hd:o.data=.dict es ep)(ha:H a=some (.frz o (.dK kvs))):
  s.heap.get? a=some o/\∃vs,KV kvs vs/\s.heap.DictAt (mixKind X.prog X.w) a vs ep:=by
 obtain⟨ho,z,nm,vs,r,o',L3,Po,g1,ex,dat,dX⟩:=(show ObjOk X.prog X.w H s.heap a (.frz o (.dK kvs)) from I.hok a _ ha)
 have e:=g1.symm.trans ho;cases e;have e2:=dat.symm.trans hd;cases e2;exact⟨ho,vs,r,o,es,ho,ex,hd,dX⟩
def yo{X:Cx}{pr:List (Yx×Obj)}{σ:L2.St}{H:Hp}{s:Yw}{a:Yx}{o:Obj}{kvs:List (Key×V)}(I:Inv X pr σ H s)(ha:H a=some (.dK kvs))(ho:s.heap.get? a=some o):Inv X pr σ (upd H a (.frz o (.dK kvs))) s:=by
 have ok:=(show ObjOk X.prog X.w H s.heap a (.dK kvs) from I.hok a _ ha)
 have nt:∀c xs,H c=some (.tup xs)->c≠a:=fun c xs e z=>by rw[z,ha]at e;cases e
 have nf:∀c q u,H c=some (.frz q u)->c≠a:=fun c q u e z=>by rw[z,ha]at e;cases e
 have nb:∀c ps,H c=some (.tbl ps)->c≠a:=fun c ps e z=>by rw[z,ha]at e;cases e
 have no:∀c b,H c=some (.own b)->c≠a:=fun c b e z=>by rw[z,ha]at e;cases e
 have S0:Inv X pr σ (upd H a (.frz o (.dK kvs))) {s with heap:=s.heap,gens:=s.gens,drawn:=s.drawn,toks:=s.toks}:=by
  refine I.step (ch:=[]) (fun c hc=>nomatch hc) (fun c q _ _ _ e _=>e) (fun c q _ _ _ e _=>⟨q.slots,e⟩) (fun c q _ e n=>?_) (fun c q _ e=>⟨q,e⟩)
   (fun c l e=>by rw[aF (nt c l e)];exact e) (fun c q u e=>by rw[aF (nf c q u e)];exact e) (fun c ps e=>⟨#[],by rw[aF (nb c ps e),e];simp⟩) (fun m hm=>hm) (fun c ob e=>?_) I.bare
  .have:c≠a:=fun z=>by rw[z,ha]at n;cases n
   rw[aF this];exact n
  .by_cases ec:c=a
   .subst ec;rw[aU]at e;cases e;exact⟨ho,ok.stay (fun _ _ _ q=>q) (fun d q=>by rw[aF (no d _ q)];exact q) fun d l q=>by rw[aF (nt d l q)];exact q⟩
   .rw[aF ec]at e;exact(I.hok c ob e).stay (fun _ _ _ q=>q) (fun d q=>by rw[aF (no d _ q)];exact q) fun d l q=>by rw[aF (nt d l q)];exact q
 exact S0
end NX
namespace PV
open PySem PySem.Spec PyProof.Rows L2 NX
def Hy(f:FX):FI:=fun env=>(f env).bind fun p=>match p.1 with
 |(.d,.dct false ks vs)=>.ok ((ks.zip vs).map fun z=>D.tup [z.1,z.2],p.2)
 |_=>.bad
section
variable{X:Cx}
def Ec(i:Nat):FX:=fun env=>match env[i]? with
 |some (some (ow,.lst _))=>if isLf ow then .ok ((.f,.non),env.set i (some (ow,.lst []))) else .bad
 |_=>.bad
def Bv(fa fb:FX):FX:=fun env=>(fa env).bind fun p=>(fb p.2).bind fun q=>.ok ((.t [.f,q.1.1],.tup [p.1.2,q.1.2]),q.2)
theorem Bw{a b:Expr}{fa fb:FX}{x1}{pos:Pos}(ha:QE X a fa)(hb:QE X b fb)(h1:starEach [a,b] X.env=(false,eval a X.env)::starEach [b] X.env:=by rfl)(h2:starEach [b] X.env=(false,eval b X.env)::starEach [] X.env:=by rfl):
  QE X (.Tuple [a,b] x1 pos) (Bv fa fb):=
 bx (qT (c5 ha (c5 hb jK h2) h1)) fun σ H Q Jo=>by
  obtain⟨G,env,fp,r,env',rel,e,k⟩:=Jo;obtain⟨⟨r1,Jb⟩,e1,e⟩:=au e;obtain⟨⟨⟨o2,d2⟩,Jl⟩,e2,e⟩:=au e;cases e;refine⟨G,env,fp,r1,Jb,rel,e1,fun v H1 G1 Ju Jp Jc=>?_⟩;obtain⟨G2,b,rv,Jd,Jj⟩:=Jc.freeze;refine⟨G2,Jb,b,(o2,d2),Jl,Jd,e2,fun v2 H3 G3 Ke JB Jy=>⟨by rw[line_eq];exact(by decide:2<=16777216),fun p hp=>?_⟩⟩;obtain⟨JH,J3⟩:=Jy.newF (u:=.tup [v,v2]) hp;refine k _ _ _ Ke (Jp.trans (Jj.trans (JB.trans J3))) ?_;obtain⟨y,ys,ey,v',a',b',Ox,ef,q1,q2⟩:=JH.rep;cases ey;cases Ox;subst ef;refine⟨⟨some (.ref p),σ,rfl,.ref p,a',b',rfl,rfl,?_,q2⟩,JH.nd,JH.gn,JH.gh⟩;show RepO X.K _ _ (.t [.f,o2]) (.tup [r1.2,d2]) (.ref p) a';rw[RepO];refine⟨p,[v,v2],rfl,aU,?_⟩;rw[RepT];refine⟨v,[v2],[],a',rfl,rfl,eE.mpr ⟨Rep.mono (JB.gg.trans J3.gg) rv,rfl⟩,?_⟩;rw[RepT];refine⟨v2,[],a',[],rfl,by rw[Vo],q1,?_⟩;rw[RepT];exact⟨rfl,rfl⟩
def r9(i:Nat):FX:=fun env=>match env[i]? with
 |some (some (.t [.f,.l .f],.tup [a,.lst _]))=>.ok ((.f,.non),env.set i (some (.t [.f,.l .f],.tup [a,.lst []])))
 |_=>.bad
theorem yp{i:Nat}{o:Expr}{j Lu ipos apos Jr}(ho:PE X o (tf i))(JQ:attributeBase (.Subscript o (.Constant (.int 1) j ipos) Lu) "clear" X.env (eval (.Subscript o (.Constant (.int 1) j ipos) Lu) X.env)=eval (.Subscript o (.Constant (.int 1) j ipos) Lu) X.env:=by rfl)(JR:(apos.endLine==Jr.line)=true:=by rfl):
  QE X (.Call (.Attribute (.Subscript o (.Constant (.int 1) j ipos) Lu) "clear" apos) [] [] Jr) (r9 i):=by
 refine bx (Dr WS PySem.F.slot_list_clear PySem.F.type_list_clear xR (Dn zf ho zb (by exact fun _ _=>rfl)) JQ JR) fun σ H Q Jx=>?_
 obtain⟨G,env,fp,r,env',rel,e,k⟩:=Jx;unfold r9 at e;split at e
 .rename_i d1 ds Np;cases e;obtain⟨v,fq,ev,g,st,Kx⟩:=rel.out Np;obtain⟨y,ys,e0,v',a,b,e1,e2,r1,r2⟩:=g.rep;cases e0;cases e1;have r1:RepO X.K G H (.t [.f,.l .f]) (.tup [d1,.lst ds]) v a:=r1;rw[RepO]at r1;obtain⟨p,xs,ep,gp,rt⟩:=r1;rw[RepT]at rt;obtain⟨y1,t1,a1,b1,ex1,ea1,q1,rt⟩:=rt;rw[RepT]at rt;obtain⟨y2,t2,a2,b2,ex2,ea2,q2,rt⟩:=rt;rw[RepT]at rt;obtain⟨et,eb⟩:=rt;obtain⟨rep1,ea⟩:=eE.mp q1;obtain⟨l,zs,el,hl,eal,rz⟩:=iu.mp q2;subst ep ea et eb ex2 ex1 el eal ea2 ea1 e2;have nd:=Vz.mp (show(l::b).Nodup from g.nd);have g2:Rel X.K G (upd H l (.lst [])) (some (.t [.f,.l .f],.tup [d1,.lst []])::env.set i none) (some (.ref p)::σ) (l::b):=by
   refine⟨⟨some (.ref p),σ,rfl,.ref p,[l],b,rfl,rfl,?_,r2.step (.refl _) fun z hz=>aF fun e=>nd.1 (e▸hz)⟩,g.nd,g.gn,fun z o ez=>?_⟩
   .show RepO X.K G _ (.t [.f,.l .f]) (.tup [d1,.lst []]) (.ref p) [l];rw[RepO];refine⟨p,[y1,.ref l],rfl,gp,?_⟩;rw[RepT];refine⟨y1,[.ref l],[],[l],rfl,rfl,eE.mpr ⟨rep1,rfl⟩,?_⟩;rw[RepT];refine⟨.ref l,[],[l],[],rfl,rfl,iu.mpr ⟨l,[],rfl,aU,rfl,.nil⟩,?_⟩;rw[RepT];exact⟨rfl,rfl⟩
   .have:z≠l:=fun w=>by
     subst w;rw[g.gn z UY]at ez;cases ez
    rw[aF this];exact g.gh z o ez
  have Rr:Step G H (l::b) G (upd H l (.lst [])) (l::b):=by
   refine⟨.refl _,fun z o ez nz=>?_,fun z hz=>.inl hz,fun z o ez=>.inl ez,fun z o ez=>?_⟩
   .have:z≠l:=fun w=>nz (by rw[w];exact UY)
    rw[aF this];exact ez
   .by_cases w:z=l
    .subst w;exact⟨_,aU⟩
    .exact⟨o,by rw[aF w];exact ez⟩
  obtain⟨fz,g3,JB⟩:=g2.back (i:=i) (by rw[VO];exact(List.getElem?_eq_some_iff.mp Np).1) ev;rw[Wl]at g3;refine⟨.ref p,ev,p,[y1,.ref l],1,.ref l,rfl,rfl,SqT.of (rel.gh _ _ gp),rfl,.inl ⟨rfl,zs,SqL.of hl⟩,l,zs,rfl,rfl,hl,k _ _ G fz (st.trans (Rr.trans JB)) (g3.push (by rw[Rep]))⟩
 .cases e
def vZ:List D->Res R
 |[.dct false ks _]=>.ok (.l .f,.lst ks)
 |ds=>mY ds
theorem wa:∀{xs:List V}{us:List Yu},xs.length=us.length->(∀(i:Nat) (a:V) (b:Yu),xs[i]?=some a->us[i]?=some b->RelV a b)->Vals xs us
 |[],[],_,_=>.nil
 |x::xs,u::us,hl,h=>.cons (h 0 x u rfl rfl) (wa (by simpa using hl) fun i a b ha hb=>h (i+1) a b (by simpa using ha) (by simpa using hb))
 |[],_::_,hl,_=>by simp at hl
 |_::_,[],hl,_=>by simp at hl
theorem oZ(hc:X.calm=true):dS X (.type "list") (fun vs H Q=>∃p kvs,vs=[.ref p]/\Rd H p (.dK kvs)/\∀l,H l=none->Q (.ref l) (upd H l (.lst (kvs.map fun kv=>kV kv.1)))):=by
 intro pr s σ H xs us Q I r h;obtain⟨p,kvs,rfl,hp,q⟩:=h;obtain⟨u,rfl,rx⟩:=f9 r;cases rx;obtain⟨z,nm,vs,rr,hD⟩:=tR I.hok hp;obtain⟨ep,N7⟩:=hD.dictAt;have hl:=rr.length;refine PySem.W.kdl_call (PySem.W.kdl_dict (knd:=mixKind X.prog X.w) (kvs:=vs) (ep:=ep) nm) (I.ok.hd hc) N7 (by rw[<-hl];exact z) fun h' tk RM c' hk hS Mq=>?_
 refine⟨.ref s.heap.objs.size,_,I.laid (o:=.lst (kvs.map fun kv=>kV kv.1)) (t':=tk) hk (U6 _) ⟨by rw[UZ];exact z,RM.toList,c',?_,by rw[Array.toArray_toList];exact hS⟩,rfl,q _ (I.hok.fresh (U6 _))⟩;refine wa (by rw[UZ,hl];exact(Mq.1.symm.trans (V3 (xs:=RM)).symm)) fun i a b ha hb=>?_
 rw[Array.getElem?_toList]at hb;obtain⟨k,x,e1,e2⟩:=Mq.2 i b hb;rw[List.getElem?_map]at ha;cases La:kvs[i]? with
 |none=>rw[La]at ha;cases ha
 |some kv=>
  rw[La]at ha;obtain⟨k',v'⟩:=kv;obtain⟨u,hu,_⟩:=Eb rr La;rw[e1]at hu;cases hu;cases ha;exact Ea e2
theorem yq(hc:X.calm=true):dS X (.type "list") (rC X.K vZ):=by
 rintro pr s σ H xs us Q I rx ⟨G,fp,es,vs,ds,r,⟨rel,k⟩,vd,e⟩;unfold vZ at e;split at e
 .rename_i ks ws;cases e;obtain⟨v,ev,vt⟩:=nS vd;have rp:=vt.rep rel.gh;rw[Rep]at rp;obtain⟨p,ys,o,ep,rd,dd,rs⟩:=rp;obtain⟨kvs,eo,ek,ex,hf⟩:=(show ∃kvs:List (Key×V),o=.dK kvs/\ks=kvs.map (fun kv=>kD kv.1)/\ys=kvs.map (·.2)/\∀kv∈kvs,tU kv.1 from dd)
  subst ev ep eo;refine oZ hc pr s σ H _ us Q I rx ⟨p,kvs,rfl,rd,fun q hq=>?_⟩;have rk:Reps X.K G ks (kvs.map fun kv=>kV kv.1):=by
   rw[ek];refine Reps.ofAll (by rw[UZ,UZ]) fun i d v hd hv=>?_
   rw[List.getElem?_map]at hd hv;cases La:kvs[i]? with
   |none=>rw[La]at hd;cases hd
   |some kv=>
    rw[La]at hd hv;cases hd;cases hv;exact vN (hf _ (Vm La))
  obtain⟨Jd,Jj⟩:=rel.newL hq rk;exact k _ _ G _ Jj Jd
 .exact jy pr s σ H xs us Q I rx ⟨G,fp,es,vs,ds,r,⟨rel,k⟩,vd,e⟩
end
end PV
namespace NX
open PySem PySem.Spec PyProof.Rows L2
section
variable{prog:Yy}{w:World}{A:Yz}{E:Yu->Yw->Prop}{s:Yw}
end
section
variable{prog:Yy}{w:World}{A:Yz}{E:Yu->Yw->Prop}{s:Yw}
end
section
variable{X:Cx}{e:Expr}{ta:TA}{p p2 pos Lm:Pos}
end
end NX
namespace PV
open PySem PySem.Spec PyProof.Rows L2 NX
section
variable{X:Cx}{e:Expr}{fs:FOs}{p p2 pos Lm:Pos}
end
end PV
namespace NX
open PySem PySem.Spec PyProof.Rows L2
section
open PySem.AutoSeq1 (wpAny_loadPart')
end
end NX
namespace PV
open PySem PySem.Spec PyProof.Rows L2 NX
section
variable{X:Cx}
end
section
variable{md:Mode}{X:Cx}{scope:Scope}{N:List Str}{tg iter elt:Expr}{ifs:List Expr}{pos:Pos}{fi:FI}{a:FG}{c:FT}{f:FX}{j k0:Nat}
end
section
variable{X:Cx}{x:Str}{p pos:Pos}{e:Expr}{es:List Expr}{f0:FX}{fs:FOs}
end
def joinL(sep:List Nat):List (List Nat)->List Nat
 |[]=>[]
 |[x]=>x
 |x::y::r=>x++sep++joinL sep (y::r)
def wb(sep:List Nat):List D->Res R
 |[.lst ds]=>match fX ds with
  |some ys=>if(ys.map List.length).sum+ys.length*sep.length<=16777216 then .ok (.f,.str (joinL sep ys)) else .bad
  |none=>.bad
 |_=>.bad
theorem wc(sep:List Nat):∀ys:List (List Nat),Str.join (S sep) (ys.map S)=S (joinL sep ys)
 |[]=>rfl
 |[x]=>rfl
 |x::y::r=>by
  have ih:=wc sep (y::r);show S x++S sep++Str.join (S sep) ((y::r).map S)=S (x++sep++joinL sep (y::r));rw[ih];apply Str.ext';simp[Str.cps_append]
def Ed(sep:List Nat):∀ys:List (List Nat),Txt.join (S sep) (ys.map S)=S (joinL sep ys)
 |ys=>by
  show Builtin.Str.glued (S sep) (ys.map S)=_;rw[StrLaws.glued_eq_join];exact wc sep ys
theorem o5(sep:List Nat):∀ys:List (List Nat),(joinL sep ys).length<=(ys.map List.length).sum+ys.length*sep.length
 |[]=>VD _
 |[x]=>by
  show x.length<=_;rw[Vf,Zj];lia
 |x::y::r=>by
  have ih:=o5 sep (y::r);show(x++sep++joinL sep (y::r)).length<=_;rw[Vr,Vr,Vf,Zj,Vc,Nat.add_mul];lia
theorem o6{K:W.Frag}{G:Hp}:∀{ds:List D}{ys:List (List Nat)}{xs:List V}{us:List Yu},fX ds=some ys->Reps K G ds xs->Vals xs us->StrsAre us (ys.map S)
 |[],ys,xs,us,e,r,v=>by
  cases e;rw[Reps]at r;subst r;cases v;exact .nil
 | .str b::ds,ys,xs,us,e,r,v=>by
  rw[Reps]at r;obtain⟨y,zs,ex,r1,r2⟩:=r;subst ex;cases v with
  |cons h t=>
   rw[fX,VA]at e;obtain⟨ws,hw,rfl⟩:=e;rw[Rep]at r1;obtain⟨r1,_⟩:=r1;subst r1;obtain⟨tk,rfl⟩:=h;exact .cons _ tk (o6 hw r2 t)
 | .non::_,_,_,_,e,_,_ | .bl _::_,_,_,_,e,_,_ | .int _::_,_,_,_,e,_,_ | .tup _::_,_,_,_,e,_,_ | .lst _::_,_,_,_,e,_,_ | .dct _ _ _::_,_,_,_,e,_,_=>by cases e
section
variable{X:Cx}
theorem Bx:Od X "str.join" (rMtS X.K wb):=by
 rintro pr s σ H x xs v us Q I rx rv ⟨G,fp,es,vs,l,ds,r,⟨rel,k⟩,ex,hz,vd,e⟩;unfold wb at e;split at e
 .rename_i ds;split at e
  .rename_i ys Te;split at e
   .rename_i hb;cases e;subst ex;obtain⟨w',ew,p,zs,ep,sq,rs⟩:=nS vd;subst ew ep;obtain⟨t,rfl⟩:=rx;obtain⟨u,rfl,ru⟩:=f9 rv;cases ru;obtain⟨Je,r',pl,N6⟩:=I.list sq;refine join_list pl.isList (ys:=ys.map S) (o6 Te rs r') ?_ fun t' kk=>?_
    .rw[Vj,UZ];have e1:((fun x:Str=>x.length)∘S)=List.length:=by funext z;exact lN z
     rw[e1,lN];exact hb
    .rw[Ed];refine⟨.str (S (joinL l ys)),H,I.tok _,⟨_,rfl⟩,k _ H G fp .refl (rel.push ?_)⟩;rw[Rep];have:=o5 l ys;exact⟨rfl,by rw[line_eq];lia⟩
   .cases e
  .cases e
 .cases e
end
end PV
namespace NX
open PySem PySem.Spec PyProof.Rows L2
section
variable{prog:Yy}{w:World}{A:Yz}{R:Result->Yw->Prop}{it:Yx}{fp wr:List Yx}{n:Nat}{Pv:Nat->Yu->Prop}{Sx:Nat->YB->Prop}{kw:List (Str×Yu)}
end
section
variable{X:Cx}{e k:Expr}{te tk:TE}{p pos MZ:Pos}
end
end NX
namespace PV
open PySem PySem.Spec PyProof.Rows L2 NX
section
variable{X:Cx}
end
section
variable{X:Cx}
noncomputable def GJ(g:List D->List D->Res R)(fa:FO)(fs:FOs):FX:=fun env=>(fa env).bind fun p=>(Kf p.2 p.1).bind fun a=>match a with
 | .lst _=>(fs p.2).bind fun q=>(Kf q.2 p.1).bind fun a2=>match a2 with
  | .lst l=>(ders q.2 q.1).bind fun ds=>(g l ds).bind fun r=>.ok (r,q.2)
  |_=>.bad
 |_=>.bad
inductive rMtL(K:W.Frag)(g:List D->List D->Res R)(x:V)(xs:List V)(H:Hp)(Q:VK):Prop
 |mk:∀G fp es vs l ds r,Goes K H G fp es vs r Q->Vw K G H (.lst l) x->Pg K G H ds xs->g l ds=.ok r->rMtL K g x xs H Q
theorem Ee{g:List D->List D->Res R}{id:String}{name:Str}{o e:Expr}{es:List Expr}{fa:FO}{fs:FOs}{apos Jr:Pos}(slot:Slot "list" name id)(M1:typeOf (.builtin id)=pure (.type "method_descriptor"))(hm:Od X id (rMtL X.K g))(ho:QO X o fa)(ha:Mj X (e::es) fs)
  (JQ:attributeBase o name X.env (eval o X.env)=eval o X.env:=by rfl)
  (KW:((backTo Jr (starEach (e::es) X.env)).all (fun x=>!x.1)&&(backToKw Jr (keywordEach [] X.env)).all (fun x=>x.1.isSome)&&decide ((e::es).length+([]:List Keyword).length+(if([]:List Keyword).isEmpty then 0 else 1)<30))=true:=by rfl)
  (JR:(apos.endLine==Jr.line)=true:=by rfl) (hs:starEach (e::es) X.env=(false,eval e X.env)::starEach es X.env:=by rfl) (JM:(backTo Jr (starEach es X.env)).any (·.1)=false:=by rfl):
  QE X (.Call (.Attribute o name apos) (e::es) [] Jr) (GJ g fa fs):=by
 refine bx (xP WS slot M1 hm ho ha JQ KW JR hs JM) fun σ H Q Jx=>?_
 obtain⟨G,env,fp,r,env',rel,e,k⟩:=Jx;obtain⟨⟨oa,Jb⟩,e1,e⟩:=au e;obtain⟨da,Ol,e⟩:=au e;dsimp only at e;split at e
 .obtain⟨⟨os,Jl⟩,e2,e⟩:=au e;obtain⟨d2,hd2,e⟩:=au e;dsimp only at e;split at e
  .obtain⟨ds,e3,e⟩:=au e;obtain⟨r',e4,e⟩:=au e;cases e;refine⟨G,env,fp,oa,Jb,rel,e1,fun v H1 G1 Ju Jp Jc J5=>?_⟩;obtain⟨p,xs,ev,sq,_⟩:=Jc.vw J5 Ol;subst ev;exact⟨.inl ⟨rfl,xs,sq⟩,G1,Jb,Ju,os,_,Jc,e2,fun vs H2 G2 JF Jj Jd M7=>⟨G2,JF,_,σ,_,ds,r,⟨Jd,fun v H' G' Jf st JC=>k v H' G' Jf (Jp.trans (Jj.trans st)) JC⟩,Jd.vw (J5.mono Jj.gg) hd2,Jd.vws M7 e3,e4⟩⟩
  .cases e
 .cases e
open PySem.SeqAt in
theorem By{pr:List (Yx×Obj)}{σ:L2.St}{H:Hp}{s:Yw}(I:Inv X pr σ H s){a:D}{x:V}{v:Yu}{A:Yz}(h:plainD 40 a=true)(hu:A.units+64<cLine)(r:Rep X.K H a x)(rx:RelV x v):
  ∀(ds:List D) (xs:List V) (us:List Yu),plainDs 40 ds=true->Reps X.K H ds xs->Vals xs us->∃e:Yu->Bool,(∀(j:Nat) (d:D) (u:Yu),ds[j]?=some d->us[j]?=some u->e u=Jg d a)/\∀u∈us,EqAt A s u v (e u):=by
 classical
 intro ds xs us hp rs vl;have key:∀(j:Nat) (d:D) (u:Yu),ds[j]?=some d->us[j]?=some u->decide (∃(j:Nat) (d:D),ds[j]?=some d/\us[j]?=some u/\Jg d a=true)=Jg d a:=by
  intro j d u hd hj;obtain⟨w1,Ms,Mt⟩:=rs.get hd;obtain⟨u1,Lj,Mu⟩:=vl.get Ms;rw[hj]at Lj;cases Lj;rw[Vp,Ve];constructor
  .rintro⟨j2,d2,k1,k2,k3⟩;obtain⟨w2,NB,NC⟩:=rs.get k1;obtain⟨u2,L8,ND⟩:=vl.get NB;rw[k2]at L8;cases L8;have:=Mu.inj ND;subst this;rw[kO I _ _ _ 40 (plainDs_mem hp hd) Mt NC];exact k3
  .intro k3;exact⟨j,_,hd,hj,k3⟩
 refine⟨fun u=>decide (∃(j:Nat) (d:D),ds[j]?=some d/\us[j]?=some u/\Jg d a=true),key,fun u Ot=>?_⟩;obtain⟨j,hj⟩:=VP.mp Ot;have l1:=vl.length;have l2:=rs.length;have hjl:=(List.getElem?_eq_some_iff.mp hj).1;have g1:ds[j]?=some (ds[j]'(by lia)):=List.getElem?_eq_getElem _;obtain⟨w1,Ms,Mt⟩:=rs.get g1;obtain⟨u1,Lj,Mu⟩:=vl.get Ms;rw[hj]at Lj;cases Lj;have z:=Bh I _ _ w1 x u v A 40 (plainDs_mem hp g1) h (by lia) Mt r Mu rx;show EqAt A s u v (decide (∃(j:Nat) (d:D),ds[j]?=some d/\us[j]?=some u/\Jg d a=true));rw[key j _ u g1 hj];exact z
def qq(l:List D):List D->Res R
 |[a]=>if plainD 40 a&&plainDs 40 l&&l.any (fun d=>Jg d a) then .ok (.f,.int (l.findIdx (fun d=>Jg d a):Nat)) else .bad
 |_=>.bad
theorem qr(hu:X.A.units+65<cLine):Od X "list.index" (rMtL X.K qq):=by
 rintro pr s σ H x xs v us Q I rx rv ⟨G,fp,es,vs,l,ds,r,⟨rel,k⟩,vx,vd,e⟩;unfold qq at e;split at e
 .rename_i a;split at e
  .rename_i hp;rw[Va,Va]at hp;cases e;obtain⟨p,ys,ev,sq,rs⟩:=vx;subst ev;cases rx;obtain⟨w',ew,va⟩:=nS vd;subst ew;obtain⟨u,rfl,ru⟩:=f9 rv;obtain⟨Je,vl,pl,hz⟩:=I.list sq;obtain⟨⟨cls,dd,data,sl⟩,ho,hc,n,hd⟩:=id pl.isList;simp only at hc hd;subst hc hd;obtain⟨ef,Us,he2⟩:=By (A:=X.A.in1) I hp.1.1 (by first|lia|(simp only[Around.in1_units];lia)) (va.rep rel.gh) ru l ys Je hp.1.2 (Reps.mono rel.gh rs) vl;have JL:l.findIdx (fun d=>Jg d a)<l.length:=List.findIdx_lt_length.mpr (by rw[<-Wi];exact hp.2);have l1:=vl.length;have l2:=rs.length;have hlt2:l.findIdx (fun d=>Jg d a)<Je.toArray.size:=by rw[U0];lia
   have hb:(l.findIdx (fun d=>Jg d a):Int)<2 ^ 63-1:=by
    rw[VT]at hz;lia
   refine PySem.call_meets Yo ⟨_,ho,rfl⟩ PySem.F.entry_list_index (PySem.F.args_list_index_2 _ _) (PySem.SeqAt.list_indexAt p Je.toArray n _ _ u ef (l.findIdx fun d=>Jg d a) hlt2 hb ?_ ?_) ⟨ho,fun y hy=>?_,⟨.int (l.findIdx (fun d=>Jg d a):Nat),H,I.tok _,⟨_,rfl⟩,k _ H G fp .refl (rel.push (bO _))⟩⟩
   .rw[Us _ _ _ (List.getElem?_eq_getElem JL) (by rw[YX];exact List.getElem?_eq_getElem _)];exact YY (w:=JL)
   .intro m hm hlt3;rw[Us m (l[m]'(by lia)) _ (List.getElem?_eq_getElem _) (by rw[YX];exact List.getElem?_eq_getElem _)];exact List.not_of_lt_findIdx hlt3
   .exact he2 y (by simpa using hy)
  .cases e
 .cases e
end
section
variable{K:W.Frag}{G G' H H':Hp}{es:PV.Env}{vs:L2.St}{fp:List Yx}
theorem Rel.lendM2(q:Rel K G H es vs fp)(a:List Yx)(ha:∀z∈a,z∉fp)(hga:∀z∈a,G z=none):∃G1,Same G G1/\Same G1 H/\(∀z∈a,G1 z=none)/\(∀(i:Nat) (r:R) (v:V),es[i]?=some (some r)->vs[i]?=some (some v)->Rep K G1 r.2 v)/\
  ∀(H2 G2:Hp) (JF:List Yx) (rs:PV.Env) (ws:L2.St),Step G1 H a G2 H2 JF->Rel K G2 H2 rs ws JF->((∀r,some r∈rs->aO r.1 r.2=true)->∃G3 Ke,Step G H (a++fp) G3 H2 Ke/\Rel K G3 H2 (rs++es) (ws++vs) Ke)/\∃G3 Ke,Step G H (a++fp) G3 H2 Ke/\Rel K G3 H2 (rs++es.map PV.frz) (ws++vs) Ke:=by
 have hg:Same G (fun p=>if p∈fp then H p else G p):=fun p u e=>by
  show(if p∈fp then H p else G p)=some u;by_cases hp:p∈fp
  .rw[U5 hp];exact q.gh p u e
  .rw[U8 hp];exact e
 have hh:Same (fun p=>if p∈fp then H p else G p) H:=fun p u e=>by
  have e:(if p∈fp then H p else G p)=some u:=e;by_cases hp:p∈fp
  .rw[U5 hp]at e;exact e
  .rw[U8 hp]at e;exact q.gh p u e
 have hk:∀p∈fp,∀u,H p=some u->(fun p=>if p∈fp then H p else G p) p=some u:=fun p hp u e=>by
  show(if p∈fp then H p else G p)=some u;rw[U5 hp];exact e
 refine⟨fun p=>if p∈fp then H p else G p,hg,hh,fun z hz=>?_,fun i r v e ev=>q.rep.rep hg hk e ev,fun H2 G2 JF rs ws st k=>⟨fun cl=>?_,?_⟩⟩
 .show(if z∈fp then H z else G z)=none;rw[U8 (ha z hz)];exact hga z hz
 .have kept:∀p∈fp,H2 p=H p:=fun p hp=>by
   obtain⟨u,hu⟩:=q.rep.live p hp;rw[hu];exact st.keep p u hu fun z=>ha p z hp
  have apart:∀p∈JF,p∉fp:=fun p hp hf=>by
   rcases st.fpn p hp with z|z
   .exact ha p z hf
   .obtain⟨u,hu⟩:=q.rep.live p hf;rw[z]at hu;cases hu
  have g3:Same G (fun p=>if p∈fp then none else G2 p):=fun p u e=>by
   show(if p∈fp then none else G2 p)=some u;rw[U8 (fun z=>by rw[q.gn p z]at e;cases e)];exact st.gg p u (hg p u e)
  refine⟨fun p=>if p∈fp then none else G2 p,JF++fp,⟨g3,fun p u e n=>?_,fun p hp=>?_,fun p u e=>?_,st.there⟩,⟨RepE.append (RepE.clean (fun p u t e=>?_) cl k.rep) (q.rep.step g3 kept),?_,fun p hp=>?_,fun p u e=>?_⟩⟩
  .exact st.keep p u e fun z=>n (U7 _ z)
  .rcases Vv.mp hp with hp|hp
   .exact(st.fpn p hp).imp_left (U7 _)
   .exact .inl (U2 _ hp)
  .have e:(if p∈fp then none else G2 p)=some u:=e;by_cases hp:p∈fp
   .rw[U5 hp]at e;cases e
   .rw[U8 hp]at e;rcases st.gnew p u e with z|z|z
    .have z:(if p∈fp then H p else G p)=some u:=z;rw[U8 hp]at z;exact .inl z
    .exact .inr (.inl (U7 _ z))
    .exact .inr (.inr z)
  .show(if p∈fp then none else G2 p)=some u;by_cases hp:p∈fp
   .exfalso;obtain⟨u',hu,hm⟩:=q.rep.mut p hp;have:=st.gg p u' (hk p hp u' hu);rw[e]at this;cases this;cases u with
    |lst _=>cases t
    |dK _=>cases t
    |dT _=>cases t
    |_=>cases hm
   .rw[U8 hp];exact e
  .rw[Vs];exact⟨k.nd,q.nd,fun p hp z hz e=>apart p hp (e▸hz)⟩
  .show(if p∈fp then none else G2 p)=none;by_cases hf:p∈fp
   .rw[U5 hf]
   .rw[U8 hf];rcases Vv.mp hp with hp|hp
    .exact k.gn p hp
    .exact absurd hp hf
  .have e:(if p∈fp then none else G2 p)=some u:=e;by_cases hp:p∈fp
   .rw[U5 hp]at e;cases e
   .rw[U8 hp]at e;exact k.gh p u e
 .have Ut:=hg.trans st.gg;have rf:RepE K G2 H2 (es.map PV.frz) vs []:=q.rep.frz Ut fun p hp u e=>st.gg p u (hk p hp u e)
  have ra:=RepE.append k.rep rf;rw[Vo]at ra;refine⟨G2,JF,⟨Ut,fun p u e n=>st.keep p u e fun z=>n (U7 _ z),fun p hp=>(st.fpn p hp).imp_left (U7 _),fun p u e=>?_,st.there⟩,⟨ra,k.nd,k.gn,k.gh⟩⟩;rcases st.gnew p u e with z|z|z
  .have z:(if p∈fp then H p else G p)=some u:=z;by_cases hp:p∈fp
   .exact .inr (.inl (U2 _ hp))
   .rw[U8 hp]at z;exact .inl z
  .exact .inr (.inl (U7 _ z))
  .exact .inr (.inr z)
end
noncomputable def eFunW(c:O)(F:Yx->List D->Res R)(i:Nat)(fs:FOs):FX:=fun env=>(fs env).bind fun p=>match p.1 with
 | .var j::os=>if j=i then(match p.2[i]? with
  |some (some (ow,d0))=>if oY c ow then(iV (p.2.set i none) os).bind fun ds=>(jB F c d0 ds).bind fun x=>if aO x.1.1 x.1.2&&aO c x.2 then .ok (x.1,(p.2.set i none).set i (some (ow,x.2))) else .ok (x.1,((p.2.set i none).map frz).set i (some (ow,x.2))) else .bad
  |_=>.bad) else .bad
 |_=>.bad
section
variable{X:Cx}{x:Str}{p pos:Pos}{e:Expr}{es:List Expr}{f0:FX}{fs:FOs}
theorem Bz{F:Yx->List D->Res R}{c:O}{i k:Nat}(C:Ct X.prog X.w X.K X.mg X.base x k (spM X.K c F))(hr:Room k X.A)(hg:Gl X x)(ha:Mj X (e::es) fs)(KU:(x==("__debug__" : Str))=false:=by decide)
  (he:starEach (e::es) X.env=(false,eval e X.env)::starEach es X.env:=by rfl) (Ka:(backTo pos (starEach es X.env)).any (·.1)=false:=by rfl):QE X (.Call (.Name x p) (e::es) [] pos) (eFunW c F i fs):=
 bx (xU C hr hg ha KU he Ka) fun σ H Q Jo=>by
  obtain⟨G,env,fp,r,env',rel,e,k⟩:=Jo;obtain⟨⟨os,e1⟩,ha,e⟩:=au e;dsimp only at e;split at e
  .rename_i j Ua;split at e
   .rename_i hj;subst hj;split at e
    .rename_i ow d0 hi;split at e
     .rename_i how;obtain⟨ds,hd,e⟩:=au e;obtain⟨z,hz,e⟩:=au e;refine⟨G,env,fp,_,e1,rel,ha,fun vs H1 G1 Ju Jp Jc J5=>?_⟩;show spM X.K c F (vs++[]) H1 Q _;rw[Vo];obtain⟨y,ys,ey,k1,k2⟩:=J5;obtain⟨v0,a,b,ev,r0,r2,pm⟩:=Jc.rep.take hi;have k1:σ[j]?=some (some y):=k1;rw[k1]at ev;cases ev;obtain⟨⟨q,hq⟩,rc,back⟩:=zM how r0;subst hq;have nd:=Vs.mp (pm.nodup_iff.mp Jc.nd);have P6:Rel X.K G1 H1 (e1.set j none) σ b:=⟨r2,nd.2.1,fun w hw=>Jc.gn w (pm.mem_iff.mpr (U2 _ hw)),Jc.gh⟩
      obtain⟨G2,Oo,PU,Tx,KA,KJ⟩:=P6.lendM2 a (fun w hw hb=>nd.2.2 w hw w hb rfl) (fun w hw=>Jc.gn w (pm.mem_iff.mpr (U7 _ hw)));refine⟨G2,q,ys,d0,ds,_,a,PU,ey,rc.step Oo (fun _ _=>rfl),nd.1,Tx,gf Oo KA k2 hd,rZ hz q,fun v H' G' Jf st rt=>?_⟩;obtain⟨o',d',p',c',Tw,er,rl⟩:=rt;cases er;have fin:∀(ee:PV.Env),ee.length=e1.length->(∃G3 Ke,Step G1 H1 (a++b) G3 H' Ke/\Rel X.K G3 H' (some z.1::some (.pin q c,z.2)::ee) (some v::some (.ref q)::σ) Ke)->(z.1,ee.set j (some (ow,z.2)))=(r,env')->Q v H':=by
       rintro ee Tz ⟨G3,Ke,JB,Jy⟩ TB;cases TB;obtain⟨a1,b1,ef,ro,JU,comb⟩:=Rel.frame Jy;have P7:Rel X.K G3 H' (some (ow,z.2)::ee) (some (.ref q)::σ) b1:=by
        obtain⟨y2,ys2,Ox,v2,a2,b2,TC,TF,RN,TH⟩:=JU.rep;cases Ox;cases TC;rw[RepO]at RN;exact⟨⟨_,_,rfl,_,a2,b2,rfl,TF,back _ _ _ _ RN.2,TH⟩,JU.nd,JU.gn,JU.gh⟩
       obtain⟨fq,P8,TJ⟩:=P7.back (i:=j) (by rw[Tz];exact(List.getElem?_eq_some_iff.mp hi).1) k1;obtain⟨P9,RO⟩:=comb G3 H' _ _ fq TJ P8;rw[<-ef]at RO;exact k v H' G3 _ (Jp.trans ((JB.perm (fun w=>pm.mem_iff.symm) (fun w hw=>hw)).trans RO)) P9
      obtain⟨b1,b2⟩:=KJ H' G' Jf _ _ st rl;split at e
      .rename_i LN;rw[Va]at LN;have e:=Res.ok.inj e;refine fin (e1.set j none) (by rw[VO]) (b1 fun w hw=>?_) e;rcases Vb.mp hw with hw|hw
       .cases hw;exact LN.1
       .rw[Vn]at hw;cases hw;simp only[aO];exact LN.2
      .have e:=Res.ok.inj e;exact fin ((e1.set j none).map frz) (by rw[UZ,VO]) b2 e
     .cases e
    .cases e
   .cases e
  .cases e
end
def SlR3(X:Cx)(r:V->Option Int->Option Int->Option Int->Hp->VK->Prop):Prop:=
 ∀(pr:List (Yx×Obj)) (s:Yw) (σ:L2.St) (H:Hp) (x:V) (v vl vu vt:Yu) (lo hi st:Option Int) (sl:Yx) (Q:VK),Inv X pr σ H s->RelV x v->s.heap.IsSliceOf sl vl vu vt->IsPart vl lo->IsPart vu hi->IsPart vt st->r x lo hi st H Q->
  ∃T id,typeLookup (.type T) "__getitem__" = pure (some (.builtin id))/\s.TypeIs v T/\wpAny (model X.prog X.w) X.A (getItem v (.ref sl)) (EP X pr σ Q) X.xe s
def IB(r:V->Option Int->Option Int->Option Int->Hp->VK->Prop)(te:TE)(tl th ts:TO):TE:=fun σ H Q=>te σ H fun x H1=>tl σ H1 fun l H2=>th σ H2 fun u H3=>ts σ H3 fun t H4=>r x l u t H4 Q
def we{X:Cx}{e:Expr}{te:TE}{lo hi:Option Expr}{se:Expr}{tl th ts:TO}{pos p2:Pos}{r:V->Option Int->Option Int->Option Int->Hp->VK->Prop}(hr:SlR3 X r)(he:PE X e te)(hl:PO X lo tl)(hu:PO X hi th)(hs:PO X (some se) ts):PE X (.Subscript e (.Slice lo hi (some se) p2) pos) (IB r te tl th ts):=by
 intro pr s σ H Q I h;refine Subscript_ (Jt (he pr s σ H _ I h) fun v s1 Jx=>?_);obtain⟨x,H1,I1,r1,q1⟩:=Jx;refine wpAny_Slice (Jt (hl pr s1 σ H1 _ I1 q1) fun vl s2 ⟨l,H2,I2,pl,q2⟩=>Jt (hu pr s2 σ H2 _ I2 q2) fun vu s3 ⟨u,H3,I3,pu,q3⟩=>Jt (hs pr s3 σ H3 _ I3 q3) fun vt s4 Jx=>?_);obtain⟨t,H4,I4,pt,q4⟩:=Jx;have I5:Inv X pr σ H4 {s4 with heap:=s4.heap.push {cls:=.type "slice",data:=.fields #[vl,vu,vt]}}:=I4.kept (t':=s4.toks) fun b ob q=>Heap.get?_push_of_some _ q
 obtain⟨T,id,hT,ht,hg⟩:=hr pr {s4 with heap:=s4.heap.push {cls:=.type "slice",data:=.fields #[vl,vu,vt]}} σ H4 x v vl vu vt l u t s4.heap.objs.size Q I5 r1 (Heap.IsSliceOf.new ..) pl pu pt q4;show wpAny (model X.prog X.w) X.A (subscriptTail e (.Slice lo hi (some se) p2) v (.ref s4.heap.objs.size)) (EP X pr σ Q) X.xe {s4 with heap:=s4.heap.push {cls:=.type "slice",data:=.fields #[vl,vu,vt]}};exact tail_any (ops:=[v,.ref s4.heap.objs.size]) ht hT hg (by with_unfolding_all rfl)
def gq{α:Type}(xs:List α)(lo hi:Option Int)(c:Int):List α:=
 (sliceRange (sliceBounds lo hi (some c) xs.length).1 (sliceBounds lo hi (some c) xs.length).2.1 (sliceBounds lo hi (some c) xs.length).2.2).filterMap (fun i=>xs[i]?)
theorem o7{K:W.Frag}{G:Hp}{ds:List D}{xs:List V}(r:Reps K G ds xs):∀ix:List Nat,Reps K G (ix.filterMap fun i=>ds[i]?) (ix.filterMap fun i=>xs[i]?)
 |[]=>.nil
 |i::ix=>by
  have ih:=o7 r ix;cases e:ds[i]? with
  |none=>
   have e2:xs[i]?=none:=by
    rw[List.getElem?_eq_none_iff]at e ⊢;rw[r.length];exact e
   rw[WM e,WM e2];exact ih
  |some d=>
   obtain⟨v,e2,rv⟩:=r.get e;rw[WN e,WN e2];exact .cons rv ih
theorem vals_pick{xs:List V}{us:List Yu}(r:Vals xs us):∀ix:List Nat,Vals (ix.filterMap fun i=>xs[i]?) (ix.filterMap fun i=>us[i]?)
 |[]=>.nil
 |i::ix=>by
  have ih:=vals_pick r ix;cases e:xs[i]? with
  |none=>
   rw[WM e,WM (r.none_of e)];exact ih
  |some d=>
   obtain⟨v,e2,rv⟩:=r.get e;rw[WN e,WN e2];exact .cons rv ih
def sd(Je:List Yu)(lo hi:Option Int)(c:Int):slicePick Je.toArray lo hi (some c)=(gq Je lo hi c).toArray:=by
 unfold slicePick gq;simp only[U0,List.getElem?_toArray]
def BA(Je:List Yu)(lo hi:Option Int)(c:Int):(gq Je lo hi c).length<=Je.length:=by
 have:=slicePick_size_le Je.toArray lo hi (some c);rw[sd]at this;simpa using this
def Ef(k:D)(lo hi st:Option Int):Res R:=match k,st with
 | .lst ds,some c=>if c≠0 then .ok (.l .f,.lst (gq ds lo hi c)) else .bad
 |_,_=>.bad
def GK(fa:FO)(lo hi st:FP):FX:=fun env=>(fa env).bind fun p=>(lo p.2).bind fun q=>(hi q.2).bind fun t=>(st t.2).bind fun u=>(Kf u.2 p.1).bind fun d=>(Ef d q.1 t.1 u.1).bind fun r=>.ok (r,u.2)
section
variable{X:Cx}{pos:Pos}{fa:FO}
inductive rSl3(K:W.Frag)(x:V)(lo:Option Int)(hi:Option Int)(st:Option Int)(H:Hp)(Q:VK):Prop
 |mk:∀G fp es vs d r,Goes K H G fp es vs r Q->Vw K G H d x->Ef d lo hi st=.ok r->rSl3 K x lo hi st H Q
theorem Eg:SlR3 X (rSl3 X.K):=by
 rintro pr s σ H x v vl vu vt lo hi st sl Q I rx hs pl pu pt ⟨G,fp,es,vs,d,r,⟨rel,k⟩,vd,e⟩;unfold Ef at e;split at e
 .rename_i ds c;split at e
  .rename_i hc;cases e;obtain⟨p,xs,ev,sq,rs⟩:=vd;subst ev;cases rx;obtain⟨Je,r,ht,hz⟩:=I.list sq;have hlen:=r.length;refine⟨"list",_,slot_list_getitem.lookup,ht.isList.typeIs,?_⟩;refine X9 ht.isList hs pl pu pt (fun h=>hc (Vg h)) ?_ (by rw[U0];lia);rw[sd];have r2:Vals (gq xs lo hi c) (gq Je lo hi c):=by
    unfold gq;rw[hlen];exact vals_pick r _
   have rs2:Reps X.K G (gq ds lo hi c) (gq xs lo hi c):=by
    unfold gq;rw[rs.length];exact o7 rs _
   have N6:(gq xs lo hi c).length<=sizeLine:=by
    rw[r2.length];have:=BA Je lo hi c;lia
   have hq:=I.hok.fresh (U6 s.heap.objs.size);obtain⟨Jd,Jj⟩:=rel.newL hq rs2;refine⟨.ref s.heap.objs.size,_,I.laid (t':=s.toks) (o:=.lst (gq xs lo hi c)) (fun b ob q=>Heap.get?_push_of_some _ q) (U6 _) ?_,rfl,k _ _ G _ Jj Jd⟩;exact⟨N6,_,0,r2,Heap.get?_push_size _ rfl⟩
  .cases e
 .cases e
theorem Eh{e:Expr}{lo hi:Option Expr}{se:Expr}{p2:Pos}{fl fh fs:FP}(he:QO X e fa)(hl:QP X lo fl)(hh:QP X hi fh)(hs:QP X (some se) fs):QE X (.Subscript e (.Slice lo hi (some se) p2) pos) (GK fa fl fh fs):=
 bx (we Eg he hl hh hs) fun σ H Q Jo=>by
  obtain⟨G,env,fp,r,env',rel,e,k⟩:=Jo;obtain⟨⟨o,Jb⟩,e1,e⟩:=au e;obtain⟨⟨i,Jl⟩,e2,e⟩:=au e;obtain⟨⟨j,JO⟩,e3,e⟩:=au e;obtain⟨⟨t,RP⟩,e4,e⟩:=au e;obtain⟨d,e5,e⟩:=au e;obtain⟨r',e6,e⟩:=au e;cases e;exact⟨G,env,fp,o,Jb,rel,e1,fun v H1 G1 Ju Jp Jc J5=>⟨G1,Jb,Ju,i,Jl,Jc,e2,fun H2 G2 JF Jj Jd=>⟨G2,Jl,JF,j,JO,Jd,e3,fun H3 G3 Ke JB Jy=>⟨G3,JO,Ke,t,RP,Jy,e4,fun H4 G4 PX J3 JH=>
   ⟨G4,PX,RP,σ,d,r,⟨JH,fun v H' G' Jf st JC=>k v H' G' Jf (Jp.trans (Jj.trans (JB.trans (J3.trans st)))) JC⟩,JH.vw (((J5.mono Jj.gg).mono JB.gg).mono J3.gg) e5,e6⟩⟩⟩⟩⟩
end
section
variable{X:Cx}
def BB(fa fb fc:FX):FX:=fun env=>(fa env).bind fun p=>(fb p.2).bind fun q=>(fc q.2).bind fun t=>.ok ((.t [.f,q.1.1,t.1.1],.tup [p.1.2,q.1.2,t.1.2]),t.2)
theorem BC{a b c:Expr}{fa fb fc:FX}{x1}{pos:Pos}(ha:QE X a fa)(hb:QE X b fb)(hc:QE X c fc)(h1:starEach [a,b,c] X.env=(false,eval a X.env)::starEach [b,c] X.env:=by rfl)(h2:starEach [b,c] X.env=(false,eval b X.env)::starEach [c] X.env:=by rfl)(h3:starEach [c] X.env=(false,eval c X.env)::starEach [] X.env:=by rfl):
  QE X (.Tuple [a,b,c] x1 pos) (BB fa fb fc):=
 bx (qT (c5 ha (c5 hb (c5 hc jK h3) h2) h1)) fun σ H Q Jo=>by
  obtain⟨G,env,fp,r,env',rel,e,k⟩:=Jo;obtain⟨⟨r1,Jb⟩,e1,e⟩:=au e;obtain⟨⟨⟨o2,d2⟩,Jl⟩,e2,e⟩:=au e;obtain⟨⟨⟨o3,d3⟩,JO⟩,e3,e⟩:=au e;cases e;refine⟨G,env,fp,r1,Jb,rel,e1,fun v H1 G1 Ju Jp Jc=>?_⟩;obtain⟨G2,b,rv,Jd,Jj⟩:=Jc.freeze;refine⟨G2,Jb,b,(o2,d2),Jl,Jd,e2,fun v2 H3 G3 Ke JB Jy=>?_⟩;obtain⟨a3,b3,ef3,ro3,RQ,bk3⟩:=Jy.frame;refine⟨G3,Jl,b3,(o3,d3),JO,RQ,e3,fun v3 H4 G4 PX J3 JH=>⟨by rw[line_eq];exact(by decide:3<=16777216),fun p hp=>?_⟩⟩;obtain⟨NI,Ov⟩:=bk3 G4 H4 _ _ PX J3 JH;rw[<-ef3]at Ov;obtain⟨Kq,Lh⟩:=NI.newF (u:=.tup [v,v2,v3]) hp;refine k _ _ _ _ (Jp.trans (Jj.trans (JB.trans (Ov.trans Lh)))) ?_;obtain⟨y,ys,ey,v',a',b',Ox,ef,q1,q2⟩:=Kq.rep;cases ey;cases Ox;obtain⟨y,ys,ey,v'',RS,b'',Ox,ef',q3,q4⟩:=q2;cases ey;cases Ox;subst ef';refine⟨⟨some (.ref p),σ,rfl,.ref p,a'++RS,b'',rfl,by rw[ef,VH],?_,q4⟩,Kq.nd,Kq.gn,Kq.gh⟩;show RepO X.K _ _ (.t [.f,o2,o3]) (.tup [r1.2,d2,d3]) (.ref p) (a'++RS);rw[RepO];refine⟨p,[v,v2,v3],rfl,aU,?_⟩;rw[RepT];refine⟨v,[v2,v3],[],a'++RS,rfl,rfl,eE.mpr ⟨Rep.mono (JB.gg.trans (Ov.gg.trans Lh.gg)) rv,rfl⟩,?_⟩;rw[RepT];refine⟨v2,[v3],a',RS,rfl,rfl,q1,?_⟩;rw[RepT];refine⟨v3,[],RS,[],rfl,by rw[Vo],q3,?_⟩;rw[RepT];exact⟨rfl,rfl⟩
end
section
variable{X:Cx}{scope:Scope}{N:List Str}{tg iter elt:Expr}{ifs:List Expr}{pos:Pos}{fi:FI}{a:FG}{c:FT}{f:FX}
end
end PV
namespace L2
open PySem PySem.Spec PyProof.Rows NX
section
variable{X:Cx}{tg:Expr}
def GL(ta:TA):TI:=fun σ H R=>ta σ H fun vs H1=>∃j:Int,vs=[.int j]/\0<=j/\j<=1048576/\R (RJ (j-1) (-1) j.toNat) H1
theorem BD{a:Expr}{ta:TA}{p p2 pos Lm:Pos}(hg:Gl X "reversed")(hm:X.mg "reversed" = none)(Ry:Gl X "range")(Rz:X.mg "range" = none)(ha:PA X [a] ta)
  (he:starEach [.Call (.Name "range" p2) [a] [] Lm] X.env=(false,eval (.Call (.Name "range" p2) [a] [] Lm) X.env)::starEach [] X.env:=by rfl) (Ka:(backTo pos (starEach [] X.env)).any (·.1)=false:=by rfl)
  (hs:starEach [a] X.env=[(false,eval a X.env)]:=by rfl):PI X tg (.Call (.Name "reversed" p) [.Call (.Name "range" p2) [a] [] Lm] [] pos) (GL ta):=by
 intro pr s σ H R I h;refine Call_ (g8 I hg hm (by decide +kernel:bootBuiltins "reversed" = some (.type "reversed")) (VM ?_ he Ka));rw[he];show wpAny _ _ (spliced ((false,eval (.Call (.Name "range" p2) [a] [] Lm) X.env)::backTo pos (starEach [] X.env))) _ _ s;refine Calls.spliced_cons ?_;refine Call_ (g8 I Ry Rz boot_range (VM (Jt (ha Lm pr s σ H _ I h) fun us s1 hh=>?_) hs rfl));obtain⟨vs,H1,I1,r1,j,e,q1,q2,q⟩:=hh;subst e;cases r1 with
 |cons r rr=>
  cases rr;obtain⟨t,rfl⟩:=r;refine call_range_1 (Calls.spliced_nil (A8 (IsRange.new ..) q1 q2 ?_));have I2:Inv X pr σ H1 {s1 with heap:=s1.heap.push {cls:=.type "range",data:=.fields #[.int 0 s1.toks,.int j t,.int 1 (s1.toks+1)]},toks:=s1.toks+1+1}:=I1.kept fun b o e=>Heap.get?_push_of_some _ e
  generalize {s1 with heap:=s1.heap.push {cls:=.type "range",data:=.fields #[.int 0 s1.toks,.int j t,.int 1 (s1.toks+1)]},toks:=s1.toks+1+1}=s2 at I2 ⊢;have hit:IsRangeIter (s2.heap.push (PQ 0 1 j)) s2.heap.objs.size (j-1) j (-1):=by
   have:=Heap.get?_push_size s2.heap (o:=PQ 0 1 j) rfl;unfold PQ at this ⊢;rw[show(0:Int)+(j-1)*1=j-1 by lia]at this ⊢;exact this
  refine Xr hit ?_;refine⟨s2.heap.objs.size,[s2.heap.objs.size],_,_,H1,rfl,I2.kept (t':=s2.toks) fun b o e=>Heap.get?_push_of_some _ e,l8 _ (j-1) (-1) j.toNat,?_,fun b hb=>?_,q⟩
  .show IsRangeIter _ _ (j-1+((0:Nat):Int) * -1) (((j.toNat:Nat):Int)-((0:Nat):Int)) (-1);rw[show j-1+((0:Nat):Int) * -1=j-1 by lia,show((j.toNat:Nat):Int)-((0:Nat):Int)=j by lia];exact hit
  .have e:b=s2.heap.objs.size:=by simpa using hb
   subst e;exact I2.fpOk (U6 _) (I2.hok.fresh (U6 _))
end
end L2
namespace PV
open PySem PySem.Spec PyProof.Rows L2 NX
section
variable{X:Cx}{tg:Expr}
def iRevR1(fs:FOs):FI:=fun env=>(fs env).bind fun p=>(ders p.2 p.1).bind fun d=>match d with
 |[.int j]=>if 0<=j/\j<=1048576 then .ok ((List.range j.toNat).map fun(k:Nat)=>D.int (j-1+(k:Int) * -1),p.2) else .bad
 |_=>.bad
theorem BE{a:Expr}{fs:FOs}{p p2 pos Lm:Pos}(hg:Gl X "reversed")(hm:X.mg "reversed" = none)(Ry:Gl X "range")(Rz:X.mg "range" = none)(ha:Mj X [a] fs)
  (he:starEach [.Call (.Name "range" p2) [a] [] Lm] X.env=(false,eval (.Call (.Name "range" p2) [a] [] Lm) X.env)::starEach [] X.env:=by rfl) (Ka:(backTo pos (starEach [] X.env)).any (·.1)=false:=by rfl)
  (hs:starEach [a] X.env=[(false,eval a X.env)]:=by rfl):QI X tg (.Call (.Name "reversed" p) [.Call (.Name "range" p2) [a] [] Lm] [] pos) (iRevR1 fs):=
 hV (BD hg hm Ry Rz ha he Ka hs) fun σ H R hq=>by
  obtain⟨G,env,fp,ds,env',rel,e,k⟩:=hq;obtain⟨⟨o,Jb⟩,e1,e⟩:=au e;obtain⟨d,e2,e⟩:=au e;dsimp only at e;split at e
  .rename_i j;split at e
   .rename_i hj;cases e;refine⟨G,env,fp,o,_,rel,e1,fun vs H1 G1 Ju Jp Jc J5=>?_⟩;obtain⟨y,ev,v1⟩:=nS (Jc.vws J5 e2);cases bz v1;exact⟨j,ev,hj.1,hj.2,k _ H1 G1 Ju Jp Jc (l9 (j-1) (-1) _)⟩
   .cases e
  .cases e
end
abbrev FB:=PV.Env->Bool
section
variable{X:Cx}{st:Stmt}{Tr:List Stmt}{g:FS}{x:FB}{Ww:Hp->Prop}{c:FT}{pos np Jr:Pos}{e:Expr}{es:List Expr}{fs:FOs}{C:Yx}{y:Str}
end
abbrev FXE:=PV.Env->Option PV.Env
section
variable{md:Mode}{X:Cx}{x:Str}{p pos:Pos}{e a b:Expr}{es:List Expr}{C:Yx}{F:List D->Bool}{fs:FOs}{k:Nat}{xe:FXE}{dX:List Stmt}
end
noncomputable def fBodyJ(j np nn:Nat)(c:O)(g:FS)(p:Yx):List D->Res R
 |d0::ds=>if ds.length+1=np/\j<=ds.length then(g ((ds.take j).map (fun d=>some (O.f,d))++some (.pin p c,d0)::((ds.drop j).map (fun d=>some (O.f,d))++List.replicate nn none))).bind fun o=>match o with
  | .rt r=>.ok r
  |_=>.bad
  else .bad
 |[]=>.bad
inductive spJ(j:Nat)(K:W.Frag)(c:O)(F:Yx->List D->Res R)(vs:List V)(H:Hp)(Q:VK)(zz:XK):Prop
 |mk:∀va v vb,vs=va++v::vb->va.length=j->spM K c F (v::(va++vb)) H Q zz->spJ j K c F vs H Q zz
theorem sf{K:W.Frag}{G H:Hp}{es:PV.Env}{us:L2.St}{fp:List Yx}(h:RepE K G H es us fp):∀{ds:List D}{vs:List V},Reps K G ds vs->RepE K G H (ds.map (fun d=>some (O.f,d))++es) (vs.map some++us) fp
 |[],vs,r=>by
  rw[Reps]at r;subst r;exact h
 |d::ds,vs,r=>by
  rw[Reps]at r;obtain⟨y,ys,e,r1,r2⟩:=r;subst e;exact⟨some y,_,rfl,y,[],fp,rfl,rfl,eE.mpr ⟨r1,rfl⟩,sf h r2⟩
theorem me{K:W.Frag}{G:Hp}:∀{j:Nat}{ds:List D}{va vb:List V},va.length=j->Reps K G ds (va++vb)->Reps K G (ds.take j) va/\Reps K G (ds.drop j) vb
 | 0,ds,[],vb,_,r=>⟨by rw[Y0];exact .nil,r⟩
 |j+1,[],v::va,vb,_,r=>by
  rw[Reps]at r;cases r
 |j+1,d::ds,v::va,vb,hl,r=>by
  rw[Wy,Reps]at r;obtain⟨y,ys,e,r1,r2⟩:=r;cases e;obtain⟨q1,q2⟩:=me (Nat.succ.inj hl) r2;exact⟨.cons r1 q1,q2⟩
def Ei{P:Yy}{w:World}{K:W.Frag}{mg:Str->Option Yu}{base:YB}{x:Str}{st:Stmt}{N ps:List Str}{j k:Nat}{c:O}{g:FS}(Df:Def K mg x st)(sc:FnScope N ps (defScope st))
  (hb:∀(kV doc pm:Yu) (an:Option Yx) (Jz ct:Yu) (us:List Yu),us.length=ps.length->bindArgs (PySem.W.fnOf x x (eU st) (cO st) (defScope st) .none kV doc pm an Jz ct) ⟨us,[]⟩=pure (ps.zip us))
  (body:∀(f:Yx) (Jz:Yu) (A:Yz) (outer:List PySem.Env) (s:Yw) (H:Hp) (E:XK),Room k (A.deeper (envOfC x (defScope st) s.heap.objs.size f Jz))->M6 (md:=.mut) (xv M3 P w K mg base N x (defScope st) f Jz A outer s H E).nox (cO st) g):
  Ct P w K mg base x (k+1) (spJ j K c (fBodyJ j ps.length (N.length-ps.length) c g)):=by
 obtain⟨f,fd,F,m⟩:=Df;refine⟨f,fd,ps,F.ok sc (fun vs H Q E h=>?_) (fun Jz A outer s H vs Q E hr h=>?_),m,F.kp,F.binds hb⟩
 .obtain⟨va,v,vb,SI,SJ,G,p,Lv,d0,ds,r,Nb,_,ev,_,_,_,rs,e,_⟩:=h;cases ev;unfold fBodyJ at e;dsimp only at e;split at e
  .rename_i hl;have:=rs.length;rw[Vr]at this;rw[SI,Vr,Vc];lia
  .cases e
 .obtain⟨va,v,vb,SI,SJ,G,p,Lv,d0,ds,r,Nb,gh,ev,r0,nd,gn,rs,e,q⟩:=h;cases ev;unfold fBodyJ at e;dsimp only at e;split at e
  .rename_i hl;have hlen:=rs.length;rw[Vr]at hlen;obtain⟨ra,rb⟩:=me SJ rs;refine⟨_,body f Jz A outer s H E hr,G,(ds.take j).map (fun d=>some (O.f,d))++some (.pin p c,d0)::((ds.drop j).map (fun d=>some (O.f,d))++List.replicate (N.length-ps.length) none),Nb,⟨?_,nd,gn,gh⟩,?_⟩
   .have z:=gk (K:=K) (G:=G) (H:=H) (N.length-ps.length) rb;have z2:RepE K G H (some (.pin p c,d0)::((ds.drop j).map (fun d=>some (O.f,d))++List.replicate (N.length-ps.length) none)) (some (.ref p)::(vb.map some++List.replicate (N.length-ps.length) none)) Nb:=
     ⟨some (.ref p),_,rfl,.ref p,Nb,[],rfl,(Vo _).symm,by rw[RepO];exact⟨rfl,r0⟩,z⟩
    have z3:=sf z2 ra;unfold L2.j8;have e1:vs.length=ps.length:=by rw[SI,Vr,Vc];lia
    rw[e1,SI,Vh,Vf,VH,Wy];exact z3
   .obtain⟨o,eo,e⟩:=au e;rw[eo];cases o with
    |rt r'=>
     cases e;exact fun v H' G' Jf st rel=>q v H' G' Jf st rel
    |nx env'=>cases e
    |bk env'=>cases e
    |ct env'=>cases e
  .cases e
noncomputable def wg(j:Nat)(c:O)(F:Yx->List D->Res R)(i:Nat)(fs:FOs):FX:=fun env=>(fs env).bind fun p=>match p.1[j]? with
 |some (.var j')=>if j'=i then(match p.2[i]? with
  |some (some (ow,d0))=>if oY c ow then(iV (p.2.set i none) (p.1.eraseIdx j)).bind fun ds=>(jB F c d0 ds).bind fun x=>if aO x.1.1 x.1.2&&aO c x.2 then .ok (x.1,(p.2.set i none).set i (some (ow,x.2))) else .ok (x.1,((p.2.set i none).map frz).set i (some (ow,x.2))) else .bad
  |_=>.bad) else .bad
 |_=>.bad
theorem mf{K:W.Frag}{G:Hp}{σ:L2.St}:∀{j:Nat}{os:List Opd}{vs:List V}{o:Opd},lZ K G σ os vs->os[j]?=some o->∃va y vb,vs=va++y::vb/\va.length=j/\OpdOk K G σ o y/\lZ K G σ (os.eraseIdx j) (va++vb)
 | 0,o'::os,_,o,⟨y,ys,e,k1,k2⟩,h=>by
  cases h;exact⟨[],y,ys,e,rfl,k1,k2⟩
 |j+1,o'::os,_,o,⟨y,ys,e,k1,k2⟩,h=>by
  obtain⟨va,z,vb,e2,hl,q1,q2⟩:=mf (j:=j) k2 (by simpa using h);exact⟨y::va,z,vb,by rw[e,e2];rfl,by rw[Vc,hl],q1,y,va++vb,rfl,k1,q2⟩
section
variable{X:Cx}{x:Str}{p pos:Pos}{e:Expr}{es:List Expr}{fs:FOs}
theorem BF{F:Yx->List D->Res R}{c:O}{i j0 k:Nat}(C:Ct X.prog X.w X.K X.mg X.base x k (spJ j0 X.K c F))(hr:Room k X.A)(hg:Gl X x)(ha:Mj X (e::es) fs)(KU:(x==("__debug__" : Str))=false:=by decide)
  (he:starEach (e::es) X.env=(false,eval e X.env)::starEach es X.env:=by rfl) (Ka:(backTo pos (starEach es X.env)).any (·.1)=false:=by rfl):QE X (.Call (.Name x p) (e::es) [] pos) (wg j0 c F i fs):=
 bx (xU C hr hg ha KU he Ka) fun σ H Q Jo=>by
  obtain⟨G,env,fp,r,env',rel,e,k⟩:=Jo;obtain⟨⟨os,e1⟩,ha,e⟩:=au e;dsimp only at e;split at e
  .rename_i j Oc;split at e
   .rename_i hj;subst hj;split at e
    .rename_i ow d0 hi;split at e
     .rename_i how;obtain⟨ds,hd,e⟩:=au e;obtain⟨z,hz,e⟩:=au e;refine⟨G,env,fp,_,e1,rel,ha,fun vs H1 G1 Ju Jp Jc J5=>?_⟩;show spJ j0 X.K c F (vs++[]) H1 Q _;rw[Vo];obtain⟨va,y,vb,ey,SJ,k1,k2⟩:=mf J5 Oc;refine⟨va,y,vb,ey,SJ,?_⟩;obtain⟨v0,a,b,ev,r0,r2,pm⟩:=Jc.rep.take hi;have k1:σ[j]?=some (some y):=k1;rw[k1]at ev;cases ev;obtain⟨⟨q,hq⟩,rc,back⟩:=zM how r0;subst hq;have nd:=Vs.mp (pm.nodup_iff.mp Jc.nd);have P6:Rel X.K G1 H1 (e1.set j none) σ b:=⟨r2,nd.2.1,fun w hw=>Jc.gn w (pm.mem_iff.mpr (U2 _ hw)),Jc.gh⟩
      obtain⟨G2,Oo,PU,Tx,KA,KJ⟩:=P6.lendM2 a (fun w hw hb=>nd.2.2 w hw w hb rfl) (fun w hw=>Jc.gn w (pm.mem_iff.mpr (U7 _ hw)));refine⟨G2,q,va++vb,d0,ds,_,a,PU,rfl,rc.step Oo (fun _ _=>rfl),nd.1,Tx,gf Oo KA k2 hd,rZ hz q,fun v H' G' Jf st rt=>?_⟩;obtain⟨o',d',p',c',Tw,er,rl⟩:=rt;cases er;have fin:∀(ee:PV.Env),ee.length=e1.length->(∃G3 Ke,Step G1 H1 (a++b) G3 H' Ke/\Rel X.K G3 H' (some z.1::some (.pin q c,z.2)::ee) (some v::some (.ref q)::σ) Ke)->(z.1,ee.set j (some (ow,z.2)))=(r,env')->Q v H':=by
       rintro ee Tz ⟨G3,Ke,JB,Jy⟩ TB;cases TB;obtain⟨a1,b1,ef,ro,JU,comb⟩:=Rel.frame Jy;have P7:Rel X.K G3 H' (some (ow,z.2)::ee) (some (.ref q)::σ) b1:=by
        obtain⟨y2,ys2,Ox,v2,a2,b2,TC,TF,RN,TH⟩:=JU.rep;cases Ox;cases TC;rw[RepO]at RN;exact⟨⟨_,_,rfl,_,a2,b2,rfl,TF,back _ _ _ _ RN.2,TH⟩,JU.nd,JU.gn,JU.gh⟩
       obtain⟨fq,P8,TJ⟩:=P7.back (i:=j) (by rw[Tz];exact(List.getElem?_eq_some_iff.mp hi).1) k1;obtain⟨P9,RO⟩:=comb G3 H' _ _ fq TJ P8;rw[<-ef]at RO;exact k v H' G3 _ (Jp.trans ((JB.perm (fun w=>pm.mem_iff.symm) (fun w hw=>hw)).trans RO)) P9
      obtain⟨b1,b2⟩:=KJ H' G' Jf _ _ st rl;split at e
      .rename_i LN;rw[Va]at LN;have e:=Res.ok.inj e;refine fin (e1.set j none) (by rw[VO]) (b1 fun w hw=>?_) e;rcases Vb.mp hw with hw|hw
       .cases hw;exact LN.1
       .rw[Vn]at hw;cases hw;simp only[aO];exact LN.2
      .have e:=Res.ok.inj e;exact fin ((e1.set j none).map frz) (by rw[UZ,VO]) b2 e
     .cases e
    .cases e
   .cases e
  .cases e
end
section
variable{X:Cx}{x:Str}{p pos:Pos}{e:Expr}{es:List Expr}{f0:FX}{fs:FOs}
end
end PV
namespace NX
open PySem PySem.Spec PyProof.Rows L2
noncomputable def RT(o:Obj)(n:Nat)(a:Yx):It:=
 ⟨fun i H=>∃kvs k v,H a=some (.frz o (.dK kvs))/\kvs.length=n/\kvs[i]?=some (k,v),
  fun i H x H'=>H'=H/\∀kvs k v,H a=some (.frz o (.dK kvs))->kvs[i]?=some (k,v)->x=kV k,
  fun i H=>∃kvs,H a=some (.frz o (.dK kvs))/\kvs.length=n/\kvs.length<=i⟩
def wj{P:Yy}{w:World}{K:W.Frag}{tg:Expr}(o:Obj)(es:Array DictEntry)(ep n:Nat)(a it:Yx)(hd:o.data=.dict es ep):
  Turn P w K tg (RT o n a) [it] it (fun i h=>h.IsKeyIter it a i n ep) where
 mem:=by simp
 obj:=fun i h st b hb=>by
  have e:b=it:=by simpa using hb
  subst e;obtain⟨o,e,c,d⟩:=st;exact⟨o,e,fun v z=>by rw[d]at z;cases z⟩
 keep:=fun i h h' st k=>by
  obtain⟨o,e,c,d⟩:=st;exact⟨o,k it (by simp) o e,c,d⟩
 item:=by
  intro X hP hw hK hc i pr s σ H E I hf st hg;subst hP hw hK;obtain⟨kvs,k,v,ha,hn,hx⟩:=hg;obtain⟨ho,vs,r,hm⟩:=r6 I hd ha;have hl:vs.length=n:=by rw[<-hn];exact r.length.symm
  subst hl;obtain⟨u,hu,ru⟩:=Eb r hx;obtain⟨f0,f1,f2,f3,f4,f5⟩:=hf it (by simp);refine wpAny_pyNext_dict_item st hm hu fun key h' KC Kx sb=>?_
  have I1:Inv X pr σ H {s with heap:=h'}:=I.turned (t':=s.toks) (fun b o hb e=>(sb.2 b hb).trans e) f0 f1 f3 f4 f5;obtain⟨o',e,c,d⟩:=id Kx;exact⟨key,rfl,tj (s:={s with heap:=h'}) e c d (by decide) ⟨kV k,H,I1,Ea KC,⟨rfl,fun kvs' k' v' h1 h2=>by
   rw[ha]at h1;cases h1;rw[hx]at h2;cases h2;rfl⟩,Kx,fun b hb=>(hf b hb).1⟩⟩
 done:=by
  intro X hP hw hK hc i pr s σ H E I hf st hg;subst hP hw hK;obtain⟨kvs,ha,hn,hi⟩:=hg;obtain⟨ho,vs,r,hm⟩:=r6 I hd ha;have hl:vs.length=n:=by rw[<-hn];exact r.length.symm
  subst hl;obtain⟨f0,f1,f2,f3,f4,f5⟩:=hf it (by simp);exact wpAny_pyNext_dict_end (I.ok.hd hc) st hm (List.getElem?_eq_none (by lia)) fun h' eb=>⟨rfl,I.turned (t':=s.toks) (fun b o hb e=>eb b o hb e) f0 f1 f3 f4 f5⟩
 self:=fun _ _ _ _ _ st h=>wpAny_pyIter_keyiter st h
def IC(td:TE):TI:=fun σ H R=>td σ H fun v H1=>∃a o kvs,v=.ref a/\H1 a=some (.frz o (.dK kvs))/\R (RT o kvs.length a) H1
def BG{X:Cx}{l tg:Expr}{td:TE}(hl:PE X l td):PI X tg l (IC td):=by
 intro pr s σ H R I h;refine Jt (hl pr s σ H _ I h) fun v s1 Jx=>?_
 obtain⟨x,H1,I1,r1,a,o,kvs,ex,ha,q⟩:=Jx;subst ex;cases r1;obtain⟨ho,z,nm,vs,r,o',L3,Po,g1,ex,dat,dX⟩:=(show ObjOk X.prog X.w H1 s1.heap a (.frz o (.dK kvs)) from I1.hok a _ ha)
 have e:=g1.symm.trans ho;cases e;have N7:s1.heap.DictAt (mixKind X.prog X.w) a vs Po:=⟨_,L3,g1,ex,dat,dX⟩
 refine wpAny_pyIter_dict nm N7 ?_;refine⟨s1.heap.objs.size,[s1.heap.objs.size],_,RT _ kvs.length a,H1,rfl,I1.kept (t':=s1.toks) fun b o e=>Heap.get?_push_of_some _ e,wj _ L3 Po kvs.length a _ dat,⟨_,Heap.get?_push_size _ rfl,rfl,?_⟩,fun b hb=>?_,q⟩
 .rw[r.length];rfl
 .have e:b=s1.heap.objs.size:=by simpa using hb
  subst e;exact I1.fpOk (U6 _) (I1.hok.fresh (U6 _))
def gW{X:Cx}{pr:List (Yx×Obj)}{σ:L2.St}{H:Hp}{s:Yw}{a:Yx}{o:Obj}{kvs:List (Key×V)}(I:Inv X pr σ H s)(ha:H a=some (.frz o (.dK kvs)))(h0:∀q u,X.H₀ a≠some (.frz q u)):Inv X pr σ (upd H a (.dK kvs)) s:=by
 have ok:=(show ObjOk X.prog X.w H s.heap a (.frz o (.dK kvs)) from I.hok a _ ha)
 have nn:∀c,H c=none->c≠a:=fun c e z=>by rw[z,ha]at e;cases e
 have nt:∀c xs,H c=some (.tup xs)->c≠a:=fun c xs e z=>by rw[z,ha]at e;cases e
 have nb:∀c ps,H c=some (.tbl ps)->c≠a:=fun c ps e z=>by rw[z,ha]at e;cases e
 have no:∀c b,H c=some (.own b)->c≠a:=fun c b e z=>by rw[z,ha]at e;cases e
 have nf:∀c,H c=none->upd H a (.dK kvs) c=none:=fun c e=>by rw[aF (nn c e)];exact e
 refine⟨I.ok,I.os,I.bare,⟨I.base.keep,I.base.slot,fun b q e n x=>nf b (I.base.free b q e n x),I.base.there,fun b xs e=>?_,fun b q u e=>?_,fun b ps e=>?_⟩,I.loc,I.cell,nf _ I.free,fun x c e=>nf _ (I.freeC x c e),fun p hp=>?_,fun c ob e=>?_,I.len⟩
 .have h:=I.base.tups b xs e;rw[aF (nt b xs h)];exact h
 .have:b≠a:=fun z=>h0 q u (z▸e)
  rw[aF this];exact I.base.frzs b q u e
 .obtain⟨m,h⟩:=I.base.tbls b ps e;exact⟨m,by rw[aF (nb b _ h)];exact h⟩
 .obtain⟨h1,h2,h3⟩:=I.pin p hp;exact⟨h1,nf _ h2,h3⟩
 .by_cases ec:c=a
  .subst ec;rw[aU]at e;cases e;exact(show ObjOk X.prog X.w H s.heap c (.dK kvs) from ok.2).stay (fun _ _ _ q=>q) (fun d q=>by rw[aF (no d _ q)];exact q) fun d l q=>by rw[aF (nt d l q)];exact q
  .rw[aF ec]at e;exact(I.hok c ob e).stay (fun _ _ _ q=>q) (fun d q=>by rw[aF (no d _ q)];exact q) fun d l q=>by rw[aF (nt d l q)];exact q
noncomputable def RU(a:Yx)(o:Obj)(kvs:List (Key×V))(D:Ends):Ends:=
 ⟨fun σ H=>H a=some (.frz o (.dK kvs))/\D.nx σ (upd H a (.dK kvs)),fun v H=>H a=some (.frz o (.dK kvs))/\D.rt v (upd H a (.dK kvs)),fun σ H=>H a=some (.frz o (.dK kvs))/\D.bk σ (upd H a (.dK kvs)),fun σ H=>H a=some (.frz o (.dK kvs))/\D.ct σ (upd H a (.dK kvs))⟩
def GN(t:TS):TS:=fun D σ H=>∃a kvs,H a=some (.dK kvs)/\∀o,t (RU a o kvs D) σ (upd H a (.frz o (.dK kvs)))
def BH{X:Cx}{st:Stmt}{t:TS}(h:PS X st t):PS X st (GN t):=by
 rintro pr s σ H D I ⟨a,kvs,ha,k⟩;obtain⟨z,nm,vs,r,o,es,ep,g1,dX⟩:=(show ObjOk X.prog X.w H s.heap a (.dK kvs) from I.hok a _ ha)
 have h0:∀q u,X.H₀ a≠some (.frz q u):=fun q u e=>by
  have:=I.base.frzs a q u e;rw[ha]at this;cases this
 refine Jt (h pr s σ _ _ (yo I ha g1) (k o)) fun f s' sp=>?_
 cases f with
 |next=>obtain⟨σ',H',I',e,q⟩:=sp;exact⟨σ',_,gW I' e h0,q⟩
 |brk=>obtain⟨σ',H',I',e,q⟩:=sp;exact⟨σ',_,gW I' e h0,q⟩
 |cont=>obtain⟨σ',H',I',e,q⟩:=sp;exact⟨σ',_,gW I' e h0,q⟩
 |ret u=>obtain⟨v,σ',H',I',rv,e,q⟩:=sp;exact⟨v,σ',_,gW I' e h0,rv,q⟩
end NX
namespace PV
open PySem PySem.Spec PyProof.Rows L2 NX
section
variable{K:W.Frag}{G H:Hp}{es:PV.Env}{vs:L2.St}{fp:List Yx}
theorem Rel.asD{i:Nat}{p:Yx}{d:D}(q:Rel K G H es vs fp)(e:es[i]?=some (some (.pin p .d,d))):vs[i]?=some (some (.ref p))/\∃fq,Rel K G H (es.set i (some (.d,d))) vs fq/\Step G H fp G H fq:=by
 obtain⟨v,fq,ev,g,st,Kx⟩:=q.out e;obtain⟨y,ys,e0,v',a,b,e1,e2,r1,r2⟩:=g.rep;cases e0;cases e1;rw[RepO]at r1;obtain⟨ep,r1⟩:=r1;subst ep;have g2:Rel K G H (some (.d,d)::es.set i none) (some (.ref p)::vs) fq:=⟨⟨_,_,rfl,_,a,b,rfl,e2,r1,r2⟩,g.nd,g.gn,g.gh⟩
 obtain⟨fz,g3,JB⟩:=g2.back (i:=i) (by rw[VO];exact(List.getElem?_eq_some_iff.mp e).1) ev;rw[Wl]at g3;exact⟨ev,fz,g3,st.trans JB⟩
theorem Rel.asP{i:Nat}{p:Yx}{d:D}(q:Rel K G H es vs fp)(e:es[i]?=some (some (.d,d)))(hv:vs[i]?=some (some (.ref p))):∃fq,Rel K G H (es.set i (some (.pin p .d,d))) vs fq/\Step G H fp G H fq:=by
 obtain⟨v,fq,ev,g,st,Kx⟩:=q.out e;rw[hv]at ev;cases ev;obtain⟨y,ys,e0,v',a,b,e1,e2,r1,r2⟩:=g.rep;cases e0;cases e1;have g2:Rel K G H (some (.pin p .d,d)::es.set i none) (some (.ref p)::vs) fq:=⟨⟨_,_,rfl,_,a,b,rfl,e2,by rw[RepO];exact⟨rfl,r1⟩,r2⟩,g.nd,g.gn,g.gh⟩
 obtain⟨fz,g3,JB⟩:=g2.back (i:=i) (by rw[VO];exact(List.getElem?_eq_some_iff.mp e).1) hv;rw[Wl]at g3;exact⟨fz,g3,st.trans JB⟩
theorem Rel.chgP{i:Nat}{pp:Yx}{tk:Bool}{ks ws:List D}(q:Rel K G H es vs fp)(e:es[i]?=some (some (.pin pp .d,.dct tk ks ws))):∃p xs u,vs[i]?=some (some (.ref p))/\H p=some u/\DictO u tk ks xs/\Reps K G ws xs/\
  ∀u' Ko Kl Nz,DictO u' tk Ko Kl->Reps K G Nz Kl->∃fq,Rel K G (upd H p u') (es.set i (some (.pin pp .d,.dct tk Ko Nz))) vs fq/\Step G H fp G (upd H p u') fq:=by
 have hi:i<es.length:=(List.getElem?_eq_some_iff.mp e).1;obtain⟨hv,fa,qa,sa⟩:=q.asD e;obtain⟨p,xs,u,ev,hp,dd,rs,cg⟩:=qa.chgD (i:=i) (by rw[List.getElem?_set_self hi]);rw[hv]at ev;cases ev;refine⟨pp,xs,u,hv,hp,dd,rs,fun u' Ko Kl Nz d' r'=>?_⟩;obtain⟨fb,qb,sb⟩:=cg u' Ko Kl Nz d' r';rw[Wl]at qb;obtain⟨fc,qc,sc⟩:=qb.asP (i:=i) (by rw[List.getElem?_set_self hi]) hv;rw[Wl]at qc;exact⟨fc,qc,sa.trans (sb.trans sc)⟩
end
noncomputable def sPutP(i:Nat)(fk fv:FX):FS:=fun env=>(fv env).bind fun p=>(fk p.2).bind fun q=>match p.2[i]?,q.2[i]? with
 |some (some _),some (some (.pin pp .d,.dct tk ks vs))=>if eX tk q.1.2&&decide (ks.length<sizeLine) then .ok (.nx (q.2.set i (some (.pin pp .d,.dct tk (qi ks vs q.1.2 p.1.2).1 (qi ks vs q.1.2 p.1.2).2)))) else .bad
 |_,_=>.bad
section
variable{md:Mode}{X:Cx}
theorem BI{i:Nat}{o ix value:Expr}{fk fv:FX}{pos pos':Pos}(hu:X.A.units+1<cLine)(ho:PE X o (tf i))(hi:QE X ix fk)(hv:QE X value fv)(hs:swapsWith value (some (.Subscript o ix pos')) pos.line X.env=pure false:=by rfl):
  QS (md:=md) X (.Assign [.Subscript o ix pos'] value pos) (sPutP i fk fv):=e9 (AR hu ho hi hv hs) fun Dd σ H Jo=>by
 obtain⟨G,env,fp,rel,k⟩:=Jo;unfold sPutP at k;match q1:fv env,k with
 | .ok (r1,Jb),k=>
  have k:OutOk X.K G H fp Dd ((fk Jb).bind fun q=>match Jb[i]?,q.2[i]? with
   |some (some _),some (some (.pin pp .d,.dct tk ks vs))=>if eX tk q.1.2&&decide (ks.length<sizeLine) then .ok (.nx (q.2.set i (some (.pin pp .d,.dct tk (qi ks vs q.1.2 r1.2).1 (qi ks vs q.1.2 r1.2).2)))) else .bad
   |_,_=>.bad):=k
  match q2:fk Jb,k with
  | .ok (r2,Jl),k=>
   have k:OutOk X.K G H fp Dd (match Jb[i]?,Jl[i]? with
    |some (some _),some (some (.pin pp .d,.dct tk ks vs))=>if eX tk r2.2&&decide (ks.length<sizeLine) then .ok (.nx (Jl.set i (some (.pin pp .d,.dct tk (qi ks vs r2.2 r1.2).1 (qi ks vs r2.2 r1.2).2)))) else .bad
    |_,_=>.bad):=k
   split at k
   .rename_i rr pp tk ks ws h1 h2;split at k
    .rename_i hc;rw[Va,Ve]at hc;refine⟨G,env,fp,r1,Jb,rel,q1,fun y H1 G1 Ju Jp Jc=>?_⟩;obtain⟨G2,b,ry,Jd,Jj⟩:=Jc.freeze;obtain⟨v0,QU,_⟩:=Jd.view h1;refine⟨v0,QU,G2,Jb,b,r2,Jl,Jd,q2,fun z H3 G3 Ke JB Jy=>?_⟩;obtain⟨G4,b4,rz,JH,J3⟩:=Jy.freeze;obtain⟨p,xs,u,ep,hp,dd,rs,cg⟩:=JH.chgP h2;rw[QU]at ep;cases ep;have SG:Rep X.K G4 r1.2 y:=Rep.mono (JB.gg.trans J3.gg) ry;cases tk with
     |true=>
      obtain⟨kvs,eu,ek,ex,Mv⟩:=dd;subst eu;subst ex;have hk:=hc.1;unfold eX at hk;rw[U5 rfl,V4]at hk;obtain⟨kk,hk⟩:=hk;obtain⟨pz,ez,gz,dz⟩:=cP hk rz;subst ez;obtain⟨t1,t2⟩:=oT (K:=X.K) (G:=G4) kT zH (k:=kk) rs SG;have ek:ks=kvs.map fun kv=>kT kv.1:=ek
      rw[<-ek,<-dz]at t1 t2;have hfk:∀key∈kk,tU key:=by
       cases hd:r2.2 with
       |tup ds=>
        rw[hd]at hk rz;obtain⟨_,Kl,_,_,Lb⟩:=vz rz;exact vR hk Lb
       |_=>rw[hd]at hk;cases hk
      obtain⟨fq,Kq,Lh⟩:=cg (.dT (ke kvs kk y)) _ _ _ ⟨ke kvs kk y,rfl,t1.symm,rfl,rT (P:=fun ks=>∀k∈ks,tU k) Mv hfk⟩ t2;have hlen:kvs.length<sizeLine:=by have:=hc.2;rw[ek,UZ]at this;exact this
      exact⟨p,_,rfl,DPut.t hp (JH.gh _ _ gz) hlen,k _ _ G4 fq (Jp.trans (Jj.trans (JB.trans (J3.trans Lh)))) Kq⟩
     |false=>
      obtain⟨kvs,eu,ek,ex,Mv⟩:=dd;subst eu;subst ex;have hk:=hc.1;unfold eX at hk;rw[U8 U3,V4]at hk;obtain⟨kk,hk⟩:=hk;obtain⟨ez,dz⟩:=gT hk rz;subst ez;obtain⟨t1,t2⟩:=oT (K:=X.K) (G:=G4) kD vO (k:=kk) rs SG;rw[<-ek,<-dz]at t1 t2;obtain⟨fq,Kq,Lh⟩:=cg (.dK (ke kvs kk y)) _ _ _ ⟨ke kvs kk y,rfl,t1.symm,rfl,rT (P:=tU) Mv (vQ hk rz)⟩ t2;have hlen:kvs.length<sizeLine:=by have:=hc.2;rw[ek,UZ]at this;exact this
      exact⟨p,_,rfl,DPut.k hp hlen,k _ _ G4 fq (Jp.trans (Jj.trans (JB.trans (J3.trans Lh)))) Kq⟩
    .exact k.elim
   .exact k.elim
end
def cleanE(i:Nat)(env:PV.Env):Bool:=(env.set i none).all fun r=>match r with
 |some r=>aO r.1 r.2
 |none=>true
def yr(i:Nat)(p:Yx)(env:PV.Env):Bool:=match env[i]? with
 |some (some (.pin q .f,_))=>decide (q=p)
 |_=>false
noncomputable def tZ(i:Nat)(p:Yx)(d:D):Out->Res Out
 | .nx env=>if yr i p env&&cleanE i env then .ok (.nx (env.set i (some (.pin p .d,d)))) else .bad
 | .rt (.t [o,.pin q .f],.tup [r,_])=>if decide (q=p)&&aO o r then .ok (.rt (.t [o,.pin p .d],.tup [r,d])) else .bad
 |_=>.bad
def BJ(i:Nat)(a:FG)(g:FS):FS:=fun env=>match env[i]? with
 |some (some (.pin p .d,.dct false ks vs))=>(d4 a g ks (env.set i (some (.pin p .f,.dct false ks vs)))).bind (tZ i p (.dct false ks vs))
 |_=>.bad
def off(G:Hp)(p:Yx):Hp:=fun z=>if z=p then none else G z
def o8{K:W.Frag}{G H G' H':Hp}{fp Ju Jf:List Yx}{p:Yx}{kvs:List (Key×V)}{o:Obj}{es:PV.Env}{σ:L2.St}{i:Nat}{d':D}{vs:List D}(gp:G p=none)(pf:p∈fp)(f1:∀z∈Ju,z∈fp)
  (st:Step (upd G p (.frz o (.dK kvs))) (upd H p (.frz o (.dK kvs))) Ju G' H' Jf) (rel:Rel K G' H' es σ Jf) (hi:es[i]?=some (some (.pin p .f,d'))) (cl:cleanE i es=true) (hf:∀kv∈kvs,tU kv.1) (rs:Reps K G vs (kvs.map (·.2))):
  H' p=some (.frz o (.dK kvs))/\∃G2 fz,Step G H fp G2 (upd H' p (.dK kvs)) fz/\Rel K G2 (upd H' p (.dK kvs)) (es.set i (some (.pin p .d,.dct false (kvs.map fun kv=>kD kv.1) vs))) σ fz:=by
 have TK:G' p=some (.frz o (.dK kvs)):=st.gg p _ aU;refine⟨rel.gh p _ TK,?_⟩;obtain⟨v,fq,ev,g,Jp,_⟩:=rel.out hi;have Jj:=st.trans Jp;obtain⟨y,ys,e0,v',a,b,e1,e2,r1,r2⟩:=g.rep;cases e0;cases e1;rw[RepO]at r1;obtain⟨ep,r1⟩:=r1;obtain⟨_,ea⟩:=eE.mp r1;subst ea;subst ep;have e2:fq=b:=e2;subst e2;have np:∀z∈fq,z≠p:=fun z hz e=>by
  have:=g.gn z hz;rw[e,TK]at this;cases this
 have TL:(off G' p) p=none:=U5 rfl;have RV:∀z,z≠p->(off G' p) z=G' z:=fun z h=>U8 h
 have gg:Same G (off G' p):=fun z u e=>by
  have hz:z≠p:=fun h=>by rw[h,gp]at e;cases e
  rw[RV z hz];exact st.gg z u (by rw[aF hz];exact e)
 have rc:RepE K (off G' p) H' (es.set i none) σ fq:=by
  refine RepE.clean (fun z u t e=>?_) (fun r hr=>?_) r2
  .have hz:z≠p:=fun h=>by rw[h,TK]at e;cases e;cases t
   rw[RV z hz];exact e
  .have:=Vy.mp cl _ hr;exact this
 have Jd:Rel K (off G' p) (upd H' p (.dK kvs)) (some (.pin p .d,.dct false (kvs.map fun kv=>kD kv.1) vs)::es.set i none) (some (.ref p)::σ) (p::fq):=by
  refine⟨⟨some (.ref p),σ,rfl,.ref p,[p],fq,rfl,rfl,?_,rc.step (.refl _) fun z hz=>aF (np z hz)⟩,Vz.mpr ⟨fun h=>np p h rfl,g.nd⟩,fun z hz=>?_,fun z u e=>?_⟩
  .rw[RepO];refine⟨rfl,?_⟩;rw[RepO];exact⟨p,kvs.map (·.2),.dK kvs,rfl,aU,⟨kvs,rfl,rfl,rfl,hf⟩,rfl,Reps.mono gg rs⟩
  .rcases Vb.mp hz with h|h
   .rw[h];exact TL
   .rw[RV z (np z h)];exact g.gn z h
  .by_cases hz:z=p
   .rw[hz,TL]at e;cases e
   .rw[RV z hz]at e;rw[aF hz];exact rel.gh z u e
 have stp:Step G H fp (off G' p) (upd H' p (.dK kvs)) (p::fq):=by
  refine⟨gg,fun z u e n=>?_,fun z hz=>?_,fun z u e=>?_,fun z u e=>?_⟩
  .have hz:z≠p:=fun h=>n (h▸pf)
   rw[aF hz];exact Jj.keep z u (by rw[aF hz];exact e) fun h=>n (f1 z h)
  .rcases Vb.mp hz with h|h
   .exact .inl (h▸pf)
   .rcases Jj.fpn z h with h2|h2
    .exact .inl (f1 z h2)
    .rw[aF (np z h)]at h2;exact .inr h2
  .by_cases hz:z=p
   .rw[hz,TL]at e;cases e
   .rw[RV z hz]at e;rcases Jj.gnew z u e with h|h|h|⟨t,h⟩
    .rw[aF hz]at h;exact .inl h
    .exact .inr (.inl (f1 z h))
    .rw[aF hz]at h;exact .inr (.inr (.inl h))
    .rw[aF hz]at h;exact .inr (.inr (.inr ⟨t,h⟩))
  .by_cases hz:z=p
   .exact⟨_,by rw[hz,aU]⟩
   .obtain⟨u',h⟩:=Jj.there z u (by rw[aF hz];exact e);exact⟨u',by rw[aF hz];exact h⟩
 obtain⟨fz,g3,JB⟩:=Jd.back (i:=i) (by rw[VO];exact(List.getElem?_eq_some_iff.mp hi).1) ev;rw[Wl]at g3;exact⟨_,fz,stp.trans JB,g3⟩
def yt{K:W.Frag}{G H:Hp}{fp f1 b0:List Yx}{p:Yx}{kvs:List (Key×V)}{o:Obj}{i:Nat}{vs:List D}{D0:Ends}{r:Res Out}(gp:G p=none)(SK:Step G H fp G H (p::b0))(SM:∀z∈f1,z∈p::b0)(hf:∀kv∈kvs,tU kv.1)(rs:Reps K G vs (kvs.map (·.2)))
  (k:OutOk (md:=.mut) K G H fp D0 (r.bind (tZ i p (.dct false (kvs.map fun kv=>kD kv.1) vs)))):OutOk (md:=.mut) K (upd G p (.frz o (.dK kvs))) (upd H p (.frz o (.dK kvs))) f1 (RU p o kvs D0) r:=by
 cases r with
 |bad=>exact k
 |exc c=>exact k
 |ok out=>
  have k:OutOk (md:=.mut) K G H fp D0 (tZ i p (.dct false (kvs.map fun kv=>kD kv.1) vs) out):=k;unfold tZ at k;split at k
  .rename_i e';split at k
   .rename_i LN;rw[Va]at LN;obtain⟨h1,h2⟩:=LN;unfold yr at h1;split at h1
    .rename_i q' d' hq';rw[Ve]at h1;subst h1;intro σ' H' G' Jf st rl;obtain⟨z,G2,fz,Jj,TM⟩:=o8 (G:=G) (H:=H) (fp:=q'::b0) gp UY SM st rl hq' h2 hf rs;exact⟨z,k σ' _ G2 fz (SK.trans Jj) TM⟩
    .cases h1
   .exact k.elim
  .rename_i o' q' r d0 _;split at k
   .rename_i LN;rw[Va,Ve]at LN;obtain⟨h1,h2⟩:=LN;subst h1;rintro v H' G' Jf st ⟨o2,d2,p2,c2,d02,er,rl⟩;cases er;obtain⟨z,G2,fz,Jj,TM⟩:=o8 (G:=G) (H:=H) (fp:=q'::b0) (i:=1) gp UY SM st rl rfl (by show(List.all [some (o',r),none] _)=true;simp only[WR,List.all_nil,h2,Wf]) hf rs;exact⟨z,k v _ G2 fz (SK.trans Jj) ⟨_,_,_,_,_,rfl,TM⟩⟩
   .exact k.elim
  .exact k.elim
def wm{K:W.Frag}{G:Hp}{a:Yx}{o:Obj}{kvs:List (Key×V)}(h:G a=some (.frz o (.dK kvs)))(hf:∀kv∈kvs,tU kv.1):Walk K G (RT o kvs.length a) (kvs.map fun kv=>kD kv.1):=by
 intro G' H' es vs fp gg rel i;have h':H' a=some (.frz o (.dK kvs)):=rel.gh _ _ (gg _ _ h);refine⟨fun d hd=>?_,fun e=>⟨kvs,h',rfl,by rw[UZ]at e;lia⟩⟩;rw[List.getElem?_map]at hd;cases hk:kvs[i]? with
 |none=>rw[hk]at hd;cases hd
 |some kv=>
  rw[hk]at hd;cases hd;refine⟨⟨kvs,kv.1,kv.2,h',rfl,hk⟩,fun y H2 ⟨e,hy⟩=>?_⟩;subst e;have:=hy kvs kv.1 kv.2 h' hk;subst this;exact⟨G',vN (hf _ (Vm hk)),rel,.refl⟩
section
variable{X:Cx}
theorem BK{i:Nat}{tg iter:Expr}{body:List Stmt}{a:FG}{g:FS}{pos:Pos}(hp:PassesOwn (model X.prog X.w) X.A X.env X.xe)(hc:X.calm=true)(hn:PE X iter (tf i))(hg:QG X tg a)(hb:M6 (md:=.mut) X body g)(hs:∀x,foldedSetIterable iter X.env x=pure x:=by intro _;rfl):
  QS (md:=.mut) X (.For tg iter body [] pos) (BJ i a g):=
 e9 (BH (zd hp hc (BG hn) hg hb hs)) fun D0 σ H Jo=>by
  obtain⟨G,env,fp,rel,k⟩:=Jo;unfold BJ at k;split at k
  .rename_i p ks vs hi;obtain⟨v,fq,ev,g1,SK,_⟩:=rel.out hi;obtain⟨y,ys,e0,v',a0,b0,e1,e2,r1,r2⟩:=g1.rep;cases e0;cases e1;rw[RepO]at r1;obtain⟨ep,r1⟩:=r1;subst ep;rw[RepO]at r1;obtain⟨p',xs,o0,ev1,hH,dd,ea,rs⟩:=r1;cases ev1;subst ea;subst e2;obtain⟨kvs,eo,ek,ex,hf⟩:=(show ∃kvs:List (Key×V),o0=.dK kvs/\ks=kvs.map (fun kv=>kD kv.1)/\xs=kvs.map (·.2)/\∀kv∈kvs,tU kv.1 from dd)
   subst eo ex ek;have nd:=Vz.mp (show(p::b0).Nodup from g1.nd);have gp:G p=none:=g1.gn p UY;have Uu:∀z∈b0,z≠p:=fun z hz e=>nd.1 (e▸hz)
   refine⟨p,kvs,hH,fun o=>?_⟩;have Uv:Same G (upd G p (.frz o (.dK kvs))):=fun z u e=>by rw[aF (bo e gp)];exact e
   have relA:Rel X.K (upd G p (.frz o (.dK kvs))) (upd H p (.frz o (.dK kvs))) (some (.pin p .f,.dct false (kvs.map fun kv=>kD kv.1) vs)::env.set i none) (some (.ref p)::σ) b0:=by
    refine⟨⟨_,_,rfl,.ref p,[],b0,rfl,rfl,?_,r2.step Uv fun z hz=>aF (Uu z hz)⟩,nd.2,fun z hz=>?_,fun z u e=>?_⟩
    .rw[RepO];refine⟨rfl,eE.mpr ⟨?_,rfl⟩⟩;rw[Rep];exact⟨p,kvs.map (·.2),.dK kvs,rfl,.inr ⟨o,aU⟩,⟨kvs,rfl,rfl,rfl,hf⟩,Reps.mono Uv rs⟩
    .rw[aF (Uu z hz)];exact g1.gn z (U4 _ hz)
    .by_cases hz:z=p
     .subst hz;rw[aU]at e ⊢;exact e
     .rw[aF hz]at e ⊢;exact g1.gh z u e
   obtain⟨f1,Jc,Jp⟩:=relA.back (i:=i) (by rw[VO];exact(List.getElem?_eq_some_iff.mp hi).1) ev;rw[Wl]at Jc;have SM:∀z∈f1,z∈p::b0:=fun z hz=>by
    rcases Jp.fpn z hz with h|h
    .exact U4 _ h
    .exfalso;obtain⟨u,hu⟩:=Jc.rep.live z hz;rw[h]at hu;cases hu
   refine⟨.ref p,ev,p,o,kvs,rfl,aU,?_⟩;have k1:=yt (o:=o) (G:=G) (H:=H) (fp:=fp) gp SK SM hf rs k;have wk:Walk X.K (upd G p (.frz o (.dK kvs))) (RT o kvs.length p) (kvs.map fun kv=>kD kv.1):=wm aU hf;generalize (kvs.map fun kv=>kD kv.1)=ds at k1 wk Jc;refine⟨fun j m σ' H'=>m=ds.length-j/\j<=ds.length/\∃G' env' Jf,Same (upd G p (.frz o (.dK kvs))) G'/\Rel X.K G' H' env' σ' Jf/\OutOk (md:=.mut) X.K G' H' Jf (RU p o kvs D0) (d4 a g (ds.drop j) env'),⟨_,rfl,VD _,_,_,f1,.refl _,Jc,k1⟩,?_⟩;rintro j m σ2 H2 ⟨rfl,hj,G2,Jl,JF,gg,Jd,k2⟩;obtain⟨w1,w2⟩:=wk G2 H2 _ _ _ gg Jd j;by_cases JL:j<ds.length
   .have hd:ds[j]?=some ds[j]:=List.getElem?_eq_getElem JL;obtain⟨go,yl⟩:=w1 _ hd;rw[Xb JL]at k2;refine .inr ⟨go,fun σ' H'=>∃G' env' Jf,Same (upd G p (.frz o (.dK kvs))) G'/\Rel X.K G' H' env' σ' Jf/\OutOk (md:=.mut) X.K G' H' Jf (RU p o kvs D0) (d4 a g (ds.drop (j+1)) env'),fun σ' H' z=>⟨ds.length-(j+1),by lia,rfl,JL,z⟩,fun x H3 y=>?_⟩;obtain⟨G3,rx,Jy,JB⟩:=yl x H3 y;unfold d4 at k2;match q3:a ds[j] Jl,k2 with
    | .ok JO,k2=>
     refine⟨G3,Jl,JF,ds[j],JO,Jy,rx,q3,fun σ4 G4 PX J3 JH=>⟨G4,JO,PX,JH,?_⟩⟩;have k3:OutOk (md:=.mut) X.K G2 H2 JF (RU p o kvs D0) ((g JO).bind fun o=>match o with | .nx e=>d4 a g (ds.drop (j+1)) e | .ct e=>d4 a g (ds.drop (j+1)) e | .bk e=>.ok (.nx e) | .rt r=>.ok (.rt r)):=k2;match q4:g JO,k3 with
     | .ok (.nx e),k3=>exact fun σ' H' G' Jf st rel=>⟨G',e,Jf,gg.trans (JB.gg.trans (J3.gg.trans st.gg)),rel,OutOk.after (JB.trans (J3.trans st)) k3⟩
     | .ok (.ct e),k3=>exact fun σ' H' G' Jf st rel=>⟨G',e,Jf,gg.trans (JB.gg.trans (J3.gg.trans st.gg)),rel,OutOk.after (JB.trans (J3.trans st)) k3⟩
     | .ok (.bk e),k3=>exact fun σ' H' G' Jf st rel=>k3 σ' H' G' Jf (JB.trans (J3.trans st)) rel
     | .ok (.rt r),k3=>exact fun v H' G' Jf st rel=>k3 v H' G' Jf (JB.trans (J3.trans st)) rel
   .have e:j=ds.length:=by lia
    subst e;rw[Ys]at k2;exact .inl ⟨w2 rfl,k2 σ2 H2 G2 JF .refl Jd⟩
  .exact k.elim
end
end PV
namespace NX
open PySem PySem.Spec PyProof.Rows L2
section
variable{X:Cx}
def BL:V->List V->Hp->VK->Prop:=fun x vs H Q=>∃l xs y k,x=.ref l/\vs=[.int k,y]/\H l=some (.lst xs)/\xs.length<sizeLine/\(0<=k/\k.toNat<=xs.length)/\Q .non (upd H l (.lst (xs.take k.toNat++y::xs.drop k.toNat)))
theorem jC:∀{vs:List V}{us:List Yu},Vals vs us->∀k:Nat,Vals (vs.take k) (us.take k)/\Vals (vs.drop k) (us.drop k)
 |_,_,.nil,k=>⟨by rw[Zk,Zk];exact .nil,by rw[List.drop_nil,List.drop_nil];exact .nil⟩
 |_,_,.cons h r,0=>⟨.nil,.cons h r⟩
 |_,_,.cons h r,k+1=>⟨.cons h (jC r k).1,(jC r k).2⟩
theorem wo:MtM X "list.insert" BL:=by
 intro pr s σ H x vs v us Q I rx rv h;obtain⟨l,xs,y,k,rfl,rfl,hH,hz,hk,q⟩:=h;cases rx;obtain⟨u1,u,rfl,r1,ru⟩:=rv.two;obtain⟨t,rfl⟩:=r1;obtain⟨z,Je,n,r,hl,e⟩:=I.lstM hH;have TN:Je.length=xs.length:=by have:=r.length;lia
 have hf:¬ (!Builtin.List.listFitsIndex k)=true:=by
  have Rp:k.toNat<9223372036854775808:=Ze hk.2 (Vd hz (by rw[VT];decide));have:Builtin.List.listFitsIndex k=true:=by
   unfold Builtin.List.listFitsIndex;rw[Va,Ve,Ve];lia
  rw[this];exact U3
 have hsz:Je.toArray.size<=sizeLine:=by rw[U0];lia
 refine Ya F.slot_list_insert ⟨_,e,rfl⟩ F.entry_list_insert (F.args_list_insert_3 _ _ _) (PySem.AutoSeq1.list_insert_list_int_val_1 l Je.toArray n k t u hf hsz) ⟨e,?_⟩;obtain⟨t1,t2⟩:=jC r k.toNat
 refine⟨.non,_,I.lset (its':=Je.take k.toNat++u::Je.drop k.toNat) hH e ?_ (t1.append (.cons ru t2)) ?_,rfl,q⟩
 .dsimp only;rw[U8 (by lia),U0,Xp (by lia)];apply Array.ext';simp;exact Wc (by rw[Wa];lia)
 .rw[Vr,Vc,Vt,Wa];lia
end
end NX
namespace PV
open PySem PySem.Spec PyProof.Rows L2 NX
noncomputable def Ej(i:Nat)(f g:FX):FX:=fun env=>if qe env i then(f env).bind fun p=>(g p.2).bind fun q=>match q.2[i]?,p.1.2 with
 |some (some (.l .f,.lst ds)),.int k=>if ds.length<sizeLine/\0<=k/\k.toNat<=ds.length then .ok ((.f,.non),q.2.set i (some (.l .f,.lst (ds.take k.toNat++q.1.2::ds.drop k.toNat)))) else .bad
 |_,_=>.bad
 else .bad
section
variable{X:Cx}
theorem wq{i:Nat}{o a e:Expr}{f g:FX}{apos Jr:Pos}(ho:PE X o (tf i))(ha:QE X a f)(he:QE X e g)
  (JQ:attributeBase o "insert" X.env (eval o X.env)=eval o X.env:=by rfl)
  (KW:((backTo Jr (starEach [a,e] X.env)).all (fun x=>!x.1)&&(backToKw Jr (keywordEach [] X.env)).all (fun x=>x.1.isSome)&&decide ([a,e].length+([]:List Keyword).length+(if([]:List Keyword).isEmpty then 0 else 1)<30))=true:=by rfl)
  (JR:(apos.endLine==Jr.line)=true:=by rfl) (hs:starEach [a,e] X.env=(false,eval a X.env)::starEach [e] X.env:=by rfl) (MY:starEach [e] X.env=(false,eval e X.env)::starEach [] X.env:=by rfl) (JM:(backTo Jr (starEach [e] X.env)).any (·.1)=false:=by rfl):
  QE X (.Call (.Attribute o "insert" apos) [a,e] [] Jr) (Ej i f g):=by
 refine bx (xP WS PySem.F.slot_list_insert PySem.F.type_list_insert wo ho (av ha (av he aN MY) hs) JQ KW JR hs JM) fun σ H Q Jx=>?_
 obtain⟨G,env,fp,r,env',rel,e,k⟩:=Jx;unfold Ej at e;split at e
 .rename_i Ml;obtain⟨v,ev,ty⟩:=rP rel Ml;obtain⟨⟨r1,Jb⟩,e1,e⟩:=au e;obtain⟨⟨r2,Jl⟩,e2,e⟩:=au e;dsimp only at e e2;split at e
  .rename_i ds kk Np L7;split at e
   .rename_i hl;cases e;refine⟨v,ev,ty,G,env,fp,[r1.2,r2.2],Jl,rel,by show(f env).bind _=_;rw[e1];show((g Jb).bind _).bind _=_;rw[e2];rfl,fun vs H1 G1 Ju Jp Jc rs=>?_⟩;rw[Reps]at rs;obtain⟨y1,ys1,eys1,Uw,rs⟩:=rs;rw[Reps]at rs;obtain⟨y,ys,Tt,ry,rn⟩:=rs;rw[Reps]at rn;subst rn Tt;rw[L7]at Uw;have hz:=bJ Uw;obtain⟨p,xs,ep,hp,N5,cg⟩:=Jc.chg (ds':=ds.take kk.toNat++r2.2::ds.drop kk.toNat) Np;rw[ev]at ep;cases ep;obtain⟨fq,Jd,Jj⟩:=cg (xs.take kk.toNat++y::xs.drop kk.toNat) ((N5.take _).app (.cons ry (N5.drop _)));exact⟨p,xs,y,kk,rfl,by rw[eys1,hz],hp,by rw[N5.length];exact hl.1,⟨hl.2.1,by rw[N5.length];exact hl.2.2⟩,k _ _ G1 fq (Jp.trans Jj) (Jd.push mU)⟩
   .cases e
  .cases e
 .cases e
end
inductive BExp where
 |con (b:Bool)|var (j:Nat)|not (x:BExp)|and (x y:BExp)
section
variable{X:Cx}{a:Yx}{o:Obj}{i:Nat}{e b:Expr}{dX:List Expr}{x y:BExp}{pos p q:Pos}{n:Str}
variable{C:Yx}{vs:Array Yu}
end
section
variable{md:Mode}{X:Cx}{x:Str}{pos:Pos}{C:Yx}{xe:FXE}
end
end PV
namespace PV
open PySem PySem.Spec L2 NX
section
variable{X:Cx}
end
end PV
namespace PV
open PySem PySem.Spec PyProof.Rows L2 NX
section
variable{K:W.Frag}{G H:Hp}
theorem AllO.length{P:D->V->List Yx->Prop}:∀{ds:List D}{xs:List V}{fp:List Yx},AllO P ds xs fp->xs.length=ds.length
 |[],xs,fp,r=>by
  rw[r.1];rfl
 |d'::ds,xs,fp,r=>by
  obtain⟨y,ys,a1,b1,e1,e2,p,r⟩:=r;subst e1;rw[Vc,Vc,r.length]
end
section
variable{md:Mode}{X:Cx}{scope:Scope}{N:List Str}{tg iter elt:Expr}{ifs:List Expr}{pos:Pos}{fi:FI}{a:FG}{c:FT}{f:FX}
end
section
variable{X:Cx}{x:Str}{p pos L4:Pos}{e1 e2 e3:Expr}{fo:FO}{fb:FX}
noncomputable def BM(F:List D->Res R)(fo:FO)(fb:FX)(j:Nat):FX:=fun env=>(fo env).bind fun p=>(fb p.2).bind fun q=>match q.2[j]? with
 |some (some (_,dj))=>(pS q.2 p.1).bind fun d1=>(F [d1,.tup [q.1.2,dj]]).bind fun r=>.ok (r,if aO r.1 r.2 then q.2 else q.2.map frz)
 |_=>.bad
theorem BN{F:List D->Res R}{k j:Nat}{x1}(C:Ct X.prog X.w X.K X.mg X.base x k (spF X.K F))(hr:Room k X.A)(hg:Gl X x)(ho:QO X e1 fo)(hb:QE X e2 fb)(hj:PE X e3 (tf j))(KU:(x==("__debug__" : Str))=false:=by decide)
  (h1:starEach [e1,.Tuple [e2,e3] x1 L4] X.env=(false,eval e1 X.env)::starEach [.Tuple [e2,e3] x1 L4] X.env:=by rfl) (h2:starEach [.Tuple [e2,e3] x1 L4] X.env=(false,eval (.Tuple [e2,e3] x1 L4) X.env)::starEach [] X.env:=by rfl)
  (h3:starEach [e2,e3] X.env=(false,eval e2 X.env)::starEach [e3] X.env:=by rfl) (h4:starEach [e3] X.env=(false,eval e3 X.env)::starEach [] X.env:=by rfl)
  (Ka:(backTo pos (starEach [.Tuple [e2,e3] x1 L4] X.env)).any (·.1)=false:=by rfl):QE X (.Call (.Name x p) [e1,.Tuple [e2,e3] x1 L4] [] pos) (BM F fo fb j):=
 bx (xU C hr hg (c5 ho (c5 (qT (c5 hb (c5 hj jK h4) h3)) jK h2) h1) KU h1 Ka) fun σ H Q Jo=>by
  obtain⟨G,env,fp,r,env',rel,e,k⟩:=Jo;obtain⟨⟨o,Jb⟩,q1,e⟩:=au e;obtain⟨⟨r2,Jl⟩,q2,e⟩:=au e;dsimp only at e;split at e
  .rename_i oj dj hdj;obtain⟨d1,q3,e⟩:=au e;obtain⟨r',q4,e⟩:=au e;refine⟨G,env,fp,o,Jb,rel,q1,fun v1 H1 G1 Ju Jp Jc J5=>?_⟩;refine⟨G1,Jb,Ju,r2,Jl,Jc,q2,fun v2 H2 G2 JF Jj Jd=>?_⟩;obtain⟨G3,b,rv,Jy,JB⟩:=Jd.freeze;obtain⟨v3,SF,_⟩:=Jy.view hdj;refine⟨v3,SF,by rw[line_eq];exact(by decide:2<=16777216),fun t ht=>?_⟩;obtain⟨JH,J3⟩:=Jy.newF (u:=.tup [v2,v3]) ht;show spF X.K F ([v1,.ref t]++[]) _ Q _;rw[Vo];obtain⟨G5,TQ,g5h,KA,_,KJ⟩:=JH.lend;have a1:=gf (os:=[o]) (vs:=[v1]) (ds:=[d1]) TQ KA (by
    exact⟨v1,[],rfl,(((J5.mono Jj.gg).mono JB.gg).mono J3.gg),rfl⟩) (by
    show(pS Jl o).bind _=_;rw[q3];rfl)
   have a2:Rep X.K G5 (.tup [r2.2,dj]) (.ref t):=by
    rw[Rep];exact⟨t,[v2,v3],rfl,TQ t _ aU,.cons (Rep.mono (J3.gg.trans TQ) rv) (.one (KA j _ v3 hdj SF))⟩
   refine⟨G5,[d1,.tup [r2.2,dj]],r',g5h,a1.app (.one a2),q4,fun v H' G' Jf st JC=>?_⟩;obtain⟨k1,k2⟩:=KJ H' G' Jf r' v st JC;have s4:=Jp.trans (Jj.trans (JB.trans J3));by_cases hc:aO r'.1 r'.2=true
   .rw[U5 hc]at e;cases e;obtain⟨G6,QR,RD,NH⟩:=k1 hc;exact k v H' G6 QR (s4.trans RD) NH
   .rw[U8 hc]at e;cases e;obtain⟨G6,QR,RD,NH⟩:=k2;exact k v H' G6 QR (s4.trans RD) NH
  .cases e
end
end PV
namespace LW
open PySem L2 NX PV
abbrev si(f:FX):FI:=Kh (DL f) (Kh (iy f) (iz f))
def lb:FS:=(dY (aB addO (aq (aE (.int 1))) (aq (Bi (c8 (si (aB Ji (aw 0) (aq (aE (.int 1))))) [none,none,none] (ky 3 (aT (aH 0) (aT (aH 1) (aT (aH 2) dZ)))) eF (a7 maxD (ag (aw 0) (ag (aw 2) aG)))) (aE (.int 0))))))
def cC:List D->Res R:=fBody 1 0 lb
def o9:FS:=(dY (c8 (si (aB Ji (aw 0) (aq (aE (.int 1))))) [none,none,none,some 1,some 2] (ky 3 (aT (aH 0) (aT (aH 1) (aT (aH 2) dZ)))) (Ba (JE (cp KS (aw 0) (aw 3))) (JE (cp KS (aw 1) (aw 4)))) (aR 2)))
def fA:List D->Res R:=fBody 3 0 o9
def gu:FS:=(dY (a7 cT (ag (aq (c8 (si (aB Ji (aw 0) (aq (aE (.int 1))))) [none] (aH 0) eF (aB Ji (aw 0) (aq (aE (.int 0)))))) aG)))
def b5:List D->Res R:=fBody 1 0 gu
noncomputable def sj:FS:=(sSeq (bX 3 (D6 oV (aq (aB Ji (aw 0) (aq (aE (.int 0))))) (ag (aw 2) aG)))
  (dY (a7 DQ (ag (aq (c8 (qm (ag (aq (aR 1)) (ag (aq (aB Ji (aw 0) (aq (aE (.int 1))))) aG))) [none,none,some 3] (ky 2 (aT (aH 0) (aT (aH 1) dZ))) eF (aB RA (aw 0) (aq (aB Ji (aq (aB Ji (aw 1) (aq (aE (.int 1))))) (aw 2)))))) aG))))
def gX:List D->Res R:=fBody 3 1 sj
noncomputable def wt:FS:=(sSeq (J0 (tV (JE (dA gX (ag (aw 0) (ag (aw 1) (ag (aw 2) aG))))))
  (dY (aE .non))
  bV)
  (sSeq (bX 3 (D6 oV (aq (aB Ji (aw 0) (aq (aE (.int 0))))) (ag (aw 2) aG)))
  (dY (a7 cT (ag (aq (c8 (qm (ag (aq (aR 1)) (ag (aq (aB Ji (aw 0) (aq (aE (.int 1))))) aG))) [none,none,some 3] (ky 2 (aT (aH 0) (aT (aH 1) dZ))) eF (aB addO (aq (aB nQ (aw 0) (aq (aB Ji (aq (aB Ji (aw 1) (aq (aE (.int 1))))) (aw 2))))) (aq (aB Ji (aq (aB Ji (aw 1) (aq (aE (.int 2))))) (aw 2)))))) aG)))))
def jD:List D->Res R:=fBody 3 1 wt
noncomputable def d7:FS:=(J0 (Ba (JE (cp LO (aw 4) (aw 1))) (JE (cp KS (aq (aB Ji (aq (aB Na (aw 0) (aw 4))) (aq (aE (.int 0))))) (aw 2))))
  (k9 0 (fH (aA (aE (.str [111,110,101])) (aA (aB Ji (aq (aB Na (aw 0) (aw 4))) (aq (aE (.int 1)))) (aA (aR 3) br)))))
  bV)
def i9:FS:=(BJ 0 (aH 4)
  d7)
noncomputable def pb:FS:=(sSeq (J0 (JE (cp Bu (aw 1) (aw 0)))
  (sPutP 0 (aR 1) (fH (aA (aR 2) (aA (aR 3) br))))
  (J0 (JE (cp LO (aq (aB Ji (aq (aB Na (aw 0) (aw 1))) (aq (aE (.int 0))))) (aw 2)))
  (k9 0 (fH (aA (aE (.str [116,119,111])) (aA (aB Ji (aq (aB Na (aw 0) (aw 1))) (aq (aE (.int 1)))) (aA (aR 3) br)))))
  bV))
  (k9 0 (aE .non)))
def zN:FS:=(sSeq i9
  pb)
def lg:Yx->List D->Res R:=ma 4 1 (.d) zN
def cD:FS:=(sSeq (bX 10 (eFunW (.d) lg 2 (ag (aw 2) (ag (aw 9) (ag (aw 7) (ag (aq (aB addO (aw 5) (aq (fH (aA (aR 6) br))))) aG))))))
  (J0 (JE (cp isnO (aw 10) (aq (aE .non))))
  (k9 2 (aR 10))
  bV))
def fO:FS:=(pT (si (aR 8)) (aH 9)
  cD)
noncomputable def cE:FS:=(sSeq (bX 7 (dA jD (ag (aw 1) (ag (aw 4) (ag (aw 6) aG)))))
  (sSeq (bX 8 (dA fA (ag (aw 0) (ag (aw 3) (ag (aw 6) aG)))))
  (sSeq (J0 (Ba (JE (cp PZ (aw 7) (aq (aE .non)))) (JE (aB PY (aq (a7 f7 (ag (aw 8) aG))) (aq (aE (.int 0))))))
  (k9 2 (fH (aA (aE (.str [115,116,117,99,107])) (aA (aR 5) (aA (aR 6) br)))))
  bV)
  (sSeq (J0 (Ba (JE (cp isnO (aw 7) (aq (aE .non)))) (JE (cp KS (aq (a7 f7 (ag (aw 8) aG))) (aq (aE (.int 0))))))
  (k9 2 (fH (aA (aE (.str [102,114,101,101])) (aA (aR 5) (aA (aR 6) br)))))
  bV)
  fO))))
def iI:FS:=(pT (si (aB Ji (aw 0) (aq (aE (.int 0))))) (aH 6)
  cE)
def jV:FS:=(k9 2 (aE .non))
def pd:FS:=(sSeq (bX 4 (aB Ji (aq (aB Na (aw 2) (aw 3))) (aq (aE (.int 0)))))
  (sSeq (bX 5 (aB Ji (aq (aB Na (aw 2) (aw 3))) (aq (aE (.int 1)))))
  (sSeq iI
  jV)))
def dH:Yx->List D->Res R:=fBodyJ 2 4 7 (.d) pd
noncomputable def fB:FS:=(sSeq (bX 4 (wg 2 (.d) dH 2 (ag (aw 0) (ag (aw 1) (ag (aw 2) (ag (aq (aB Ji (aq (a7 vZ (ag (aw 2) aG))) (aw 3))) aG))))))
  (sSeq (J0 (JE (cp isnO (aw 4) (aq (aE .non))))
  (dY (kg 4))
  bV)
  (bX 3 (aB addO (aw 3) (aq (aE (.int 1)))))))
def nh:FS:=(dB (JE (aB Mw (aw 3) (aq (a7 f7 (ag (aw 2) aG)))))
  fB 100000)
def pe:FS:=(dY (fH (aA (aE (.str [115,97,109,101])) (aA (c8 (c6 (aq (dA cC (ag (aw 0) aG)))) [none,some 2] (aH 0) eF (aB Ji (aq (aB Na (aw 1) (aw 0))) (aq (aE (.int 0))))) br))))
noncomputable def zO:FS:=(sSeq (J0 (JE (cp LO (aq (aB Ji (aw 0) (aq (aE (.int 0))))) (aq (aB Ji (aw 1) (aq (aE (.int 0)))))))
  vB
  bV)
  (sSeq (bX 2 (vX (aE (.int 0)) (fH (aA (dA b5 (ag (aw 1) aG)) (aA (fH br) br)))))
  (sSeq (bX 3 (aE (.int 0)))
  (sSeq nh
  pe))))
def ml:List D->Res R:=fBody 2 3 zO
def pg:FS:=(dY (cp KS (aq (aB Ji (aq (dA ml (ag (aw 0) (ag (aw 1) aG)))) (aq (aE (.int 0))))) (aq (aE (.str [115,97,109,101])))))
def d8:List D->Res R:=fBody 2 0 pg
def eJ:FS:=(sSeq (bX 4 (aB addO (aq (xA (aw 2) mX (iX (aR 3)))) (aq (xA (aw 2) (iX (aB addO (aw 3) (aq (aE (.int 1))))) mX))))
  (J0 (JE (BM d8 (aw 0) (aB Ji (aw 1) (aq (aE (.int 0)))) 4))
  (bX 2 (kg 4))
  bV))
def lh:FS:=(pT (ql (ag (aq (aB nQ (aq (a7 f7 (ag (aq (aB Ji (aw 1) (aq (aE (.int 1))))) aG))) (aq (aE (.int 1))))) (ag (aq (FD (aq (aE (.int 1))))) (ag (aq (FD (aq (aE (.int 1))))) aG)))) (aH 3)
  eJ)
def jW:FS:=(dY (Bv (aB Ji (aw 1) (aq (aE (.int 0)))) (kg 2)))
def ph:FS:=(sSeq (J0 (tV (JE (dA d8 (ag (aw 0) (ag (aw 1) aG)))))
  vB
  bV)
  (sSeq (bX 2 (a7 mY (ag (aq (aB Ji (aw 1) (aq (aE (.int 1))))) aG)))
  (sSeq lh
  jW)))
def d9:List D->Res R:=fBody 2 3 ph
def hZ:FS:=(sSeq (J0 (JE (aB Mw (aw 1) (aq (a7 f7 (ag (aw 0) aG)))))
  (dY (aB Ji (aw 0) (aw 1)))
  bV)
  (dY (aE (.int 0))))
def aI:List D->Res R:=fBody 2 0 hZ
noncomputable def jX:FS:=(sSeq (bX 2 (aB addO (aq (aB eC (aw 0) (aq (aE (.int 2147483647))))) (aq (aB jr (aq (aE (.int 48271))) (aq (aB addO (aw 1) (aq (aE (.int 1)))))))))
  (sSeq (bX 2 (aB eC (aq (aB addO (aq (aB jr (aw 2) (aw 2))) (aq (aB jr (aq (aE (.int 69621))) (aw 1))))) (aq (aE (.int 2147483647)))))
  (dY (aB eC (aq (aB addO (aq (aB addO (aq (aB jr (aw 2) (aw 2))) (aq (aB jr (aq (aE (.int 16807))) (aw 1))))) (aq (aE (.int 1))))) (aq (aE (.int 2147483647)))))))
def aW:List D->Res R:=fBody 2 1 jX
noncomputable def c9:FS:=(sSeq (bX 7 (xA (aw 2) mX (iX (aR 3))))
  (sSeq (ym 7 (aR 4) (aB eC (aq (aB addO (aq (aB Ji (aw 7) (aw 4))) (aw 6))) (aq (aE (.int 26)))))
  (sSeq (J0 (JE (cp KS (aq (aB eC (aq (aB dk (aw 0) (aq (aE (.int 64))))) (aq (aE (.int 4))))) (aq (aE (.int 1)))))
  (bX 7 (xA (aw 2) mX (iX (aB addO (aw 6) (aq (aE (.int 1)))))))
  bV)
  (iW (vF 5 (GD wb (aq (aE (.str []))) (ag (aq (c8 (Kh (jA 7) (Kh (iy (aR 7)) (iz (aR 7)))) [none,some 1] (aH 0) eF (aB Ji (aw 1) (aw 0)))) aG)))))))
def ia:FS:=(pT (c6 (aq (aE (.int 5)))) (aH 6)
  c9)
def gv:FS:=(sSeq (J0 (JE (cp SH (aq (aE (.str [109,111,118,101,115]))) (aw 5)))
  (bX 5 (c8 (Kh (jA 5) (Kh (iy (aR 5)) (iz (aR 5)))) [none] (aH 0) eF (aB addO (aq (aE (.str [115]))) (aw 0))))
  bV)
  (dY (a7 fN (ag (aw 5) aG))))
noncomputable def jY:FS:=(sSeq (bX 1 (aE (.str [97,98,99,100,101,102,103,104,105,106,107,108,109,110,111,112,113,114,115,116,117,118,119,120,121,122])))
  (sSeq (bX 2 (c8 (c6 (aq (aE (.int 8)))) [none,some 0] (aH 0) eF (aB eC (aq (dA aW (ag (aw 1) (ag (aw 0) aG)))) (aq (aE (.int 26))))))
  (sSeq (bX 3 (aB addO (aq (aE (.int 1))) (aq (aB eC (aw 0) (aq (aE (.int 8)))))))
  (sSeq (bX 4 (aB eC (aq (aB dk (aw 0) (aq (aE (.int 8))))) (aw 3)))
  (sSeq (bX 5 (nR br))
  (sSeq ia
  gv))))))
def cU:List D->Res R:=fBody 1 7 jY
noncomputable def cK:FS:=(sSeq (J0 (JE (aB Mw (aw 5) (aq (aB Ji (aq (aB Ji (aw 6) (aq (aE (.int 1))))) (aw 3)))))
  (dY (aE .non))
  bV)
  (iW (vF 4 (aB addO (aq (aB nQ (aw 5) (aq (aB Ji (aq (aB Ji (aw 6) (aq (aE (.int 1))))) (aw 3))))) (aq (aB Ji (aq (aB Ji (aw 6) (aq (aE (.int 2))))) (aw 3)))))))
def fP:FS:=(pT (qm (ag (aq (aR 1)) (ag (aq (aB Ji (aw 0) (aq (aE (.int 1))))) aG))) (ky 2 (aT (aH 5) (aT (aH 6) dZ)))
  cK)
def ib:FS:=(dY (a7 cT (ag (aw 4) aG)))
def lj:FS:=(sSeq (bX 3 (D6 oV (aq (aB Ji (aw 0) (aq (aE (.int 0))))) (ag (aw 2) aG)))
  (sSeq (bX 4 (nR br))
  (sSeq fP
  ib)))
def cQ:List D->Res R:=fBody 3 4 lj
noncomputable def b8:FS:=(sSeq (bX 6 (dA cQ (ag (aw 0) (ag (aq (aB Ji (aw 2) (aw 4))) (ag (aw 5) aG)))))
  (J0 (JE (cp isnO (aw 6) (aq (aE .non))))
  (sSeq (J0 (JE (cp Bu (aw 6) (aw 2)))
  (sSeq (J0 (JE (cp KS (aq (a7 f7 (ag (aw 2) aG))) (aw 1)))
  (dY (aE .non))
  bV)
  (iW (vF 2 (aR 6))))
  bV)
  (iW (vF 3 (fH (aA (aR 4) (aA (aR 5) (aA (GJ qq (aw 2) (ag (aw 6) aG)) br)))))))
  bV))
def gw:FS:=(pT (si (aB Ji (aw 0) (aq (aE (.int 0))))) (aH 5)
  b8)
def ja:FS:=(bX 4 (aB addO (aw 4) (aq (aE (.int 1)))))
def cI:FS:=(sSeq gw
  ja)
def eK:FS:=(dB (JE (aB Mw (aw 4) (aq (a7 f7 (ag (aw 2) aG)))))
  cI 100000)
def jb:FS:=(dY (fH (aA (a7 fN (ag (aw 3) aG)) (aA (aR 2) br))))
noncomputable def mn:FS:=(sSeq (bX 2 (nR (aA (a7 cT (ag (aq (c8 (si (aB Ji (aw 0) (aq (aE (.int 1))))) [none,none,none] (ky 3 (aT (aH 0) (aT (aH 1) (aT (aH 2) dZ)))) eF (aR 0))) aG)) br)))
  (sSeq (bX 3 (nR br))
  (sSeq (bX 4 (aE (.int 0)))
  (sSeq eK
  jb))))
def bB:List D->Res R:=fBody 2 5 mn
def eY:FS:=(bX 3 (dA aW (ag (aq (aB addO (aw 4) (aw 3))) (ag (aw 2) aG))))
def jc:FS:=(pT (si (GK (aw 0) (iX (aB addO (aw 1) (aw 2))) (iX (aB addO (aw 1) (aq (aE (.int 84))))) (iX (aE (.int 6))))) (aH 4)
  eY)
def ic:FS:=(dY (kg 3))
def ll:FS:=(sSeq (bX 3 (aB addO (aq (aE (.int 7))) (aw 2)))
  (sSeq jc
  ic))
def dm:List D->Res R:=fBody 3 2 ll
noncomputable def eg:FS:=(sSeq (bX 5 (dA aW (ag (aw 0) (ag (aw 4) aG))))
  (sSeq (bX 6 (aB nQ (aq (aB eC (aw 5) (aq (aE (.int 5))))) (aq (aE (.int 2)))))
  (sSeq (bX 7 (aB dk (aq (aB eC (aq (aB dk (aw 5) (aq (aE (.int 8))))) (aq (aE (.int 4))))) (aq (aE (.int 3)))))
  (sSeq (iW (vF 2 (aB addO (aq (a7 maxD (ag (aq (aE (.int 0))) (ag (aq (aB nQ (aq (aE (.int 0))) (aw 6))) aG)))) (aw 7))))
  (iW (vF 3 (aB addO (aq (a7 maxD (ag (aq (aE (.int 0))) (ag (aw 6) aG)))) (aw 7))))))))
def ig:FS:=(pT (c6 (aw 1)) (aH 4)
  eg)
def gx:FS:=(dY (BB (aB eC (aq (aB dk (aw 0) (aq (aE (.int 16))))) (aq (aE (.int 4)))) (kg 2) (kg 3)))
def jZ:FS:=(sSeq (bX 2 (nR br))
  (sSeq (bX 3 (nR br))
  (sSeq ig
  gx)))
def cV:List D->Res R:=fBody 2 6 jZ
noncomputable def jd:FS:=(sSeq (bX 2 (aB addO (aq (aE (.int 1))) (aq (aB eC (aw 1) (aq (aB yf (aq (aE (.int 10))) (aq (aE (.int 50)))))))))
  (sSeq (D1 (aR 0) (ky 3 (aT (aH 3) (aT (aH 4) (aT (aH 5) dZ)))))
  (sSeq (bX 4 (a7 cT (ag (aq (c8 (Kh (jA 4) (Kh (iy (aR 4)) (iz (aR 4)))) [none,some 2] (aH 0) eF (aB jr (aw 1) (aw 0)))) aG)))
  (dY (fH (aA (aB addO (aq (aB jr (aw 2) (aw 3))) (aq (aB eC (aq (aB dk (aw 1) (aq (aE (.int 7))))) (aw 2)))) (aA (aR 4) (aA (a7 cT (ag (aq (c8 (Kh (jA 5) (Kh (iy (aR 5)) (iz (aR 5)))) [none,some 2] (aH 0) eF (aB jr (aw 1) (aw 0)))) aG)) br))))))))
def b9:List D->Res R:=fBody 2 4 jd
noncomputable def cM:FS:=(sSeq (bX 5 (dA dm (ag (aw 0) (ag (aw 1) (ag (aw 4) aG)))))
  (sSeq (bX 6 (dA cV (ag (aw 5) (ag (aw 2) aG))))
  (sSeq (iW (vF 3 (dA b9 (ag (aw 6) (ag (aq (dA aI (ag (aw 0) (ag (aq (aB addO (aw 1) (aw 4))) aG)))) aG)))))
  (J0 (JE (aB PY (aq (aB eC (aq (aB dk (aw 5) (aq (aE (.int 64))))) (aq (aE (.int 3))))) (aq (aE (.int 0)))))
  (sSeq (bX 7 (fH (aA (aB eC (aq (aB dk (aw 5) (aq (aE (.int 256))))) (aq (aE (.int 4)))) (aA (aB Ji (aq (aR 6)) (aq (aE (.int 2)))) (aA (aB Ji (aq (aR 6)) (aq (aE (.int 1)))) br)))))
  (iW (vF 3 (dA b9 (ag (aw 7) (ag (aq (dA aI (ag (aw 0) (ag (aq (aB addO (aq (aB addO (aw 1) (aq (aE (.int 6))))) (aw 4))) aG)))) aG))))))
  bV))))
def gy:FS:=(pT (c6 (aq (aB addO (aq (aE (.int 1))) (aq (aB eC (aq (aB dk (aq (dA aI (ag (aw 0) (ag (aq (aE (.int 1))) aG)))) (aq (aE (.int 4))))) (aq (aE (.int 4)))))))) (aH 4)
  cM)
def fY:FS:=(dY (kg 3))
def je:FS:=(sSeq (bX 3 (nR br))
  (sSeq gy
  fY))
def cJ:List D->Res R:=fBody 3 5 je
noncomputable def j3:FS:=(sSeq (bX 1 (dA cU (ag (aq (dA aI (ag (aw 0) (ag (aq (aE (.int 0))) aG)))) aG)))
  (sSeq (bX 2 (dA aI (ag (aw 0) (ag (aq (aE (.int 1))) aG))))
  (sSeq (bX 3 (aB addO (aq (aE (.int 1))) (aq (aB eC (aw 2) (aq (aE (.int 3)))))))
  (sSeq (bX 4 (aB eC (aq (aB dk (aw 2) (aq (aE (.int 32))))) (aq (aB nQ (aq (aE (.int 6))) (aw 3)))))
  (dY (a7 cT (ag (aq (xA (aw 1) (iX (aR 4)) (iX (aB addO (aw 4) (aw 3))))) aG)))))))
def cW:List D->Res R:=fBody 1 4 j3
noncomputable def mq:FS:=(sSeq (bX 2 (dA cW (ag (aw 0) aG)))
  (sSeq (bX 3 (a7 f7 (ag (aw 2) aG)))
  (sSeq (bX 4 (dA cJ (ag (aw 0) (ag (aw 1) (ag (aw 3) aG)))))
  (sSeq (J0 (JE (cp isnO (aq (dA bB (ag (aq (fH (aA (aR 2) (aA (aR 4) br)))) (ag (aq (aE (.int 8))) aG)))) (aq (aE .non))))
  (dY (fH (aA (aR 2) (aA (aR 4) br))))
  bV)
  (sSeq (bX 5 (a7 cT (ag (aq (c8 (Kh (jA 2) (Kh (iy (aR 2)) (iz (aR 2)))) [none] (aH 0) eF (aE (.int 1)))) aG)))
  (sSeq (bX 6 (a7 cT (ag (aq (c8 (Kh (jA 2) (Kh (iy (aR 2)) (iz (aR 2)))) [none] (aH 0) eF (aE (.int 0)))) aG)))
  (sSeq (J0 (JE (cp isnO (aq (dA bB (ag (aq (fH (aA (aR 2) (aA (aB addO (aw 4) (aq (nR (aA (fH (aA (aE (.int 2)) (aA (aR 5) (aA (aR 6) br)))) br)))) br)))) (ag (aq (aE (.int 8))) aG)))) (aq (aE .non))))
  (dY (fH (aA (aR 2) (aA (aB addO (aw 4) (aq (nR (aA (fH (aA (aE (.int 2)) (aA (aR 5) (aA (aR 6) br)))) br)))) br))))
  bV)
  (dY (fH (aA (aR 2) (aA (aB addO (aw 4) (aq (nR (aA (fH (aA (aE (.int 1)) (aA (aR 5) (aA (aR 6) br)))) br)))) br)))))))))))
def dn:List D->Res R:=fBody 2 5 mq
noncomputable def mr:FS:=(sSeq (bX 2 (a7 cT (ag (aq (c8 (c6 (aq (a7 f7 (ag (aq (aB Ji (aw 0) (aq (aE (.int 1))))) aG)))) [none,some 0,some 1] (aH 0) eF (aB addO (aq (aB Ji (aq (aB Ji (aw 1) (aq (aE (.int 1))))) (aw 0))) (aq (aB Ji (aq (aB Ji (aw 2) (aq (aE (.int 1))))) (aw 0)))))) aG)))
  (sSeq (bX 3 (a7 cT (ag (aq (c8 (c6 (aq (a7 f7 (ag (aq (aB Ji (aw 0) (aq (aE (.int 2))))) aG)))) [none,some 0,some 1] (aH 0) eF (aB addO (aq (aB Ji (aq (aB Ji (aw 1) (aq (aE (.int 2))))) (aw 0))) (aq (aB Ji (aq (aB Ji (aw 2) (aq (aE (.int 2))))) (aw 0)))))) aG)))
  (dY (fH (aA (aB addO (aq (aB Ji (aw 0) (aq (aE (.int 0))))) (aq (aB Ji (aw 1) (aq (aE (.int 0)))))) (aA (aR 2) (aA (aR 3) br)))))))
def dq:List D->Res R:=fBody 2 2 mr
noncomputable def bS:FS:=(sSeq (bX 5 (dA aW (ag (aq (dA aI (ag (aw 0) (ag (aw 4) aG)))) (ag (aq (aE (.int 31))) aG))))
  (sSeq (bX 6 (aB Ji (aw 3) (aq (aB eC (aw 5) (aq (a7 f7 (ag (aw 3) aG)))))))
  (sSeq (bX 7 (aB Ji (aw 3) (aq (aB eC (aq (aB dk (aw 5) (aq (aE (.int 16))))) (aq (a7 f7 (ag (aw 3) aG)))))))
  (sSeq (J0 (JE (cp KS (aq (aB eC (aq (aB dk (aw 5) (aq (aE (.int 256))))) (aq (aE (.int 4))))) (aq (aE (.int 0)))))
  (bX 6 (dA dq (ag (aw 6) (ag (aw 7) aG))))
  bV)
  (sSeq (J0 (JE (cp KS (aq (aB eC (aq (aB dk (aw 5) (aq (aE (.int 256))))) (aq (aE (.int 4))))) (aq (aE (.int 1)))))
  (bX 6 (fH (aA (aB addO (aq (aB Ji (aw 6) (aq (aE (.int 0))))) (aq (aB eC (aq (dA aI (ag (aw 0) (ag (aw 4) aG)))) (aq (aB yf (aq (aE (.int 10))) (aq (aE (.int 40)))))))) (aA (aB Ji (aw 6) (aq (aE (.int 1)))) (aA (aB Ji (aw 6) (aq (aE (.int 2)))) br)))))
  bV)
  (sSeq (J0 (JE (cp KS (aq (aB eC (aq (aB dk (aw 5) (aq (aE (.int 256))))) (aq (aE (.int 4))))) (aq (aE (.int 2)))))
  (bX 6 (fH (aA (aB jr (aq (aB Ji (aw 6) (aq (aE (.int 0))))) (aq (aE (.int 3)))) (aA (a7 cT (ag (aq (c8 (si (aB Ji (aw 6) (aq (aE (.int 1))))) [none] (aH 0) eF (aB jr (aw 0) (aq (aE (.int 3)))))) aG)) (aA (a7 cT (ag (aq (c8 (si (aB Ji (aw 6) (aq (aE (.int 2))))) [none] (aH 0) eF (aB jr (aw 0) (aq (aE (.int 3)))))) aG)) br)))))
  bV)
  (J0 (JE (aB PY (aq (aB eC (aq (aB dk (aw 5) (aq (aE (.int 1024))))) (aq (aE (.int 4))))) (aq (aE (.int 0)))))
  (iW (Ej 3 (aB eC (aq (aB dk (aw 5) (aq (aE (.int 4096))))) (aq (aB addO (aq (a7 f7 (ag (aw 3) aG))) (aq (aE (.int 1)))))) (aR 6)))
  bV)))))))
def dR:FS:=(pT (p8 (ag (aw 2) (ag (aq (aB addO (aw 2) (aq (aE (.int 3))))) aG))) (aH 4)
  bS)
def dI:FS:=(dY (fH (aA (aB Ji (aw 1) (aq (aE (.int 0)))) (aA (aR 3) br))))
def eL:FS:=(sSeq (bX 3 (a7 mY (ag (aq (aB Ji (aw 1) (aq (aE (.int 1))))) aG)))
  (sSeq dR
  dI))
def bC:List D->Res R:=fBody 3 5 eL
noncomputable def lq:FS:=(sSeq (J0 (JE (cp KS (aw 0) (aq (aE (.int 1)))))
  (dY (nR (aA (aE (.int 0)) br)))
  bV)
  (sSeq (bX 2 (aB eC (aw 1) (aq (aB nQ (aw 0) (aq (aE (.int 1)))))))
  (sSeq (bX 3 (aB addO (aq (nR (aA (aE (.int 0)) br))) (aq (c8 (c6 (aq (aB nQ (aw 0) (aq (aE (.int 1)))))) [none,some 2,some 0] (aH 0) eF (aB addO (aq (aE (.int 1))) (aq (aB eC (aq (aB addO (aw 0) (aw 1))) (aq (aB nQ (aw 2) (aq (aE (.int 1))))))))))))
  (sSeq (J0 (JE (cp KS (aq (aB eC (aq (aB dk (aw 1) (aq (aE (.int 64))))) (aq (aE (.int 2))))) (aq (aE (.int 1)))))
  (bX 3 (aB addO (aq (nR (aA (aE (.int 0)) br))) (aq (c8 (si (xA (aw 3) (iX (aE (.int 1))) mX)) [none,some 0] (aH 0) eF (aB nQ (aw 1) (aw 0))))))
  bV)
  (dY (kg 3))))))
def dr:List D->Res R:=fBody 2 2 lq
def j4:FS:=(dY (FC (Ou "int" (aw 0)) (Gu (Ou "bool" (aw 0)))))
def m__law_whole:List D->Res R:=fBody 1 0 j4
def de:FS:=(J0 (tV (JE (dA m__law_whole (ag (aw 2) aG))))
  (dY (aE (.bl false)))
  bV)
def fC:FS:=(pT (si (aB addO (aq (aB Ji (aw 0) (aq (aE (.int 1))))) (aq (aB Ji (aw 0) (aq (aE (.int 2))))))) (aH 2)
  de)
def eQ:FS:=(dY (aE (.bl true)))
noncomputable def gA:FS:=(sSeq (J0 (Om (tV (JE (Ou "tuple" (aw 0)))) (Om (JE (cp LO (aw 0) (aw 1))) (tV (JE (dA m__law_whole (ag (aq (aB Ji (aw 0) (aq (aE (.int 0))))) aG))))))
  (dY (aE (.bl false)))
  bV)
  (sSeq (J0 (Om (tV (JE (Ou "tuple" (aq (aB Ji (aw 0) (aq (aE (.int 1)))))))) (tV (JE (Ou "tuple" (aq (aB Ji (aw 0) (aq (aE (.int 2)))))))))
  (dY (aE (.bl false)))
  bV)
  (sSeq fC
  eQ)))
def b6:List D->Res R:=fBody 2 1 gA
noncomputable def df:FS:=(sSeq (bX 4 (aB addO (aq (xA (aw 2) mX (iX (aR 3)))) (aq (xA (aw 2) (iX (aB addO (aw 3) (aq (aE (.int 1))))) mX))))
  (sSeq (bX 5 (dA bB (ag (aq (fH (aA (aB Ji (aw 0) (aq (aE (.int 0)))) (aA (aR 4) br)))) (ag (aq (aE (.int 8))) aG))))
  (J0 (Ba (JE (cp isnO (aw 5) (aq (aE .non)))) (JE (cp KS (aq (aB Ji (aw 5) (aq (aE (.int 0))))) (aw 1))))
  (bX 2 (aR 4))
  bV)))
def j5:FS:=(pT (iRevR1 (ag (aq (a7 f7 (ag (aq (aB Ji (aw 0) (aq (aE (.int 1))))) aG))) aG)) (aH 3)
  df)
def jg:FS:=(dY (kg 2))
def mw:FS:=(sSeq (bX 2 (a7 mY (ag (aq (aB Ji (aw 0) (aq (aE (.int 1))))) aG)))
  (sSeq j5
  jg))
def dt:List D->Res R:=fBody 2 4 mw
def dw:FS:=(J0 (tV (JE (dA b6 (ag (aw 3) (ag (aw 4) aG)))))
  (dY (aE (.bl false)))
  bV)
def jh:FS:=(pT (qm (ag (aq (aB Ji (aw 0) (aq (aE (.int 1))))) (ag (aq (aR 2)) aG))) (ky 2 (aT (aH 3) (aT (aH 4) dZ)))
  dw)
def ij:FS:=(dY (aE (.bl true)))
noncomputable def lr:FS:=(sSeq (J0 (Om (tV (JE (Ou "tuple" (aw 0)))) (Om (JE (cp LO (aq (a7 f7 (ag (aw 0) aG))) (aq (aE (.int 2))))) (Om (JE (cp LO (aq (aB Ji (aw 0) (aq (aE (.int 0))))) (aw 1))) (tV (JE (Ou "list" (aq (aB Ji (aw 0) (aq (aE (.int 1)))))))))))
  (dY (aE (.bl false)))
  bV)
  (sSeq (J0 (JE (cp LO (aq (a7 f7 (ag (aq (aB Ji (aw 0) (aq (aE (.int 1))))) aG))) (aq (a7 f7 (ag (aw 2) aG)))))
  (dY (aE (.bl false)))
  bV)
  (sSeq jh
  ij)))
def cR:List D->Res R:=fBody 3 2 lr
noncomputable def Ek:FS:=(sSeq (bX 1 (dA bC (ag (aw 0) (ag (aq (dA dn (ag (aw 0) (ag (aq (aE (.int 5))) aG)))) (ag (aq (aE (.int 2))) aG)))))
  (sSeq (D1 (dA bB (ag (aw 1) (ag (aq (aE (.int 8))) aG))) (ky 2 (aT (aH 2) (aT (aH 3) dZ))))
  (sSeq (bX 4 (dA dr (ag (aq (a7 f7 (ag (aw 3) aG))) (ag (aq (dA aW (ag (aq (dA aI (ag (aw 0) (ag (aq (aE (.int 1))) aG)))) (ag (aq (aE (.int 5))) aG)))) aG))))
  (sSeq (bX 5 (fH (aA (aB Ji (aw 1) (aq (aE (.int 0)))) (aA (a7 fN (ag (aq (c8 (Kh (jA 2) (Kh (iy (aR 2)) (iz (aR 2)))) [none,none,none,some 4] (ky 3 (aT (aH 0) (aT (aH 1) (aT (aH 2) dZ)))) eF (fH (aA (aB Ji (aw 3) (aw 0)) (aA (aR 1) (aA (aB Ji (aw 3) (aw 2)) br)))))) aG)) br))))
  (sSeq (bX 6 (dA dt (ag (aw 1) (ag (aw 2) aG))))
  (sSeq (bX 7 (nR (aA (fH (aA (aB Ji (aw 1) (aq (aE (.int 0)))) (aA (a7 mY (ag (aq (aB Ji (aw 5) (aq (aE (.int 1))))) aG)) br))) (aA (fH (aA (aB Ji (aw 1) (aq (aE (.int 0)))) (aA (a7 mY (ag (aq (aB Ji (aw 1) (aq (aE (.int 1))))) aG)) br))) br))))
  (sSeq (bX 8 (dA d9 (ag (aq (aB Ji (aw 7) (aq (aE (.int 0))))) (ag (aq (aB Ji (aw 7) (aq (aE (.int 1))))) aG))))
  (sSeq (J0 (Om (tV (JE (dA cR (ag (aw 8) (ag (aq (aB Ji (aw 1) (aq (aE (.int 0))))) (ag (aw 6) aG)))))) (JE (cp LO (aw 7) (aq (nR (aA (aR 5) (aA (aR 1) br)))))))
  (dY (aE (.bl false)))
  bV)
  (sSeq (iW (r9 8))
  (dY (FC (cp KS (aw 7) (aq (nR (aA (aR 5) (aA (aR 1) br))))) (dA cR (ag (aq (dA d9 (ag (aw 5) (ag (aw 1) aG)))) (ag (aq (aB Ji (aw 1) (aq (aE (.int 0))))) (ag (aw 6) aG)))))))))))))))
def BO:List D->Res R:=fBody 1 8 Ek
end LW
namespace LW
open PySem PySem.Spec PyProof.Rows L2 NX PV
def El{α:Type}{Q:List α->Prop}(h:∀a,Q [a]):∀us,us.length=1->Q us
 |[a],_=>h a
def ub{α:Type}{Q:List α->Prop}(h:∀a b,Q [a,b]):∀us,us.length=2->Q us
 |[a,b],_=>h a b
def zP{α:Type}{Q:List α->Prop}(h:∀a b c,Q [a,b,c]):∀us,us.length=3->Q us
 |[a,b,c],_=>h a b c
def Hz{α:Type}{Q:List α->Prop}(h:∀a b c d,Q [a,b,c,d]):∀us,us.length=4->Q us
 |[a,b,c,d],_=>h a b c d
def fZ{X:Cx}{tg e:Expr}{f:FX}(h:QE X e f):QI X tg e (Kh (DL f) (Kh (iy f) (iz f))):=vK (Bb h) (vK (jO h) (jP h))
def top(i:Nat):Stmt:=PySem.Challenge.pw_netfinder_k75_places_left_out.main.body.getD i (.Pass ⟨0,0,0,0⟩)
def ID:Str.ofString "two" = S [116,119,111]:=by decide +kernel
def IE:Str.ofString "one" = S [111,110,101]:=by decide +kernel
def IF:Str.ofString "free" = S [102,114,101,101]:=by decide +kernel
def IG:Str.ofString "stuck" = S [115,116,117,99,107]:=by decide +kernel
def HA:Str.ofString "same" = S [115,97,109,101]:=by decide +kernel
def IH:Str.ofString "moves" = S [109,111,118,101,115]:=by decide +kernel
def II:Str.ofString "s" = S [115]:=by decide +kernel
def IJ:Str.ofString "" = S []:=by decide +kernel
def IK:Str.ofString "abcdefghijklmnopqrstuvwxyz" = S [97,98,99,100,101,102,103,104,105,106,107,108,109,110,111,112,113,114,115,116,117,118,119,120,121,122]:=by decide +kernel
section
variable{P:Yy}{w:World}{K:W.Frag}{mg:Str->Option Yu}{base:YB}
abbrev iJ:Stmt:=top 5
theorem pj:FnScope ["chart"] ["chart"] (defScope iJ):=fs
theorem pk(Df:Def K mg "states_of" iJ)(K2:mg "max" = none):Ct P w K mg base "states_of" 1 (spF K cC):=
 dD Df pj (fun _ _ _ _ _ _=>El fun _=>rfl) fun f Jz A outer s H E hr=>
  (az (bc (aJ aP (aa ah) (aa (Bj rfl (by rfl) K2 (bH [none,none,none] ["first","move","second"] rfl (bU (fZ (aQ (ae (pv 0)) (aa ah)))) (fun _ _ _ _ _=>(have h:=(show List.Nodup (["first","move","second"]:List Str) from by decide +kernel);(hW rfl (a9 (aM (i:=0) h rfl (lo rfl)) (a9 (aM (i:=1) h rfl (lo rfl)) (a9 (aM (i:=2) h rfl (lo rfl)) eW)))))) (fun _ _ _ _ _=>bZ) (fun _ _ _ _ _=>(a8 (vJ rfl) (by rfl) K2 vS (af (ae (pv 0)) (af (ae (pv 2)) ax))))) ah)))))
abbrev lu:Stmt:=top 6
theorem uc:FnScope ["chart","state","move"] ["chart","state","move"] (defScope lu):=fs
theorem ud(Df:Def K mg "goes_to" lu):Ct P w K mg base "goes_to" 1 (spF K fA):=
 dD Df uc (fun _ _ _ _ _ _=>zP fun _ _ _=>rfl) fun f Jz A outer s H E hr=>
  (az (bc (bH [none,none,none,some 1,some 2] ["first","by","second","state","move"] rfl (bU (fZ (aQ (ae (pv 0)) (aa ah)))) (fun _ _ _ _ _=>(have h:=(show List.Nodup (["first","by","second","state","move"]:List Str) from by decide +kernel);(hW rfl (a9 (aM (i:=0) h rfl (lo rfl)) (a9 (aM (i:=1) h rfl (lo rfl)) (a9 (aM (i:=2) h rfl (lo rfl)) eW)))))) (fun _ _ _ _ _=>(Bc (QW.qt (oJ (bg (i5 hr.units) (ae (pv 0)) (ae (pv 3)) (bp _)) (kM (bg (i5 hr.units) (ae (pv 1)) (ae (pv 4)) (bp _))))))) (fun _ _ _ _ _=>(aD (pv 2))))))
abbrev eh:Stmt:=top 8
theorem kl:FnScope ["net"] ["net"] (defScope eh):=fs
theorem km(Df:Def K mg "first_marking" eh)(Jh:mg "tuple" = none):Ct P w K mg base "first_marking" 1 (spF K b5):=
 dD Df kl (fun _ _ _ _ _ _=>El fun _=>rfl) fun f Jz A outer s H E hr=>
  (az (bc (bj cH (by rfl) Jh bP (af (aa (bH [none] ["place"] rfl (bU (fZ (aQ (ae (pv 0)) (aa ah)))) (fun _ _ _ _ _=>(aM (i:=0) (show List.Nodup (["place"]:List Str) from by decide +kernel) rfl (lo rfl))) (fun _ _ _ _ _=>bZ) (fun _ _ _ _ _=>(aQ (ae (pv 0)) (aa ah))))) ax))))
abbrev ni:Stmt:=top 9
theorem pq:FnScope ["net","marking","move","at"] ["net","marking","move"] (defScope ni):=fs
theorem wu(Df:Def K mg "can_go" ni)(MP:mg "all" = none)(Kt:mg "zip" = none):Ct P w K mg base "can_go" 1 (spF K gX):=
 dD Df pq (fun _ _ _ _ _ _=>zP fun _ _ _=>rfl) fun f Jz A outer s H E hr=>
  (ao (aK (i:=3) pq.nd rfl (lo rfl) (vW WL Xk iG (aa (aQ (ae (pv 0)) (aa ah))) (af (ae (pv 2)) ax)))
  (az (bc (a8 (DR rfl) (by rfl) MP D2 (af (aa (bH [none,none,some 3] ["beads","place","at"] rfl (bU (ng (by rfl) Kt (af (aa (aD (pv 1))) (af (aa (aQ (ae (pv 0)) (aa ah))) ax)))) (fun _ _ _ _ _=>(have h:=(show List.Nodup (["beads","place","at"]:List Str) from by decide +kernel);(hW rfl (a9 (aM (i:=0) h rfl (lo rfl)) (a9 (aM (i:=1) h rfl (lo rfl)) eW))))) (fun _ _ _ _ _=>bZ) (fun _ _ _ _ _=>(DJ (DW hr.units0) (ae (pv 0)) (aa (aQ (aa (aQ (ae (pv 1)) (aa ah))) (ae (pv 2)))) (bp _))))) ax)))))
abbrev qu:Stmt:=top 10
theorem sk:FnScope ["net","marking","move","at"] ["net","marking","move"] (defScope qu):=fs
theorem yu(Df:Def K mg "moved" qu)(NJ:Ct P w K mg base "can_go" 1 (spF K gX))(Jh:mg "tuple" = none)(Kt:mg "zip" = none):Ct P w K mg base "moved" 2 (spF K jD):=
 dD Df sk (fun _ _ _ _ _ _=>zP fun _ _ _=>rfl) fun f Jz A outer s H E hr=>
  (ao (cA (gj (fV (aZ NJ hr.m (by rfl) (af (ae (pv 0)) (af (ae (pv 1)) (af (ae (pv 2)) ax))))))
  (az (bc fe))
  aY)
  (ao (aK (i:=3) sk.nd rfl (lo rfl) (vW WL Xk iG (aa (aQ (ae (pv 0)) (aa ah))) (af (ae (pv 2)) ax)))
  (az (bc (bj cH (by rfl) Jh bP (af (aa (bH [none,none,some 3] ["beads","place","at"] rfl (bU (ng (by rfl) Kt (af (aa (aD (pv 1))) (af (aa (aQ (ae (pv 0)) (aa ah))) ax)))) (fun _ _ _ _ _=>(have h:=(show List.Nodup (["beads","place","at"]:List Str) from by decide +kernel);(hW rfl (a9 (aM (i:=0) h rfl (lo rfl)) (a9 (aM (i:=1) h rfl (lo rfl)) eW))))) (fun _ _ _ _ _=>bZ) (fun _ _ _ _ _=>(aJ aP (aa (aJ hX (ae (pv 0)) (aa (aQ (aa (aQ (ae (pv 1)) (aa ah))) (ae (pv 2)))))) (aa (aQ (aa (aQ (ae (pv 1)) (aa ah))) (ae (pv 2)))))))) ax))))))
abbrev wx:Stmt:=top 12
theorem wy:FnScope ["got","state","marking","way","other"] ["got","state","marking","way"] (defScope wx):=fs
theorem BP(Df:Def K mg "give" wx):Ct P w K mg base "give" 1 (spM K (.d) lg):=
 D9 Df wy (fun _ _ _ _ _ _=>Hz fun _ _ _ _=>rfl) fun f Jz A outer s H E hr=>
  (ao (BK VE rfl (pv 0) (aM (i:=4) wy.nd rfl (lo rfl))
  (az (cA (QW.qt (oJ (bg (oQ hr.units) (ae (pv 4)) (ae (pv 1)) (bp _)) (kM (bg (i5 hr.units) (aa (aQ (aa (qp (hu_of hr) (ae (pv 0)) (ae (pv 4)))) (aa ah))) (ae (pv 2)) (bp _)))))
  (az (iH (i:=0) (bN (av (hJ IE (by decide)) (av (aQ (aa (qp (hu_of hr) (ae (pv 0)) (ae (pv 4)))) (aa ah)) (av (aD (pv 3)) aN))))))
  aY)))
  (ao (cA (bg (vY hr.u65) (ae (pv 1)) (ae (pv 0)) (by with_unfolding_all rfl))
  (az (BI (hu_of hr) (pv 0) (aD (pv 1)) (bN (av (aD (pv 2)) (av (aD (pv 3)) aN)))))
  (az (cA (bg (oQ hr.units) (aa (aQ (aa (qp (hu_of hr) (ae (pv 0)) (ae (pv 1)))) (aa ah))) (ae (pv 2)) (bp _))
  (az (iH (i:=0) (bN (av (hJ ID (by decide)) (av (aQ (aa (qp (hu_of hr) (ae (pv 0)) (ae (pv 1)))) (aa ah)) (av (aD (pv 3)) aN))))))
  aY)))
  (az (iH (i:=0) fe))))
abbrev lx:Stmt:=top 13
theorem cX:FnScope ["chart","net","got","state","marking","way","move","coming","seconds","second","against"] ["chart","net","got","state"] (defScope lx):=fs
theorem ue(Df:Def K mg "look_at" lx)(Qa:Ct P w K mg base "give" 1 (spM K (.d) lg))(Nd:Ct P w K mg base "goes_to" 1 (spF K fA))(Oy:Ct P w K mg base "moved" 2 (spF K jD))(Jv:mg "len" = none):Ct P w K mg base "look_at" 3 (spJ 2 K (.d) dH):=
 Ei Df cX (fun _ _ _ _ _ _=>Hz fun _ _ _ _=>rfl) fun f Jz A outer s H E hr=>
  (ao (aK (i:=4) cX.nd rfl (lo rfl) (aQ (aa (qp (hu_of hr) (ae (pv 2)) (ae (pv 3)))) (aa ah)))
  (ao (aK (i:=5) cX.nd rfl (lo rfl) (aQ (aa (qp (hu_of hr) (ae (pv 2)) (ae (pv 3)))) (aa ah)))
  (ao (fg VE rfl (fZ (aQ (ae (pv 0)) (aa ah))) (aM (i:=6) cX.nd rfl (lo rfl))
  (ao (aK (i:=7) cX.nd rfl (lo rfl) (aZ Oy hr.m (by rfl) (af (ae (pv 1)) (af (ae (pv 4)) (af (ae (pv 6)) ax)))))
  (ao (aK (i:=8) cX.nd rfl (lo rfl) (aZ Nd hr.m (by rfl) (af (ae (pv 0)) (af (ae (pv 3)) (af (ae (pv 6)) ax)))))
  (ao (cA (QW.qt (oJ (bg GC (ae (pv 7)) (aa fe) (bp _)) (kM (kK Be (aa (a8 cv (by rfl) Jv bt_len (af (ae (pv 8)) ax))) (aa ah) (bp _)))))
  (az (iH (i:=2) (bN (av (hJ IG (by decide)) (av (aD (pv 5)) (av (aD (pv 6)) aN))))))
  aY)
  (ao (cA (QW.qt (oJ (bg kQ (ae (pv 7)) (aa fe) (bp _)) (kM (bg (i5 hr.units) (aa (a8 cv (by rfl) Jv bt_len (af (ae (pv 8)) ax))) (aa ah) (bp _)))))
  (az (iH (i:=2) (bN (av (hJ IF (by decide)) (av (aD (pv 5)) (av (aD (pv 6)) aN))))))
  aY)
  (az (fg VE rfl (fZ (aD (pv 8))) (aM (i:=9) cX.nd rfl (lo rfl))
  (ao (aK (i:=10) cX.nd rfl (lo rfl) (Bz (i:=2) Qa hr.m (by rfl) (af (ae (pv 2)) (af (ae (pv 9)) (af (ae (pv 7)) (af (aa (aJ aP (ae (pv 5)) (aa (bN (av (aD (pv 6)) aN))))) ax))))))
  (az (cA (bg kQ (ae (pv 10)) (aa fe) (bp _))
  (az (iH (i:=2) (aD (pv 10))))
  aY))))))))))
  (az (iH (i:=2) fe)))))
abbrev wz:Stmt:=top 14
theorem ly:FnScope ["chart","net","got","looked_at","against"] ["chart","net"] (defScope wz):=fs
theorem BQ(Df:Def K mg "held" wz)(Lc:Ct P w K mg base "first_marking" 1 (spF K b5))(Nf:Ct P w K mg base "look_at" 3 (spJ 2 K (.d) dH))(L9:Ct P w K mg base "states_of" 1 (spF K cC))(Jv:mg "len" = none)(JG:mg "list" = none)(Jq:mg "range" = none):Ct P w K mg base "held" 4 (spF K ml):=
 dD Df ly (fun _ _ _ _ _ _=>ub fun _ _=>rfl) fun f Jz A outer s H E hr=>
  (ao (cA (bg (oQ hr.units) (aa (aQ (ae (pv 0)) (aa ah))) (aa (aQ (ae (pv 1)) (aa ah))) (bp _))
  (az rJ)
  aY)
  (ao (aK (i:=2) ly.nd rfl (lo rfl) (yn ah (bN (av (aZ Lc hr.m (by rfl) (af (ae (pv 1)) ax)) (av (bN aN) aN)))))
  (ao (aK (i:=3) ly.nd rfl (lo rfl) ah)
  (ao (rK 100000 VE (kK (rS hr.units0) (ae (pv 3)) (aa (a8 cv (by rfl) Jv bt_len (af (ae (pv 2)) ax))) (bp _))
  (ao (aK (i:=4) ly.nd rfl (lo rfl) (BF (j0:=2) (i:=2) Nf hr.m (by rfl) (af (ae (pv 0)) (af (ae (pv 1)) (af (ae (pv 2)) (af (aa (aQ (aa (bj (yq rfl) (by rfl) JG ik (af (ae (pv 2)) ax))) (ae (pv 3)))) ax))))))
  (ao (cA (bg kQ (ae (pv 4)) (aa fe) (bp _))
  (az (bc (fJ (pv 4))))
  aY)
  (az (aK (i:=3) ly.nd rfl (lo rfl) (aJ aP (ae (pv 3)) (aa ah)))))))
  (az (bc (bN (av (hJ HA (by decide)) (av (bH [none,some 2] ["state","got"] rfl (bU (dC (by rfl) Jq (aa (aZ L9 hr.m (by rfl) (af (ae (pv 0)) ax))))) (fun _ _ _ _ _=>(aM (i:=0) (show List.Nodup (["state","got"]:List Str) from by decide +kernel) rfl (lo rfl))) (fun _ _ _ _ _=>bZ) (fun _ _ _ _ _=>(aQ (aa (qp (hu_of hr) (ae (pv 1)) (ae (pv 0)))) (aa ah)))) aN)))))))))
abbrev lz:Stmt:=top 16
theorem uf:FnScope ["chart","net"] ["chart","net"] (defScope lz):=fs
theorem ug(Df:Def K mg "has_run" lz)(Qb:Ct P w K mg base "held" 4 (spF K ml)):Ct P w K mg base "has_run" 5 (spF K d8):=
 dD Df uf (fun _ _ _ _ _ _=>ub fun _ _=>rfl) fun f Jz A outer s H E hr=>
  (az (bc (vy (i5 hr.units) (aa (aQ (aa (aZ Qb hr.m (by rfl) (af (ae (pv 0)) (af (ae (pv 1)) ax)))) (aa ah))) (aa (hJ HA (by decide))) (bp _))))
abbrev lA:Stmt:=top 17
theorem fD:FnScope ["chart","net","places","at","fewer"] ["chart","net"] (defScope lA):=fs
theorem uh(Df:Def K mg "thinned" lA)(LC:Ct P w K mg base "has_run" 5 (spF K d8))(Jv:mg "len" = none)(JG:mg "list" = none)(Jq:mg "range" = none):Ct P w K mg base "thinned" 6 (spF K d9):=
 dD Df fD (fun _ _ _ _ _ _=>ub fun _ _=>rfl) fun f Jz A outer s H E hr=>
  (ao (cA (gj (fV (aZ LC hr.m (by rfl) (af (ae (pv 0)) (af (ae (pv 1)) ax)))))
  (az rJ)
  aY)
  (ao (aK (i:=2) fD.nd rfl (lo rfl) (bj jy (by rfl) JG ik (af (aa (aQ (ae (pv 1)) (aa ah))) ax)))
  (ao (fg VE rfl (vV (by rfl) Jq (af (aa (aJ hX (aa (a8 cv (by rfl) Jv bt_len (af (aa (aQ (ae (pv 1)) (aa ah))) ax))) (aa ah))) (af (aa (zL (aa ah))) (af (aa (zL (aa ah))) ax)))) (aM (i:=3) fD.nd rfl (lo rfl))
  (ao (aK (i:=4) fD.nd rfl (lo rfl) (aJ aP (aa (jT (ae (pv 2)) iA (dO (aD (pv 3))))) (aa (jT (ae (pv 2)) (dO (aJ aP (ae (pv 3)) (aa ah))) iA))))
  (az (cA (fV (BN LC hr.m (by rfl) (ae (pv 0)) (aQ (ae (pv 1)) (aa ah)) (pv 4)))
  (az (aK (i:=2) fD.nd rfl (lo rfl) (fJ (pv 4))))
  aY))))
  (az (bc (Bw (aQ (ae (pv 1)) (aa ah)) (fJ (pv 2))))))))
abbrev eZ:Stmt:=top 19
theorem lB:FnScope ["_law_script","_law_k"] ["_law_script","_law_k"] (defScope eZ):=fs
theorem lC(Df:Def K mg "_law_cell_at" eZ)(Jv:mg "len" = none):Ct P w K mg base "_law_cell_at" 1 (spF K aI):=
 dD Df lB (fun _ _ _ _ _ _=>ub fun _ _=>rfl) fun f Jz A outer s H E hr=>
  (ao (cA (kK (rS hr.units0) (ae (pv 1)) (aa (a8 cv (by rfl) Jv bt_len (af (ae (pv 0)) ax))) (bp _))
  (az (bc (aQ (ae (pv 0)) (ae (pv 1)))))
  aY)
  (az (bc ah)))
abbrev gB:Stmt:=top 20
theorem fQ:FnScope ["_law_cell","_law_k","_law_number"] ["_law_cell","_law_k"] (defScope gB):=fs
theorem nj(Df:Def K mg "_law_mixed" gB):Ct P w K mg base "_law_mixed" 1 (spF K aW):=
 dD Df fQ (fun _ _ _ _ _ _=>ub fun _ _=>rfl) fun f Jz A outer s H E hr=>
  (ao (aK (i:=2) fQ.nd rfl (lo rfl) (aJ aP (aa (aJ bQ (ae (pv 0)) (aa ah))) (aa (aJ d6 (aa ah) (aa (aJ aP (ae (pv 1)) (aa ah)))))))
  (ao (aK (i:=2) fQ.nd rfl (lo rfl) (aJ bQ (aa (aJ aP (aa (aJ d6 (ae (pv 2)) (ae (pv 2)))) (aa (aJ d6 (aa ah) (ae (pv 1)))))) (aa ah)))
  (az (bc (aJ bQ (aa (aJ aP (aa (aJ aP (aa (aJ d6 (ae (pv 2)) (ae (pv 2)))) (aa (aJ d6 (aa ah) (ae (pv 1)))))) (aa ah))) (aa ah))))))
abbrev gC:Stmt:=top 21
theorem bu:FnScope ["_law_cell","_law_letters","_law_base","_law_width","_law_spot","_law_names_here","_law_k","_law_moved_on"] ["_law_cell"] (defScope gC):=fs
theorem nq(Df:Def K mg "_law_names" gC)(Js:Ct P w K mg base "_law_mixed" 1 (spF K aW))(Jq:mg "range" = none)(JS:mg "sorted" = none):Ct P w K mg base "_law_names" 2 (spF K cU):=
 dD Df bu (fun _ _ _ _ _ _=>El fun _=>rfl) fun f Jz A outer s H E hr=>
  (ao (aK (i:=1) bu.nd rfl (lo rfl) (hJ IK (by decide)))
  (ao (rV (i:=2) [none,some 0] ["_law_j","_law_cell"] bu.nd rfl (lo rfl) rfl (bU (dC (by rfl) Jq (aa ah))) (fun _ _ _ _ _=>(aM (i:=0) (show List.Nodup (["_law_j","_law_cell"]:List Str) from by decide +kernel) rfl (lo rfl))) (fun _ _ _ _ _=>bZ) (fun _ _ _ _ _=>(aJ bQ (aa (aZ Js hr.m (by rfl) (af (ae (pv 1)) (af (ae (pv 0)) ax)))) (aa ah))))
  (ao (aK (i:=3) bu.nd rfl (lo rfl) (aJ aP (aa ah) (aa (aJ bQ (ae (pv 0)) (aa ah)))))
  (ao (aK (i:=4) bu.nd rfl (lo rfl) (aJ bQ (aa (aJ cB (ae (pv 0)) (aa ah))) (ae (pv 3))))
  (ao (aK (i:=5) bu.nd rfl (lo rfl) (dP aN))
  (ao (fg VE rfl (dC (by rfl) Jq (aa ah)) (aM (i:=6) bu.nd rfl (lo rfl))
  (ao (aK (i:=7) bu.nd rfl (lo rfl) (jT (ae (pv 2)) iA (dO (aD (pv 3)))))
  (ao (Bt (pv 7) (aD (pv 4)) (aJ bQ (aa (aJ aP (aa (aQ (ae (pv 7)) (ae (pv 4)))) (ae (pv 6)))) (aa ah)))
  (ao (cA (bg (i5 hr.units) (aa (aJ bQ (aa (aJ cB (ae (pv 0)) (aa ah))) (aa ah))) (aa ah) (bp _))
  (az (aK (i:=7) bu.nd rfl (lo rfl) (jT (ae (pv 2)) iA (dO (aJ aP (ae (pv 6)) (aa ah))))))
  aY)
  (az (eV (dF (pv 5) (DY PySem.F.slot_str_join PySem.F.type_str_join Bx (aa (hJ IJ (by decide))) (af (aa (bH [none,some 1] ["_law_j","_law_letters"] rfl (eI (iF (pv 7)) (eI (bU (jO (aD (pv 7)))) (bU (jP (aD (pv 7)))))) (fun _ _ _ _ _=>(aM (i:=0) (show List.Nodup (["_law_j","_law_letters"]:List Str) from by decide +kernel) rfl (lo rfl))) (fun _ _ _ _ _=>bZ) (fun _ _ _ _ _=>(aQ (ae (pv 1)) (ae (pv 0)))))) ax)))))))))
  (ao (cA (bg (D8 hr.u65) (aa (hJ IH (by decide))) (ae (pv 5)) (by with_unfolding_all rfl))
  (az (rV (i:=5) [none] ["_law_name"] bu.nd rfl (lo rfl) rfl (eI (iF (pv 5)) (eI (bU (jO (aD (pv 5)))) (bU (jP (aD (pv 5)))))) (fun _ _ _ _ _=>(aM (i:=0) (show List.Nodup (["_law_name"]:List Str) from by decide +kernel) rfl (lo rfl))) (fun _ _ _ _ _=>bZ) (fun _ _ _ _ _=>(aJ aP (aa (hJ II (by decide))) (ae (pv 0))))))
  aY)
  (az (bc (a8 (kY rfl) (by rfl) JS kZ (af (ae (pv 5)) ax)))))))))))
abbrev iK:Stmt:=top 22
theorem dJ:FnScope ["_law_net_here","_law_marking","_law_move","_law_k","_law_after","_law_beads","_law_place_here"] ["_law_net_here","_law_marking","_law_move"] (defScope iK):=fs
theorem px(Df:Def K mg "_law_step" iK)(Jh:mg "tuple" = none)(Kt:mg "zip" = none):Ct P w K mg base "_law_step" 1 (spF K cQ):=
 dD Df dJ (fun _ _ _ _ _ _=>zP fun _ _ _=>rfl) fun f Jz A outer s H E hr=>
  (ao (aK (i:=3) dJ.nd rfl (lo rfl) (vW WL Xk iG (aa (aQ (ae (pv 0)) (aa ah))) (af (ae (pv 2)) ax)))
  (ao (aK (i:=4) dJ.nd rfl (lo rfl) (dP aN))
  (ao (fg VE rfl (ng (by rfl) Kt (af (aa (aD (pv 1))) (af (aa (aQ (ae (pv 0)) (aa ah))) ax))) (hW rfl (a9 (aM (i:=5) dJ.nd rfl (lo rfl)) (a9 (aM (i:=6) dJ.nd rfl (lo rfl)) eW)))
  (ao (cA (kK (rS hr.units0) (ae (pv 5)) (aa (aQ (aa (aQ (ae (pv 6)) (aa ah))) (ae (pv 3)))) (bp _))
  (az (bc fe))
  aY)
  (az (eV (dF (pv 4) (aJ aP (aa (aJ hX (ae (pv 5)) (aa (aQ (aa (aQ (ae (pv 6)) (aa ah))) (ae (pv 3)))))) (aa (aQ (aa (aQ (ae (pv 6)) (aa ah))) (ae (pv 3))))))))))
  (az (bc (bj cH (by rfl) Jh bP (af (ae (pv 4)) ax)))))))
abbrev jE:Stmt:=top 23
theorem cS:FnScope ["_law_net_here","_law_most","_law_markings","_law_arcs","_law_done","_law_move","_law_after"] ["_law_net_here","_law_most"] (defScope jE):=fs
theorem qw(Df:Def K mg "_law_run" jE)(Ma:Ct P w K mg base "_law_step" 1 (spF K cQ))(Jv:mg "len" = none)(JS:mg "sorted" = none)(Jh:mg "tuple" = none):Ct P w K mg base "_law_run" 2 (spF K bB):=
 dD Df cS (fun _ _ _ _ _ _=>ub fun _ _=>rfl) fun f Jz A outer s H E hr=>
  (ao (aK (i:=2) cS.nd rfl (lo rfl) (dP (av (bj cH (by rfl) Jh bP (af (aa (bH [none,none,none] ["_law_beads","_law_takes","_law_gives"] rfl (bU (fZ (aQ (ae (pv 0)) (aa ah)))) (fun _ _ _ _ _=>(have h:=(show List.Nodup (["_law_beads","_law_takes","_law_gives"]:List Str) from by decide +kernel);(hW rfl (a9 (aM (i:=0) h rfl (lo rfl)) (a9 (aM (i:=1) h rfl (lo rfl)) (a9 (aM (i:=2) h rfl (lo rfl)) eW)))))) (fun _ _ _ _ _=>bZ) (fun _ _ _ _ _=>(aD (pv 0))))) ax)) aN)))
  (ao (aK (i:=3) cS.nd rfl (lo rfl) (dP aN))
  (ao (aK (i:=4) cS.nd rfl (lo rfl) ah)
  (ao (rK 100000 VE (kK (rS hr.units0) (ae (pv 4)) (aa (a8 cv (by rfl) Jv bt_len (af (ae (pv 2)) ax))) (bp _))
  (ao (fg VE rfl (fZ (aQ (ae (pv 0)) (aa ah))) (aM (i:=5) cS.nd rfl (lo rfl))
  (ao (aK (i:=6) cS.nd rfl (lo rfl) (aZ Ma hr.m (by rfl) (af (ae (pv 0)) (af (aa (aQ (ae (pv 2)) (ae (pv 4)))) (af (ae (pv 5)) ax)))))
  (az (cA (bg kQ (ae (pv 6)) (aa fe) (bp _))
  (ao (cA (bg (vY hr.u65) (ae (pv 6)) (ae (pv 2)) (by with_unfolding_all rfl))
  (ao (cA (bg (i5 hr.units) (aa (a8 cv (by rfl) Jv bt_len (af (ae (pv 2)) ax))) (ae (pv 1)) (bp _))
  (az (bc fe))
  aY)
  (az (eV (dF (pv 2) (aD (pv 6))))))
  aY)
  (az (eV (dF (pv 3) (bN (av (aD (pv 4)) (av (aD (pv 5)) (av (Ee Yo PySem.F.type_list_index (qr hr.u65) (ae (pv 2)) (af (ae (pv 6)) ax)) aN))))))))
  aY))))
  (az (aK (i:=4) cS.nd rfl (lo rfl) (aJ aP (ae (pv 4)) (aa ah))))))
  (az (bc (bN (av (a8 (kY rfl) (by rfl) JS kZ (af (ae (pv 3)) ax)) (av (aD (pv 2)) aN)))))))))
abbrev iL:Stmt:=top 24
theorem eR:FnScope ["_law_script","_law_first","_law_k","_law_number","_law_cell"] ["_law_script","_law_first","_law_k"] (defScope iL):=fs
theorem pA(Df:Def K mg "_law_fold" iL)(Js:Ct P w K mg base "_law_mixed" 1 (spF K aW)):Ct P w K mg base "_law_fold" 2 (spF K dm):=
 dD Df eR (fun _ _ _ _ _ _=>zP fun _ _ _=>rfl) fun f Jz A outer s H E hr=>
  (ao (aK (i:=3) eR.nd rfl (lo rfl) (aJ aP (aa ah) (ae (pv 2))))
  (ao (fg VE rfl (fZ (Eh (ae (pv 0)) (dO (aJ aP (ae (pv 1)) (ae (pv 2)))) (dO (aJ aP (ae (pv 1)) (aa ah))) (dO ah))) (aM (i:=4) eR.nd rfl (lo rfl))
  (az (aK (i:=3) eR.nd rfl (lo rfl) (aZ Js hr.m (by rfl) (af (aa (aJ aP (ae (pv 4)) (ae (pv 3)))) (af (ae (pv 2)) ax))))))
  (az (bc (fJ (pv 3))))))
abbrev gD:Stmt:=top 25
theorem cb:FnScope ["_law_number","_law_count","_law_takes","_law_gives","_law_j","_law_mixed_here","_law_step_here","_law_loop"] ["_law_number","_law_count"] (defScope gD):=fs
theorem nr(Df:Def K mg "_law_place" gD)(Js:Ct P w K mg base "_law_mixed" 1 (spF K aW))(K2:mg "max" = none)(Jq:mg "range" = none):Ct P w K mg base "_law_place" 2 (spF K cV):=
 dD Df cb (fun _ _ _ _ _ _=>ub fun _ _=>rfl) fun f Jz A outer s H E hr=>
  (ao (aK (i:=2) cb.nd rfl (lo rfl) (dP aN))
  (ao (aK (i:=3) cb.nd rfl (lo rfl) (dP aN))
  (ao (fg VE rfl (dC (by rfl) Jq (ae (pv 1))) (aM (i:=4) cb.nd rfl (lo rfl))
  (ao (aK (i:=5) cb.nd rfl (lo rfl) (aZ Js hr.m (by rfl) (af (ae (pv 0)) (af (ae (pv 4)) ax))))
  (ao (aK (i:=6) cb.nd rfl (lo rfl) (aJ hX (aa (aJ bQ (ae (pv 5)) (aa ah))) (aa ah)))
  (ao (aK (i:=7) cb.nd rfl (lo rfl) (aJ cB (aa (aJ bQ (aa (aJ cB (ae (pv 5)) (aa ah))) (aa ah))) (aa ah)))
  (ao (eV (dF (pv 2) (aJ aP (aa (a8 (vJ rfl) (by rfl) K2 vS (af (aa ah) (af (aa (aJ hX (aa ah) (ae (pv 6)))) ax)))) (ae (pv 7)))))
  (az (eV (dF (pv 3) (aJ aP (aa (a8 (vJ rfl) (by rfl) K2 vS (af (aa ah) (af (ae (pv 6)) ax)))) (ae (pv 7)))))))))))
  (az (bc (BC (aJ bQ (aa (aJ cB (ae (pv 0)) (aa ah))) (aa ah)) (fJ (pv 2)) (fJ (pv 3))))))))
abbrev fR:Stmt:=top 26
theorem cq:FnScope ["_law_place_here","_law_cell","_law_factor","_law_beads","_law_takes","_law_gives"] ["_law_place_here","_law_cell"] (defScope fR):=fs
theorem lR(Df:Def K mg "_law_scaled" fR)(Jh:mg "tuple" = none):Ct P w K mg base "_law_scaled" 1 (spF K b9):=
 dD Df cq (fun _ _ _ _ _ _=>ub fun _ _=>rfl) fun f Jz A outer s H E hr=>
  (ao (aK (i:=2) cq.nd rfl (lo rfl) (aJ aP (aa ah) (aa (aJ bQ (ae (pv 1)) (aa (aJ zw (aa ah) (aa ah)))))))
  (ao (zI (aD (pv 0)) (hW rfl (a9 (aM (i:=3) cq.nd rfl (lo rfl)) (a9 (aM (i:=4) cq.nd rfl (lo rfl)) (a9 (aM (i:=5) cq.nd rfl (lo rfl)) eW)))))
  (ao (aK (i:=4) cq.nd rfl (lo rfl) (bj cH (by rfl) Jh bP (af (aa (bH [none,some 2] ["_law_take","_law_factor"] rfl (eI (iF (pv 4)) (eI (bU (jO (aD (pv 4)))) (bU (jP (aD (pv 4)))))) (fun _ _ _ _ _=>(aM (i:=0) (show List.Nodup (["_law_take","_law_factor"]:List Str) from by decide +kernel) rfl (lo rfl))) (fun _ _ _ _ _=>bZ) (fun _ _ _ _ _=>(aJ d6 (ae (pv 1)) (ae (pv 0)))))) ax)))
  (az (bc (bN (av (aJ aP (aa (aJ d6 (ae (pv 2)) (ae (pv 3)))) (aa (aJ bQ (aa (aJ cB (ae (pv 1)) (aa ah))) (ae (pv 2))))) (av (aD (pv 4)) (av (bj cH (by rfl) Jh bP (af (aa (bH [none,some 2] ["_law_give","_law_factor"] rfl (eI (iF (pv 5)) (eI (bU (jO (aD (pv 5)))) (bU (jP (aD (pv 5)))))) (fun _ _ _ _ _=>(aM (i:=0) (show List.Nodup (["_law_give","_law_factor"]:List Str) from by decide +kernel) rfl (lo rfl))) (fun _ _ _ _ _=>bZ) (fun _ _ _ _ _=>(aJ d6 (ae (pv 1)) (ae (pv 0)))))) ax)) aN)))))))))
abbrev fS:Stmt:=top 27
theorem cu:FnScope ["_law_script","_law_first","_law_count","_law_places_here","_law_k","_law_number","_law_place_here","_law_mate"] ["_law_script","_law_first","_law_count"] (defScope fS):=fs
theorem lS(Df:Def K mg "_law_places" fS)(Jk:Ct P w K mg base "_law_cell_at" 1 (spF K aI))(Mb:Ct P w K mg base "_law_fold" 2 (spF K dm))(LP:Ct P w K mg base "_law_place" 2 (spF K cV))(Ku:Ct P w K mg base "_law_scaled" 1 (spF K b9))(Jq:mg "range" = none):Ct P w K mg base "_law_places" 3 (spF K cJ):=
 dD Df cu (fun _ _ _ _ _ _=>zP fun _ _ _=>rfl) fun f Jz A outer s H E hr=>
  (ao (aK (i:=3) cu.nd rfl (lo rfl) (dP aN))
  (ao (fg VE rfl (dC (by rfl) Jq (aa (aJ aP (aa ah) (aa (aJ bQ (aa (aJ cB (aa (aZ Jk hr.m (by rfl) (af (ae (pv 0)) (af (aa ah) ax)))) (aa ah))) (aa ah)))))) (aM (i:=4) cu.nd rfl (lo rfl))
  (ao (aK (i:=5) cu.nd rfl (lo rfl) (aZ Mb hr.m (by rfl) (af (ae (pv 0)) (af (ae (pv 1)) (af (ae (pv 4)) ax)))))
  (ao (aK (i:=6) cu.nd rfl (lo rfl) (aZ LP hr.m (by rfl) (af (ae (pv 5)) (af (ae (pv 2)) ax))))
  (ao (eV (dF (pv 3) (aZ Ku hr.m (by rfl) (af (ae (pv 6)) (af (aa (aZ Jk hr.m (by rfl) (af (ae (pv 0)) (af (aa (aJ aP (ae (pv 1)) (ae (pv 4)))) ax)))) ax)))))
  (az (cA (kK Be (aa (aJ bQ (aa (aJ cB (ae (pv 5)) (aa ah))) (aa ah))) (aa ah) (bp _))
  (ao (aK (i:=7) cu.nd rfl (lo rfl) (bN (av (aJ bQ (aa (aJ cB (ae (pv 5)) (aa ah))) (aa ah)) (av (aQ (aa (aD (pv 6))) (aa ah)) (av (aQ (aa (aD (pv 6))) (aa ah)) aN)))))
  (az (eV (dF (pv 3) (aZ Ku hr.m (by rfl) (af (ae (pv 7)) (af (aa (aZ Jk hr.m (by rfl) (af (ae (pv 0)) (af (aa (aJ aP (aa (aJ aP (ae (pv 1)) (aa ah))) (ae (pv 4)))) ax)))) ax)))))))
  aY))))))
  (az (bc (fJ (pv 3))))))
abbrev gE:Stmt:=top 28
theorem dg:FnScope ["_law_script","_law_names_here","_law_cell","_law_count","_law_start"] ["_law_script"] (defScope gE):=fs
theorem nu(Df:Def K mg "_law_moves" gE)(Jk:Ct P w K mg base "_law_cell_at" 1 (spF K aI))(LQ:Ct P w K mg base "_law_names" 2 (spF K cU))(Jh:mg "tuple" = none):Ct P w K mg base "_law_moves" 3 (spF K cW):=
 dD Df dg (fun _ _ _ _ _ _=>El fun _=>rfl) fun f Jz A outer s H E hr=>
  (ao (aK (i:=1) dg.nd rfl (lo rfl) (aZ LQ hr.m (by rfl) (af (aa (aZ Jk hr.m (by rfl) (af (ae (pv 0)) (af (aa ah) ax)))) ax)))
  (ao (aK (i:=2) dg.nd rfl (lo rfl) (aZ Jk hr.m (by rfl) (af (ae (pv 0)) (af (aa ah) ax))))
  (ao (aK (i:=3) dg.nd rfl (lo rfl) (aJ aP (aa ah) (aa (aJ bQ (ae (pv 2)) (aa ah)))))
  (ao (aK (i:=4) dg.nd rfl (lo rfl) (aJ bQ (aa (aJ cB (ae (pv 2)) (aa ah))) (aa (aJ hX (aa ah) (ae (pv 3))))))
  (az (bc (bj cH (by rfl) Jh bP (af (aa (jT (ae (pv 1)) (dO (aD (pv 4))) (dO (aJ aP (ae (pv 4)) (ae (pv 3)))))) ax))))))))
abbrev jF:Stmt:=top 29
theorem du:FnScope ["_law_script","_law_first","_law_moves_here","_law_count","_law_places_here","_law_ones","_law_noughts"] ["_law_script","_law_first"] (defScope jF):=fs
theorem qx(Df:Def K mg "_law_net" jF)(LR:Ct P w K mg base "_law_moves" 3 (spF K cW))(Lw:Ct P w K mg base "_law_places" 3 (spF K cJ))(JP:Ct P w K mg base "_law_run" 2 (spF K bB))(Jv:mg "len" = none)(Jh:mg "tuple" = none):Ct P w K mg base "_law_net" 4 (spF K dn):=
 dD Df du (fun _ _ _ _ _ _=>ub fun _ _=>rfl) fun f Jz A outer s H E hr=>
  (ao (aK (i:=2) du.nd rfl (lo rfl) (aZ LR hr.m (by rfl) (af (ae (pv 0)) ax)))
  (ao (aK (i:=3) du.nd rfl (lo rfl) (a8 cv (by rfl) Jv bt_len (af (ae (pv 2)) ax)))
  (ao (aK (i:=4) du.nd rfl (lo rfl) (aZ Lw hr.m (by rfl) (af (ae (pv 0)) (af (ae (pv 1)) (af (ae (pv 3)) ax)))))
  (ao (cA (bg kQ (aa (aZ JP hr.m (by rfl) (af (aa (bN (av (aD (pv 2)) (av (aD (pv 4)) aN)))) (af (aa ah) ax)))) (aa fe) (bp _))
  (az (bc (bN (av (aD (pv 2)) (av (aD (pv 4)) aN)))))
  aY)
  (ao (aK (i:=5) du.nd rfl (lo rfl) (bj cH (by rfl) Jh bP (af (aa (bH [none] ["_law_move"] rfl (eI (iF (pv 2)) (eI (bU (jO (aD (pv 2)))) (bU (jP (aD (pv 2)))))) (fun _ _ _ _ _=>(aM (i:=0) (show List.Nodup (["_law_move"]:List Str) from by decide +kernel) rfl (lo rfl))) (fun _ _ _ _ _=>bZ) (fun _ _ _ _ _=>ah))) ax)))
  (ao (aK (i:=6) du.nd rfl (lo rfl) (bj cH (by rfl) Jh bP (af (aa (bH [none] ["_law_move"] rfl (eI (iF (pv 2)) (eI (bU (jO (aD (pv 2)))) (bU (jP (aD (pv 2)))))) (fun _ _ _ _ _=>(aM (i:=0) (show List.Nodup (["_law_move"]:List Str) from by decide +kernel) rfl (lo rfl))) (fun _ _ _ _ _=>bZ) (fun _ _ _ _ _=>ah))) ax)))
  (ao (cA (bg kQ (aa (aZ JP hr.m (by rfl) (af (aa (bN (av (aD (pv 2)) (av (aJ aP (ae (pv 4)) (aa (dP (av (bN (av ah (av (aD (pv 5)) (av (aD (pv 6)) aN)))) aN)))) aN)))) (af (aa ah) ax)))) (aa fe) (bp _))
  (az (bc (bN (av (aD (pv 2)) (av (aJ aP (ae (pv 4)) (aa (dP (av (bN (av ah (av (aD (pv 5)) (av (aD (pv 6)) aN)))) aN)))) aN)))))
  aY)
  (az (bc (bN (av (aD (pv 2)) (av (aJ aP (ae (pv 4)) (aa (dP (av (bN (av ah (av (aD (pv 5)) (av (aD (pv 6)) aN)))) aN)))) aN))))))))))))
abbrev jG:Stmt:=top 30
theorem iM:FnScope ["_law_one","_law_other","_law_takes","_law_gives"] ["_law_one","_law_other"] (defScope jG):=fs
theorem qy(Df:Def K mg "_law_sum" jG)(Jv:mg "len" = none)(Jq:mg "range" = none)(Jh:mg "tuple" = none):Ct P w K mg base "_law_sum" 1 (spF K dq):=
 dD Df iM (fun _ _ _ _ _ _=>ub fun _ _=>rfl) fun f Jz A outer s H E hr=>
  (ao (aK (i:=2) iM.nd rfl (lo rfl) (bj cH (by rfl) Jh bP (af (aa (bH [none,some 0,some 1] ["_law_k","_law_one","_law_other"] rfl (bU (dC (by rfl) Jq (aa (a8 cv (by rfl) Jv bt_len (af (aa (aQ (ae (pv 0)) (aa ah))) ax))))) (fun _ _ _ _ _=>(aM (i:=0) (show List.Nodup (["_law_k","_law_one","_law_other"]:List Str) from by decide +kernel) rfl (lo rfl))) (fun _ _ _ _ _=>bZ) (fun _ _ _ _ _=>(aJ aP (aa (aQ (aa (aQ (ae (pv 1)) (aa ah))) (ae (pv 0)))) (aa (aQ (aa (aQ (ae (pv 2)) (aa ah))) (ae (pv 0)))))))) ax)))
  (ao (aK (i:=3) iM.nd rfl (lo rfl) (bj cH (by rfl) Jh bP (af (aa (bH [none,some 0,some 1] ["_law_k","_law_one","_law_other"] rfl (bU (dC (by rfl) Jq (aa (a8 cv (by rfl) Jv bt_len (af (aa (aQ (ae (pv 0)) (aa ah))) ax))))) (fun _ _ _ _ _=>(aM (i:=0) (show List.Nodup (["_law_k","_law_one","_law_other"]:List Str) from by decide +kernel) rfl (lo rfl))) (fun _ _ _ _ _=>bZ) (fun _ _ _ _ _=>(aJ aP (aa (aQ (aa (aQ (ae (pv 1)) (aa ah))) (ae (pv 0)))) (aa (aQ (aa (aQ (ae (pv 2)) (aa ah))) (ae (pv 0)))))))) ax)))
  (az (bc (bN (av (aJ aP (aa (aQ (ae (pv 0)) (aa ah))) (aa (aQ (ae (pv 1)) (aa ah)))) (av (aD (pv 2)) (av (aD (pv 3)) aN))))))))
abbrev dh:Stmt:=top 31
theorem aS:FnScope ["_law_script","_law_net_here","_law_first","_law_places_here","_law_k","_law_number","_law_one","_law_other"] ["_law_script","_law_net_here","_law_first"] (defScope dh):=fs
theorem iN(Df:Def K mg "_law_more_places" dh)(Jk:Ct P w K mg base "_law_cell_at" 1 (spF K aI))(Js:Ct P w K mg base "_law_mixed" 1 (spF K aW))(Mx:Ct P w K mg base "_law_sum" 1 (spF K dq))(Jv:mg "len" = none)(JG:mg "list" = none)(Jq:mg "range" = none)(Jh:mg "tuple" = none):Ct P w K mg base "_law_more_places" 2 (spF K bC):=
 dD Df aS (fun _ _ _ _ _ _=>zP fun _ _ _=>rfl) fun f Jz A outer s H E hr=>
  (ao (aK (i:=3) aS.nd rfl (lo rfl) (bj jy (by rfl) JG ik (af (aa (aQ (ae (pv 1)) (aa ah))) ax)))
  (ao (fg VE rfl (vE (by rfl) Jq (af (ae (pv 2)) (af (aa (aJ aP (ae (pv 2)) (aa ah))) ax))) (aM (i:=4) aS.nd rfl (lo rfl))
  (ao (aK (i:=5) aS.nd rfl (lo rfl) (aZ Js hr.m (by rfl) (af (aa (aZ Jk hr.m (by rfl) (af (ae (pv 0)) (af (ae (pv 4)) ax)))) (af (aa ah) ax))))
  (ao (aK (i:=6) aS.nd rfl (lo rfl) (aQ (ae (pv 3)) (aa (aJ bQ (ae (pv 5)) (aa (a8 cv (by rfl) Jv bt_len (af (ae (pv 3)) ax)))))))
  (ao (aK (i:=7) aS.nd rfl (lo rfl) (aQ (ae (pv 3)) (aa (aJ bQ (aa (aJ cB (ae (pv 5)) (aa ah))) (aa (a8 cv (by rfl) Jv bt_len (af (ae (pv 3)) ax)))))))
  (ao (cA (bg (i5 hr.units) (aa (aJ bQ (aa (aJ cB (ae (pv 5)) (aa ah))) (aa ah))) (aa ah) (bp _))
  (az (aK (i:=6) aS.nd rfl (lo rfl) (aZ Mx hr.m (by rfl) (af (ae (pv 6)) (af (ae (pv 7)) ax)))))
  aY)
  (ao (cA (bg (i5 hr.units) (aa (aJ bQ (aa (aJ cB (ae (pv 5)) (aa ah))) (aa ah))) (aa ah) (bp _))
  (az (aK (i:=6) aS.nd rfl (lo rfl) (bN (av (aJ aP (aa (aQ (ae (pv 6)) (aa ah))) (aa (aJ bQ (aa (aZ Jk hr.m (by rfl) (af (ae (pv 0)) (af (ae (pv 4)) ax)))) (aa (aJ zw (aa ah) (aa ah)))))) (av (aQ (ae (pv 6)) (aa ah)) (av (aQ (ae (pv 6)) (aa ah)) aN))))))
  aY)
  (ao (cA (bg (i5 hr.units) (aa (aJ bQ (aa (aJ cB (ae (pv 5)) (aa ah))) (aa ah))) (aa ah) (bp _))
  (az (aK (i:=6) aS.nd rfl (lo rfl) (bN (av (aJ d6 (aa (aQ (ae (pv 6)) (aa ah))) (aa ah)) (av (bj cH (by rfl) Jh bP (af (aa (bH [none] ["_law_take"] rfl (bU (fZ (aQ (ae (pv 6)) (aa ah)))) (fun _ _ _ _ _=>(aM (i:=0) (show List.Nodup (["_law_take"]:List Str) from by decide +kernel) rfl (lo rfl))) (fun _ _ _ _ _=>bZ) (fun _ _ _ _ _=>(aJ d6 (ae (pv 0)) (aa ah))))) ax)) (av (bj cH (by rfl) Jh bP (af (aa (bH [none] ["_law_give"] rfl (bU (fZ (aQ (ae (pv 6)) (aa ah)))) (fun _ _ _ _ _=>(aM (i:=0) (show List.Nodup (["_law_give"]:List Str) from by decide +kernel) rfl (lo rfl))) (fun _ _ _ _ _=>bZ) (fun _ _ _ _ _=>(aJ d6 (ae (pv 0)) (aa ah))))) ax)) aN))))))
  aY)
  (az (cA (kK Be (aa (aJ bQ (aa (aJ cB (ae (pv 5)) (aa ah))) (aa ah))) (aa ah) (bp _))
  (az (eV (wq (pv 3) (aJ bQ (aa (aJ cB (ae (pv 5)) (aa ah))) (aa (aJ aP (aa (a8 cv (by rfl) Jv bt_len (af (ae (pv 3)) ax))) (aa ah)))) (aD (pv 6)))))
  aY)))))))))
  (az (bc (bN (av (aQ (ae (pv 1)) (aa ah)) (av (aD (pv 3)) aN)))))))
abbrev iO:Stmt:=top 32
theorem eS:FnScope ["_law_count","_law_number","_law_turn","_law_ends_here"] ["_law_count","_law_number"] (defScope iO):=fs
theorem pB(Df:Def K mg "_law_ends" iO)(Jq:mg "range" = none):Ct P w K mg base "_law_ends" 1 (spF K dr):=
 dD Df eS (fun _ _ _ _ _ _=>ub fun _ _=>rfl) fun f Jz A outer s H E hr=>
  (ao (cA (bg (i5 hr.units) (ae (pv 0)) (aa ah) (bp _))
  (az (bc (dP (av ah aN))))
  aY)
  (ao (aK (i:=2) eS.nd rfl (lo rfl) (aJ bQ (ae (pv 1)) (aa (aJ hX (ae (pv 0)) (aa ah)))))
  (ao (aK (i:=3) eS.nd rfl (lo rfl) (aJ aP (aa (dP (av ah aN))) (aa (bH [none,some 2,some 0] ["_law_k","_law_turn","_law_count"] rfl (bU (dC (by rfl) Jq (aa (aJ hX (ae (pv 0)) (aa ah))))) (fun _ _ _ _ _=>(aM (i:=0) (show List.Nodup (["_law_k","_law_turn","_law_count"]:List Str) from by decide +kernel) rfl (lo rfl))) (fun _ _ _ _ _=>bZ) (fun _ _ _ _ _=>(aJ aP (aa ah) (aa (aJ bQ (aa (aJ aP (ae (pv 0)) (ae (pv 1)))) (aa (aJ hX (ae (pv 2)) (aa ah)))))))))))
  (ao (cA (bg (i5 hr.units) (aa (aJ bQ (aa (aJ cB (ae (pv 1)) (aa ah))) (aa ah))) (aa ah) (bp _))
  (az (aK (i:=3) eS.nd rfl (lo rfl) (aJ aP (aa (dP (av ah aN))) (aa (bH [none,some 0] ["_law_end","_law_count"] rfl (bU (fZ (jT (ae (pv 3)) (dO ah) iA))) (fun _ _ _ _ _=>(aM (i:=0) (show List.Nodup (["_law_end","_law_count"]:List Str) from by decide +kernel) rfl (lo rfl))) (fun _ _ _ _ _=>bZ) (fun _ _ _ _ _=>(aJ hX (ae (pv 1)) (ae (pv 0)))))))))
  aY)
  (az (bc (fJ (pv 3))))))))
abbrev gF:Stmt:=top 33
theorem nv:FnScope ["_law_found"] ["_law_found"] (defScope gF):=fs
theorem ny(Df:Def K mg "_law_whole" gF)(LS:mg "bool" = none)(MQ:mg "int" = none)(Jn:mg "isinstance" = none):Ct P w K mg base "_law_whole" 1 (spF K m__law_whole):=
 dD Df nv (fun _ _ _ _ _ _=>El fun _=>rfl) fun f Jz A outer s H E hr=>
  (az (bc (zu (qg (T:="int") (by decide) (ae (pv 0)) (by rfl) Jn (by rfl) MQ Dw) (zt (DK (qg (T:="bool") (by decide) (ae (pv 0)) (by rfl) Jn (by rfl) LS Ay))))))
abbrev eB:Stmt:=top 34
theorem f6:FnScope ["_law_found","_law_due_here","_law_number"] ["_law_found","_law_due_here"] (defScope eB):=fs
theorem kn(Df:Def K mg "_law_is_place" eB)(KL:Ct P w K mg base "_law_whole" 1 (spF K m__law_whole))(Jn:mg "isinstance" = none)(Jh:mg "tuple" = none):Ct P w K mg base "_law_is_place" 2 (spF K b6):=
 dD Df f6 (fun _ _ _ _ _ _=>ub fun _ _=>rfl) fun f Jz A outer s H E hr=>
  (ao (cA (QW.qt (p7 (gj (fV (qg (T:="tuple") (by decide) (ae (pv 0)) (by rfl) Jn (by rfl) Jh bP))) (p7 (bg (oQ hr.units) (ae (pv 0)) (ae (pv 1)) (bp _)) (rH (gj (fV (aZ KL hr.m (by rfl) (af (aa (aQ (ae (pv 0)) (aa ah))) ax))))))))
  (az (bc mT))
  aY)
  (ao (cA (QW.qt (p7 (gj (fV (qg (T:="tuple") (by decide) (aa (aQ (ae (pv 0)) (aa ah))) (by rfl) Jn (by rfl) Jh bP))) (rH (gj (fV (qg (T:="tuple") (by decide) (aa (aQ (ae (pv 0)) (aa ah))) (by rfl) Jn (by rfl) Jh bP))))))
  (az (bc mT))
  aY)
  (ao (fg VE rfl (fZ (aJ aP (aa (aQ (ae (pv 0)) (aa ah))) (aa (aQ (ae (pv 0)) (aa ah))))) (aM (i:=2) f6.nd rfl (lo rfl))
  (az (cA (gj (fV (aZ KL hr.m (by rfl) (af (ae (pv 2)) ax))))
  (az (bc mT))
  aY)))
  (az (bc mT)))))
abbrev jH:Stmt:=top 35
theorem dv:FnScope ["_law_net_here","_law_arcs","_law_places_here","_law_k","_law_fewer","_law_there"] ["_law_net_here","_law_arcs"] (defScope jH):=fs
theorem qz(Df:Def K mg "_law_due" jH)(JP:Ct P w K mg base "_law_run" 2 (spF K bB))(Jv:mg "len" = none)(JG:mg "list" = none)(Jq:mg "range" = none)(J8:mg "reversed" = none):Ct P w K mg base "_law_due" 3 (spF K dt):=
 dD Df dv (fun _ _ _ _ _ _=>ub fun _ _=>rfl) fun f Jz A outer s H E hr=>
  (ao (aK (i:=2) dv.nd rfl (lo rfl) (bj jy (by rfl) JG ik (af (aa (aQ (ae (pv 0)) (aa ah))) ax)))
  (ao (fg VE rfl (BE (by rfl) J8 (by rfl) Jq (af (aa (a8 cv (by rfl) Jv bt_len (af (aa (aQ (ae (pv 0)) (aa ah))) ax))) ax)) (aM (i:=3) dv.nd rfl (lo rfl))
  (ao (aK (i:=4) dv.nd rfl (lo rfl) (aJ aP (aa (jT (ae (pv 2)) iA (dO (aD (pv 3))))) (aa (jT (ae (pv 2)) (dO (aJ aP (ae (pv 3)) (aa ah))) iA))))
  (ao (aK (i:=5) dv.nd rfl (lo rfl) (aZ JP hr.m (by rfl) (af (aa (bN (av (aQ (ae (pv 0)) (aa ah)) (av (aD (pv 4)) aN)))) (af (aa ah) ax))))
  (az (cA (QW.qt (oJ (bg kQ (ae (pv 5)) (aa fe) (bp _)) (kM (bg (i5 hr.units) (aa (aQ (ae (pv 5)) (aa ah))) (ae (pv 1)) (bp _)))))
  (az (aK (i:=2) dv.nd rfl (lo rfl) (aD (pv 4))))
  aY)))))
  (az (bc (fJ (pv 2))))))
abbrev iP:Stmt:=top 36
theorem gG:FnScope ["_law_found","_law_moves_here","_law_due_here","_law_one","_law_other"] ["_law_found","_law_moves_here","_law_due_here"] (defScope iP):=fs
theorem pC(Df:Def K mg "_law_told" iP)(Ld:Ct P w K mg base "_law_is_place" 2 (spF K b6))(Jn:mg "isinstance" = none)(Jv:mg "len" = none)(JG:mg "list" = none)(Jh:mg "tuple" = none)(Kt:mg "zip" = none):Ct P w K mg base "_law_told" 3 (spF K cR):=
 dD Df gG (fun _ _ _ _ _ _=>zP fun _ _ _=>rfl) fun f Jz A outer s H E hr=>
  (ao (cA (QW.qt (p7 (gj (fV (qg (T:="tuple") (by decide) (ae (pv 0)) (by rfl) Jn (by rfl) Jh bP))) (p7 (bg (oQ hr.units) (aa (a8 cv (by rfl) Jv bt_len (af (ae (pv 0)) ax))) (aa ah) (bp _)) (p7 (bg (oQ hr.units) (aa (aQ (ae (pv 0)) (aa ah))) (ae (pv 1)) (bp _)) (rH (gj (fV (qg (T:="list") (by decide) (aa (aQ (ae (pv 0)) (aa ah))) (by rfl) Jn (by rfl) JG ik))))))))
  (az (bc mT))
  aY)
  (ao (cA (bg (oQ hr.units) (aa (a8 cv (by rfl) Jv bt_len (af (aa (aQ (ae (pv 0)) (aa ah))) ax))) (aa (a8 cv (by rfl) Jv bt_len (af (ae (pv 2)) ax))) (bp _))
  (az (bc mT))
  aY)
  (ao (fg VE rfl (ng (by rfl) Kt (af (aa (aQ (ae (pv 0)) (aa ah))) (af (aa (aD (pv 2))) ax))) (hW rfl (a9 (aM (i:=3) gG.nd rfl (lo rfl)) (a9 (aM (i:=4) gG.nd rfl (lo rfl)) eW)))
  (az (cA (gj (fV (aZ Ld hr.m (by rfl) (af (ae (pv 3)) (af (ae (pv 4)) ax)))))
  (az (bc mT))
  aY)))
  (az (bc mT)))))
abbrev nE:Stmt:=top 37
theorem ji:FnScope ["_law_script","_law_net_here","_law_arcs","_law_markings","_law_ends_here","_law_chart","_law_due_here","_law_handed","_law_found"] ["_law_script"] (defScope nE):=fs
theorem Em{f:Yx}{fd:FuncData}(F:Fun K "law" "law" nE f fd)(Jk:Ct P w K mg base "_law_cell_at" 1 (spF K aI))(My:Ct P w K mg base "_law_due" 3 (spF K dt))(Mc:Ct P w K mg base "_law_ends" 1 (spF K dr))(Js:Ct P w K mg base "_law_mixed" 1 (spF K aW))(KD:Ct P w K mg base "_law_more_places" 2 (spF K bC))(Mz:Ct P w K mg base "_law_net" 4 (spF K dn))(JP:Ct P w K mg base "_law_run" 2 (spF K bB))(K3:Ct P w K mg base "_law_told" 3 (spF K cR))(LD:Ct P w K mg base "thinned" 6 (spF K d9))(Jv:mg "len" = none)(JG:mg "list" = none)(JS:mg "sorted" = none):FnOk P w K mg base M3 7 f fd ["_law_script"] (spF K BO):=
 fnok_of F ji fun Jz A outer s H E hr=>
  (ao (aK (i:=1) ji.nd rfl (lo rfl) (aZ KD hr.m (by rfl) (af (ae (pv 0)) (af (aa (aZ Mz hr.m (by rfl) (af (ae (pv 0)) (af (aa ah) ax)))) (af (aa ah) ax)))))
  (ao (zI (aZ JP hr.m (by rfl) (af (ae (pv 1)) (af (aa ah) ax))) (hW rfl (a9 (aM (i:=2) ji.nd rfl (lo rfl)) (a9 (aM (i:=3) ji.nd rfl (lo rfl)) eW))))
  (ao (aK (i:=4) ji.nd rfl (lo rfl) (aZ Mc hr.m (by rfl) (af (aa (a8 cv (by rfl) Jv bt_len (af (ae (pv 3)) ax))) (af (aa (aZ Js hr.m (by rfl) (af (aa (aZ Jk hr.m (by rfl) (af (ae (pv 0)) (af (aa ah) ax)))) (af (aa ah) ax)))) ax))))
  (ao (aK (i:=5) ji.nd rfl (lo rfl) (bN (av (aQ (ae (pv 1)) (aa ah)) (av (a8 (kY rfl) (by rfl) JS kZ (af (aa (bH [none,none,none,some 4] ["_law_one","_law_move","_law_other","_law_ends_here"] rfl (eI (iF (pv 2)) (eI (bU (jO (aD (pv 2)))) (bU (jP (aD (pv 2)))))) (fun _ _ _ _ _=>(have h:=(show List.Nodup (["_law_one","_law_move","_law_other","_law_ends_here"]:List Str) from by decide +kernel);(hW rfl (a9 (aM (i:=0) h rfl (lo rfl)) (a9 (aM (i:=1) h rfl (lo rfl)) (a9 (aM (i:=2) h rfl (lo rfl)) eW)))))) (fun _ _ _ _ _=>bZ) (fun _ _ _ _ _=>(bN (av (aQ (ae (pv 3)) (ae (pv 0))) (av (aD (pv 1)) (av (aQ (ae (pv 3)) (ae (pv 2))) aN))))))) ax)) aN))))
  (ao (aK (i:=6) ji.nd rfl (lo rfl) (aZ My hr.m (by rfl) (af (ae (pv 1)) (af (ae (pv 2)) ax))))
  (ao (aK (i:=7) ji.nd rfl (lo rfl) (dP (av (bN (av (aQ (ae (pv 1)) (aa ah)) (av (bj jy (by rfl) JG ik (af (aa (aQ (ae (pv 5)) (aa ah))) ax)) aN))) (av (bN (av (aQ (ae (pv 1)) (aa ah)) (av (bj jy (by rfl) JG ik (af (aa (aQ (ae (pv 1)) (aa ah))) ax)) aN))) aN))))
  (ao (aK (i:=8) ji.nd rfl (lo rfl) (aZ LD hr.m (by rfl) (af (aa (aQ (ae (pv 7)) (aa ah))) (af (aa (aQ (ae (pv 7)) (aa ah))) ax))))
  (ao (cA (QW.qt (p7 (gj (fV (aZ K3 hr.m (by rfl) (af (ae (pv 8)) (af (aa (aQ (ae (pv 1)) (aa ah))) (af (ae (pv 6)) ax)))))) (rH (bg (oQ hr.units) (ae (pv 7)) (aa (dP (av (aD (pv 5)) (av (aD (pv 1)) aN)))) (bp _)))))
  (az (bc mT))
  aY)
  (ao (eV (yp (pv 8)))
  (az (bc (zu (vy (i5 hr.units) (ae (pv 7)) (aa (dP (av (aD (pv 5)) (av (aD (pv 1)) aN)))) (bp _)) (zt (aZ K3 hr.m (by rfl) (af (aa (aZ LD hr.m (by rfl) (af (ae (pv 5)) (af (ae (pv 1)) ax)))) (af (aa (aQ (ae (pv 1)) (aa ah))) (af (ae (pv 6)) ax)))))))))))))))))
end
end LW
namespace PV
open PySem L2 NX
class Cont (α β:Type) where
 run:α->Res β
def Res.bnd{α β:Type}[f:Cont α β](x:Res α):Res β:=x.bind f.run
def JA{α β:Type}(a:α)(f:α->Res β):Res.bnd (Res.ok a) (f:=⟨f⟩)=f a:=id rfl
section
variable(env:PV.Env)(i n:Nat)(d:D)(f g:FX)(c c':FT)(fo SN fo'':FO)(fs:FOs)(fd:FDs)(s t:FS)(op op':D->D->Res R)(F:List D->Res R)(a:FG)(as:Oq)(fi fj:FI)(fp Jf:FP)(T:String)
theorem Qc:aE d env=.ok ((.f,d),env):=id rfl
theorem MR:aR i env=match env[i]? with|some (some r)=>.ok ((.f,r.2),env.set i (some (fz r.1,r.2)))|_=>.bad:=id rfl
theorem RW:fz .f=.f:=id rfl
theorem RX(c:O):fz (.l c)=.f:=id rfl
theorem RY(cs:List O):fz (.t cs)=.f:=id rfl
theorem Oz(p:Yx):xw (.pin p .f)=true:=id rfl
theorem NK(p:Yx):xw (.pin p .d)=true:=id rfl
theorem OA:kg i env=match env[i]? with|some (some r)=>.ok (r,env.set i none)|_=>.bad:=id rfl
theorem Qd:aq f env=Res.bnd (f env) (f:=⟨fun p=>.ok (.val p.1.2,p.2)⟩):=id rfl
theorem Qe:aw i env=match env[i]? with|some (some _)=>.ok (.var i,env)|_=>.bad:=id rfl
theorem OB:aG env=.ok ([],env):=id rfl
theorem NL:ag fo fs env=Res.bnd (fo env) (f:=⟨fun p=>Res.bnd (fs p.2) (f:=⟨fun q=>.ok (p.1::q.1,q.2)⟩)⟩):=id rfl
theorem OC:br env=.ok ([],env):=id rfl
theorem NM:aA f fd env=Res.bnd (f env) (f:=⟨fun p=>Res.bnd (fd p.2) (f:=⟨fun q=>.ok (p.1.2::q.1,q.2)⟩)⟩):=id rfl
theorem Qf:Kf env (.val d)=.ok d:=id rfl
theorem Qg:Kf env (.var i)=match env[i]? with|some (some r)=>if xw r.1 then .ok r.2 else .bad|_=>.bad:=id rfl
theorem OD:pS env (.val d)=.ok d:=id rfl
theorem OE:pS env (.var i)=match env[i]? with|some (some r)=>.ok r.2|_=>.bad:=id rfl
theorem OF:ders env []=.ok []:=id rfl
theorem OG(o:Opd)(os:List Opd):ders env (o::os)=Res.bnd (Kf env o) (f:=⟨fun d=>Res.bnd (ders env os) (f:=⟨fun ds=>.ok (d::ds)⟩)⟩):=id rfl
theorem NO:iV env []=.ok []:=id rfl
theorem NP(o:Opd)(os:List Opd):iV env (o::os)=Res.bnd (pS env o) (f:=⟨fun d=>Res.bnd (iV env os) (f:=⟨fun ds=>.ok (d::ds)⟩)⟩):=id rfl
theorem OH:xw .f=true:=id rfl
theorem OI:xw (.l .f)=true:=id rfl
theorem OJ:xw .d=true:=id rfl
theorem Qh:aB op fo SN env=Res.bnd (fo env) (f:=⟨fun p=>Res.bnd (SN p.2) (f:=⟨fun q=>Res.bnd (Kf q.2 p.1) (f:=⟨fun a=>Res.bnd (Kf q.2 q.1) (f:=⟨fun b=>Res.bnd (op a b) (f:=⟨fun r=>.ok (r,q.2)⟩)⟩)⟩)⟩)⟩):=id rfl
theorem OK:cp op fo SN env=Res.bnd (fo env) (f:=⟨fun p=>Res.bnd (SN p.2) (f:=⟨fun q=>Res.bnd (pS q.2 p.1) (f:=⟨fun a=>Res.bnd (pS q.2 q.1) (f:=⟨fun b=>Res.bnd (op a b) (f:=⟨fun r=>.ok (r,q.2)⟩)⟩)⟩)⟩)⟩):=id rfl
theorem RZ:JE f env=Res.bnd (f env) (f:=⟨fun p=>match p.1.2 with | .bl k=>.ok (k,p.2)|_=>.bad⟩):=id rfl
theorem Qi:Ba c c' env=Res.bnd (c env) (f:=⟨fun p=>if p.1 then c' p.2 else .ok (false,p.2)⟩):=id rfl
theorem R0:Om c c' env=Res.bnd (c env) (f:=⟨fun p=>if p.1 then .ok (true,p.2) else c' p.2⟩):=id rfl
theorem Qj:tV c env=Res.bnd (c env) (f:=⟨fun p=>.ok (!p.1,p.2)⟩):=id rfl
theorem Qk:FC f g env=Res.bnd (f env) (f:=⟨fun p=>match p.1.2 with | .bl true=>g p.2 | .bl false=>.ok ((.f,.bl false),p.2)|_=>.bad⟩):=id rfl
theorem Ql:Gu f env=Res.bnd (f env) (f:=⟨fun p=>match p.1.2 with | .bl k=>.ok ((.f,.bl (!k)),p.2)|_=>.bad⟩):=id rfl
theorem OL:a7 F fs env=Res.bnd (fs env) (f:=⟨fun p=>Res.bnd (ders p.2 p.1) (f:=⟨fun ds=>Res.bnd (F ds) (f:=⟨fun r=>.ok (r,p.2)⟩)⟩)⟩):=id rfl
theorem Qm:dA F fs env=Res.bnd (fs env) (f:=⟨fun p=>Res.bnd (iV p.2 p.1) (f:=⟨fun ds=>Res.bnd (F ds) (f:=⟨fun r=>.ok (r,if aO r.1 r.2 then p.2 else p.2.map frz)⟩)⟩)⟩):=id rfl
theorem Qn:fH fd env=Res.bnd (fd env) (f:=⟨fun p=>if p.1.length<=1000 then .ok ((.f,.tup p.1),p.2) else .bad⟩):=id rfl
theorem Qo:nR fd env=Res.bnd (fd env) (f:=⟨fun p=>if p.1.length<=1000 then .ok ((.l .f,.lst p.1),p.2) else .bad⟩):=id rfl
theorem OM:mX env=.ok (none,env):=id rfl
theorem ON:iX f env=Res.bnd (f env) (f:=⟨fun p=>match p.1.2 with | .int i=>.ok (some i,p.2)|_=>.bad⟩):=id rfl
theorem Qp:vF i f env=if qe env i then(Res.bnd (f env) (f:=⟨fun(p:R×PV.Env)=>match p.2[i]? with
 |some (some (.l .f,.lst ds))=>if ds.length<sizeLine then .ok ((.f,.non),p.2.set i (some (.l .f,.lst (ds++[p.1.2])))) else .bad
 |_=>.bad⟩)) else .bad:=id rfl
theorem OO:qe env i=match env[i]? with|some (some (_,.lst _))=>true|_=>false:=id rfl
theorem R1:Ou T fo env=Res.bnd (fo env) (f:=⟨fun p=>Res.bnd (pS p.2 p.1) (f:=⟨fun d=>.ok ((.f,.bl (xy T d)),p.2)⟩)⟩):=id rfl
theorem OP:Bi f g env=Res.bnd (f env) (f:=⟨fun p=>Res.bnd (g p.2) (f:=⟨fun q=>match(oN p.1.2).bind dQ,q.1.2 with|some ns,.int d=>.ok ((.f,.int (NX.maxD ns d)),q.2)|_,_=>.bad⟩)⟩):=id rfl
theorem Qq(gg:List Nat->List D->Res R):GD gg fo fs env=Res.bnd (fo env) (f:=⟨fun p=>match Kf p.2 p.1 with
 | .ok (.str l)=>Res.bnd (fs p.2) (f:=⟨fun q=>Res.bnd (ders q.2 q.1) (f:=⟨fun ds=>Res.bnd (gg l ds) (f:=⟨fun r=>.ok (r,q.2)⟩)⟩)⟩)
 |_=>.bad⟩):=id rfl
theorem OQ(ix:List (Option Nat)):c8 fi ix a c f env=Res.bnd (fi env) (f:=⟨fun p=>Res.bnd (c7 a c f p.1 (d5 ix p.2)) (f:=⟨fun ds=>if ds.length<=sizeLine then .ok ((.l .f,.lst ds),if flatDs ds then p.2 else p.2.map frz) else .bad⟩)⟩):=id rfl
theorem MA:d5 [] env=[]:=id rfl
theorem MB(ix:List (Option Nat)):d5 (none::ix) env=none::d5 ix env:=id rfl
theorem MC(ix:List (Option Nat)):d5 (some i::ix) env=(match env[i]? with|some (some r)=>some (O.f,r.2)|_=>none)::d5 ix env:=id rfl
theorem En:eF env=.ok (true,env):=id rfl
theorem so(ds:List D):c7 a c f (d::ds) env=Res.bnd (a d env) (f:=⟨fun e=>Res.bnd (c e) (f:=⟨fun p=>if p.1 then(Res.bnd (f p.2) (f:=⟨fun q=>Res.bnd (c7 a c f ds q.2) (f:=⟨fun rs=>.ok (q.1.2::rs)⟩)⟩)) else c7 a c f ds p.2⟩)⟩):=id rfl
theorem Eo:DL f env=Res.bnd (f env) (f:=⟨fun p=>match p.1.2 with | .lst ds=>.ok (ds,p.2)|_=>.bad⟩):=id rfl
theorem wA:iy f env=Res.bnd (f env) (f:=⟨fun p=>match p.1.2 with | .tup ds=>.ok (ds,p.2)|_=>.bad⟩):=id rfl
theorem wB:iz f env=Res.bnd (f env) (f:=⟨fun p=>match p.1.2 with | .str l=>.ok (l.map fun c=>.str [c],p.2)|_=>.bad⟩):=id rfl
theorem qA:Kh fi fj env=match fi env with | .ok a=>.ok a|_=>fj env:=by
 unfold Kh;cases fi env <;> rfl
theorem Qr:Kh (DL f) (Kh (iy f) (iz f)) env=Res.bnd (f env) (f:=⟨fun p=>match p.1.2 with
 | .lst ds=>.ok (ds,p.2)
 | .tup ds=>.ok (ds,p.2)
 | .str l=>.ok (l.map fun c=>.str [c],p.2)
 |_=>.bad⟩):=by
 rw[qA,qA,Eo,wA,wB];cases f env with
 |ok p=>
  obtain⟨⟨o,d⟩,e⟩:=p;cases d <;> rfl
 |exc c=>rfl
 |bad=>rfl
theorem OR:Kh (jA i) (Kh (iy (aR i)) (iz (aR i))) env=match env[i]? with
 |some (some (_,.lst ds))=>.ok (ds,env)
 |some (some (o,.tup ds))=>.ok (ds,env.set i (some (fz o,.tup ds)))
 |some (some (o,.str l))=>.ok (l.map fun c=>.str [c],env.set i (some (fz o,.str l)))
 |_=>.bad:=by
 rw[qA,qA,wA,wB,MR];unfold jA;cases env[i]? with
 |none=>rfl
 |some r=>
  cases r with
  |none=>rfl
  |some r=>
   obtain⟨o,d⟩:=r;cases d <;> rfl
theorem LF:c6 fo env=Res.bnd (fo env) (f:=⟨fun p=>Res.bnd (Kf p.2 p.1) (f:=⟨fun d=>match d with
 | .int j=>if -4611686018427387904<=j/\j<4611686018427387904 then .ok ((List.range j.toNat).map fun(k:Nat)=>D.int (k:Int),p.2) else .bad
 |_=>.bad⟩)⟩):=id rfl
theorem Ng:p8 fs env=Res.bnd (fs env) (f:=⟨fun p=>Res.bnd (ders p.2 p.1) (f:=⟨fun d=>match d with
 |[.int i,.int j]=>if(-4611686018427387904<=i/\i<4611686018427387904)/\-4611686018427387904<=j/\j<4611686018427387904 then .ok ((List.range (j-i).toNat).map fun(k:Nat)=>D.int (i+(k:Int)),p.2) else .bad
 |_=>.bad⟩)⟩):=id rfl
theorem nF(k1 k2:Bool):tW k1 k2 fs env=Res.bnd (fs env) (f:=⟨fun p=>match p.1 with
 |[.val d1,.val d2]=>Res.bnd (jx k1 d1) (f:=⟨fun a=>Res.bnd (jx k2 d2) (f:=⟨fun b=>.ok ((a.zip b).map fun z=>D.tup [z.1,z.2],p.2)⟩)⟩)
 |_=>.bad⟩):=id rfl
theorem Km:aH i d env=if i<env.length then .ok (env.set i (some (.f,d))) else .bad:=id rfl
theorem OS:dZ [] env=.ok env:=id rfl
theorem J7(ds:List D):aT a as (d::ds) env=Res.bnd (a d env) (f:=⟨fun e=>as ds e⟩):=id rfl
theorem MD(ds:List D):ky n as (.tup ds) env=if ds.length=n then as ds env else .bad:=id rfl
theorem JY:sSeq s t env=Res.bnd (s env) (f:=⟨fun o=>match o with | .nx e=>t e|o=>.ok o⟩):=id rfl
theorem OT:bV env=.ok (.nx env):=id rfl
theorem NQ:bX i f env=Res.bnd (f env) (f:=⟨fun p=>if i<p.2.length then .ok (.nx (p.2.set i (some p.1))) else .bad⟩):=id rfl
theorem OU:iW f env=Res.bnd (f env) (f:=⟨fun p=>.ok (.nx p.2)⟩):=id rfl
theorem Qs:dY f env=Res.bnd (f env) (f:=⟨fun p=>.ok (.rt p.1)⟩):=id rfl
theorem NR:J0 c s t env=Res.bnd (c env) (f:=⟨fun p=>if p.1 then s p.2 else t p.2⟩):=id rfl
theorem ME:pT fi a s env=Res.bnd (fi env) (f:=⟨fun p=>d4 a s p.1 p.2⟩):=id rfl
theorem OV:d4 a s [] env=.ok (.nx env):=id rfl
theorem cw(ds:List D):d4 a s (d::ds) env=Res.bnd (a d env) (f:=⟨fun e=>Res.bnd (s e) (f:=⟨fun o=>match o with
 | .nx e=>d4 a s ds e
 | .ct e=>d4 a s ds e
 | .bk e=>.ok (.nx e)
 | .rt r=>.ok (.rt r)⟩)⟩):=id rfl
theorem eT:dB c s (n+1) env=Res.bnd (c env) (f:=⟨fun p=>if p.1 then(Res.bnd (s p.2) (f:=⟨fun o=>match o with
  | .nx e=>dB c s n e
  | .ct e=>dB c s n e
  | .bk e=>.ok (.nx e)
  | .rt r=>.ok (.rt r)⟩)) else .ok (.nx p.2)⟩):=id rfl
theorem Qt:D1 f a env=Res.bnd (f env) (f:=⟨fun p=>Res.bnd (a p.1.2 p.2) (f:=⟨fun e=>.ok (.nx e)⟩)⟩):=id rfl
theorem bq(ds:List D)(nn:Nat)(h:ds.length=n):fBody n nn s ds=Res.bnd (s (ds.map (fun d=>some (O.f,d))++List.replicate nn none)) (f:=⟨fun o=>match o with
 | .rt r=>.ok r
 | .nx _=>.ok (.f,.non)
 |_=>.bad⟩):=by
 unfold fBody;rw[U5 h];all_goals cases s (ds.map (fun d=>some (O.f,d))++List.replicate nn none) with
 |ok o=>cases o <;> rfl
 |exc c=>rfl
 |bad=>rfl
end
def line_le{n:Nat}(h:n<=16777216):n<=sizeLine:=by rw[line_eq];exact h
section
variable(a b:Int)(x y:List Nat)(p q:Bool)(ds es:List D)
theorem GO:KS (.int a) (.int b)=.ok (.f,.bl (a==b)):=by simp only[KS,plainD,Jg,Wf,W8]
theorem GP:KS (.str x) (.str y)=.ok (.f,.bl (x==y)):=by simp only[KS,plainD,Jg,Wf,W8]
theorem GQ:LO (.int a) (.int b)=.ok (.f,.bl (!(a==b))):=by simp only[LO,plainD,Jg,Wf,W8]
theorem Ep:nQ (.int a) (.int b)=.ok (.f,.int (a-b)):=id rfl
theorem wC:dk (.int a) (.int b)=if 0<b/\b<1073741824 then .ok (.f,.int (a / b)) else .bad:=id rfl
theorem sr:eC (.int a) (.int b)=if 0<b then .ok (.f,.int (a%b)) else .bad:=id rfl
theorem Er:yf (.int a) (.int b)=if 0<=b/\b<=1000000/\a.natAbs<2 ^ 64 then .ok (.f,.int (a ^ b.toNat)) else .bad:=id rfl
theorem GR:Mw (.int a) (.int b)=.ok (.f,.bl (decide (a<b))):=id rfl
theorem GS:PY (.int a) (.int b)=.ok (.f,.bl (decide (b<a))):=id rfl
theorem GU:RA (.int a) (.int b)=.ok (.f,.bl (decide (b<=a))):=id rfl
theorem Es:f7 [.lst ds]=.ok (.f,.int ds.length):=id rfl
theorem Et:f7 [.tup ds]=.ok (.f,.int ds.length):=id rfl
theorem BR:mY [.lst ds]=.ok (.l .f,.lst ds):=id rfl
theorem yv:cT [.lst ds]=.ok (.f,.tup ds):=id rfl
theorem GV:Ji (.lst ds) (.int a)=match Kd ds a with|some d=>.ok (.f,d)|none=>.bad:=id rfl
theorem GW:Ji (.tup ds) (.int a)=match Kd ds a with|some d=>.ok (.f,d)|none=>.bad:=id rfl
theorem GX:Ji (.str x) (.int a)=match Kd x a with|some c=>.ok (.f,.str [c])|none=>.bad:=id rfl
theorem Eu:maxD [.int a,.int b]=.ok (.f,.int (if a<b then b else a)):=id rfl
theorem zQ(bs:List Bool):DQ [.lst (bs.map D.bl)]=.ok (.f,.bl (bs.all id)):=by
 unfold DQ;show(match oM (bs.map D.bl) with|some bs=>_|none=>_)=_;rw[vH]
theorem SO{α:Type}(d:α)(l:List α):Kd (d::l) 0=some d:=by
 have:=gc (xs:=d::l) (j:=0) (v:=d) rfl;simpa using this
theorem QV{α:Type}(c d:α)(l:List α):Kd (c::d::l) 1=some d:=by
 have:=gc (xs:=c::d::l) (j:=1) (v:=d) rfl;simpa using this
end
def Jm(l:List Int):flatDs (l.map D.int)=true:=by
 rw[cG,Wm,Vy];intro b _;rfl
def su(l:List Bool):flatDs (l.map D.bl)=true:=by
 rw[cG,Wm,Vy];intro b _;rfl
def flat_strs(l:List (List Nat)):flatDs (l.map D.str)=true:=by
 rw[cG,Wm,Vy];intro b _;rfl
def qB(d:D):aO .f d=flatD d:=by rw[aO]
def yw(ds:List D):aO (.l .f) (.lst ds)=flatDs ds:=by rw[aO,kz]
def kA(i:Int):flatD (.int i)=true:=by rw[flatD];all_goals simp
def qC(i:Bool):flatD (.bl i)=true:=by rw[flatD];all_goals simp
def cN(ds:List D):flatD (.tup ds)=flatDs ds:=by rw[flatD]
def gY(n:Nat)(l:List Int):plainDs n (l.map D.int)=true:=by
 induction l with
 |nil=>rfl
 |cons a l ih=>rw[Vf,plainDs,ih,plainD];all_goals simp
def fE(n:Nat)(l:List (List Nat)):plainDs n (l.map D.str)=true:=by
 induction l with
 |nil=>rfl
 |cons a l ih=>rw[Vf,plainDs,ih,plainD];all_goals simp
theorem eqDs_ints:∀a b:List Int,iY (a.map D.int) (b.map D.int)=(a==b)
 |[],[]=>by simp[iY]
 |[],_::_=>by simp[iY]
 |_::_,[]=>by simp[iY]
 |a::r,b::t=>by
  rw[Vf,Vf,iY,Jg,eqDs_ints r t,Vp];simp
def yx(a:Int)(l:List Int):xx (.int a) (l.map D.int)=decide (a∈l):=by
 unfold xx;rw[Xj,Vp,Wi,Ve];constructor
 .rintro⟨x,hx,e⟩;have e:Jg (.int x) (.int a)=true:=e;rw[Jg,VL]at e;rw[<-e];exact hx
 .intro h;refine⟨a,h,?_⟩;show Jg (.int a) (.int a)=true;rw[Jg,Wg]
def yy(a:List Nat)(l:List (List Nat)):xx (.str a) (l.map D.str)=decide (a∈l):=by
 unfold xx;rw[Xj,Vp,Wi,Ve];constructor
 .rintro⟨x,hx,e⟩;have e:Jg (.str x) (.str a)=true:=e;rw[Jg,VL]at e;rw[<-e];exact hx
 .intro h;refine⟨a,h,?_⟩;show Jg (.str a) (.str a)=true;rw[Jg,Wg]
def HB(a:Int)(l:List Int):NF (.int a) (.lst (l.map D.int))=.ok (.f,.bl (decide (a∈l))):=by
 unfold NF;dsimp only;rw[gY,yx,plainD];all_goals simp
def yz{α:Type}{a:FG}{c:FT}{f:FX}{e:α->D}{p:α->Bool}{r:α->D}(I:PV.Env->Prop)(l:List α)
  (h:∀x∈l,∀env,I env->∃Jb,a (e x) env=.ok Jb/\∃Jl,c Jb=.ok (p x,Jl)/\if p x then ∃o JO,f Jl=.ok ((o,r x),JO)/\I JO else I Jl):∀env,I env->c7 a c f (l.map e) env=.ok ((l.filter p).map r):=by
 induction l with
 |nil=>intro env _;rfl
 |cons x l ih=>
  intro env hI;obtain⟨Jb,h1,Jl,h2,h3⟩:=h x UY env hI;have ih:=ih fun y hy=>h y (U4 _ hy)
  rw[Vf,so,h1,JA,h2,JA];cases hp:p x with
  |true=>
   rw[hp]at h3;obtain⟨o,JO,h4,h5⟩:=h3;rw[U5 rfl,h4,JA,ih JO h5,JA,List.filter_cons_of_pos hp];rfl
  |false=>
   rw[hp]at h3;rw[U8 U3,ih Jl h3,List.filter_cons_of_neg (by rw[hp];exact U3)]
def bY{α:Type}{a:FG}{f:FX}{e:α->D}{r:α->D}(I:PV.Env->Prop)(l:List α)
  (h:∀x∈l,∀env,I env->∃Jb,a (e x) env=.ok Jb/\∃o JO,f Jb=.ok ((o,r x),JO)/\I JO):∀env,I env->c7 a eF f (l.map e) env=.ok (l.map r):=by
 induction l with
 |nil=>intro env _;rfl
 |cons x l ih=>
  intro env hI;obtain⟨Jb,h1,o,JO,h4,h5⟩:=h x UY env hI;have ih:=ih fun y hy=>h y (U4 _ hy)
  rw[Vf,so,h1,JA,En,JA,U5 rfl,h4,JA,ih JO h5];rfl
def BS{a:FG}{g:FS}(P:Nat->PV.Env->Prop)(ds:List D)(h:∀i d env,ds[i]?=some d->P i env->∃Jb,a d env=.ok Jb/\∃Jl,(g Jb=.ok (.nx Jl)\/g Jb=.ok (.ct Jl))/\P (i+1) Jl):
  ∀env,P 0 env->∃env',d4 a g ds env=.ok (.nx env')/\P ds.length env':=by
 have key:∀(l:List D) (k:Nat) (env:PV.Env),(∀i d,l[i]?=some d->ds[k+i]?=some d)->P k env->∃env',d4 a g l env=.ok (.nx env')/\P (k+l.length) env':=by
  intro l;induction l with
  |nil=>exact fun k env _ hp=>⟨env,rfl,hp⟩
  |cons d l ih=>
   intro k env hd hp;obtain⟨Jb,h1,Jl,h2,h3⟩:=h k d env (hd 0 d rfl) hp;obtain⟨env',h4,h5⟩:=ih (k+1) Jl (fun i d e=>by have:=hd (i+1) d (by simpa using e);rw[show k+1+i=k+(i+1) by lia];exact this) h3;refine⟨env',?_,by rw[Vc,show k+(l.length+1)=k+1+l.length by lia];exact h5⟩;rw[cw,h1,JA];rcases h2 with h2|h2
   .rw[h2,JA];exact h4
   .rw[h2,JA];exact h4
 intro env hp;obtain⟨env',h1,h2⟩:=key ds 0 env (fun i d e=>by rw[ZM];exact e) hp;exact⟨env',h1,by rw[ZM]at h2;exact h2⟩
section
variable(env:PV.Env)(fo:FO)(fp Jf:FP)(a b:Int)(ds:List D)(x:List Nat)
theorem Qu:xA fo fp Jf env=Res.bnd (fo env) (f:=⟨fun p=>Res.bnd (fp p.2) (f:=⟨fun q=>Res.bnd (Jf q.2) (f:=⟨fun t=>Res.bnd (Kf t.2 p.1) (f:=⟨fun d=>Res.bnd (RI d q.1 t.1) (f:=⟨fun r=>.ok (r,t.2)⟩)⟩)⟩)⟩)⟩):=id rfl
theorem Qv:FD fo env=Res.bnd (fo env) (f:=⟨fun p=>Res.bnd (Kf p.2 p.1) (f:=⟨fun d=>match d with
 | .int i=>.ok ((.f,.int (-i)),p.2)
 |_=>.bad⟩)⟩):=id rfl
theorem Ew(lo hi:Option Int):RI (.lst ds) lo hi=.ok (.l .f,.lst (cutD ds lo hi)):=id rfl
theorem Ex(lo hi:Option Int)(h:HT.sIx ds.length 0 lo=0/\HT.sIx ds.length ds.length hi=ds.length):cutD ds lo hi=ds:=by
 unfold cutD;rw[h.1,h.2,YZ,Nat.sub_zero,Wc (U6 _)]
theorem qD:Bo (.int a) (.int b)=if dE a||dE b then .ok (.f,.int (a*b)) else if a.natAbs<2 ^ 1000/\b.natAbs<2 ^ 1000 then .ok (.f,.int (a*b)) else .bad:=id rfl
end
section
variable(env:PV.Env)(fo:FO)(fs:FOs)(f g:FX)(a b c:Int)(ds es:List D)(x y:List Nat)
theorem Qw(gg:List D->List D->Res R):D6 gg fo fs env=Res.bnd (fo env) (f:=⟨fun p=>Res.bnd (Kf p.2 p.1) (f:=⟨fun d=>match d with
 | .tup _=>Res.bnd (fs p.2) (f:=⟨fun q=>Res.bnd (Kf q.2 p.1) (f:=⟨fun d2=>match d2 with
  | .tup l=>Res.bnd (ders q.2 q.1) (f:=⟨fun ds=>Res.bnd (gg l ds) (f:=⟨fun r=>.ok (r,q.2)⟩)⟩)
  |_=>.bad⟩)⟩)
 |_=>.bad⟩)⟩):=id rfl
theorem Nh:ql fs env=Res.bnd (fs env) (f:=⟨fun p=>Res.bnd (ders p.2 p.1) (f:=⟨fun d=>match d with
 |[.int i,.int j,.int c]=>if k4 i j c then .ok ((List.range (Builtin.Range.rangeSize i j c).toNat).map fun(k:Nat)=>D.int (i+(k:Int)*c),p.2) else .bad
 |_=>.bad⟩)⟩):=id rfl
theorem HC(d:D):(∃l,jx true d=.ok l/\jx false d=.bad/\oN d=some l)\/(∃l,jx true d=.bad/\jx false d=.ok l/\oN d=some l)\/(jx true d=.bad/\jx false d=.bad/\oN d=none):=by
 cases d with
 |lst l=>exact .inl ⟨l,rfl,rfl,rfl⟩
 |tup l=>exact .inr (.inl ⟨l,rfl,rfl,rfl⟩)
 |_=>exact .inr (.inr ⟨rfl,rfl,rfl⟩)
def yA(k1 k2:Bool)(e:PV.Env)(d1 d2:D):Res (List D×PV.Env):=(jx k1 d1).bind fun a=>(jx k2 d2).bind fun b=>.ok ((a.zip b).map fun z=>D.tup [z.1,z.2],e)
def GY(e:PV.Env)(d1 d2:D):Res (List D×PV.Env):=match oN d1,oN d2 with|some a,some b=>.ok ((a.zip b).map fun z=>D.tup [z.1,z.2],e)|_,_=>.bad
def Ph(a b:Res (List D×PV.Env)):Res (List D×PV.Env):=match a with | .ok a=>.ok a|_=>b
def xB(g:D->D->Res (List D×PV.Env))(os:List Opd):Res (List D×PV.Env):=match os with|[.val d1,.val d2]=>g d1 d2|_=>.bad
theorem qE(g h:D->D->Res (List D×PV.Env))(os:List Opd):Ph (xB g os) (xB h os)=xB (fun a b=>Ph (g a b) (h a b)) os:=by
 unfold xB;split <;> rfl
theorem BU(e:PV.Env)(a b:D):Ph (yA true true e a b) (Ph (yA true false e a b) (Ph (yA false true e a b) (yA false false e a b)))=GY e a b:=by
 unfold yA GY;rcases HC a with⟨l,h1,h2,h3⟩|⟨l,h1,h2,h3⟩|⟨h1,h2,h3⟩ <;> rcases HC b with⟨m,i1,i2,i3⟩|⟨m,i1,i2,i3⟩|⟨i1,i2,i3⟩ <;> rw[h1,h2,h3,i1,i2,i3] <;> rfl
theorem OW:qm fs env=Res.bnd (fs env) (f:=⟨fun p=>match p.1 with
 |[.val d1,.val d2]=>(match oN d1,oN d2 with|some a,some b=>.ok ((a.zip b).map fun z=>D.tup [z.1,z.2],p.2)|_,_=>.bad)
 |_=>.bad⟩):=by
 unfold qm;rw[qA,qA,qA,nF,nF,nF,nF];cases fs env with
 |ok p=>
  show Ph (xB (yA true true p.2) p.1) (Ph (xB (yA true false p.2) p.1) (Ph (xB (yA false true p.2) p.1) (xB (yA false false p.2) p.1)))=xB (GY p.2) p.1;rw[qE,qE,qE];exact V5 (fun g=>xB g p.1) (funext fun a=>funext fun b=>BU p.2 a b)
 |_=>rfl
theorem OX:oN (.lst ds)=some ds:=id rfl
theorem OY:oN (.tup ds)=some ds:=id rfl
theorem OZ(i:Nat):ym i f g env=Res.bnd (g env) (f:=⟨fun(p:R×PV.Env)=>Res.bnd (f p.2) (f:=⟨fun(q:R×PV.Env)=>match p.2[i]?,q.2[i]? with
 |some (some _),some (some (.l .f,.lst ds))=>(match q.1.2 with
  | .int k=>(match ixN ds.length k with
   |some j=>.ok (.nx (q.2.set i (some (.l .f,.lst (ds.set j p.1.2)))))
   |none=>.bad)
  |_=>.bad)
 |_,_=>.bad⟩)⟩):=id rfl
theorem wF:jr (.int a) (.int b)=Bo (.int a) (.int b):=id rfl
theorem NS:vX f g env=Res.bnd (f env) (f:=⟨fun p=>Res.bnd (g p.2) (f:=⟨fun q=>if eX false p.1.2 then .ok ((.d,.dct false [p.1.2] [q.1.2]),q.2) else .bad⟩)⟩):=id rfl
theorem Ey(d:D):SH d (.lst ds)=NF d (.lst ds):=id rfl
theorem BV(d:D):Bu d (.lst ds)=CJ d (.lst ds):=id rfl
theorem Ez:eX false (.int a)=true:=id rfl
theorem EA:eX false (.str x)=true:=id rfl
theorem BW:addO (.int a) (.int b)=.ok (.f,.int (a+b)):=id rfl
theorem BX:addO (.str x) (.str y)=if x.length+y.length<=sizeLine then .ok (.f,.str (x++y)) else .bad:=id rfl
theorem qF:addO (.lst ds) (.lst es)=if ds.length+es.length<=sizeLine then .ok (.l .f,.lst (ds++es)) else .bad:=id rfl
theorem wG:addO (.tup ds) (.tup es)=if ds.length+es.length<=sizeLine\/ds=[] then .ok (.f,.tup (ds++es)) else .bad:=by
 unfold addO;cases ds with
 |nil=>rw[U5 (.inr rfl)];rfl
 |cons d ds=>
  dsimp only;unfold addD;dsimp only;by_cases h:(d::ds).length+es.length<=sizeLine
  .rw[U5 ⟨nofun,h⟩,U5 (.inl h)]
  .rw[U8 (fun z=>h z.2),U8 (fun z=>z.elim h nofun)]
end
section
variable(env:PV.Env)(f g:FX)(ds ks:List D)(i:Nat)
theorem FE:Ec i env=match env[i]? with
 |some (some (ow,.lst _))=>if isLf ow then .ok ((.f,.non),env.set i (some (ow,.lst []))) else .bad
 |_=>.bad:=id rfl
theorem BY:Bv f g env=Res.bnd (f env) (f:=⟨fun p=>Res.bnd (g p.2) (f:=⟨fun q=>.ok ((.t [.f,q.1.1],.tup [p.1.2,q.1.2]),q.2)⟩)⟩):=id rfl
theorem yB:r9 i env=match env[i]? with
 |some (some (.t [.f,.l .f],.tup [a,.lst _]))=>.ok ((.f,.non),env.set i (some (.t [.f,.l .f],.tup [a,.lst []])))
 |_=>.bad:=id rfl
end
section
variable(env:PV.Env)(f:FX)(fs:FOs)(ds:List D)(i:Nat)
theorem HD:IA i env=match env[i]? with
 |some (some (ow,.lst ds))=>if isLf ow then(match ds.getLast? with
  |some d=>.ok ((.f,d),env.set i (some (ow,.lst ds.dropLast)))
  |none=>.bad) else .bad
 |_=>.bad:=id rfl
theorem gH:k9 i f env=Res.bnd (f env) (f:=⟨fun(p:R×PV.Env)=>match p.2[i]? with
 |some (some (.pin q c,d))=>.ok (.rt (.t [p.1.1,.pin q c],.tup [p.1.2,d]))
 |_=>.bad⟩):=by
 first
  |exact id rfl
  |(unfold k9;rfl)
theorem yC(np nn:Nat)(c:O)(g:FS)(p:Yx)(d0:D)(h:ds.length+1=np):ma np nn c g p (d0::ds)=Res.bnd (g (some (.pin p c,d0)::(ds.map (fun d=>some (O.f,d))++List.replicate nn none))) (f:=⟨fun o=>match o with
  | .rt r=>.ok r
  |_=>.bad⟩):=by
 unfold ma;dsimp only;rw[U5 h];rfl
end
noncomputable def pv:=(Zz @JA (Zz @Qc (Zz @MR (Zz @OA (Zz @Qd (Zz @Qe (Zz @OB (Zz @NL (Zz @OC (Zz @NM (Zz @Qf (Zz @Qg (Zz @OD (Zz @OE (Zz @OF (Zz @OG (Zz @NO (Zz @NP (Zz @OH (Zz @OI (Zz @OJ (Zz @Qh (Zz @OK (Zz @RZ (Zz @Qi (Zz @R0 (Zz @Qj (Zz @Qk (Zz @Ql (Zz @OL (Zz @Qm (Zz @Qn (Zz @Qo (Zz @Qu (Zz @Qv (Zz @OM (Zz @ON (Zz @Qp (Zz @OO (Zz @R1 (Zz @OP (Zz @Qq (Zz @OQ (Zz @MA (Zz @MB (Zz @MC (Zz @Qr (Zz @OR (Zz @LF (Zz @Ng (Zz @Km (Zz @OS (Zz @J7 (Zz @MD (Zz @JY (Zz @OT (Zz @NQ (Zz @OU (Zz @Qs (Zz @NR (Zz @ME (Zz @OV (Zz @Qt (Zz @List.getElem?_cons_zero.{0} (Zz @List.getElem?_cons_succ.{0} (Zz @List.set_cons_zero.{0} (Zz @List.set_cons_succ.{0} (Zz @List.length_cons.{0} (Zz @List.length_nil.{0} (Zz @List.map_cons.{0,0} (Zz @List.map_nil.{0,0} (Zz @List.replicate_succ.{0} (Zz @List.replicate_zero.{0} (Zz @List.cons_append.{0} (Zz @List.nil_append.{0} (Zz @Nat.zero_add (Zz @Qw (Zz @Nh (Zz @OW (Zz @OX (Zz @OY (Zz @OZ (Zz @NS (Zz @RW (Zz @RX (Zz @RY (Zz @Oz @NK)))))))))))))))))))))))))))))))))))))))))))))))))))))))))))))))))))))))))))))))))))))))
noncomputable def op:=(Zz @GO (Zz @GP (Zz @GQ (Zz @Ep (Zz @GR (Zz @GS (Zz @GU (Zz @Es (Zz @Et (Zz @BR (Zz @yv (Zz @GV (Zz @GW (Zz @GX (Zz @Ew (Zz @Eu (Zz @SO (Zz @QV (Zz @zQ (Zz @qB (Zz @yw (Zz @kA (Zz @qC (Zz @Jm (Zz @su (Zz @PV.flat_strs (Zz @cN (Zz @BW (Zz @wF (Zz @Ey (Zz @BV (Zz @Ez @EA))))))))))))))))))))))))))))))))
def dV(n:Nat)(w:PV.Env):(∃d,Kf w (.var n)=.ok d)\/Kf w (.var n)=.bad:=by
 unfold Kf;dsimp only;split
 .split
  .exact .inl ⟨_,rfl⟩
  .exact .inr rfl
 .exact .inr rfl
section
variable(w:PV.Env)(op:D->D->Res R)(F:List D->Res R)(f g h:FX)(n n' n'':Nat)(x y:D)
end
section
variable(a b c d e g h i j k l m:Option R)(z:PV.Env)(r:R)(o:O)(x:D){ρ:Type}
end
end PV
namespace LW
open PySem L2 NX PV
def for_list{α:Type}{a:FG}{g:FS}{e:α->D}(l:List α)(P:Nat->PV.Env->Prop)
  (h:∀k x env,l[k]?=some x->P k env->∃Jb,a (e x) env=.ok Jb/\∃Jl,g Jb=.ok (.nx Jl)/\P (k+1) Jl):∀env,P 0 env->∃env',d4 a g (l.map e) env=.ok (.nx env')/\P l.length env':=by
 intro env h0;have:=BS (a:=a) (g:=g) P (l.map e) (fun i d env hi hp=>by
  rw[List.getElem?_map,VA]at hi;obtain⟨x,hx,rfl⟩:=hi;obtain⟨Jb,h1,Jl,h2,h3⟩:=h i x env hx hp;exact⟨Jb,h1,Jl,.inl h2,h3⟩) env h0
 rwa [UZ]at this
def nG{a:FG}{g:FS}{e:Nat->D}(n:Nat)(P:Nat->PV.Env->Prop)
  (h:∀k env,k<n->P k env->∃Jb,a (e k) env=.ok Jb/\∃Jl,g Jb=.ok (.nx Jl)/\P (k+1) Jl):∀env,P 0 env->∃env',d4 a g ((List.range n).map e) env=.ok (.nx env')/\P n env':=by
 intro env h0;have:=for_list (a:=a) (g:=g) (e:=e) (List.range n) P (fun k x env hk hp=>by
  obtain⟨h1,h2⟩:=List.getElem?_eq_some_iff.mp hk;rw[Vi]at h1;rw[X4]at h2;subst h2;exact h k env h1 hp) env h0
 rwa [Vi]at this
abbrev LNN:=List (List Nat)
def bD{α β:Type}{l:List α}(f:α->β):(l.map f).length=l.length:=UZ f
def eD:(false=true)=False:=V7
def lT{α:Type}{l:List α}{i:Nat}{a:α}(h:l[i]?=some a):∃h:i<l.length,l[i]=a:=List.getElem?_eq_some_iff.mp h
def lK{α:Type}{l:List α}{i:Nat}(h:i<l.length):l[i]?=some l[i]:=List.getElem?_eq_getElem h
def dU{α β:Type}{f:α->β}{a:α}{l:List α}:(a::l).map f=f a::l.map f:=Vf
def lM{α:Type}{a b:α}(h:a∈[b]):a=b:=Vn.mp h
def nU{α β:Type}{f:α->β}{l:List α}{b:β}(h:b∈l.map f):∃a,a∈l/\f a=b:=VX.mp h
def uk{α:Type}{a:α}{s t:List α}(h:a∈s++t):a∈s\/a∈t:=Vv.mp h
def nH{α:Type}{s t:List α}:(s++t).length=s.length+t.length:=Vr
def ay{s t:FS}{env env':PV.Env}(h:s env=.ok (.nx env')):sSeq s t env=t env':=by rw[JY,h,JA]
def bG{ds:List D}(h:ds.length<=16777216):ds.length<=sizeLine:=line_le h
def my{l:List Int}{k:Nat}(h:k<l.length):Kd (l.map D.int) (k:Int)=some (.int (l.getD k 0)):=gc (by rw[List.getElem?_map,List.getD_eq_getElem?_getD,lK h];rfl)
def at2{α:Type}(a b c:α):Kd [a,b,c] (2:Int)=some c:=rfl
theorem fF:∀l:LNN,fX (l.map D.str)=some l
 |[]=>rfl
 |a::l=>by
  rw[dU,fX,fF l];rfl
def lD(x y:D)(t1 t2:Option R)(dX:PV.Env):ky 2 (aT (aH 0) (aT (aH 1) dZ)) (.tup [x,y]) (t1::t2::dX)=.ok (some (.f,x)::some (.f,y)::dX):=by
 rw[MD,U5 (by simp),J7,Km,U5 (by simp),JA,J7,Km,U5 (by simp),JA];rfl
def jj{α:Type}(lt:α->α->Bool)(l:List α):(aV lt l).length=l.length:=(dW lt l).length_eq
def wH(l:LNN)(h:l.length<64):fN [.lst (l.map D.str)]=.ok (.l .f,.lst ((aV M9 l).map D.str)):=by
 unfold fN;dsimp only;rw[U5 (by rw[bD];exact h)];unfold kU;cases l with
 |nil=>rfl
 |cons a l=>
  have e:dQ ((a::l).map D.str)=none:=rfl;rw[e,fF]
def Lx:List Nat:=[97,98,99,100,101,102,103,104,105,106,107,108,109,110,111,112,113,114,115,116,117,118,119,120,121,122]
def EB(j:Nat)(h:j<26):Lx[j]?=some (97+j):=by
 have:∀j:_root_.Fin 26,Lx[j.1]?=some (97+j.1):=by decide
 exact this ⟨j,h⟩
def EC(j:Int)(h0:0<=j)(h:j<26):Kd Lx j=some (97+j.toNat):=by
 obtain⟨n,rfl⟩:=Vl h0;exact gc (EB n (by lia))
def fG(x b:Int)(h:0<b):0<=x%b/\x%b<b:=⟨Int.emod_nonneg _ (by lia),Zl _ h⟩
def HE(n:Nat)(h:n<=200):yf (.int 10) (.int (n:Int))=.ok (.f,.int (10 ^ n)):=by
 rw[Er,U5 (by lia),VG]
def j6(x b:Int)(h:0<b):eC (.int x) (.int b)=.ok (.f,.int (x%b)):=by rw[sr,U5 h]
def g6(x b:Int)(h:0<b)(h2:b<1073741824):dk (.int x) (.int b)=.ok (.f,.int (x / b)):=by rw[wC,U5 ⟨h,h2⟩]
def HF(x y:Int)(h:dE y=true):jr (.int x) (.int y)=.ok (.f,.int (x*y)):=by rw[wF,qD,h,Bool.or_true,U5 rfl]
def IL(x y:List Nat)(h:x.length+y.length<=1000):addO (.str x) (.str y)=.ok (.f,.str (x++y)):=by rw[BX,U5 (line_le (by lia))]
def nI{α:Type}(l:List α)(k:Nat):cutD l none (some (k:Int))=l.take k:=by
 unfold cutD;rw[HT.qW,HT.mD,YZ,Nat.sub_zero];by_cases h:k<=l.length
 .rw[Xp h]
 .rw[Nat.min_eq_right (by lia),Wc (U6 _),Wc (by lia)]
def sv{α:Type}(l:List α)(k:Nat):cutD l (some (k:Int)) none=l.drop k:=by
 unfold cutD;rw[HT.qW,HT.mD];by_cases h:k<=l.length
 .rw[Xp h,Wc (by rw[Wa];exact U6 _)]
 .rw[Nat.min_eq_right (by lia),YC (U6 _),YC (by lia),Zk]
def di{α:Type}(f:Nat->α)(n:Nat)(h:∀i j,i<n->j<n->f i=f j->i=j):((List.range n).map f).Nodup:=by
 rw[W7,Xz];refine List.pairwise_lt_range.imp_of_mem fun{a b} ha hb hl e=>?_
 have:=h a b (VF.mp ha) (VF.mp hb) e;lia
def GZ(j:Int)(h0:0<=j)(h:j<=1000)(fo:FO)(env env':PV.Env)(o:Opd)(e1:fo env=.ok (o,env'))(e2:Kf env' o=.ok (.int j)):c6 fo env=.ok ((List.range j.toNat).map fun(k:Nat)=>D.int (k:Int),env'):=by
 rw[LF,e1,JA];dsimp only;rw[e2,JA];dsimp only;rw[U5 (by lia)]
def BZ{α:Type}(l:List α)(a b:Nat)(h:a<=b)(hb:b<=l.length):cutD l (some (a:Int)) (some (b:Int))=(l.drop a).take (b-a):=by
 unfold cutD;rw[HT.mD,HT.mD,Xp hb,Xp (Vx h hb)]
def pD(x:Int)(h:-1000000<=x)(h2:x<=1000000):dE x=true:=by
 unfold dE;rw[Ve];lia
def wI(d:D)(h:plainD 40 d=true):KS d d=.ok (.f,.bl true):=by
 unfold KS;rw[h,i4 d 40 h];rfl
def gI(d:D)(h:plainD 40 d=true):LO d d=.ok (.f,.bl false):=by
 unfold LO;rw[h,i4 d 40 h];rfl
def yD(l:List Int):plainD 40 (.tup (l.map D.int))=true:=by
 rw[plainD,gY]
def IM{c:FT}{s t:FS}{env env':PV.Env}(h:c env=.ok (false,env')):J0 c s t env=t env':=by rw[NR,h,JA];rfl
def IP{c:FT}{s t:FS}{env env':PV.Env}(h:c env=.ok (true,env')):J0 c s t env=s env':=by rw[NR,h,JA];rfl
def B0(n k:Nat)(h:k<n):ixN n (k:Int)=some k:=by
 unfold ixN;rw[U5 (by lia),U5 (by lia)];rfl
def addT(x y:List Int)(h:x.length+y.length<=100000):addO (.tup (x.map D.int)) (.tup (y.map D.int))=.ok (.f,.tup ((x++y).map D.int)):=by rw[wG,U5 (.inl (line_le (by rw[bD,bD];lia))),Vh]
def IQ(b:Int):xy "bool" (.int b)=false:=rfl
def IS(b:Int):xy "int" (.int b)=true:=rfl
def isT(ds:List D):xy "tuple" (.tup ds)=true:=rfl
def yE{α:Type}{a:FG}{g:FS}{e:α->D}(l:List α)(env:Option R->PV.Env)(h:∀x∈l,∀t,∃t',a (e x) (env t)=.ok (env t')/\g (env t')=.ok (.nx (env t')))(t:Option R):∃t',d4 a g (l.map e) (env t)=.ok (.nx (env t')):=by
 obtain⟨env',ef,t',rfl⟩:=for_list (a:=a) (g:=g) (e:=e) l (fun _ E=>∃t,E=env t) (by
  rintro k x E hk ⟨t,rfl⟩;obtain⟨t',h1,h2⟩:=h x (Vm hk) t;exact⟨_,h1,_,h2,t',rfl⟩) _ ⟨t,rfl⟩
 exact⟨t',ef⟩
def qG{α β:Type}(f:α->β)(l:List α)(lo hi:Option Int):cutD (l.map f) lo hi=(cutD l lo hi).map f:=by
 unfold cutD;rw[bD,<-Zm,<-XQ]
def ko{α:Type}{l:List α}(h:l.length<=100000):l.length<sizeLine:=Vd (WU _) (line_le (by lia))
section
variable(env:PV.Env)(f:FX)(fs:FOs)(fo:FO)
theorem B1(i:Nat)(c:O)(F:Yx->List D->Res R):eFunW c F i fs env=Res.bnd (fs env) (f:=⟨fun p=>match p.1 with
 | .var j::os=>if j=i then(match p.2[i]? with
  |some (some (ow,d0))=>if oY c ow then Res.bnd (iV (p.2.set i none) os) (f:=⟨fun ds=>Res.bnd (jB F c d0 ds) (f:=⟨fun x=>if aO x.1.1 x.1.2&&aO c x.2 then .ok (x.1,(p.2.set i none).set i (some (ow,x.2))) else .ok (x.1,((p.2.set i none).map frz).set i (some (ow,x.2)))⟩)⟩) else .bad
  |_=>.bad) else .bad
 |_=>.bad⟩):=id rfl
theorem B2(r:R):frz (some r)=some (.f,r.2):=id rfl
theorem ED:frz none=none:=id rfl
theorem zR(gg:List D->List D->Res R):GJ gg fo fs env=Res.bnd (fo env) (f:=⟨fun p=>Res.bnd (Kf p.2 p.1) (f:=⟨fun d=>match d with
 | .lst _=>Res.bnd (fs p.2) (f:=⟨fun q=>Res.bnd (Kf q.2 p.1) (f:=⟨fun d2=>match d2 with
  | .lst l=>Res.bnd (ders q.2 q.1) (f:=⟨fun ds=>Res.bnd (gg l ds) (f:=⟨fun r=>.ok (r,q.2)⟩)⟩)
  |_=>.bad⟩)⟩)
 |_=>.bad⟩)⟩):=id rfl
end
def o_isnT(ds:List D):isnO (.tup ds) .non=.ok (.f,.bl true):=id rfl
def lE:isnO .non .non=.ok (.f,.bl false):=id rfl
abbrev Jw:=Int×List Nat×Int
def eA(a:Jw):D:=.tup [.int a.1,.str a.2.1,.int a.2.2]
theorem nJ:∀(n:Nat) {l:List Int},l.Nodup->(∀x∈l,0<=x/\x<(n:Int))->l.length<=n
 | 0,l,_,hb=>by
  cases l with
  |nil=>exact U6 _
  |cons a l=>have:=hb a UY;lia
 |n+1,l,nd,hb=>by
  have h1:=nJ n (l:=l.erase (n:Int)) (nd.erase _) fun x hx=>by
   have h2:=(nd.mem_erase_iff.mp hx)
   have h3:=hb x h2.2;have h4:=h2.1;lia
  have:=List.length_erase_le (a:=(n:Int)) (l:=l);have h5:l.length<=(l.erase (n:Int)).length+1:=by
   by_cases hm:(n:Int)∈l
   .rw[Yh hm];have:=Xv hm;lia
   .rw[List.erase_of_not_mem hm];lia
  lia
def JD(nY:LNN)(ap:List Jw):D:=.tup [.tup (nY.map D.str),.lst (ap.map eA)]
def lF(a:Jw)(t1 t2 t3:Option R)(dX:PV.Env):ky 3 (aT (aH 0) (aT (aH 1) (aT (aH 2) dZ))) (eA a) (t1::t2::t3::dX)=.ok (some (.f,.int a.1)::some (.f,.str a.2.1)::some (.f,.int a.2.2)::dX):=by
 unfold eA;rw[MD,U5 (by simp),J7,Km,U5 (by simp),JA,J7,Km,U5 (by simp),JA,J7,Km,U5 (by simp),JA];rfl
def yF{α:Type}{f:α->D}{p:α->Bool}{l:List α}(h:l.length<=16777216):((l.filter p).map f).length<=sizeLine:=by
 rw[bD];exact line_le (Vx (List.length_filter_le _ _) h)
def EF(l:List Int):(oN (.lst (l.map D.int))).bind dQ=some l:=tX l
def sx(a:Jw):Int:=if a.1<a.2.2 then a.2.2 else a.1
def ba(ap:List Jw):Int:=1+NX.maxD (ap.map sx) 0
def jk{α:Type}{f:α->D}{l:List α}(h:∀a,flatD (f a)=true):flatDs (l.map f)=true:=by
 rw[cG,Wm,Vy];intro a _;exact h a
def qH(nY:LNN)(ap:List Jw)(hl:ap.length<=16777216):cC [JD nY ap]=.ok (.f,.int (ba ap)):=by
 unfold cC lb;rw[bq (h:=by rfl)];simp only[pv,seval,op,JD];rw[bY (r:=fun a:Jw=>D.int (sx a)) (fun env=>∃t1 t2 t3,env=[t1,t2,t3]) ap ?_ _ ⟨_,_,_,rfl⟩]
 .rw[JA,U5 (bG (by rw[bD];exact hl)),JA,jk fun a=>kA _];simp only[pv,seval,op];have e:(some (ap.map fun a=>D.int (sx a))).bind dQ=some (ap.map sx):=by
   have:=EF (ap.map sx);rw[Vj]at this;exact this
  rw[e];rfl
 .rintro a _ env ⟨t1,t2,t3,rfl⟩;refine⟨_,lF a t1 t2 t3 _,?_⟩;simp only[pv,seval,op];exact⟨_,_,rfl,_,_,_,rfl⟩
def B3(a:Jw):flatD (eA a)=true:=rfl
def B4(as:List Jw):flatDs (as.map eA)=true:=by
 rw[cG,Wm,Vy];exact fun p _=>B3 p
def IU(w:LNN)(m:List Nat)(h:w.length<=1000):addO (.tup (w.map D.str)) (.tup [.str m])=.ok (.f,.tup ((w++[m]).map D.str)):=by
 rw[wG,U5 (.inl (line_le (by rw[bD,Vc,V8];lia))),Vh];rfl
def ak(a:Jw):List Key:=[.inl a.1,.inr (S a.2.1),.inl a.2.2]
def bh(a b:Jw):Bool:=dN (ak a) (ak b)
def S_inj{a b:List Nat}(h:S a=S b):a=b:=by
 have:=V5 (fun s:Str=>s.cps.toList) h;simpa only[dy] using this
def G9(a:Jw):kT (ak a)=eA a:=by
 unfold kT ak eA;simp only[dU,VI,kD,dy]
theorem wJ{α β:Type}(f:α->β)(lt:β->β->Bool)(x:α):∀l:List α,ins lt (f x) (l.map f)=(ins (fun a b=>lt (f a) (f b)) x l).map f
 |[]=>rfl
 |y::ys=>by
  rw[dU,ins,ins];cases lt (f y) (f x) with
  |true=>rw[U5 rfl,U5 rfl,wJ f lt x ys,dU]
  |false=>rw[U8 U3,U8 U3,dU,dU]
theorem pE{α β:Type}(f:α->β)(lt:β->β->Bool):∀l:List α,aV lt (l.map f)=(aV (fun a b=>lt (f a) (f b)) l).map f
 |[]=>rfl
 |x::l=>by
  show ins lt (f x) (aV lt (l.map f))=_;rw[pE f lt l,wJ];rfl
def wK(as:List Jw):as.map eA=(as.map ak).map kT:=by
 rw[Vj];exact VW fun a _=>(G9 a).symm
def Ha(a b:Jw):Jg (eA a) (eA b)=decide (a=b):=by
 obtain⟨x,y,z⟩:=a;obtain⟨x',y',z'⟩:=b;unfold eA;simp only[Jg,iY];rw[Vp];simp
theorem gJ:∀(l:List Int) (b:Int),b<=l.foldl max b/\(∀x∈l,x<=l.foldl max b)/\(l.foldl max b=b\/l.foldl max b∈l)
 |[],b=>⟨Int.le_refl _,fun _ h=>(nomatch h),.inl rfl⟩
 |a::l,b=>by
  obtain⟨h1,h2,h3⟩:=gJ l (max b a);rw[W0];refine⟨by lia,fun x hx=>?_,?_⟩
  .rcases Vb.mp hx with rfl|hx
   .lia
   .exact h2 x hx
  .rcases h3 with h3|h3
   .rw[h3];by_cases h:b<=a
    .exact .inr (by rw[Int.max_eq_right h];exact UY)
    .exact .inl (Int.max_eq_left (by lia))
   .exact .inr (U4 _ h3)
def yG{ns:List Int}{x:Int}(h:x∈ns):x<=tI ns:=(gJ ns _).2.1 x h
def yH{ns:List Int}(h:ns≠[]):tI ns∈ns:=by
 cases ns with
 |nil=>exact absurd rfl h
 |cons a l=>
  rcases(gJ (a::l) a).2.2 with e|e
  .show List.foldl max a (a::l)∈a::l;rw[e];exact UY
  .exact e
def B5{ns:List Int}{d x:Int}(h:x∈ns):x<=NX.maxD ns d:=by
 unfold NX.maxD;rw[U8 (List.ne_nil_of_mem h)];exact yG h
def wL(ns:List Int)(d:Int):(ns=[]/\NX.maxD ns d=d)\/NX.maxD ns d∈ns:=by
 unfold NX.maxD;by_cases h:ns=[]
 .exact .inl ⟨h,U5 h⟩
 .rw[U8 h];exact .inr (yH h)
def qI(a:Jw):a.1<=sx a/\a.2.2<=sx a/\(sx a=a.1\/sx a=a.2.2):=by
 unfold sx;split
 .exact⟨by lia,by lia,.inr rfl⟩
 .exact⟨by lia,by lia,.inl rfl⟩
def pF{ap:List Jw}{a:Jw}(h:a∈ap):a.1<ba ap/\a.2.2<ba ap:=by
 have h1:=B5 (d:=0) (VX.mpr ⟨a,h,rfl⟩:sx a∈ap.map sx);obtain⟨h2,h3,_⟩:=qI a;unfold ba;lia
def um{ap:List Jw}(h:∀a∈ap,0<=a.1/\0<=a.2.2):1<=ba ap:=by
 unfold ba;rcases wL (ap.map sx) 0 with⟨_,e⟩|e
 .lia
 .obtain⟨a,ha,e2⟩:=nU e;have:=h a ha;obtain⟨h1,h2,_⟩:=qI a;lia
def dM{α:Type}(lt:α->α->Bool){l:List α}{a:α}:a∈aV lt l<->a∈l:=(dW lt l).mem_iff
structure Ra(nY:LNN)(as:List Jw)(mZ:Nat):Prop where
 mm:1<=mZ/\mZ<=12
 len:as.length<=60
 bd:∀a∈as,(0<=a.1/\a.1<(mZ:Int))/\0<=a.2.2/\a.2.2<(mZ:Int)
 nm:∀a∈as,a.2.1∈nY
 rc:∃f:Nat->Nat,∀j:Nat,1<=j->j<mZ->∃a∈as,a.2.2=(j:Int)/\∃b:Nat,f b<f j/\a.1=(b:Int)
def pG{ap:List Jw}{mZ:Nat}(hm:1<=mZ)(h:∀a∈ap,(0<=a.1/\a.1<(mZ:Int))/\0<=a.2.2/\a.2.2<(mZ:Int)):1<=ba ap/\ba ap<=(mZ:Int):=by
 refine⟨um fun a ha=>?_,?_⟩
 .have:=h a ha;lia
 .unfold ba;rcases wL (ap.map sx) 0 with⟨_,e⟩|e
  .lia
  .obtain⟨a,ha,e2⟩:=nU e;have:=h a ha;obtain⟨h1,h2,h3⟩:=qI a;lia
def Ra.sort{nY:LNN}{as:List Jw}{mZ:Nat}(r:Ra nY as mZ):Ra nY (aV bh as) mZ:=by
 refine⟨r.mm,by rw[jj];exact r.len,fun a ha=>r.bd a ((dM bh).mp ha),fun a ha=>r.nm a ((dM bh).mp ha),?_⟩;obtain⟨f,h⟩:=r.rc;refine⟨f,fun j h1 h2=>?_⟩;obtain⟨a,ha,q⟩:=h j h1 h2;exact⟨a,(dM bh).mpr ha,q⟩
def wM(as:List Jw)(h:as.length<64):fN [.lst (as.map eA)]=.ok (.l .f,.lst ((aV bh as).map eA)):=by
 have key:kU (as.map eA)=some ((aV bh as).map eA):=by
  cases as with
  |nil=>rfl
  |cons a as=>
   have e1:jQ ((a::as).map eA)=some ((a::as).map ak):=by rw[wK,jz]
   have e2:sameKinds (ak a) (as.map ak)=true:=by
    unfold sameKinds;rw[Wm,Va,Vy];exact⟨rfl,fun b _=>rfl⟩
   unfold kU;rw[e1,dU,dU];dsimp only[eA,dQ,fX];rw[U5 e2,<-dU,pE ak dN,wK];rfl
 unfold fN;dsimp only;rw[U5 (by rw[bD];exact h),key]
def uo{α:Type}{l:List α}{x:α}{j:Nat}{y:α}(h:(l++[x])[j]?=some y):l[j]?=some y\/(j=l.length/\y=x):=by
 by_cases hj:j<l.length
 .rw[List.getElem?_append_left hj]at h;exact .inl h
 .rw[List.getElem?_append_right (by lia)]at h;by_cases e:j-l.length=0
  .rw[e]at h;exact .inr ⟨by lia,by simpa using h.symm⟩
  .rw[List.getElem?_eq_none (by simp;lia)]at h;cases h
def cell(ns:List Int)(k:Nat):Int:=ns.getD k 0
def j7(ns:List Int)(k:Nat):aI [.lst (ns.map D.int),.int (k:Int)]=.ok (.f,.int (cell ns k)):=by
 unfold aI hZ cell;rw[bq (h:=by rfl)];simp only[pv,seval,op,bD];by_cases h:k<ns.length
 .have h1:(k:Int)<(ns.length:Int):=by lia
  simp only[h1,W5,pv,seval,my h]
 .have h1:¬ (k:Int)<(ns.length:Int):=by lia
  simp only[h1,WE,pv,seval,eD,List.getD_eq_getElem?_getD,List.getElem?_eq_none (Nat.le_of_not_lt h),Wv]
def EG(x y:Int)(h:dE x=true):Bo (.int x) (.int y)=.ok (.f,.int (x*y)):=by rw[qD,h,Bool.true_or,U5 rfl]
def HG(x y:Int)(h:dE y=true):Bo (.int x) (.int y)=.ok (.f,.int (x*y)):=by rw[qD,h,Bool.or_true,U5 rfl]
def sy(x:Int)(h:0<=x)(h2:x<=4294967296):dE x=true:=by
 unfold dE;rw[Ve];lia
def uz(c k:Int):Int:=((((c%2147483647+48271*(k+1))*(c%2147483647+48271*(k+1))+69621*k)%2147483647)*(((c%2147483647+48271*(k+1))*(c%2147483647+48271*(k+1))+69621*k)%2147483647)+16807*k+1)%2147483647
def lG(c k:Int)(hk:0<=k)(Rp:k<=1000):aW [.int c,.int k]=.ok (.f,.int (uz c k)):=by
 have b1:=fG c 2147483647 (by decide);have b2:=fG ((c%2147483647+48271*(k+1))*(c%2147483647+48271*(k+1))+69621*k) 2147483647 (by decide);unfold aW jX uz;rw[bq (h:=by rfl)];rw[ay (env':=[some (.f,.int c),some (.f,.int k),some (.f,.int (c%2147483647+48271*(k+1)))]) (by simp only[pv,seval,op,j6 _ 2147483647 (by decide),EG 48271 (k+1) (by decide)])];have hs:dE (c%2147483647+48271*(k+1))=true:=sy _ (by lia) (by lia);generalize c%2147483647+48271*(k+1)=x at *;rw[ay (env':=[some (.f,.int c),some (.f,.int k),some (.f,.int ((x*x+69621*k)%2147483647))]) (by simp only[pv,seval,op,j6 _ 2147483647 (by decide),EG x x hs,EG 69621 k (by decide)])];generalize (x*x+69621*k)%2147483647=y at *;have hs:dE y=true:=sy _ (by lia) (by lia);simp only[pv,seval,op,j6 _ 2147483647 (by decide),EG y y hs,EG 16807 k (by decide)]
theorem sH:∀l:List Nat,joinL [] (l.map fun c=>[c])=l
 |[]=>rfl
 |[c]=>rfl
 |c::d::l=>by
  have ih:=sH (d::l);show[c]++[]++joinL [] ((d::l).map fun c=>[c])=_;rw[ih];rfl
theorem wN:∀l:List Nat,((l.map fun c=>[c]).map List.length).sum=l.length
 |[]=>rfl
 |c::l=>by
  rw[dU,dU,Zj,wN l];show 1+l.length=l.length+1;lia
def B6(l:List Nat)(h:l.length<=1000):wb [] [.lst ((l.map fun c=>[c]).map D.str)]=.ok (.f,.str l):=by
 unfold wb;dsimp only;rw[fF];dsimp only;rw[U5 (by rw[wN,V8,Nat.mul_zero];lia),sH]
def zS(a:List Nat)(l:LNN):NF (.str a) (.lst (l.map D.str))=.ok (.f,.bl (decide (a∈l))):=by
 unfold NF;dsimp only;rw[fE,yy,plainD];all_goals simp
def Nq(base:List Int)(wd sp:Nat)(tk:Bool)(k:Nat):List Int:=if tk then base.take (k+1) else(base.take wd).set sp ((base.getD sp 0+(k:Int))%26)
def Ly(base:List Int)(wd sp:Nat)(tk:Bool)(k:Nat):List Nat:=(Nq base wd sp tk k).map fun j=>97+j.toNat
def B7(l:List Int)(hb:∀j∈l,0<=j/\j<26):c7 (aH 0) eF (aB Ji (aw 1) (aw 0)) (l.map D.int) [none,some (.f,.str Lx)]=.ok (((l.map fun j=>97+j.toNat).map fun c=>[c]).map D.str):=by
 rw[bY (r:=fun j:Int=>D.str [97+j.toNat]) (fun env=>∃t,env=[t,some (.f,.str Lx)]) l ?_ _ ⟨none,rfl⟩]
 .rw[Vj,Vj];rfl
 .rintro j hj env ⟨t,rfl⟩;obtain⟨h0,h1⟩:=hb j hj;refine⟨[some (.f,.int j),some (.f,.str Lx)],rfl,.f,[some (.f,.int j),some (.f,.str Lx)],?_,_,rfl⟩;simp only[pv,seval,op,EC j h0 h1]
def Hb(base:List Int)(hb:∀j∈base,0<=j/\j<26)(wd sp:Nat)(tk:Bool)(k:Nat):∀j∈Nq base wd sp tk k,0<=j/\j<26:=by
 intro j hj;unfold Nq at hj;split at hj
 .exact hb j (XI hj)
 .rcases List.mem_or_eq_of_mem_set hj with h|h
  .exact hb j (XI h)
  .rw[h];exact fG _ _ (by decide)
def wO(base:List Int)(hl:base.length=8)(wd sp:Nat)(tk:Bool)(k:Nat):(Nq base wd sp tk k).length<=8:=by
 unfold Nq;split
 .rw[Vt];lia
 .rw[VO,Vt];lia
def EH(J2:Int)(base:List Int)(hl:base.length=8)(hb:∀j∈base,0<=j/\j<26)(wd sp:Nat)(hw:wd<=8)(hs:sp<wd)(tk:Bool)(SQ:(J2 / 64%4==1)=tk)(l:LNN)(O0:l.length<=10)(k:Nat)(t7:Option R):
  ∃u7,c9 [some (.f,.int J2),some (.f,.str Lx),some (.l .f,.lst (base.map D.int)),some (.f,.int (wd:Int)),some (.f,.int (sp:Int)),some (.l .f,.lst (l.map D.str)),some (.f,.int (k:Int)),t7]=.ok (.nx [some (.f,.int J2),some (.f,.str Lx),some (.l .f,.lst (base.map D.int)),some (.f,.int (wd:Int)),some (.f,.int (sp:Int)),some (.l .f,.lst ((l++[Ly base wd sp tk k]).map D.str)),some (.f,.int (k:Int)),u7]):=by
 have NT:cutD (base.map D.int) none (some (wd:Int))=(base.take wd).map D.int:=by rw[nI,XQ]
 have N7:Kd ((base.take wd).map D.int) (sp:Int)=some (.int (base.getD sp 0)):=by
  rw[my (by rw[Vt];lia)];congr 2
  rw[List.getD_eq_getElem?_getD,List.getD_eq_getElem?_getD,List.getElem?_take_of_lt hs]
 have Ky:ixN (base.take wd).length (sp:Int)=some sp:=B0 _ _ (by rw[Vt];lia);have Ux:=wO base hl wd sp tk k;have O1:=B7 (Nq base wd sp tk k) (Hb base hb wd sp tk k);have hj:=B6 (Ly base wd sp tk k) (by unfold Ly;rw[bD];lia);have hz:(l.map D.str).length<sizeLine:=ko (by rw[bD];lia);have hzl:(((Ly base wd sp tk k).map fun c=>[c]).map D.str).length<=sizeLine:=bG (by unfold Ly;rw[bD,bD,bD];lia);have Ni:=PV.flat_strs ((Ly base wd sp tk k).map fun c=>[c]);have O1:c7 (aH 0) eF (aB Ji (aw 1) (aw 0)) ((Nq base wd sp tk k).map D.int) [none,some (.f,.str Lx)]=.ok (((Ly base wd sp tk k).map fun c=>[c]).map D.str):=O1;unfold c9;rw[ay (env':=[some (.f,.int J2),some (.f,.str Lx),some (.l .f,.lst (base.map D.int)),some (.f,.int (wd:Int)),some (.f,.int (sp:Int)),some (.l .f,.lst (l.map D.str)),some (.f,.int (k:Int)),some (.l .f,.lst ((base.take wd).map D.int))]) (by simp only[pv,seval,op,NT])];rw[ay (env':=[some (.f,.int J2),some (.f,.str Lx),some (.l .f,.lst (base.map D.int)),some (.f,.int (wd:Int)),some (.f,.int (sp:Int)),some (.l .f,.lst (l.map D.str)),some (.f,.int (k:Int)),some (.l .f,.lst (((base.take wd).set sp ((base.getD sp 0+(k:Int))%26)).map D.int))]) (by
  rw[List.map_set];simp only[pv,seval,op,N7,j6 _ 26 (by decide),bD,Ky])]
 rw[ay (env':=[some (.f,.int J2),some (.f,.str Lx),some (.l .f,.lst (base.map D.int)),some (.f,.int (wd:Int)),some (.f,.int (sp:Int)),some (.l .f,.lst (l.map D.str)),some (.f,.int (k:Int)),some (.l .f,.lst ((Nq base wd sp tk k).map D.int))]) (by
  unfold Nq;cases tk with
  |true=>
   have R3:cutD (base.map D.int) none (some ((k:Int)+1))=(base.take (k+1)).map D.int:=by rw[show(k:Int)+1=((k+1:Nat):Int) by lia,nI,XQ]
   simp only[pv,seval,op,g6 _ 64 (by decide) (by decide),j6 _ 4 (by decide),SQ,R3]
  |false=>simp only[pv,seval,op,g6 _ 64 (by decide) (by decide),j6 _ 4 (by decide),SQ,eD])]
 refine⟨some (.l .f,.lst ((Nq base wd sp tk k).map D.int)),?_⟩;generalize Nq base wd sp tk k=W at *;generalize Ly base wd sp tk k=V at *;rw[Vh,dU,VI];generalize (aB Ji (aw 1) (aw 0))=GG at O1 ⊢;simp only[pv,seval,op,O1,hzl,Ni,hj,hz]
def B8(base:List Int)(hl:base.length=8)(hb:∀j∈base,0<=j/\j<26)(wd sp:Nat)(hw:wd<=8)(hs:sp<wd)(tk:Bool)(k k':Nat)(hk:k<=5)(hk':k'<=5)(e:Ly base wd sp tk k=Ly base wd sp tk k'):k=k':=by
 unfold Ly Nq at e;cases tk with
 |true=>
  have:=V5 List.length e;simp only[W8,bD,Vt]at this;lia
 |false=>
  have e2:=V5 (fun l=>l[sp]?) e;have JL:sp<(base.take wd).length:=by rw[Vt];lia
  simp only[eD,XB,List.getElem?_map,List.getElem?_set_self JL,YQ,Yi]at e2;have b1:=fG (base.getD sp 0+(k:Int)) 26 (by decide);have b2:=fG (base.getD sp 0+(k':Int)) 26 (by decide);generalize base.getD sp 0=z at *;lia
def B9(J2:Int):∃l:LNN,l.length=5/\l.Nodup/\l.Pairwise (fun a b=>M9 b a=false)/\cU [.int J2]=.ok (.l .f,.lst (l.map D.str)):=by
 unfold cU jY;rw[bq (h:=by rfl)];rw[ay (env':=[some (.f,.int J2),some (.f,.str Lx),none,none,none,none,none,none]) (by simp only[pv,seval,op];rfl)];have hc:c7 (aH 0) eF (aB eC (aq (dA aW (ag (aw 1) (ag (aw 0) aG)))) (aq (aE (.int 26)))) ((List.range 8).map fun(k:Nat)=>D.int (k:Int)) [none,some (.f,.int J2)]=.ok (((List.range 8).map fun(k:Nat)=>uz J2 (k:Int)%26).map D.int):=by
  rw[bY (r:=fun k:Nat=>D.int (uz J2 (k:Int)%26)) (fun env=>∃t,env=[t,some (.f,.int J2)]) (List.range 8) ?_ _ ⟨none,rfl⟩]
  .rw[Vj];rfl
  .rintro k hk env ⟨t,rfl⟩;have hk:=VF.mp hk;refine⟨[some (.f,.int (k:Int)),some (.f,.int J2)],rfl,.f,[some (.f,.int (k:Int)),some (.f,.int J2)],?_,_,rfl⟩;simp only[pv,seval,op,lG J2 (k:Int) (by lia) (by lia),j6 _ 26 (by decide)]
 have SR:((List.range 8).map fun(k:Nat)=>uz J2 (k:Int)%26).length=8:=rfl;have Rg:∀j∈((List.range 8).map fun(k:Nat)=>uz J2 (k:Int)%26),0<=j/\j<26:=by
  intro j hj;obtain⟨k,_,rfl⟩:=nU hj;exact fG _ _ (by decide)
 generalize ((List.range 8).map fun(k:Nat)=>uz J2 (k:Int)%26)=base at hc SR Rg;have hlen:(base.map D.int).length<=sizeLine:=bG (by rw[bD];lia);have hff:=Jm base;rw[ay (env':=[some (.f,.int J2),some (.f,.str Lx),some (.l .f,.lst (base.map D.int)),none,none,none,none,none]) (by
  generalize (aB eC (aq (dA aW (ag (aw 1) (ag (aw 0) aG)))) (aq (aE (.int 26))))=GG at hc ⊢;simp only[pv,seval,op];rw[U5 (by decide)];simp only[pv,seval,op,show(8:Int).toNat=8 from rfl,hc,hlen,hff])]
 have m8:=fG J2 8 (by decide);obtain⟨wd,ew⟩:=Vl (show 0<=1+J2%8 by lia);have msp:=fG (J2 / 8) (wd:Int) (by lia);obtain⟨sp,es⟩:=Vl msp.1;rw[ay (env':=[some (.f,.int J2),some (.f,.str Lx),some (.l .f,.lst (base.map D.int)),some (.f,.int (wd:Int)),none,none,none,none]) (by simp only[pv,seval,op,j6 _ 8 (by decide),ew])];rw[ay (env':=[some (.f,.int J2),some (.f,.str Lx),some (.l .f,.lst (base.map D.int)),some (.f,.int (wd:Int)),some (.f,.int (sp:Int)),none,none,none]) (by simp only[pv,seval,op,g6 _ 8 (by decide) (by decide),j6 _ (wd:Int) (by lia),es])];rw[ay (env':=[some (.f,.int J2),some (.f,.str Lx),some (.l .f,.lst (base.map D.int)),some (.f,.int (wd:Int)),some (.f,.int (sp:Int)),some (.l .f,.lst []),none,none]) (by simp only[pv,seval,op])];obtain⟨tk,SQ⟩:∃tk,(J2 / 64%4==1)=tk:=⟨_,rfl⟩
 obtain⟨env',ef,t6,t7,rfl⟩:=nG (a:=aH 6) (g:=c9) (e:=fun k=>D.int (k:Int)) 5 (fun i env=>∃(t6 t7:Option R),env=[some (.f,.int J2),some (.f,.str Lx),some (.l .f,.lst (base.map D.int)),some (.f,.int (wd:Int)),some (.f,.int (sp:Int)),some (.l .f,.lst (((List.range i).map (Ly base wd sp tk)).map D.str)),t6,t7]) (by
  rintro k env hk ⟨t6,t7,rfl⟩;obtain⟨u7,e⟩:=EH J2 base SR Rg wd sp (by lia) (by lia) tk SQ ((List.range k).map (Ly base wd sp tk)) (by rw[bD,Vi];lia) k t7;rw[show((List.range k).map (Ly base wd sp tk))++[Ly base wd sp tk k]=(List.range (k+1)).map (Ly base wd sp tk) by rw[List.range_succ,Vh];rfl]at e;exact⟨_,rfl,_,e,_,_,rfl⟩) _ ⟨none,none,rfl⟩
 rw[List.range_zero,VI,VI]at ef;rw[ay (env':=_) (by
  unfold ia;simp only[pv,seval,op];rw[U5 (by decide)];simp only[pv,seval,op,show(5:Int).toNat=5 from rfl];exact ef)]
 unfold gv;have NU:((List.range 5).map (Ly base wd sp tk)).length=5:=by rw[bD,Vi]
 have PR:((List.range 5).map (Ly base wd sp tk)).Nodup:=di _ 5 fun i j hi hj e=>B8 base SR Rg wd sp (by lia) (by lia) tk i j (by lia) (by lia) e
 have Uy:∀n∈((List.range 5).map (Ly base wd sp tk)),n.length<=8:=by
  intro n hn;obtain⟨k,_,rfl⟩:=nU hn;unfold Ly;rw[bD];exact wO base SR wd sp tk k
 generalize ((List.range 5).map (Ly base wd sp tk))=l at NU PR Uy;by_cases hm:[109,111,118,101,115]∈l
 .have L5:c7 (aH 0) eF (aB addO (aq (aE (.str [115]))) (aw 0)) (l.map D.str) [none]=.ok ((l.map fun n=>115::n).map D.str):=by
   rw[bY (r:=fun n:List Nat=>D.str (115::n)) (fun env=>∃t,env=[t]) l ?_ _ ⟨none,rfl⟩]
   .rw[Vj];rfl
   .rintro n hn env ⟨t,rfl⟩;have:=Uy n hn;refine⟨[some (.f,.str n)],rfl,.f,[some (.f,.str n)],?_,_,rfl⟩;simp only[pv,seval,op,IL [115] n (by rw[VC];lia)]
  have TR:((l.map fun n=>115::n).map D.str).length<=sizeLine:=bG (by rw[bD,bD];lia);have hnd2:(l.map fun n=>115::n).Nodup:=by
   rw[W7,Xz];exact(W7.mp PR).imp fun{a b} h e=>h (WC e).2
  have Ni:=PV.flat_strs (l.map fun n=>115::n);rw[ay (env':=[some (.f,.int J2),some (.f,.str Lx),some (.l .f,.lst (base.map D.int)),some (.f,.int (wd:Int)),some (.f,.int (sp:Int)),some (.l .f,.lst ((l.map fun n=>115::n).map D.str)),t6,t7]) (by
   generalize (aB addO (aq (aE (.str [115]))) (aw 0))=GG at L5 ⊢;simp only[pv,seval,op,zS,hm,W5,L5,TR,Ni])]
  refine⟨aV M9 (l.map fun n=>115::n),by rw[jj,bD];exact NU,(dW M9 _).nodup_iff.mpr hnd2,eG qh _,?_⟩;simp only[pv,seval,op,wH (l.map fun n=>115::n) (by rw[bD];lia)]
 .rw[ay (env':=[some (.f,.int J2),some (.f,.str Lx),some (.l .f,.lst (base.map D.int)),some (.f,.int (wd:Int)),some (.f,.int (sp:Int)),some (.l .f,.lst (l.map D.str)),t6,t7]) (by simp only[pv,seval,op,zS,hm,WE,eD])];refine⟨aV M9 l,by rw[jj];exact NU,(dW M9 _).nodup_iff.mpr PR,eG qh _,?_⟩;simp only[pv,seval,op,wH l (by lia)]
def EI(env:PV.Env)(fo:FO)(fp Jf fq:FP):GK fo fp Jf fq env=Res.bnd (fo env) (f:=⟨fun p=>Res.bnd (fp p.2) (f:=⟨fun q=>Res.bnd (Jf q.2) (f:=⟨fun t=>Res.bnd (fq t.2) (f:=⟨fun u=>Res.bnd (Kf u.2 p.1) (f:=⟨fun d=>Res.bnd (Ef d q.1 t.1 u.1) (f:=⟨fun r=>.ok (r,u.2)⟩)⟩)⟩)⟩)⟩)⟩):=id rfl
def Ca(env:PV.Env)(fa fb fc:FX):BB fa fb fc env=Res.bnd (fa env) (f:=⟨fun p=>Res.bnd (fb p.2) (f:=⟨fun q=>Res.bnd (fc q.2) (f:=⟨fun t=>.ok ((.t [.f,q.1.1,t.1.1],.tup [p.1.2,q.1.2,t.1.2]),t.2)⟩)⟩)⟩):=id rfl
def yI{α β:Type}(f:α->β)(l:List α)(lo hi:Option Int)(c:Int):gq (l.map f) lo hi c=(gq l lo hi c).map f:=by
 unfold gq;rw[bD,List.map_filterMap];congr 1
 funext i
 rw[List.getElem?_map]
def Hc(ds:List D)(lo hi:Option Int):Ef (.lst ds) lo hi (some 6)=.ok (.l .f,.lst (gq ds lo hi 6)):=id rfl
def EJ(ns:List Int)(first k:Int)(hk:0<=k/\k<=1000):∃v:Int,dm [.lst (ns.map D.int),.int first,.int k]=.ok (.f,.int v):=by
 unfold dm ll;rw[bq (h:=by rfl)];rw[ay (env':=[some (.f,.lst (ns.map D.int)),some (.f,.int first),some (.f,.int k),some (.f,.int (7+k)),none]) (by simp only[pv,seval,op])];obtain⟨env',ef,v,t4,rfl⟩:=for_list (a:=aH 4) (g:=eY) (e:=D.int) (gq ns (some (first+k)) (some (first+84)) 6) (fun j env=>∃(v:Int) (t4:Option R),env=[some (.f,.lst (ns.map D.int)),some (.f,.int first),some (.f,.int k),some (.f,.int v),t4]) (by
  rintro j c env hj ⟨v,t4,rfl⟩;refine⟨_,rfl,_,?_,uz (c+v) k,some (.f,.int c),rfl⟩;unfold eY;simp only[pv,seval,op,lG (c+v) k hk.1 hk.2]) _ ⟨7+k,none,rfl⟩
 rw[ay (env':=_) (by
  unfold jc;simp only[pv,seval,op,EI,Hc,yI];exact ef)]
 unfold ic;exact⟨v,by simp only[pv,seval,op]⟩
def Tk(l:List Int)(cnt:Nat):Prop:=l.length=cnt/\∀x∈l,0<=x/\x<=10
def Tk.app{l:List Int}{cnt:Nat}(h:Tk l cnt){x:Int}(hx:0<=x/\x<=10):Tk (l++[x]) (cnt+1):=by
 refine⟨by rw[nH,h.1];rfl,fun y hy=>?_⟩;rcases uk hy with hy|hy
 .exact h.2 y hy
 .rw[lM hy];exact hx
def Cb(number:Int)(cnt:Nat)(hc:cnt<=10):∃(b:Int) (ts gs:List Int),(0<=b/\b<=10)/\Tk ts cnt/\Tk gs cnt/\cV [.int number,.int (cnt:Int)]=.ok (.t [.f,.l .f,.l .f],.tup [.int b,.lst (ts.map D.int),.lst (gs.map D.int)]):=by
 unfold cV jZ;rw[bq (h:=by rfl)];rw[ay (env':=[some (.f,.int number),some (.f,.int (cnt:Int)),some (.l .f,.lst []),none,none,none,none,none]) (by simp only[pv,seval,op])];rw[ay (env':=[some (.f,.int number),some (.f,.int (cnt:Int)),some (.l .f,.lst []),some (.l .f,.lst []),none,none,none,none]) (by simp only[pv,seval,op])];obtain⟨env',ef,ts,gs,t4,t5,t6,t7,h1,h2,rfl⟩:=nG (a:=aH 4) (g:=eg) (e:=fun k=>D.int (k:Int)) cnt (fun i env=>∃(ts gs:List Int) (t4 t5 t6 t7:Option R),Tk ts i/\Tk gs i/\env=[some (.f,.int number),some (.f,.int (cnt:Int)),some (.l .f,.lst (ts.map D.int)),some (.l .f,.lst (gs.map D.int)),t4,t5,t6,t7]) (by
  rintro j env hj ⟨ts,gs,t4,t5,t6,t7,h1,h2,rfl⟩;have z1:(ts.map D.int).length<sizeLine:=ko (by rw[bD,h1.1];lia);have z2:(gs.map D.int).length<sizeLine:=ko (by rw[bD,h2.1];lia);have O2:=lG number (j:Int) (by lia) (by lia);generalize uz number (j:Int)=x at O2;have b1:=fG x 5 (by decide);have b2:=fG (x / 8) 4 (by decide);refine⟨[some (.f,.int number),some (.f,.int (cnt:Int)),some (.l .f,.lst (ts.map D.int)),some (.l .f,.lst (gs.map D.int)),some (.f,.int (j:Int)),t5,t6,t7],rfl,_,?_,ts++[(if 0<0-(x%5-2) then 0-(x%5-2) else 0)+x / 8%4 / 3],gs++[(if 0<x%5-2 then x%5-2 else 0)+x / 8%4 / 3],some (.f,.int (j:Int)),some (.f,.int x),some (.f,.int (x%5-2)),some (.f,.int (x / 8%4 / 3)),h1.app ?_,h2.app ?_,rfl⟩
  .unfold eg;rw[ay (env':=[some (.f,.int number),some (.f,.int (cnt:Int)),some (.l .f,.lst (ts.map D.int)),some (.l .f,.lst (gs.map D.int)),some (.f,.int (j:Int)),some (.f,.int x),t6,t7]) (by simp only[pv,seval,op,O2])];rw[ay (env':=[some (.f,.int number),some (.f,.int (cnt:Int)),some (.l .f,.lst (ts.map D.int)),some (.l .f,.lst (gs.map D.int)),some (.f,.int (j:Int)),some (.f,.int x),some (.f,.int (x%5-2)),t7]) (by simp only[pv,seval,op,j6 _ 5 (by decide)])];generalize x%5-2=y;rw[ay (env':=[some (.f,.int number),some (.f,.int (cnt:Int)),some (.l .f,.lst (ts.map D.int)),some (.l .f,.lst (gs.map D.int)),some (.f,.int (j:Int)),some (.f,.int x),some (.f,.int y),some (.f,.int (x / 8%4 / 3))]) (by simp only[pv,seval,op,j6 _ 4 (by decide),g6 _ 8 (by decide) (by decide),g6 _ 3 (by decide) (by decide)])];generalize x / 8%4 / 3=z;rw[Vh,Vh,dU,dU,VI];rw[ay (env':=[some (.f,.int number),some (.f,.int (cnt:Int)),some (.l .f,.lst (ts.map D.int++[.int ((if 0<0-y then 0-y else 0)+z)])),some (.l .f,.lst (gs.map D.int)),some (.f,.int (j:Int)),some (.f,.int x),some (.f,.int y),some (.f,.int z)]) (by simp only[pv,seval,op,z1])];simp only[pv,seval,op,z2]
  .split <;> lia
  .split <;> lia) _ ⟨[],[],none,none,none,none,⟨rfl,(fun _ h=>nomatch h)⟩,⟨rfl,(fun _ h=>nomatch h)⟩,rfl⟩
 rw[VI]at ef;rw[ay (env':=_) (by
  unfold ig;simp only[pv,seval,op];rw[U5 (by lia)];simp only[pv,seval,op,VG];exact ef)]
 unfold gx;have b:=fG (number / 16) 4 (by decide);exact⟨number / 16%4,ts,gs,by lia,h1,h2,by simp only[pv,seval,op,Ca,g6 _ 16 (by decide) (by decide),j6 _ 4 (by decide)]⟩
abbrev Pl:=Int×List Int×List Int
def eP(p:Pl):D:=.tup [.int p.1,.tup (p.2.1.map D.int),.tup (p.2.2.map D.int)]
def Kn(p:Pl)(cnt:Nat):Prop:=p.2.1.length=cnt/\p.2.2.length=cnt
def EK(f:Int)(l:List Int)(h:∀x∈l,0<=x/\x<=10):c7 (aH 0) eF (aB jr (aw 1) (aw 0)) (l.map D.int) [none,some (.f,.int f)]=.ok ((l.map fun x=>f*x).map D.int):=by
 rw[bY (r:=fun x:Int=>D.int (f*x)) (fun env=>∃t,env=[t,some (.f,.int f)]) l ?_ _ ⟨none,rfl⟩]
 .rw[Vj];rfl
 .rintro x hx env ⟨t,rfl⟩;have:=h x hx;refine⟨[some (.f,.int x),some (.f,.int f)],rfl,.f,[some (.f,.int x),some (.f,.int f)],?_,_,rfl⟩;simp only[pv,seval,op,HG f x (pD x (by lia) (by lia))]
def sI(b:Int)(hb:0<=b/\b<=10)(ts gs:List Int)(cnt:Nat)(hc:cnt<=10)(h1:Tk ts cnt)(h2:Tk gs cnt)(J2:Int):∃p:Pl,Kn p cnt/\b9 [.tup [.int b,.lst (ts.map D.int),.lst (gs.map D.int)],.int J2]=.ok (.f,eP p):=by
 have p50:yf (.int 10) (.int 50)=.ok (.f,.int (10 ^ 50)):=HE 50 (by decide);have m50:=fG J2 (10 ^ 50) (by decide);unfold b9 jd;rw[bq (h:=by rfl)];rw[ay (env':=[some (.f,.tup [.int b,.lst (ts.map D.int),.lst (gs.map D.int)]),some (.f,.int J2),some (.f,.int (1+J2%10 ^ 50)),none,none,none]) (by simp only[pv,↓reduceIte,Nat.reduceAdd,Nat.reduceLT,Nat.reduceLeDiff,Nat.reduceEqDiff,op,p50,j6 _ (10 ^ 50) (by decide)])];have hf:0<1+J2%10 ^ 50:=by
  generalize J2%10 ^ 50=q at m50;lia
 generalize 1+J2%10 ^ 50=f at hf;rw[ay (env':=[some (.f,.tup [.int b,.lst (ts.map D.int),.lst (gs.map D.int)]),some (.f,.int J2),some (.f,.int f),some (.f,.int b),some (.f,.lst (ts.map D.int)),some (.f,.lst (gs.map D.int))]) (by simp only[pv,↓reduceIte,Nat.reduceAdd,Nat.reduceLT,Nat.reduceLeDiff,Nat.reduceEqDiff,op])];have c1:=EK f ts h1.2;have c2:=EK f gs h2.2;have l1:((ts.map fun x=>f*x).map D.int).length<=sizeLine:=bG (by rw[bD,bD,h1.1];lia);have l2:((gs.map fun x=>f*x).map D.int).length<=sizeLine:=bG (by rw[bD,bD,h2.1];lia);have f1:=Jm (ts.map fun x=>f*x);have f2:=Jm (gs.map fun x=>f*x);refine⟨(f*b+J2 / 7%f,ts.map fun x=>f*x,gs.map fun x=>f*x),⟨by rw[bD];exact h1.1,by rw[bD];exact h2.1⟩,?_⟩;unfold eP;dsimp only;generalize (ts.map fun x=>f*x).map D.int=T1 at *;generalize (gs.map fun x=>f*x).map D.int=T2 at *;have Uz:=HG f b (pD b (by lia) (by lia));have R4:=j6 (J2 / 7) f hf;have hdiv:=g6 J2 7 (by decide) (by decide);generalize f*b=fb at Uz ⊢;generalize (J2 / 7)%f=cf at R4 ⊢;rw[ay (env':=[some (.f,.tup [.int b,.lst (ts.map D.int),.lst (gs.map D.int)]),some (.f,.int J2),some (.f,.int f),some (.f,.int b),some (.f,.tup T1),some (.f,.lst (gs.map D.int))]) (by
  generalize (aB jr (aw 1) (aw 0))=GG at c1 ⊢;simp only[pv,↓reduceIte,Nat.reduceAdd,Nat.reduceLT,Nat.reduceLeDiff,Nat.reduceEqDiff,op,c1,l1,f1])]
 have UA:∀GG,GG=(aB jr (aw 1) (aw 0))->c7 (aH 0) eF GG (gs.map D.int) [none,some (.f,.int f)]=.ok T2:=fun GG h=>by rw[h];exact c2
 rw[show(dY (fH (aA (aB addO (aq (aB jr (aw 2) (aw 3))) (aq (aB eC (aq (aB dk (aw 1) (aq (aE (.int 7))))) (aw 2)))) (aA (aR 4) (aA (a7 cT (ag (aq (c8 (Kh (jA 5) (Kh (iy (aR 5)) (iz (aR 5)))) [none,some 2] (aH 0) eF (aB jr (aw 1) (aw 0)))) aG)) br)))))=(fun GG=>dY (fH (aA (aB addO (aq (aB jr (aw 2) (aw 3))) (aq (aB eC (aq (aB dk (aw 1) (aq (aE (.int 7))))) (aw 2)))) (aA (aR 4) (aA (a7 cT (ag (aq (c8 (Kh (jA 5) (Kh (iy (aR 5)) (iz (aR 5)))) [none,some 2] (aH 0) eF GG)) aG)) br))))) (aB jr (aw 1) (aw 0)) from rfl];generalize eGG:(aB jr (aw 1) (aw 0))=GG;have c2:=UA GG eGG.symm;clear eGG UA;simp only[pv,↓reduceIte,Nat.reduceAdd,Nat.reduceLT,Nat.reduceLeDiff,Nat.reduceEqDiff,op,Uz,R4,hdiv,c2,l2,f2]
def yJ(ns:List Int)(first:Nat)(cnt:Nat)(hc:cnt<=10)(ps:List Pl)(UB:∀p∈ps,Kn p cnt)(hl:ps.length<=100)(k:Nat)(hk:k<=100)(t5 t6 t7:Option R):
  ∃(Ki:List Pl) (u5 u6 u7:Option R),(∀p∈Ki,Kn p cnt)/\ps.length+1<=Ki.length/\Ki.length<=ps.length+2/\cM [some (.f,.lst (ns.map D.int)),some (.f,.int (first:Int)),some (.f,.int (cnt:Int)),some (.l .f,.lst (ps.map eP)),some (.f,.int (k:Int)),t5,t6,t7]=.ok (.nx [some (.f,.lst (ns.map D.int)),some (.f,.int (first:Int)),some (.f,.int (cnt:Int)),some (.l .f,.lst (Ki.map eP)),some (.f,.int (k:Int)),u5,u6,u7]):=by
 obtain⟨v,ev⟩:=EJ ns (first:Int) (k:Int) (by lia);obtain⟨b,ts,gs,hb,h1,h2,ep⟩:=Cb v cnt hc;have c1:=j7 ns (first+k);rw[show((first+k:Nat):Int)=(first:Int)+(k:Int) by lia]at c1;have c2:=j7 ns (first+6+k);rw[show((first+6+k:Nat):Int)=(first:Int)+6+(k:Int) by lia]at c2;obtain⟨p1,UC,e1⟩:=sI b hb ts gs cnt hc h1 h2 (cell ns (first+k));have m4:=fG (v / 256) 4 (by decide);obtain⟨p2,Pf,e2⟩:=sI (v / 256%4) (by lia) gs ts cnt hc h2 h1 (cell ns (first+6+k));have LN:aO (.t [.f,.l .f,.l .f]) (.tup [.int b,.lst (ts.map D.int),.lst (gs.map D.int)])=true:=by
  have f1:=Jm ts;have f2:=Jm gs;simp only[aO,jN,flatD];rw[<-cG,<-cG,f1,f2];rfl
 have SS:∀p:Pl,flatD (eP p)=true:=fun p=>by
  unfold eP;rw[cN];simp only[flatDs,cN,Jm,kA];rfl
 have hz1:(ps.map eP).length<sizeLine:=ko (by rw[bD];lia);have N6:(ps.map eP++[eP p1]).length<sizeLine:=ko (by rw[nH,bD,VC];lia);unfold cM;rw[ay (env':=[some (.f,.lst (ns.map D.int)),some (.f,.int (first:Int)),some (.f,.int (cnt:Int)),some (.l .f,.lst (ps.map eP)),some (.f,.int (k:Int)),some (.f,.int v),t6,t7]) (by simp only[pv,seval,op,ev])];rw[ay (env':=[some (.f,.lst (ns.map D.int)),some (.f,.int (first:Int)),some (.f,.int (cnt:Int)),some (.l .f,.lst (ps.map eP)),some (.f,.int (k:Int)),some (.f,.int v),some (.t [.f,.l .f,.l .f],.tup [.int b,.lst (ts.map D.int),.lst (gs.map D.int)]),t7]) (by simp only[pv,seval,op,ep,LN])];rw[ay (env':=[some (.f,.lst (ns.map D.int)),some (.f,.int (first:Int)),some (.f,.int (cnt:Int)),some (.l .f,.lst (ps.map eP++[eP p1])),some (.f,.int (k:Int)),some (.f,.int v),some (.t [.f,.l .f,.l .f],.tup [.int b,.lst (ts.map D.int),.lst (gs.map D.int)]),t7]) (by simp only[pv,seval,op,c1,e1,SS,hz1])];by_cases h3:0<v / 64%3
 .refine⟨ps++[p1,p2],some (.f,.int v),some (.f,.tup [.int b,.lst (ts.map D.int),.lst (gs.map D.int)]),some (.f,.tup [.int (v / 256%4),.lst (gs.map D.int),.lst (ts.map D.int)]),fun p hp=>?_,by rw[nH];simp,by rw[nH];simp,?_⟩
  .rcases uk hp with hp|hp
   .exact UB p hp
   .rcases Vb.mp hp with rfl|hp
    .exact UC
    .rw[lM hp];exact Pf
  .rw[Vh,dU,dU,VI,show ps.map eP++[eP p1,eP p2]=(ps.map eP++[eP p1])++[eP p2] by rw[VH];rfl];simp only[pv,seval,op,g6 _ 64 (by decide) (by decide),g6 _ 256 (by decide) (by decide),j6 _ 3 (by decide),j6 _ 4 (by decide),gt_iff_lt,h3,W5,at2,c2,e2,SS,N6]
 .refine⟨ps++[p1],some (.f,.int v),some (.t [.f,.l .f,.l .f],.tup [.int b,.lst (ts.map D.int),.lst (gs.map D.int)]),t7,fun p hp=>?_,by rw[nH];simp,by rw[nH];simp,?_⟩
  .rcases uk hp with hp|hp
   .exact UB p hp
   .rw[lM hp];exact UC
  .rw[Vh,dU,VI];simp only[pv,seval,op,g6 _ 64 (by decide) (by decide),j6 _ 3 (by decide),gt_iff_lt,h3,WE,eD]
def yK(ns:List Int)(first:Nat)(cnt:Nat)(hc:cnt<=10):∃ps:List Pl,(∀p∈ps,Kn p cnt)/\ps≠[]/\ps.length<=8/\cJ [.lst (ns.map D.int),.int (first:Int),.int (cnt:Int)]=.ok (.l .f,.lst (ps.map eP)):=by
 have c1:aI [.lst (ns.map D.int),.int 1]=.ok (.f,.int (cell ns 1)):=j7 ns 1;have m4:=fG (cell ns 1 / 4) 4 (by decide);unfold cJ je;rw[bq (h:=by rfl)];rw[ay (env':=[some (.f,.lst (ns.map D.int)),some (.f,.int (first:Int)),some (.f,.int (cnt:Int)),some (.l .f,.lst []),none,none,none,none]) (by simp only[pv,seval,op])];obtain⟨env',ef,ps,t4,t5,t6,t7,h1,h2,h3,rfl⟩:=nG (a:=aH 4) (g:=cM) (e:=fun k=>D.int (k:Int)) (1+cell ns 1 / 4%4).toNat (fun i env=>∃(ps:List Pl) (t4 t5 t6 t7:Option R),(∀p∈ps,Kn p cnt)/\i<=ps.length/\ps.length<=2*i/\env=[some (.f,.lst (ns.map D.int)),some (.f,.int (first:Int)),some (.f,.int (cnt:Int)),some (.l .f,.lst (ps.map eP)),t4,t5,t6,t7]) (by
  rintro k env hk ⟨ps,t4,t5,t6,t7,h1,h2,h3,rfl⟩;obtain⟨Ki,u5,u6,u7,h1',Tn,h3',e⟩:=yJ ns first cnt hc ps h1 (by lia) k (by lia) t5 t6 t7
  exact⟨_,rfl,_,e,Ki,_,_,_,_,h1',by lia,by lia,rfl⟩) _ ⟨[],none,none,none,none,(fun _ h=>nomatch h),U6 _,U6 _,rfl⟩
 rw[VI]at ef;rw[ay (env':=_) (by
  unfold gy;simp only[pv,seval,op,c1,g6 _ 4 (by decide) (by decide),j6 _ 4 (by decide)];rw[U5 (by lia)];simp only[pv,seval,op];exact ef)]
 unfold fY;refine⟨ps,h1,?_,by lia,by simp only[pv,seval,op]⟩;intro h;rw[h,V8]at h2;lia
def EL{α:Type}{l:List α}(h:l.Nodup)(lo hi:Option Int):(cutD l lo hi).Nodup:=by
 unfold cutD;exact(h.sublist (List.drop_sublist _ _)).sublist (X8 _ _)
def EM{α:Type}{l:List α}{r:α->α->Prop}(h:l.Pairwise r)(lo hi:Option Int):(cutD l lo hi).Pairwise r:=by
 unfold cutD;exact(h.sublist (List.drop_sublist _ _)).sublist (X8 _ _)
def Cc(ns:List Int):∃nY:LNN,nY≠[]/\nY.length<=3/\nY.Nodup/\nY.Pairwise (fun a b=>M9 b a=false)/\cW [.lst (ns.map D.int)]=.ok (.f,.tup (nY.map D.str)):=by
 have c0:aI [.lst (ns.map D.int),.int 0]=.ok (.f,.int (cell ns 0)):=j7 ns 0;have c1:aI [.lst (ns.map D.int),.int 1]=.ok (.f,.int (cell ns 1)):=j7 ns 1;obtain⟨l,hl,PR,hpw,en⟩:=B9 (cell ns 0);have m3:=fG (cell ns 1) 3 (by decide);unfold cW j3;rw[bq (h:=by rfl)];rw[ay (env':=[some (.f,.lst (ns.map D.int)),some (.l .f,.lst (l.map D.str)),none,none,none]) (by simp only[pv,seval,op,c0,en])];rw[ay (env':=[some (.f,.lst (ns.map D.int)),some (.l .f,.lst (l.map D.str)),some (.f,.int (cell ns 1)),none,none]) (by simp only[pv,seval,op,c1])];rw[ay (env':=[some (.f,.lst (ns.map D.int)),some (.l .f,.lst (l.map D.str)),some (.f,.int (cell ns 1)),some (.f,.int (1+cell ns 1%3)),none]) (by simp only[pv,seval,op,j6 _ 3 (by decide)])];obtain⟨cnt,ec⟩:=Vl (show 0<=1+cell ns 1%3 by lia);rw[ec];have ms:=fG (cell ns 1 / 32) (6-(cnt:Int)) (by lia);obtain⟨st,es⟩:=Vl ms.1;rw[ay (env':=[some (.f,.lst (ns.map D.int)),some (.l .f,.lst (l.map D.str)),some (.f,.int (cell ns 1)),some (.f,.int (cnt:Int)),some (.f,.int (st:Int))]) (by simp only[pv,seval,op,g6 _ 32 (by decide) (by decide),j6 _ (6-(cnt:Int)) (by lia),es])];have NT:=BZ l st (st+cnt) (by lia) (by lia);have hlen:(cutD l (some (st:Int)) (some ((st+cnt:Nat):Int))).length=cnt:=by
  rw[NT,Vt,Wa];lia
 rw[show((st+cnt:Nat):Int)=(st:Int)+(cnt:Int) by lia]at hlen;refine⟨cutD l (some (st:Int)) (some ((st:Int)+(cnt:Int))),?_,by lia,EL PR _ _,EM hpw _ _,?_⟩
 .intro h;rw[h,V8]at hlen;lia
 .simp only[pv,seval,op,qG]
def bL(k:Nat):List (Int×Pl)->Option (List Int)
 |[]=>some []
 |z::zs=>if z.1<z.2.2.1.getD k 0 then none else(bL k zs).map fun r=>(z.1-z.2.2.1.getD k 0+z.2.2.2.getD k 0)::r
theorem pH(k:Nat):∀{zs:List (Int×Pl)}{r:List Int},bL k zs=some r->r.length=zs.length
 |[],r,h=>by cases h;rfl
 |z::zs,r,h=>by
  rw[bL]at h;split at h
  .cases h
  .rw[VA]at h;obtain⟨r',h1,rfl⟩:=h;rw[Vc,Vc,pH k h1]
theorem nK(k:Nat):∀{zs:List (Int×Pl)}{r:List Int}{j:Nat}{z:Int×Pl},bL k zs=some r->zs[j]?=some z->¬ z.1<z.2.2.1.getD k 0/\r[j]?=some (z.1-z.2.2.1.getD k 0+z.2.2.2.getD k 0)
 |[],r,j,z,h,e=>by cases e
 |y::zs,r,j,z,h,e=>by
  rw[bL]at h;split at h
  .cases h
  .rename_i hn;rw[VA]at h;obtain⟨r',h1,rfl⟩:=h;cases j with
   |zero=>
    rw[List.getElem?_cons_zero]at e;cases e;exact⟨hn,rfl⟩
   |succ j=>
    rw[List.getElem?_cons_succ]at e ⊢;exact nK k h1 e
def EN(A0 A1 A2:Option R)(k cnt:Nat)(hk:k<cnt)(acc:List Int)(hl:acc.length<=1000)(z:Int×Pl)(hz:Kn z.2 cnt):cK [A0,A1,A2,some (.f,.int (k:Int)),some (.l .f,.lst (acc.map D.int)),some (.f,.int z.1),some (.f,eP z.2)]=if z.1<z.2.2.1.getD k 0 then .ok (.rt (.f,.non)) else .ok (.nx [A0,A1,A2,some (.f,.int (k:Int)),some (.l .f,.lst ((acc++[z.1-z.2.2.1.getD k 0+z.2.2.2.getD k 0]).map D.int)),some (.f,.int z.1),some (.f,eP z.2)]):=by
 have h1:Kd (z.2.2.1.map D.int) (k:Int)=some (.int (z.2.2.1.getD k 0)):=my (by rw[hz.1];exact hk);have h2:Kd (z.2.2.2.map D.int) (k:Int)=some (.int (z.2.2.2.getD k 0)):=my (by rw[hz.2];exact hk);have TR:(acc.map D.int).length<sizeLine:=ko (by rw[bD];lia);unfold cK eP;by_cases h:z.1<z.2.2.1.getD k 0
 .rw[U5 h];simp only[pv,seval,op,h1,h,W5]
 .rw[U8 h,Vh,dU,VI];simp only[pv,seval,op,h1,h2,at2,h,WE,eD,TR]
theorem pI(A0 A1 A2:Option R)(k cnt:Nat)(hk:k<cnt):∀(zs:List (Int×Pl)) (acc:List Int) (t5 t6:Option R),acc.length+zs.length<=1000->(∀z∈zs,Kn z.2 cnt)->
  (bL k zs=none/\d4 (ky 2 (aT (aH 5) (aT (aH 6) dZ))) cK (zs.map fun z:Int×Pl=>D.tup [D.int z.1,eP z.2]) [A0,A1,A2,some (.f,.int (k:Int)),some (.l .f,.lst (acc.map D.int)),t5,t6]=.ok (.rt (.f,.non)))\/
  ∃r u5 u6,bL k zs=some r/\d4 (ky 2 (aT (aH 5) (aT (aH 6) dZ))) cK (zs.map fun z:Int×Pl=>D.tup [D.int z.1,eP z.2]) [A0,A1,A2,some (.f,.int (k:Int)),some (.l .f,.lst (acc.map D.int)),t5,t6]=.ok (.nx [A0,A1,A2,some (.f,.int (k:Int)),some (.l .f,.lst ((acc++r).map D.int)),u5,u6])
 |[],acc,t5,t6,_,_=>.inr ⟨[],t5,t6,rfl,by rw[Vo];rfl⟩
 |z::zs,acc,t5,t6,hl,hp=>by
  have h1:=EN A0 A1 A2 k cnt hk acc (by rw[Vc]at hl;lia) z (hp z UY);have ha:ky 2 (aT (aH 5) (aT (aH 6) dZ)) (D.tup [D.int z.1,eP z.2]) [A0,A1,A2,some (.f,.int (k:Int)),some (.l .f,.lst (acc.map D.int)),t5,t6]=.ok [A0,A1,A2,some (.f,.int (k:Int)),some (.l .f,.lst (acc.map D.int)),some (.f,.int z.1),some (.f,eP z.2)]:=by simp only[pv,seval]
  rw[dU,cw,ha,JA,h1,bL];by_cases h:z.1<z.2.2.1.getD k 0
  .left;rw[U5 h,U5 h];exact⟨rfl,by rw[JA]⟩
  .rw[U8 h,U8 h,JA];rcases pI A0 A1 A2 k cnt hk zs (acc++[z.1-z.2.2.1.getD k 0+z.2.2.2.getD k 0]) (some (.f,.int z.1)) (some (.f,eP z.2)) (by rw[Vc]at hl;rw[nH,VC];lia) (fun y hy=>hp y (U4 _ hy)) with⟨e1,e2⟩|⟨r,u5,u6,e1,e2⟩
   .left;exact⟨by rw[e1];rfl,e2⟩
   .right;refine⟨_,u5,u6,by rw[e1];rfl,?_⟩;rw[VH]at e2;exact e2
def eN(nY:LNN)(ps:List Pl):D:=.tup [.tup (nY.map D.str),.lst (ps.map eP)]
def eM(m:List Int):D:=.tup (m.map D.int)
def qJ {nY : LNN} {m : List Nat} (h : m ∈ nY) : oV (nY.map D.str) [.str m] = .ok (.f, .int ((nY.idxOf m : Nat) : Int)) := by
  first
    | (unfold oV
       dsimp only
       rw [fF]
       dsimp only
       rw [U5 h])
    | (unfold oV
       simp only [fF, h, W8])
def kB{α β:Type}(f:α->D)(g:β->D)(xs:List α)(ys:List β):((xs.map f).zip (ys.map g)).map (fun z=>D.tup [z.1,z.2])=(xs.zip ys).map fun z=>D.tup [f z.1,g z.2]:=by
 rw[List.zip_map,Vj];rfl
def EO(nY:LNN)(ps:List Pl)(hl:ps.length<=100)(hp:∀p∈ps,Kn p nY.length)(m:List Int)(mv:List Nat)(hm:mv∈nY):
  (bL (nY.idxOf mv) (m.zip ps)=none/\cQ [eN nY ps,eM m,.str mv]=.ok (.f,.non))\/∃r,bL (nY.idxOf mv) (m.zip ps)=some r/\cQ [eN nY ps,eM m,.str mv]=.ok (.f,eM r):=by
 have Ky:=qJ hm;have hk:=VY hm;generalize nY.idxOf mv=k at Ky hk;unfold cQ lj eN eM;rw[bq (h:=by rfl)];rw[ay (env':=[some (.f,.tup [.tup (nY.map D.str),.lst (ps.map eP)]),some (.f,.tup (m.map D.int)),some (.f,.str mv),some (.f,.int (k:Int)),none,none,none]) (by simp only[pv,seval,op,Ky])];rw[ay (env':=[some (.f,.tup [.tup (nY.map D.str),.lst (ps.map eP)]),some (.f,.tup (m.map D.int)),some (.f,.str mv),some (.f,.int (k:Int)),some (.l .f,.lst []),none,none]) (by simp only[pv,seval,op])];rcases pI (some (.f,.tup [.tup (nY.map D.str),.lst (ps.map eP)])) (some (.f,.tup (m.map D.int))) (some (.f,.str mv)) k nY.length hk (m.zip ps) [] none none (by rw[V8,Xo];lia) (fun z hz=>hp _ (WK (show(z.1,z.2)∈m.zip ps from hz)).2) with⟨e1,e2⟩|⟨r,u5,u6,e1,e2⟩
 .left;refine⟨e1,?_⟩;rw[VI]at e2;unfold fP;simp only[pv,seval,op,kB,e2]
 .right;refine⟨r,e1,?_⟩;rw[VI,W4]at e2;unfold fP ib;simp only[pv,seval,op,kB,e2]
theorem eqDs_ints:∀a b:List Int,iY (a.map D.int) (b.map D.int)=decide (a=b)
 |[],[]=>rfl
 |[],_::_=>rfl
 |_::_,[]=>rfl
 |x::a,y::b=>by
  rw[dU,dU,iY,eqDs_ints a b,Jg,Vp];simp
def wQ(a b:List Int):Jg (eM a) (eM b)=decide (a=b):=by
 unfold eM;rw[Jg,eqDs_ints]
def gK(a:List Int):plainD 40 (eM a)=true:=yD a
def nL(l:List (List Int)):plainDs 40 (l.map eM)=true:=by
 induction l with
 |nil=>rfl
 |cons a l ih=>
  rw[dU,plainDs,ih,WD];exact gK a
theorem lH{α:Type}[DecidableEq α](a:α):∀l:List α,a∉l->((l++[a]).findIdx fun x=>decide (x=a))=l.length
 |[],_=>by simp
 |x::l,h=>by
  rw[Vb,not_or]at h;rw[Wy,Yj,lH a l h.2,Vq (fun e=>h.1 e.symm)];rfl
def Hd{α:Type}[DecidableEq α]{e:α->D}(he:∀a b,Jg (e a) (e b)=decide (a=b))(hp:∀l:List α,plainDs 40 (l.map e)=true)(hq:∀a,plainD 40 (e a)=true)(l:List α)(a:α)(h:a∉l):qq (l.map e++[e a]) [e a]=.ok (.f,.int (l.length:Int)):=by
 have e0:l.map e++[e a]=(l++[a]).map e:=by rw[Vh];rfl
 have e1:((l++[a]).map e).any (fun d=>Jg d (e a))=true:=by
  rw[Xj,Wi];exact⟨a,U2 _ (Vn.mpr rfl),by show Jg (e a) (e a)=true;rw[he,Vu rfl]⟩
 have e2:((l++[a]).map e).findIdx (fun d=>Jg d (e a))=l.length:=by
  rw[List.findIdx_map];rw[<-lH a l h];congr 1
  funext x
  exact he x a
 unfold qq;dsimp only;rw[e0,hq,hp,e1,e2];rfl
def IV{α:Type}[DecidableEq α]{e:α->D}(he:∀a b,Jg (e a) (e b)=decide (a=b))(hp:∀l:List α,plainDs 40 (l.map e)=true)(hq:∀a,plainD 40 (e a)=true)(l:List α)(a:α):CJ (e a) (.lst (l.map e))=.ok (.f,.bl (!decide (a∈l))):=by
 have e1:xx (e a) (l.map e)=decide (a∈l):=by
  unfold xx;rw[Xj,Vp,Wi,Ve];constructor
  .rintro⟨x,hx,e1⟩;have e1:Jg (e x) (e a)=true:=e1;rw[he,Ve]at e1;rw[<-e1];exact hx
  .intro h;refine⟨a,h,?_⟩;show Jg (e a) (e a)=true;rw[he,Ve]
 unfold CJ NF;dsimp only;rw[hq,hp,Wf,U5 rfl,e1];rfl
structure Rm(nY:LNN)(ps:List Pl)(S:List (List Int))(A:List Jw)(m:Nat):Prop where
 nd:S.Nodup
 z:S[0]?=some (ps.map (·.1))
 ln:∀s∈S,s.length=ps.length
 le:S.length<=8
 ab:∀a∈A,a.2.1∈nY/\∃i j:Nat,i<m/\a.1=(i:Int)/\a.2.2=(j:Int)/\∃s t,S[i]?=some s/\S[j]?=some t/\bL (nY.idxOf a.2.1) (s.zip ps)=some t
 rc:∀j:Nat,1<=j->j<S.length->∃a∈A,a.2.2=(j:Int)/\∃b:Nat,b<j/\a.1=(b:Int)
def Rm.more{nY:LNN}{ps:List Pl}{S:List (List Int)}{A:List Jw}{m m':Nat}(r:Rm nY ps S A m)(h:m<=m'):Rm nY ps S A m':=⟨r.nd,r.z,r.ln,r.le,fun a ha=>by
 obtain⟨h1,i,j,h2,h3⟩:=r.ab a ha;exact⟨h1,i,j,by lia,h3⟩,r.rc⟩
def Rm.old{nY:LNN}{ps:List Pl}{S:List (List Int)}{A:List Jw}{d:Nat}(r:Rm nY ps S A (d+1)){mv:List Nat}(hn:mv∈nY){s t:List Int}(hs:S[d]?=some s){i:Nat}(ht:S[i]?=some t)(hf:bL (nY.idxOf mv) (s.zip ps)=some t):Rm nY ps S (A++[((d:Int),mv,(i:Int))]) (d+1):=by
 refine⟨r.nd,r.z,r.ln,r.le,fun a ha=>?_,fun j j1 j2=>?_⟩
 .rcases uk ha with ha|ha
  .exact r.ab a ha
  .rw[lM ha];exact⟨hn,d,i,by lia,rfl,rfl,s,t,hs,ht,hf⟩
 .obtain⟨a,ha,q⟩:=r.rc j j1 j2;exact⟨a,U7 _ ha,q⟩
def Rm.new{nY:LNN}{ps:List Pl}{S:List (List Int)}{A:List Jw}{d:Nat}(r:Rm nY ps S A (d+1)){mv:List Nat}(hn:mv∈nY){s t:List Int}(hs:S[d]?=some s)(ht:t∉S)(hf:bL (nY.idxOf mv) (s.zip ps)=some t)(h8:S.length<8):Rm nY ps (S++[t]) (A++[((d:Int),mv,(S.length:Int))]) (d+1):=by
 have hd:=(lT hs).1;have hl:(S++[t]).length=S.length+1:=by rw[nH];rfl
 have up:∀{i:Nat}{x:List Int},S[i]?=some x->(S++[t])[i]?=some x:=fun{i x} h=>by
  rw[List.getElem?_append_left (lT h).1];exact h
 refine⟨Vs.mpr ⟨r.nd,Vz.mpr ⟨Wb,WH⟩,fun x hx y hy=>?_⟩,up r.z,fun x hx=>?_,by lia,fun a ha=>?_,fun j j1 j2=>?_⟩
 .rw[lM hy];rintro rfl;exact ht hx
 .rcases uk hx with hx|hx
  .exact r.ln x hx
  .rw[lM hx,pH _ hf,Xo,r.ln s (Vm hs),Nat.min_self]
 .rcases uk ha with ha|ha
  .obtain⟨h1,i,j,h2,h3,h4,x,y,h5,h6,h7⟩:=r.ab a ha;exact⟨h1,i,j,h2,h3,h4,x,y,up h5,up h6,h7⟩
  .rw[lM ha];exact⟨hn,d,S.length,by lia,rfl,rfl,s,t,up hs,by rw[List.getElem?_append_right (U6 _),YR];rfl,hf⟩
 .by_cases e:j=S.length
  .subst e;exact⟨_,U2 _ (Vn.mpr rfl),rfl,d,hd,rfl⟩
  .obtain⟨a,ha,q⟩:=r.rc j j1 (by lia);exact⟨a,U7 _ ha,q⟩
def mz(t:List Int):flatD (eM t)=true:=by
 unfold eM;rw[cN,Jm]
def Fu(nY:LNN)(ps:List Pl)(S:List (List Int))(A:List Jw)(d j:Nat):Prop:=∀i k:Nat,(i<d\/(i=d/\k<j))->∀mv,nY[k]?=some mv->∀s t,S[i]?=some s->bL (nY.idxOf mv) (s.zip ps)=some t->∃m:Nat,S[m]?=some t/\((i:Int),mv,(m:Int))∈A
def Fu.next{nY:LNN}{ps:List Pl}{S S':List (List Int)}{A A':List Jw}{d j:Nat}(fu:Fu nY ps S A d j){s0:List Int}(hd:S[d]?=some s0)(up:∀(i:Nat) (x:List Int),S[i]?=some x->S'[i]?=some x)(ua:∀a∈A,a∈A'){mv:List Nat}(hj:nY[j]?=some mv)(new:∀t,bL (nY.idxOf mv) (s0.zip ps)=some t->∃m:Nat,S'[m]?=some t/\((d:Int),mv,(m:Int))∈A'):Fu nY ps S' A' d (j+1):=by
 intro i k h mv' hk s t hs hf;have hdl:=(lT hd).1;have Ml:i<S.length:=by lia
 have TU:S[i]?=some s:=by
  have:=up i _ (lK Ml);rw[hs]at this;rw[lK Ml,this]
 by_cases h2:i<d\/(i=d/\k<j)
 .obtain⟨m,h3,h4⟩:=fu i k h2 mv' hk s t TU hf;exact⟨m,up _ _ h3,ua _ h4⟩
 .have e1:i=d:=by lia
  have e2:k=j:=by lia
  subst e1 e2;rw[hj]at hk;cases hk;rw[hd]at TU;cases TU;exact new t hf
def Fu.row{nY:LNN}{ps:List Pl}{S:List (List Int)}{A:List Jw}{d:Nat}(fu:Fu nY ps S A d nY.length):Fu nY ps S A (d+1) 0:=fun i k h mv hk s t hs hf=>fu i k (by
 have:=(lT hk).1;lia) mv hk s t hs hf
def J6(k:Nat)(p:Pl):Int:=p.2.1.getD k 0
def Ln(k:Nat)(p:Pl):Int:=p.2.2.getD k 0
def yL(k:Nat)(zs:List (Int×Pl)):Bool:=zs.all fun z=>decide (J6 k z.2<=z.1)
theorem jl(k:Nat):∀zs:List (Int×Pl),bL k zs=if yL k zs then some (zs.map fun z=>z.1-J6 k z.2+Ln k z.2) else none
 |[]=>rfl
 |z::zs=>by
  rw[bL,jl k zs];unfold yL;rw[WR];by_cases h:z.1<z.2.2.1.getD k 0
  .have h2:decide (J6 k z.2<=z.1)=false:=Vq (by unfold J6;lia);rw[U5 h,h2,XA,U8 U3]
  .have h2:decide (J6 k z.2<=z.1)=true:=Vu (by unfold J6;lia);rw[U8 h,h2,Zn];cases(zs.all fun z=>decide (J6 k z.2<=z.1)) with
   |true=>rw[U5 rfl,U5 rfl];rfl
   |false=>rw[U8 U3,U8 U3];rfl
def Cd(nY:LNN)(ps:List Pl)(hl:ps.length<=100):b5 [eN nY ps]=.ok (.f,eM (ps.map (·.1))):=by
 have hc:c7 (aH 0) eF (aB Ji (aw 0) (aq (aE (.int 0)))) (ps.map eP) [none]=.ok ((ps.map (·.1)).map D.int):=by
  rw[Vj];refine bY (fun env=>∃t,env=[t]) _ ?_ _ ⟨_,rfl⟩;rintro p _ env ⟨t,rfl⟩;refine⟨[some (.f,eP p)],by simp only[pv,seval],?_⟩;unfold eP;simp only[pv,seval,op,SO];exact⟨_,_,rfl,_,rfl⟩
 have O3:((ps.map (·.1)).map D.int).length<=sizeLine:=line_le (by rw[bD,bD];lia);unfold b5 gu eN;rw[bq (h:=by rfl)];simp only[pv,seval,op,QV,hc,O3,Jm];rfl
def yM{p:Pl}{k cnt:Nat}(h:Kn p cnt)(hk:k<cnt):Kd (p.2.1.map D.int) (k:Int)=some (.int (J6 k p)):=my (by rw[h.1];exact hk)
def Ce{p:Pl}{k cnt:Nat}(h:Kn p cnt)(hk:k<cnt):Kd (p.2.2.map D.int) (k:Int)=some (.int (Ln k p)):=my (by rw[h.2];exact hk)
def yN(nY:LNN)(ps:List Pl)(hl:ps.length<=100)(hp:∀p∈ps,Kn p nY.length)(m:List Int)(mv:List Nat)(hm:mv∈nY):gX [eN nY ps,eM m,.str mv]=.ok (.f,.bl (yL (nY.idxOf mv) (m.zip ps))):=by
 have Ky:=qJ hm;have hk:=VY hm;generalize nY.idxOf mv=k at Ky hk;have hc:c7 (ky 2 (aT (aH 0) (aT (aH 1) dZ))) eF (aB RA (aw 0) (aq (aB Ji (aq (aB Ji (aw 1) (aq (aE (.int 1))))) (aw 2)))) ((m.zip ps).map fun z=>D.tup [.int z.1,eP z.2]) [none,none,some (.f,.int (k:Int))]=.ok (((m.zip ps).map fun z=>decide (J6 k z.2<=z.1)).map D.bl):=by
  rw[Vj];refine bY (fun env=>∃t u,env=[t,u,some (.f,.int (k:Int))]) _ ?_ _ ⟨_,_,rfl⟩;rintro⟨x,p⟩ hz env ⟨t,u,rfl⟩;have e1:=yM (hp p (WK hz).2) hk;refine⟨_,lD _ _ _ _ _,?_⟩;unfold eP;simp only[pv,seval,op,QV,e1];exact⟨_,_,rfl,_,_,rfl⟩
 have O3:(((m.zip ps).map fun z=>decide (J6 k z.2<=z.1)).map D.bl).length<=sizeLine:=line_le (by rw[bD,bD,Xo];lia);unfold gX sj eN eM;rw[bq (h:=by rfl)];rw[ay (env':=[some (.f,.tup [.tup (nY.map D.str),.lst (ps.map eP)]),some (.f,.tup (m.map D.int)),some (.f,.str mv),some (.f,.int (k:Int))]) (by simp only[pv,seval,op,SO,Ky])];simp only[pv,seval,op,QV,kB,hc,O3,su,zQ];unfold yL;rw[Wm];rfl
def eO:Option (List Int)->D
 |none=>.non
 |some r=>eM r
def Cf(o:Option (List Int)):flatD (eO o)=true:=by
 cases o with
 |none=>rfl
 |some r=>exact mz r
def Cg(nY:LNN)(ps:List Pl)(hl:ps.length<=100)(hp:∀p∈ps,Kn p nY.length)(m:List Int)(mv:List Nat)(hm:mv∈nY):jD [eN nY ps,eM m,.str mv]=.ok (.f,eO (bL (nY.idxOf mv) (m.zip ps))):=by
 have hg:=yN nY ps hl hp m mv hm;have Ky:=qJ hm;have hk:=VY hm;rw[jl];generalize nY.idxOf mv=k at Ky hk hg;have hc:c7 (ky 2 (aT (aH 0) (aT (aH 1) dZ))) eF (aB addO (aq (aB nQ (aw 0) (aq (aB Ji (aq (aB Ji (aw 1) (aq (aE (.int 1))))) (aw 2))))) (aq (aB Ji (aq (aB Ji (aw 1) (aq (aE (.int 2))))) (aw 2)))) ((m.zip ps).map fun z=>D.tup [.int z.1,eP z.2]) [none,none,some (.f,.int (k:Int))]=.ok (((m.zip ps).map fun z=>z.1-J6 k z.2+Ln k z.2).map D.int):=by
  rw[Vj];refine bY (fun env=>∃t u,env=[t,u,some (.f,.int (k:Int))]) _ ?_ _ ⟨_,_,rfl⟩;rintro⟨x,p⟩ hz env ⟨t,u,rfl⟩;have e1:=yM (hp p (WK hz).2) hk;have e2:=Ce (hp p (WK hz).2) hk;refine⟨_,lD _ _ _ _ _,?_⟩;unfold eP;simp only[pv,seval,op,QV,at2,e1,e2];exact⟨_,_,rfl,_,_,rfl⟩
 have O3:(((m.zip ps).map fun z=>z.1-J6 k z.2+Ln k z.2).map D.int).length<=sizeLine:=line_le (by rw[bD,bD,Xo];lia);unfold jD wt;rw[bq (h:=by rfl)];cases hz:yL k (m.zip ps) with
 |false=>
  rw[hz]at hg;simp only[pv,seval,hg,qB,qC,Xc,eD];rfl
 |true=>
  rw[hz]at hg;unfold eN eM at hg ⊢;rw[ay (env':=[some (.f,.tup [.tup (nY.map D.str),.lst (ps.map eP)]),some (.f,.tup (m.map D.int)),some (.f,.str mv),none]) (by simp only[pv,seval,hg,qB,qC,V9,eD])];rw[ay (env':=[some (.f,.tup [.tup (nY.map D.str),.lst (ps.map eP)]),some (.f,.tup (m.map D.int)),some (.f,.str mv),some (.f,.int (k:Int))]) (by simp only[pv,seval,op,SO,Ky])];simp only[pv,seval,op,QV,kB,hc,O3,Jm];rfl
abbrev Rn:=List (List Int)×List Jw
def pos(S:List (List Int))(t:List Int):Nat:=S.findIdx fun x=>decide (x=t)
noncomputable def g7(nY:LNN)(ps:List Pl)(d:Nat)(mv:List Nat)(r:Rn):Option Rn:=match bL (nY.idxOf mv) ((r.1.getD d []).zip ps) with
 |none=>some r
 |some t=>if t∈r.1 then some (r.1,r.2++[((d:Int),mv,(pos r.1 t:Int))]) else if r.1.length=8 then none else some (r.1++[t],r.2++[((d:Int),mv,(r.1.length:Int))])
def pU(nY:LNN)(ps:List Pl)(d:Nat):LNN->Rn->Option Rn
 |[],r=>some r
 |mv::l,r=>(g7 nY ps d mv r).bind (pU nY ps d l)
def uq(nY:LNN)(ps:List Pl):Nat->Nat->Rn->Option Rn
 | 0,_,r=>some r
 |f+1,d,r=>if d<r.1.length then(pU nY ps d nY r).bind (uq nY ps f (d+1)) else some r
def IW{α:Type}[DecidableEq α]{e:α->D}(he:∀a b,Jg (e a) (e b)=decide (a=b))(hp:∀l:List α,plainDs 40 (l.map e)=true)(hq:∀a,plainD 40 (e a)=true)(l:List α)(a:α)(h:a∈l):qq (l.map e) [e a]=.ok (.f,.int ((l.findIdx fun x=>decide (x=a):Nat):Int)):=by
 have e1:(l.map e).any (fun d=>Jg d (e a))=true:=by
  rw[Xj,Wi];exact⟨a,h,by show Jg (e a) (e a)=true;rw[he,Vu rfl]⟩
 have e2:(l.map e).findIdx (fun d=>Jg d (e a))=l.findIdx fun x=>decide (x=a):=by
  rw[List.findIdx_map];congr 1
  funext x
  exact he x a
 unfold qq;dsimp only;rw[hq,hp,e1,e2];rfl
def ER(nY:LNN)(ps:List Pl)(hl:ps.length<=100)(hp:∀p∈ps,Kn p nY.length)(S:List (List Int))(A:List Jw)(hA:A.length<=1000)(hS:S.length<=8)(d:Nat)(hd:d<S.length)(mv:List Nat)(hn:mv∈nY)(t6:Option R):
  match g7 nY ps d mv (S,A) with
  |some (S',A')=>∃u6,b8 [some (.f,eN nY ps),some (.f,.int 8),some (.l .f,.lst (S.map eM)),some (.l .f,.lst (A.map eA)),some (.f,.int ((d:Nat):Int)),some (.f,.str mv),t6]=.ok (.nx [some (.f,eN nY ps),some (.f,.int 8),some (.l .f,.lst (S'.map eM)),some (.l .f,.lst (A'.map eA)),some (.f,.int ((d:Nat):Int)),some (.f,.str mv),u6])
  |none=>b8 [some (.f,eN nY ps),some (.f,.int 8),some (.l .f,.lst (S.map eM)),some (.l .f,.lst (A.map eA)),some (.f,.int ((d:Nat):Int)),some (.f,.str mv),t6]=.ok (.rt (.f,.non)):=by
 have O4:S[d]?=some S[d]:=lK hd;have R5:S.getD d []=S[d]:=by rw[List.getD_eq_getElem?_getD,O4];rfl
 have N7:Kd (S.map eM) (d:Int)=some (eM S[d]):=gc (by rw[List.getElem?_map,O4];rfl);have hzA:(A.map eA).length<sizeLine:=ko (by rw[bD];lia);have hzS:(S.map eM).length<sizeLine:=ko (by rw[bD];lia);have QX:flatD .non=true:=rfl;unfold g7;dsimp only;rw[R5];unfold b8;rcases EO nY ps hl hp S[d] mv hn with⟨hf,e⟩|⟨t,hf,e⟩
 .rw[hf];dsimp only;refine⟨some (.f,.non),?_⟩;rw[ay (env':=[some (.f,eN nY ps),some (.f,.int 8),some (.l .f,.lst (S.map eM)),some (.l .f,.lst (A.map eA)),some (.f,.int ((d:Nat):Int)),some (.f,.str mv),some (.f,.non)]) (by simp only[pv,seval,op,N7,e,QX])];simp only[pv,seval,op,lE,eD]
 .rw[hf];dsimp only;have QY:=mz t;have Qx:=IV wQ nL gK S t;have TV:isnO (eM t) .non=.ok (.f,.bl true):=id rfl;rw[ay (env':=[some (.f,eN nY ps),some (.f,.int 8),some (.l .f,.lst (S.map eM)),some (.l .f,.lst (A.map eA)),some (.f,.int ((d:Nat):Int)),some (.f,.str mv),some (.f,eM t)]) (by simp only[pv,seval,op,N7,e,QY])];by_cases hm:t∈S
  .rw[U5 hm];have Ky:=IW wQ nL gK S t hm;dsimp only;refine⟨some (.f,eM t),?_⟩;unfold pos;rw[Vh];simp only[pv,seval,op,TV,Qx,hm,W5,V9,eD,zR,Ky,hzA];rfl
  .rw[U8 hm];by_cases h9:S.length=8
   .rw[U5 h9];dsimp only;have he:((S.length:Int)==8)=true:=by rw[h9];rfl
    simp only[pv,seval,op,TV,Qx,hm,WE,Xc,bD,he]
   .rw[U8 h9];dsimp only;have he:((S.length:Int)==8)=false:=by
     rw[V2];lia
    have Ky:=Hd wQ nL gK S t hm;refine⟨some (.f,eM t),?_⟩;rw[Vh,Vh,dU,VI];have hzS':S.length<sizeLine:=ko (by lia);have hzA':A.length<sizeLine:=ko (by lia);simp only[pv,seval,op,TV,Qx,hm,WE,Xc,eD,bD,he,zR,Ky,hzA',hzS'];rfl
def sJ{nY:LNN}{ps:List Pl}{d:Nat}{mv:List Nat}{r r':Rn}(h:g7 nY ps d mv r=some r')(h8:r.1.length<=8):r.1.length<=r'.1.length/\r'.1.length<=8/\r'.2.length<=r.2.length+1:=by
 unfold g7 at h;split at h
 .cases h;lia
 .split at h
  .cases h;refine⟨U6 _,h8,?_⟩;rw[nH];exact U6 _
  .split at h
   .cases h
   .cases h;dsimp only;rw[nH,nH,VC,VC];lia
theorem yO{nY:LNN}{ps:List Pl}{d:Nat}:∀(l:LNN) {r r':Rn},pU nY ps d l r=some r'->r.1.length<=8->r.1.length<=r'.1.length/\r'.1.length<=8/\r'.2.length<=r.2.length+l.length
 |[],r,r',h,h8=>by
  cases h;exact⟨U6 _,h8,U6 _⟩
 |mv::l,r,r',h,h8=>by
  unfold pU at h;obtain⟨r1,h1,h2⟩:=VB.mp h;have b1:=sJ h1 h8;have b2:=yO l h2 b1.2.1;rw[Vc];lia
theorem zT(nY:LNN)(ps:List Pl)(hl:ps.length<=100)(hp:∀p∈ps,Kn p nY.length)(d:Nat):∀(l:LNN),(∀mv∈l,mv∈nY)->∀(r:Rn),r.2.length+l.length<=1000->r.1.length<=8->d<r.1.length->∀t5 t6:Option R,
  match pU nY ps d l r with
  |some r'=>∃u5 u6,d4 (aH 5) b8 (l.map D.str) [some (.f,eN nY ps),some (.f,.int 8),some (.l .f,.lst (r.1.map eM)),some (.l .f,.lst (r.2.map eA)),some (.f,.int ((d:Nat):Int)),t5,t6]=.ok (.nx [some (.f,eN nY ps),some (.f,.int 8),some (.l .f,.lst (r'.1.map eM)),some (.l .f,.lst (r'.2.map eA)),some (.f,.int ((d:Nat):Int)),u5,u6])
  |none=>d4 (aH 5) b8 (l.map D.str) [some (.f,eN nY ps),some (.f,.int 8),some (.l .f,.lst (r.1.map eM)),some (.l .f,.lst (r.2.map eA)),some (.f,.int ((d:Nat):Int)),t5,t6]=.ok (.rt (.f,.non))
 |[],_,r,_,_,_,t5,t6=>⟨t5,t6,rfl⟩
 |mv::l,hm,r,hA,h8,hd,t5,t6=>by
  have h1:=ER nY ps hl hp r.1 r.2 (by lia) h8 d hd mv (hm mv UY) t6;have ha:aH 5 (.str mv) [some (.f,eN nY ps),some (.f,.int 8),some (.l .f,.lst (r.1.map eM)),some (.l .f,.lst (r.2.map eA)),some (.f,.int ((d:Nat):Int)),t5,t6]=.ok [some (.f,eN nY ps),some (.f,.int 8),some (.l .f,.lst (r.1.map eM)),some (.l .f,.lst (r.2.map eA)),some (.f,.int ((d:Nat):Int)),some (.f,.str mv),t6]:=rfl;unfold pU;cases hs:g7 nY ps d mv r with
  |none=>
   have Pz:g7 nY ps d mv (r.1,r.2)=none:=hs;rw[Pz]at h1;dsimp only[Option.bind]at h1 ⊢;rw[dU,cw,ha,JA,h1,JA]
  |some r1=>
   have Pz:g7 nY ps d mv (r.1,r.2)=some r1:=hs;have b:=sJ hs h8;rw[Pz]at h1;obtain⟨u6,h1⟩:=h1;rw[Vc]at hA;have ih:=zT nY ps hl hp d l (fun x hx=>hm x (U4 _ hx)) r1 (by lia) b.2.1 (by lia) (some (.f,.str mv)) u6;dsimp only[Option.bind];cases hr:pU nY ps d l r1 with
   |none=>
    rw[hr]at ih;dsimp only at ih ⊢;rw[dU,cw,ha,JA,h1,JA];exact ih
   |some r2=>
    rw[hr]at ih;dsimp only at ih ⊢;obtain⟨v5,v6,ih⟩:=ih;refine⟨v5,v6,?_⟩;rw[dU,cw,ha,JA,h1,JA];exact ih
theorem ES(nY:LNN)(hn:nY.length<=3)(ps:List Pl)(hl:ps.length<=100)(hp:∀p∈ps,Kn p nY.length):∀(f F d:Nat) (r:Rn),r.1.length<=8->d<=r.1.length->r.2.length<=3*d->9<=f+d->f<=F->∀t5 t6:Option R,
  match uq nY ps f d r with
  |some r'=>r'.2.length<=24/\∃u4 u5 u6,dB (JE (aB Mw (aw 4) (aq (a7 f7 (ag (aw 2) aG))))) cI F [some (.f,eN nY ps),some (.f,.int 8),some (.l .f,.lst (r.1.map eM)),some (.l .f,.lst (r.2.map eA)),some (.f,.int ((d:Nat):Int)),t5,t6]=.ok (.nx [some (.f,eN nY ps),some (.f,.int 8),some (.l .f,.lst (r'.1.map eM)),some (.l .f,.lst (r'.2.map eA)),u4,u5,u6])
  |none=>dB (JE (aB Mw (aw 4) (aq (a7 f7 (ag (aw 2) aG))))) cI F [some (.f,eN nY ps),some (.f,.int 8),some (.l .f,.lst (r.1.map eM)),some (.l .f,.lst (r.2.map eA)),some (.f,.int ((d:Nat):Int)),t5,t6]=.ok (.rt (.f,.non))
 | 0,F,d,r,h8,hd,hA,hf,hF,t5,t6=>by lia
 |f+1,0,d,r,h8,hd,hA,hf,hF,t5,t6=>by lia
 |f+1,F+1,d,r,h8,hd,hA,hf,hF,t5,t6=>by
  unfold uq;by_cases JL:d<r.1.length
  .rw[U5 JL];have h1:=zT nY ps hl hp d nY (fun _ h=>h) r (by lia) h8 JL t5 t6;have hc:(JE (aB Mw (aw 4) (aq (a7 f7 (ag (aw 2) aG))))) [some (.f,eN nY ps),some (.f,.int 8),some (.l .f,.lst (r.1.map eM)),some (.l .f,.lst (r.2.map eA)),some (.f,.int ((d:Nat):Int)),t5,t6]=.ok (true,[some (.f,eN nY ps),some (.f,.int 8),some (.l .f,.lst (r.1.map eM)),some (.l .f,.lst (r.2.map eA)),some (.f,.int ((d:Nat):Int)),t5,t6]):=by
    have:(d:Int)<(r.1.length:Int):=by lia
    simp only[pv,seval,op,bD,this,W5]
   have go:∀q:Res Out,d4 (aH 5) b8 (nY.map D.str) [some (.f,eN nY ps),some (.f,.int 8),some (.l .f,.lst (r.1.map eM)),some (.l .f,.lst (r.2.map eA)),some (.f,.int ((d:Nat):Int)),t5,t6]=q->gw [some (.f,eN nY ps),some (.f,.int 8),some (.l .f,.lst (r.1.map eM)),some (.l .f,.lst (r.2.map eA)),some (.f,.int ((d:Nat):Int)),t5,t6]=q:=fun q h=>by
    unfold gw;unfold eN at h ⊢;simp only[pv,seval,op];exact h
   cases hr:pU nY ps d nY r with
   |none=>
    rw[hr]at h1;dsimp only[Option.bind]at h1 ⊢;rw[eT,hc,JA];dsimp only;rw[U5 rfl];unfold cI;rw[JY,go _ h1,JA];rfl
   |some r1=>
    rw[hr]at h1;dsimp only[Option.bind]at h1 ⊢;obtain⟨u5,u6,h1⟩:=h1;have b:=yO nY hr h8;have e2:cI [some (.f,eN nY ps),some (.f,.int 8),some (.l .f,.lst (r.1.map eM)),some (.l .f,.lst (r.2.map eA)),some (.f,.int ((d:Nat):Int)),t5,t6]=.ok (.nx [some (.f,eN nY ps),some (.f,.int 8),some (.l .f,.lst (r1.1.map eM)),some (.l .f,.lst (r1.2.map eA)),some (.f,.int ((d+1:Nat):Int)),u5,u6]):=by
     unfold cI;rw[ay (go _ h1)];unfold ja;simp only[pv,seval,op,X0,X5]
    have ih:=ES nY hn ps hl hp f F (d+1) r1 b.2.1 (by lia) (by lia) (by lia) (by lia) u5 u6;cases hq:uq nY ps f (d+1) r1 with
    |none=>
     rw[hq]at ih;dsimp only at ih ⊢;rw[eT,hc,JA];dsimp only;rw[U5 rfl,e2,JA];exact ih
    |some r2=>
     rw[hq]at ih;dsimp only at ih ⊢;obtain⟨hb,v4,v5,v6,ih⟩:=ih;refine⟨hb,v4,v5,v6,?_⟩;rw[eT,hc,JA];dsimp only;rw[U5 rfl,e2,JA];exact ih
  .rw[U8 JL];dsimp only;refine⟨by lia,some (.f,.int ((d:Nat):Int)),t5,t6,?_⟩;have hc:(JE (aB Mw (aw 4) (aq (a7 f7 (ag (aw 2) aG))))) [some (.f,eN nY ps),some (.f,.int 8),some (.l .f,.lst (r.1.map eM)),some (.l .f,.lst (r.2.map eA)),some (.f,.int ((d:Nat):Int)),t5,t6]=.ok (false,[some (.f,eN nY ps),some (.f,.int 8),some (.l .f,.lst (r.1.map eM)),some (.l .f,.lst (r.2.map eA)),some (.f,.int ((d:Nat):Int)),t5,t6]):=by
    have:¬ (d:Int)<(r.1.length:Int):=by lia
    simp only[pv,seval,op,bD,this,WE]
   rw[eT,hc,JA];rfl
abbrev cy(nY:LNN)(ps:List Pl):Option Rn:=uq nY ps 9 0 ([ps.map (·.1)],[])
def wR(nY:LNN)(hn:nY.length<=3)(ps:List Pl)(hl:ps.length<=100)(hp:∀p∈ps,Kn p nY.length):
  bB [eN nY ps,.int 8]=.ok (.f,match cy nY ps with
   |some r=>.tup [.lst ((aV bh r.2).map eA),.lst (r.1.map eM)]
   |none=>.non):=by
 unfold bB mn;rw[bq (h:=by rfl)];have hc:c7 (ky 3 (aT (aH 0) (aT (aH 1) (aT (aH 2) dZ)))) eF (aR 0) (ps.map eP) [none,none,none]=.ok ((ps.map (·.1)).map D.int):=by
  rw[bY (r:=fun p:Pl=>D.int p.1) (fun env=>∃t u w,env=[t,u,w]) ps ?_ _ ⟨none,none,none,rfl⟩]
  .rw[Vj];rfl
  .rintro p _ env ⟨t,u,w,rfl⟩;exact⟨[some (.f,.int p.1),some (.f,.tup (p.2.1.map D.int)),some (.f,.tup (p.2.2.map D.int))],by unfold eP;simp only[pv,seval],.f,_,rfl,_,_,_,rfl⟩
 have hlen:((ps.map (·.1)).map D.int).length<=sizeLine:=bG (by rw[bD,bD];lia);have Ni:=Jm (ps.map (·.1));rw[ay (env':=[some (.f,eN nY ps),some (.f,.int 8),some (.l .f,.lst [eM (ps.map (·.1))]),none,none,none,none]) (by
  unfold eN eM;simp only[pv,seval,op,hc,hlen,Ni])]
 rw[ay (env':=[some (.f,eN nY ps),some (.f,.int 8),some (.l .f,.lst [eM (ps.map (·.1))]),some (.l .f,.lst []),none,none,none]) (by simp only[pv,seval,op])];rw[ay (env':=[some (.f,eN nY ps),some (.f,.int 8),some (.l .f,.lst [eM (ps.map (·.1))]),some (.l .f,.lst []),some (.f,.int 0),none,none]) (by simp only[pv,seval,op])];have w:=ES nY hn ps hl hp 9 100000 0 ([ps.map (·.1)],[]) (by show 1<=8;decide) (VD _) (U6 _) (by decide) (by decide) none none;unfold cy;cases hr:uq nY ps 9 0 ([ps.map (·.1)],[]) with
 |some r=>
  rw[hr]at w;obtain⟨hA,u4,u5,u6,w⟩:=w;rw[ay (env':=_) (by
   unfold eK;exact w)]
  unfold jb;simp only[pv,seval,op,wM r.2 (by lia)]
 |none=>
  rw[hr]at w;have w2:eK [some (.f,eN nY ps),some (.f,.int 8),some (.l .f,.lst [eM (ps.map (·.1))]),some (.l .f,.lst []),some (.f,.int 0),none,none]=.ok (.rt (.f,.non)):=by
   unfold eK;exact w
  rw[JY,w2];simp only[pv,seval]
def Le{α:Type}(k:Nat)(x:α)(l:List α):List α:=l.take k++x::l.drop k
def qK{α:Type}(k:Nat)(x:α)(l:List α):(Le k x l).length=l.length+1:=by
 unfold Le;rw[nH,Vc,Vt,Wa];lia
def wU{α β:Type}(f:α->β)(k:Nat)(x:α)(l:List α):(Le k x l).map f=Le k (f x) (l.map f):=by
 unfold Le;rw[Vh,dU,XQ,Zm]
def Ci{α β:Type}(k:Nat)(x:α)(y:β)(l:List α)(m:List β)(h:l.length=m.length):(Le k x l).zip (Le k y m)=Le k (x,y) (l.zip m):=by
 unfold Le;rw[List.zip_append (by rw[Vt,Vt,h]),V0];simp only[List.zip_eq_zipWith,List.take_zipWith,List.drop_zipWith]
def Cj{α:Type}(k:Nat){x y:α}{l m:List α}(hl:l.length=m.length)(h:Le k x l=Le k y m):l=m:=by
 unfold Le at h;obtain⟨h1,h2⟩:=List.append_inj h (by rw[Vt,Vt,hl]);have h3:=(WC h2).2;rw[<-XE k l,<-XE k m,h1,h3]
def Cm(j k:Nat)(z:Int×Pl)(zs:List (Int×Pl)):yL j (Le k z zs)=(yL j zs&&decide (J6 j z.2<=z.1)):=by
 unfold yL Le;rw[List.all_append,WR];conv=>rhs;rw[<-XE k zs,List.all_append]
 cases(List.take k zs).all fun z=>decide (J6 j z.2<=z.1) <;> cases(List.drop k zs).all fun z=>decide (J6 j z.2<=z.1) <;> cases decide (J6 j z.2<=z.1) <;> rfl
structure Im(nY:LNN)(ps:List Pl)(q:Pl)(LU:List Int->Int):Prop where
 z:LU (ps.map (·.1))=q.1
 mv:∀(j:Nat) (m m':List Int),j<nY.length->m.length=ps.length->bL j (m.zip ps)=some m'->J6 j q<=LU m/\LU m'=LU m-J6 j q+Ln j q
def yP{nY:LNN}{ps:List Pl}{q:Pl}{LU:List Int->Int}(im:Im nY ps q LU)(k j:Nat)(hj:j<nY.length)(m:List Int)(hm:m.length=ps.length):
  bL j ((Le k (LU m) m).zip (Le k q ps))=(bL j (m.zip ps)).map fun m'=>Le k (LU m') m':=by
 rw[Ci k _ _ m ps hm,jl,Cm];cases hc:yL j (m.zip ps) with
 |false=>
  have hf:bL j (m.zip ps)=none:=by rw[jl,hc];rfl
  rw[hf];rfl
 |true=>
  have hf:bL j (m.zip ps)=some ((m.zip ps).map fun z=>z.1-J6 j z.2+Ln j z.2):=by rw[jl,hc];rfl
  obtain⟨h1,h2⟩:=im.mv j m _ hj hm hf;rw[hf,YQ,h2,Vu h1,wU];rfl
def wV{S:List (List Int)}{t:List Int}(h:t∈S):S[pos S t]?=some t:=by
 have h3:(S.findIdx fun x=>decide (x=t))<S.length:=List.findIdx_lt_length_of_exists ⟨t,h,Vu rfl⟩;have h4:=YY (p:=fun x=>decide (x=t)) (xs:=S) (w:=h3);unfold pos;rw[lK h3];congr 1
 simpa using h4
def Zr(nY:LNN)(ps:List Pl):Prop:=∃S A m,Rm nY ps S A m/\S.length=8
section
variable{nY:LNN}{ps:List Pl}
theorem Cn{d j:Nat}{mv:List Nat}{r:Rn}(rm:Rm nY ps r.1 r.2 (d+1))(hd:d<r.1.length)(hj:nY[j]?=some mv)(fu:Fu nY ps r.1 r.2 d j):
  match g7 nY ps d mv r with
  |some r'=>Rm nY ps r'.1 r'.2 (d+1)/\Fu nY ps r'.1 r'.2 d (j+1)
  |none=>Zr nY ps:=by
 have hn:=Vm hj;have O4:r.1[d]?=some r.1[d]:=lK hd;have R5:r.1.getD d []=r.1[d]:=by rw[List.getD_eq_getElem?_getD,O4];rfl
 unfold g7;rw[R5];cases hf:bL (nY.idxOf mv) (r.1[d].zip ps) with
 |none=>exact⟨rm,fu.next O4 (fun _ _ h=>h) (fun _ h=>h) hj fun t h=>by rw[hf]at h;cases h⟩
 |some t=>
  dsimp only;by_cases hm:t∈r.1
  .rw[U5 hm];exact⟨rm.old hn O4 (wV hm) hf,fu.next O4 (fun _ _ h=>h) (fun _ h=>U7 _ h) hj fun t' h=>by rw[hf]at h;cases h;exact⟨_,wV hm,U2 _ (Vn.mpr rfl)⟩⟩
  .rw[U8 hm];by_cases h9:r.1.length=8
   .rw[U5 h9];exact⟨_,_,_,rm,h9⟩
   .rw[U8 h9];have:=rm.le;exact⟨rm.new hn O4 hm hf (by lia),fu.next O4 (fun i x h=>by rw[List.getElem?_append_left (lT h).1];exact h) (fun _ h=>U7 _ h) hj fun t' h=>by rw[hf]at h;cases h;exact⟨r.1.length,by rw[List.getElem?_append_right (U6 _),YR];rfl,U2 _ (Vn.mpr rfl)⟩⟩
theorem zU{d:Nat}:∀(l:LNN) (j:Nat) (r:Rn),nY.drop j=l->Rm nY ps r.1 r.2 (d+1)->d<r.1.length->Fu nY ps r.1 r.2 d j->
  match pU nY ps d l r with
  |some r'=>Rm nY ps r'.1 r'.2 (d+1)/\Fu nY ps r'.1 r'.2 d (j+l.length)
  |none=>Zr nY ps
 |[],j,r,_,rm,_,fu=>⟨rm,fu⟩
 |mv::l,j,r,hl,rm,hd,fu=>by
  have hj:nY[j]?=some mv:=by
   have:(nY.drop j)[0]?=some mv:=by rw[hl];rfl
   rw[List.getElem?_drop]at this;exact this
  have UD:nY.drop (j+1)=l:=by
   rw[<-List.tail_drop,hl];rfl
  have h1:=Cn rm hd hj fu;unfold pU;cases hs:g7 nY ps d mv r with
  |none=>
   rw[hs]at h1;exact h1
  |some r1=>
   rw[hs]at h1;have b:=sJ hs rm.le;have ih:=zU l (j+1) r1 UD h1.1 (by lia) h1.2;rw[Vc,show j+(l.length+1)=j+1+l.length by lia];exact ih
theorem zV(hn:nY.length<=3):∀(f d:Nat) (r:Rn),Rm nY ps r.1 r.2 d->d<=r.1.length->r.2.length<=3*d->Fu nY ps r.1 r.2 d 0->9<=f+d->
  match uq nY ps f d r with
  |some r'=>(∃m,Rm nY ps r'.1 r'.2 m)/\Fu nY ps r'.1 r'.2 r'.1.length 0/\r'.2.length<=24
  |none=>Zr nY ps
 | 0,d,r,rm,hd,_,_,hf=>by
  have:=rm.le;lia
 |f+1,d,r,rm,hd,hA,fu,hf=>by
  have h8:=rm.le;unfold uq;by_cases JL:d<r.1.length
  .rw[U5 JL];have h1:=zU nY 0 r rfl (rm.more (W2 d)) JL fu;cases hs:pU nY ps d nY r with
   |none=>
    rw[hs]at h1;exact h1
   |some r1=>
    rw[hs,ZM]at h1;have b:=yO nY hs h8;exact zV hn f (d+1) r1 h1.1 (by lia) (by lia) h1.2.row (by lia)
  .rw[U8 JL];have:d=r.1.length:=by lia
   exact⟨⟨d,rm⟩,this▸fu,by lia⟩
theorem rm0:Rm nY ps [ps.map (·.1)] [] 0:=⟨Vz.mpr ⟨Wb,WH⟩,rfl,fun x hx=>by rw[lM hx,bD],by simp,(fun _ h=>nomatch h),fun j j1 j2=>by rw[VC]at j2;lia⟩
theorem jm(hn:nY.length<=3):
  match cy nY ps with
  |some r'=>(∃m,Rm nY ps r'.1 r'.2 m)/\Fu nY ps r'.1 r'.2 r'.1.length 0/\r'.2.length<=24
  |none=>Zr nY ps:=zV hn 9 0 ([ps.map (·.1)],[]) rm0 (VD _) (U6 _) (fun i k h=>by lia) (by decide)
theorem sL{d:Nat}{mv:List Nat}{r r':Rn}(h:g7 nY ps d mv r=some r'):∀m∈r.1,m∈r'.1:=by
 unfold g7 at h;split at h
 .cases h;exact fun _ h=>h
 .split at h
  .cases h;exact fun _ h=>h
  .split at h
   .cases h
   .cases h;exact fun _ h=>U7 _ h
theorem qL{d:Nat}:∀(l:LNN) {r r':Rn},pU nY ps d l r=some r'->∀m∈r.1,m∈r'.1
 |[],r,r',h=>by cases h;exact fun _ h=>h
 |mv::l,r,r',h=>by
  unfold pU at h;obtain⟨r1,h1,h2⟩:=VB.mp h;exact fun m hm=>qL l h2 m (sL h1 m hm)
theorem wW:∀(f d:Nat) {r r':Rn},uq nY ps f d r=some r'->∀m∈r.1,m∈r'.1
 | 0,d,r,r',h=>by cases h;exact fun _ h=>h
 |f+1,d,r,r',h=>by
  unfold uq at h;split at h
  .obtain⟨r1,h1,h2⟩:=VB.mp h;exact fun m hm=>wW f (d+1) h2 m (qL nY h1 m hm)
  .cases h;exact fun _ h=>h
end
section
variable{nY:LNN}{ps Ki:List Pl}{h:List Int->List Int}{Sf:List (List Int)}
theorem ET(inj:∀m∈Sf,∀m'∈Sf,h m=h m'->m=m'){t:List Int}(ht:t∈Sf):∀{S:List (List Int)},(∀m∈S,m∈Sf)->pos (S.map h) (h t)=pos S t
 |[],_=>rfl
 |m::S,hS=>by
  have ih:=ET inj ht (S:=S) fun x hx=>hS x (U4 _ hx)
  unfold pos at ih ⊢;rw[dU,Yj,Yj,ih];have:decide (h m=h t)=decide (m=t):=by
   rw[decide_eq_decide];exact⟨fun e=>inj m (hS m UY) t ht e,fun e=>by rw[e]⟩
  rw[this]
structure Sim(nY:LNN)(ps Ki:List Pl)(h:List Int->List Int)(Sf:List (List Int)):Prop where
 z:h (ps.map (·.1))=Ki.map (·.1)
 fi:∀m∈Sf,∀mv∈nY,bL (nY.idxOf mv) ((h m).zip Ki)=(bL (nY.idxOf mv) (m.zip ps)).map h
 inj:∀m∈Sf,∀m'∈Sf,h m=h m'->m=m'
def hR(h:List Int->List Int)(r:Rn):Rn:=(r.1.map h,r.2)
theorem yQ(s:Sim nY ps Ki h Sf){d:Nat}{mv:List Nat}(L0:mv∈nY){r r':Rn}(hd:d<r.1.length)(hs:g7 nY ps d mv r=some r')(sub:∀m∈r'.1,m∈Sf):g7 nY Ki d mv (hR h r)=some (hR h r'):=by
 have R5:r.1.getD d []=r.1[d]:=by rw[List.getD_eq_getElem?_getD,lK hd];rfl
 have hgu:(hR h r).1.getD d []=h r.1[d]:=by
  unfold hR;rw[List.getD_eq_getElem?_getD,List.getElem?_map,lK hd];rfl
 have O5:∀m∈r.1,m∈Sf:=fun m hm=>sub m (sL hs m hm)
 unfold g7 at hs ⊢;rw[R5]at hs;rw[hgu,s.fi _ (O5 _ (WV hd)) mv L0];cases hf:bL (nY.idxOf mv) (r.1[d].zip ps) with
 |none=>
  rw[hf]at hs;cases hs;rfl
 |some t=>
  rw[hf]at hs;have e3:(hR h r).1.length=r.1.length:=bD _;dsimp only[Option.map]at hs ⊢;rw[e3];by_cases hm:t∈r.1
  .rw[U5 hm]at hs;cases hs;rw[U5 (show h t∈(hR h r).1 from VX.mpr ⟨t,hm,rfl⟩),show pos (hR h r).1 (h t)=pos r.1 t from ET s.inj (O5 t hm) O5];rfl
  .rw[U8 hm]at hs;by_cases h8:r.1.length=8
   .rw[U5 h8]at hs;cases hs
   .rw[U8 h8]at hs;cases hs;have ht:t∈Sf:=sub t (U2 _ (Vn.mpr rfl));rw[U8 (fun q=>by
     obtain⟨m,Pj,e⟩:=nU q;exact hm (s.inj m (O5 m Pj) t ht e▸Pj)),U8 h8]
    unfold hR;dsimp only;rw[Vh];rfl
theorem wX(s:Sim nY ps Ki h Sf){d:Nat}:∀(l:LNN),(∀mv∈l,mv∈nY)->∀{r r':Rn},r.1.length<=8->d<r.1.length->pU nY ps d l r=some r'->(∀m∈r'.1,m∈Sf)->pU nY Ki d l (hR h r)=some (hR h r')
 |[],_,r,r',_,_,e,_=>by cases e;rfl
 |mv::l,hl,r,r',h8,hd,e,sub=>by
  unfold pU at e ⊢;obtain⟨r1,h1,h2⟩:=VB.mp e;have b:=sJ h1 h8;rw[yQ s (hl mv UY) hd h1 fun m hm=>sub m (qL l h2 m hm)];exact wX s l (fun x hx=>hl x (U4 _ hx)) b.2.1 (by lia) h2 sub
theorem wY(s:Sim nY ps Ki h Sf):∀(f d:Nat) {r r':Rn},r.1.length<=8->uq nY ps f d r=some r'->(∀m∈r'.1,m∈Sf)->uq nY Ki f d (hR h r)=some (hR h r')
 | 0,d,r,r',_,e,_=>by cases e;rfl
 |f+1,d,r,r',h8,e,sub=>by
  have e3:(hR h r).1.length=r.1.length:=bD _;unfold uq at e ⊢;rw[e3];by_cases hd:d<r.1.length
  .rw[U5 hd]at e ⊢;obtain⟨r1,h1,h2⟩:=VB.mp e;rw[wX s nY (fun _ h=>h) h8 hd h1 fun m hm=>sub m (wW f (d+1) h2 m hm)];exact wY s f (d+1) (yO nY h1 h8).2.1 h2 sub
  .rw[U8 hd]at e ⊢;cases e;rfl
theorem mB{r:Rn}(e:cy nY ps=some r)(s:Sim nY ps Ki h r.1):cy nY Ki=some (hR h r):=by
 have:=wY s 9 0 (r:=([ps.map (·.1)],[])) (by show 1<=8;decide) e fun _ h=>h
 unfold cy;rw[<-this];unfold hR;rw[dU,VI,s.z]
end
def flat_P(p:Pl):flatD (eP p)=true:=by
 unfold eP;rw[cN];simp only[flatDs,cN,Jm,kA];rfl
def wZ(ps:List Pl):flatDs (ps.map eP)=true:=by
 rw[cG,Wm,Vy];exact fun p _=>flat_P p
theorem qM{α:Type}[DecidableEq α]:∀(l m:List α),l.Nodup->(∀x∈l,x∈m)->l.length<=m.length
 |[],m,_,_=>VD _
 |a::l,m,nd,h=>by
  rw[Vz]at nd;have ha:=h a UY;have:=qM l (m.erase a) nd.2 fun x hx=>(List.mem_erase_of_ne (fun e=>nd.1 (by rw[<-e];exact hx))).mpr (h x (U4 _ hx))
  rw[Yh ha]at this;have:=Xv ha;rw[Vc];lia
def nV(nY:LNN)(b:Int):Pl:=(b,nY.map fun _=>1,nY.map fun _=>0)
def sM(nY:LNN)(c:Int){k:Nat}(h:k<nY.length):(nY.map fun _=>c).getD k 0=c:=by
 rw[List.getD_eq_getElem?_getD,List.getElem?_map,lK h];rfl
def w5{nY:LNN}{ps:List Pl}{b:Int}{k:Nat}(hk:k<nY.length){s t:List Int}(hs:s.length=(ps++[nV nY b]).length)(hf:bL k (s.zip (ps++[nV nY b]))=some t):1<=s.getD ps.length 0/\t.getD ps.length 0=s.getD ps.length 0-1:=by
 rw[nH,VC]at hs;have JL:ps.length<s.length:=by lia
 have e:(s.zip (ps++[nV nY b]))[ps.length]?=some (s[ps.length],nV nY b):=by
  rw[List.getElem?_zip_eq_some];exact⟨lK JL,by rw[List.getElem?_append_right (U6 _),YR];rfl⟩
 obtain⟨h1,h2⟩:=nK k hf e;have e1:(nV nY b).2.1.getD k 0=1:=sM nY 1 hk;have e2:(nV nY b).2.2.getD k 0=0:=sM nY 0 hk;dsimp only at h1 h2;rw[e1]at h1;rw[e1,e2]at h2;have e3:s.getD ps.length 0=s[ps.length]:=by rw[List.getD_eq_getElem?_getD,lK JL];rfl
 rw[e3,List.getD_eq_getElem?_getD,h2];exact⟨by lia,by show _=_;simp⟩
def yR{nY:LNN}{ps:List Pl}{S:List (List Int)}{A:List Jw}{m:Nat}(r:Rm nY (ps++[nV nY 1]) S A m):S.length<=1+nY.length:=by
 have hz:=r.z;cases hS:S with
 |nil=>exact VD _
 |cons s0 tl=>
  rw[hS,List.getElem?_cons_zero,Yi]at hz;have h0:s0.getD ps.length 0=1:=by
   rw[hz,List.getD_eq_getElem?_getD,List.getElem?_map,List.getElem?_append_right (U6 _),YR];rfl
  have key:∀j:Nat,1<=j->∀s,S[j]?=some s->s.getD ps.length 0=0/\∃mv∈nY,bL (nY.idxOf mv) (s0.zip (ps++[nV nY 1]))=some s:=by
   intro j;induction j using Nat.strongRecOn with
   |_ j ih=>
    intro hj s hs;obtain⟨a,ha,e1,b,hb,e2⟩:=r.rc j hj (lT hs).1;obtain⟨hn,i',j',_,e3,e4,x,y,hx,hy,hf⟩:=r.ab a ha;have:i'=b:=by lia
    subst this;have:j'=j:=by lia
    subst this;rw[hs]at hy;cases hy;have hd:=w5 (VY hn) (r.ln x (Vm hx)) hf;cases i' with
    |zero=>
     rw[hS,List.getElem?_cons_zero,Yi]at hx;subst hx;exact⟨by lia,_,hn,hf⟩
    |succ i'=>
     have:=(ih (i'+1) hb (by lia) x hx).1;lia
  have nd:=r.nd;rw[hS]at nd;have:=qM tl (nY.filterMap fun mv=>bL (nY.idxOf mv) (s0.zip (ps++[nV nY 1]))) (Vz.mp nd).2 fun s hs=>by
   obtain⟨i,hi⟩:=VP.mp hs;obtain⟨_,mv,L0,hf⟩:=key (i+1) (by lia) s (by rw[hS,List.getElem?_cons_succ];exact hi);exact X3.mpr ⟨mv,L0,hf⟩
  have h2:=List.length_filterMap_le (fun mv=>bL (nY.idxOf mv) (s0.zip (ps++[nV nY 1]))) nY;rw[Vc];lia
def pJ(nY:LNN)(c:Int):c7 (aH 0) eF (aE (.int c)) (nY.map D.str) [none]=.ok ((nY.map fun _=>c).map D.int):=by
 rw[bY (r:=fun _:List Nat=>D.int c) (fun env=>∃t,env=[t]) nY ?_ _ ⟨none,rfl⟩]
 .rw[Vj];rfl
 .rintro n _ env ⟨t,rfl⟩;exact⟨[some (.f,.str n)],rfl,.f,_,rfl,_,rfl⟩
def IX(ps:List Pl)(hl:ps.length<=100)(d:D):addO (.lst (ps.map eP)) (.lst [d])=.ok (.l .f,.lst (ps.map eP++[d])):=by
 rw[qF,U5 (line_le (by rw[bD,VC];lia))]
structure Nt(nY:LNN)(ps:List Pl)(r:Rn):Prop where
 n0:nY≠[]
 n3:nY.length<=3
 nn:nY.Nodup
 p0:ps≠[]
 p9:ps.length<=12
 po:∀p∈ps,Kn p nY.length
 e:cy nY ps=some r
def w6(nY:LNN)(hn:nY.length<=3)(ps:List Pl)(hl:ps.length<=100)(hp:∀p∈ps,Kn p nY.length):
  (∃r,cy nY ps=some r/\bB [eN nY ps,.int 8]=.ok (.f,.tup [.lst ((aV bh r.2).map eA),.lst (r.1.map eM)]))\/(cy nY ps=none/\bB [eN nY ps,.int 8]=.ok (.f,.non)/\Zr nY ps):=by
 have h:=wR nY hn ps hl hp;have z:=jm (ps:=ps) hn;cases e:cy nY ps with
 |some r=>
  rw[e]at h;exact .inl ⟨r,rfl,h⟩
 |none=>
  rw[e]at h z;exact .inr ⟨rfl,h,z⟩
def He(ns:List Int)(first:Nat):∃nY ps r,Nt nY ps r/\ps.length<=9/\dn [.lst (ns.map D.int),.int (first:Int)]=.ok (.f,eN nY ps):=by
 obtain⟨nY,n0,n3,nn,nw,en⟩:=Cc ns;obtain⟨ps,TY,hp0,hp8,ep⟩:=yK ns first nY.length (by lia)
 have SS:=wZ ps;have Oa:flatD (.tup (nY.map D.str))=true:=by rw[cN,PV.flat_strs]
 have QX:flatD .non=true:=rfl;have QZ:∀(x y:List D),flatDs [.lst x,.lst y]=false:=fun _ _=>rfl
 unfold dn mq;rw[bq (h:=by rfl)];rw[ay (env':=[some (.f,.lst (ns.map D.int)),some (.f,.int (first:Int)),some (.f,.tup (nY.map D.str)),none,none,none,none]) (by simp only[pv,seval,op,en,Oa])];rw[ay (env':=[some (.f,.lst (ns.map D.int)),some (.f,.int (first:Int)),some (.f,.tup (nY.map D.str)),some (.f,.int (nY.length:Int)),none,none,none]) (by simp only[pv,seval,op,bD])];rw[ay (env':=[some (.f,.lst (ns.map D.int)),some (.f,.int (first:Int)),some (.f,.tup (nY.map D.str)),some (.f,.int (nY.length:Int)),some (.l .f,.lst (ps.map eP)),none,none]) (by simp only[pv,seval,op,ep,SS])];rcases w6 nY n3 ps (by lia) TY with⟨r,e,er⟩|⟨_,er,_⟩
 .refine⟨nY,ps,r,⟨n0,n3,nn,hp0,by lia,TY,e⟩,by lia,?_⟩;unfold eN at er ⊢;simp only[pv,seval,op,er,QZ,eD,o_isnT,B2,ED]
 .unfold eN at er;rw[ay (env':=[some (.f,.lst (ns.map D.int)),some (.f,.int (first:Int)),some (.f,.tup (nY.map D.str)),some (.f,.int (nY.length:Int)),some (.f,.lst (ps.map eP)),none,none]) (by simp only[pv,seval,op,er,QX,lE,eD])];have c1:=pJ nY 1;have c0:=pJ nY 0;have l1:((nY.map fun _=>(1:Int)).map D.int).length<=sizeLine:=bG (by rw[bD,bD];lia);have l0:((nY.map fun _=>(0:Int)).map D.int).length<=sizeLine:=bG (by rw[bD,bD];lia);have f1:=Jm (nY.map fun _=>(1:Int));have f0:=Jm (nY.map fun _=>(0:Int));rw[ay (env':=[some (.f,.lst (ns.map D.int)),some (.f,.int (first:Int)),some (.f,.tup (nY.map D.str)),some (.f,.int (nY.length:Int)),some (.f,.lst (ps.map eP)),some (.f,.tup ((nY.map fun _=>(1:Int)).map D.int)),none]) (by simp only[pv,seval,op,c1,l1,f1])];rw[ay (env':=[some (.f,.lst (ns.map D.int)),some (.f,.int (first:Int)),some (.f,.tup (nY.map D.str)),some (.f,.int (nY.length:Int)),some (.f,.lst (ps.map eP)),some (.f,.tup ((nY.map fun _=>(1:Int)).map D.int)),some (.f,.tup ((nY.map fun _=>(0:Int)).map D.int))]) (by simp only[pv,seval,op,c0,l0,f0])];have Pk:∀b:Int,(ps++[nV nY b]).map eP=ps.map eP++[.tup [.int b,.tup ((nY.map fun _=>(1:Int)).map D.int),.tup ((nY.map fun _=>(0:Int)).map D.int)]]:=fun b=>by
   rw[Vh];rfl
  have O6:∀b:Int,∀p∈ps++[nV nY b],Kn p nY.length:=fun b p hp=>by
   rcases uk hp with hp|hp
   .exact TY p hp
   .rw[lM hp];exact⟨bD _,bD _⟩
  have LG:∀b:Int,(ps++[nV nY b]).length<=9:=fun b=>by
   rw[nH,VC];lia
  have R6:∀b:Int,ps++[nV nY b]≠[]:=fun b h=>by simp at h
  have TZ:=fun d=>IX ps (by lia) d
  have lo:((ps.map eP).length)<=100:=by rw[bD];lia
  rcases w6 nY n3 (ps++[nV nY 2]) (by have:=LG 2;lia) (O6 2) with⟨r,e,er2⟩|⟨_,er2,_⟩
  .refine⟨nY,ps++[nV nY 2],r,⟨n0,n3,nn,R6 2,by have:=LG 2;lia,O6 2,e⟩,LG 2,?_⟩;unfold eN at er2 ⊢;rw[Pk]at er2 ⊢;simp only[pv,seval,op,TZ,er2,QZ,eD,o_isnT,B2,ED]
  .rcases w6 nY n3 (ps++[nV nY 1]) (by have:=LG 1;lia) (O6 1) with⟨r,e,er3⟩|⟨_,_,S,A,m,r,h8⟩
   .refine⟨nY,ps++[nV nY 1],r,⟨n0,n3,nn,R6 1,by have:=LG 1;lia,O6 1,e⟩,LG 1,?_⟩;unfold eN at er2 ⊢;rw[Pk]at er2 ⊢;rw[ay (env':=[some (.f,.lst (ns.map D.int)),some (.f,.int (first:Int)),some (.f,.tup (nY.map D.str)),some (.f,.int (nY.length:Int)),some (.f,.lst (ps.map eP)),some (.f,.tup ((nY.map fun _=>(1:Int)).map D.int)),some (.f,.tup ((nY.map fun _=>(0:Int)).map D.int))]) (by simp only[pv,seval,op,TZ,er2,QX,lE,eD])];simp only[pv,seval,op,TZ]
   .have:=yR r;lia
def w9{nY:LNN}{ps:List Pl}{r:Rn}(hn:nY.length<=3)(e:cy nY ps=some r):Ra nY r.2 r.1.length:=by
 have h:=jm (ps:=ps) hn;rw[e]at h;obtain⟨⟨m,rm⟩,_,L6⟩:=h;have h8:=rm.le;have h0:=(lT rm.z).1;refine⟨by lia,by lia,fun a ha=>?_,fun a ha=>(rm.ab a ha).1,id,rm.rc⟩;obtain⟨_,i,j,_,e1,e2,s,t,hs,ht,_⟩:=rm.ab a ha;have h1:=(lT hs).1;have h2:=(lT ht).1;lia
abbrev Gt:=Int×List Int×LNN
def wD(w:LNN):D:=.tup (w.map D.str)
def vG(n:Gt):D:=.tup [eM n.2.1,wD n.2.2]
def dG(N:List Gt):D:=.dct false (N.map fun n=>D.int n.1) (N.map vG)
theorem Co:∀(N:List Gt) (s:Int),getD (N.map fun n=>D.int n.1) (N.map vG) (.int s)=(N.find? fun n=>n.1==s).map vG
 |[],s=>rfl
 |z::L,s=>by
  have ih:=Co L s;unfold getD at ih ⊢;rw[dU,dU,V0];by_cases e:z.1=s
  .rw[List.find?_cons_of_pos (by show Jg (.int s) (.int z.1)=true;rw[Jg,VL];exact e.symm),List.find?_cons_of_pos (by simpa using e)];rfl
  .rw[List.find?_cons_of_neg (by show ¬ Jg (.int s) (.int z.1)=true;rw[Jg,VL];exact fun q=>e q.symm),List.find?_cons_of_neg (by simpa using e)];exact ih
theorem sN:∀{N:List Gt},(N.map (·.1)).Nodup->∀{n:Gt},n∈N->(N.find? fun z=>z.1==n.1)=some n
 |z::N,nd,n,h=>by
  rw[dU,Vz]at nd;rcases Vb.mp h with e|h
  .subst e;rw[List.find?_cons_of_pos (by simp)]
  .rw[List.find?_cons_of_neg (by
    simp only[VL];intro e;exact nd.1 (e▸VX.mpr ⟨n,h,rfl⟩))]
   exact sN nd.2 h
def FH{N:List Gt}{s:Int}{n:Gt}(h:(N.find? fun z=>z.1==s)=some n):Na (dG N) (.int s)=.ok (.f,vG n):=by
 unfold Na dG;dsimp only;rw[U5 (show eX false (.int s)=true from rfl),Co,h];rfl
def Hf(N:List Gt)(s:Int):Bu (.int s) (dG N)=.ok (.f,.bl (N.find? fun z=>z.1==s).isNone):=by
 unfold Bu dG;dsimp only;rw[U5 (show eX false (.int s)=true from rfl),Co];cases(N.find? fun z=>z.1==s) <;> rfl
def Hg{N:List Gt}{s:Int}(h:(N.find? fun z=>z.1==s)=none)(m:List Int)(w:LNN):qi (N.map fun n=>D.int n.1) (N.map vG) (.int s) (.tup [eM m,wD w])=((N++[(s,m,w)]).map (fun n=>D.int n.1),(N++[(s,m,w)]).map vG):=by
 rw[List.find?_eq_none]at h;have e:(N.map fun n=>D.int n.1).any (Jg (.int s))=false:=by
  rw[Xj,List.any_eq_false];intro x hx;show ¬ Jg (.int s) (.int x.1)=true;rw[Jg,VL];intro q;exact h x hx (by simp[q])
 unfold qi;rw[e,U8 U3,Vh,Vh];rfl
def gL(w:LNN):flatD (wD w)=true:=by
 unfold wD;rw[cN,PV.flat_strs]
def Cp(n:Gt):flatD (vG n)=true:=by
 unfold vG;rw[cN];simp only[flatDs,mz,gL,Wf]
def yS(N:List Gt):flatDs (N.map vG)=true:=jk fun n=>Cp n
def Cq(i:Nat)(f g:FX)(env:PV.Env):sPutP i f g env=Res.bnd (g env) (f:=⟨fun(p:R×PV.Env)=>Res.bnd (f p.2) (f:=⟨fun(q:R×PV.Env)=>match p.2[i]?,q.2[i]? with
 |some (some _),some (some (.pin pp .d,.dct tk ks vs))=>if eX tk q.1.2&&decide (ks.length<sizeLine) then .ok (.nx (q.2.set i (some (.pin pp .d,.dct tk (qi ks vs q.1.2 p.1.2).1 (qi ks vs q.1.2 p.1.2).2)))) else .bad
 |_,_=>.bad⟩)⟩):=id rfl
def zW(w w':LNN):D:=.tup [.str [111,110,101],wD w,wD w']
def HI(w w':LNN):D:=.tup [.str [116,119,111],wD w,wD w']
def ur(s:Int)(m:List Int)(n:Gt):Bool:=!(n.1==s)&&decide (n.2.1=m)
noncomputable def jI(N:List Gt)(s:Int)(m:List Int)(w:LNN):D ⊕ List Gt:=match N.find? (ur s m) with
 |some n=>.inl (zW n.2.2 w)
 |none=>match N.find? (fun n=>n.1==s) with
  |none=>.inr (N++[(s,m,w)])
  |some n=>if n.2.1=m then .inr N else .inl (HI n.2.2 w)
def Hh(a b:List Int):KS (eM a) (eM b)=.ok (.f,.bl (decide (a=b))):=by
 unfold KS;rw[gK,gK,wQ];rfl
def Hi(a b:List Int):LO (eM a) (eM b)=.ok (.f,.bl (!decide (a=b))):=by
 unfold LO;rw[gK,gK,wQ];rfl
def Q0(a b:D):Ji (.tup [a,b]) (.int 0)=.ok (.f,a):=rfl
def T3(a b:D):Ji (.tup [a,b]) (.int 1)=.ok (.f,b):=rfl
def Cr(N:List Gt)(nd:(N.map (·.1)).Nodup)(s:Int)(m:List Int)(w:LNN)(p:Yx)(n:Gt)(hn:n∈N):
  d7 [some (.pin p .f,dG N),some (.f,.int s),some (.f,eM m),some (.f,wD w),some (.f,.int n.1)]=if ur s m n then .ok (.rt (.t [.f,.pin p .f],.tup [zW n.2.2 w,dG N])) else .ok (.nx [some (.pin p .f,dG N),some (.f,.int s),some (.f,eM m),some (.f,wD w),some (.f,.int n.1)]):=by
 have hd:=FH (sN nd hn);have he:=Hh n.2.1 m;have f1:=gL n.2.2;unfold vG at hd;unfold d7 ur;generalize hG:dG N=GG at hd ⊢;cases h1:(n.1==s) with
 |true=>simp only[pv,seval,op,h1,V9,XA,eD]
 |false=>
  cases h2:decide (n.2.1=m) with
  |false=>simp only[pv,seval,op,h1,h2,hd,Q0,he,Xc,Zn,eD]
  |true=>
   simp only[pv,seval,op,gH,h1,h2,hd,Q0,T3,he,Xc,Zn];rfl
theorem pK(N:List Gt)(nd:(N.map (·.1)).Nodup)(s:Int)(m:List Int)(w:LNN)(p:Yx):∀(L:List Gt),(∀n∈L,n∈N)->∀t4:Option R,
  match L.find? (ur s m) with
  |some n=>d4 (aH 4) d7 (L.map fun n=>D.int n.1) [some (.pin p .f,dG N),some (.f,.int s),some (.f,eM m),some (.f,wD w),t4]=.ok (.rt (.t [.f,.pin p .f],.tup [zW n.2.2 w,dG N]))
  |none=>∃t,(t=t4\/∃k:Int,t=some (.f,.int k))/\d4 (aH 4) d7 (L.map fun n=>D.int n.1) [some (.pin p .f,dG N),some (.f,.int s),some (.f,eM m),some (.f,wD w),t4]=.ok (.nx [some (.pin p .f,dG N),some (.f,.int s),some (.f,eM m),some (.f,wD w),t])
 |[],_,t4=>⟨t4,.inl rfl,rfl⟩
 |n::L,h,t4=>by
  have hi:=Cr N nd s m w p n (h n UY);have ha:aH 4 (.int n.1) [some (.pin p .f,dG N),some (.f,.int s),some (.f,eM m),some (.f,wD w),t4]=.ok [some (.pin p .f,dG N),some (.f,.int s),some (.f,eM m),some (.f,wD w),some (.f,.int n.1)]:=rfl;cases hc:ur s m n with
  |true=>
   rw[List.find?_cons_of_pos hc];rw[hc,U5 rfl]at hi;show d4 _ _ (D.int n.1::L.map _) _=_;rw[cw,ha,JA,hi,JA]
  |false=>
   rw[List.find?_cons_of_neg (by rw[hc];exact U3)];rw[hc,U8 U3]at hi;have ih:=pK N nd s m w p L (fun n hn=>h n (U4 _ hn)) (some (.f,.int n.1));cases hf:L.find? (ur s m) with
   |some n'=>
    rw[hf]at ih;dsimp only at ih ⊢;show d4 _ _ (D.int n.1::L.map _) _=_;rw[cw,ha,JA,hi,JA];exact ih
   |none=>
    rw[hf]at ih;dsimp only at ih ⊢;obtain⟨t,ht,e⟩:=ih;refine⟨t,.inr (ht.elim (fun z=>⟨n.1,z⟩) id),?_⟩;show d4 _ _ (D.int n.1::L.map _) _=_;rw[cw,ha,JA,hi,JA];exact e
def Cs(N:List Gt):D ⊕ List Gt->D×D
 | .inl d=>(d,dG N)
 | .inr N'=>(.non,dG N')
def EU(N:List Gt)(nd:(N.map (·.1)).Nodup)(hN:N.length<=100)(s:Int)(m:List Int)(w:LNN)(p:Yx):lg p [dG N,.int s,eM m,wD w]=.ok (.t [.f,.pin p .d],.tup [(Cs N (jI N s m w)).1,(Cs N (jI N s m w)).2]):=by
 have fm:=mz m;have fw:=gL w;have O7:=pK N nd s m w p N (fun _ h=>h) none;unfold lg zN;rw[yC (h:=by rfl)];have e0:(dG N)=.dct false (N.map fun n=>D.int n.1) (N.map vG):=rfl;unfold jI;cases hf:N.find? (ur s m) with
 |some n=>
  rw[hf]at O7;dsimp only at O7 ⊢;have e:i9 [some (.pin p .d,dG N),some (.f,.int s),some (.f,eM m),some (.f,wD w),none]=.ok (.rt (.t [.f,.pin p .d],.tup [zW n.2.2 w,dG N])):=by
   unfold i9;show(d4 (aH 4) d7 (N.map fun n=>D.int n.1) [some (.pin p .f,dG N),some (.f,.int s),some (.f,eM m),some (.f,wD w),none]).bind (tZ 0 p (dG N))=_;rw[O7];show(if decide (p=p)&&aO .f (zW n.2.2 w) then Res.ok (Out.rt (.t [.f,.pin p .d],.tup [zW n.2.2 w,dG N])) else .bad)=_;have fr:aO .f (zW n.2.2 w)=true:=by
    unfold zW;rw[aO,cN];simp only[flatDs,gL,flatD,Wf]
   rw[fr,Vu rfl];rfl
  simp only[List.map,List.replicate,Wy,W4];rw[JY,e,JA];rfl
 |none=>
  rw[hf]at O7;dsimp only at O7 ⊢;obtain⟨t,ht,O7⟩:=O7;have e:i9 [some (.pin p .d,dG N),some (.f,.int s),some (.f,eM m),some (.f,wD w),none]=.ok (.nx [some (.pin p .d,dG N),some (.f,.int s),some (.f,eM m),some (.f,wD w),t]):=by
   unfold i9;show(d4 (aH 4) d7 (N.map fun n=>D.int n.1) [some (.pin p .f,dG N),some (.f,.int s),some (.f,eM m),some (.f,wD w),none]).bind (tZ 0 p (dG N))=_;rw[O7];show(if yr 0 p [some (.pin p .f,dG N),some (.f,.int s),some (.f,eM m),some (.f,wD w),t]&&cleanE 0 [some (.pin p .f,dG N),some (.f,.int s),some (.f,eM m),some (.f,wD w),t] then Res.ok (Out.nx [some (.pin p .d,dG N),some (.f,.int s),some (.f,eM m),some (.f,wD w),t]) else .bad)=_;have f1:yr 0 p [some (.pin p .f,dG N),some (.f,.int s),some (.f,eM m),some (.f,wD w),t]=true:=by
    show decide (p=p)=true;exact Vu rfl
   have f2:cleanE 0 [some (.pin p .f,dG N),some (.f,.int s),some (.f,eM m),some (.f,wD w),t]=true:=by
    rcases ht with e|⟨k,e⟩ <;> subst e <;> simp only[cleanE,List.set_cons_zero,WR,List.all_nil,aO,fm,fw,flatD,Wf]
   rw[f1,f2];rfl
  simp only[List.map,List.replicate,Wy,W4];rw[ay e];have hn:=Hf N s;unfold pb;cases hs:N.find? fun n=>n.1==s with
  |none=>
   rw[hs]at hn;have hp:=Hg hs m w;have hz:(N.map fun n=>D.int n.1).length<sizeLine:=ko (by rw[bD];lia);have e2:sPutP 0 (aR 1) (fH (aA (aR 2) (aA (aR 3) br))) [some (.pin p .d,dG N),some (.f,.int s),some (.f,eM m),some (.f,wD w),t]=.ok (.nx [some (.pin p .d,dG (N++[(s,m,w)])),some (.f,.int s),some (.f,eM m),some (.f,wD w),t]):=by
    rw[Cq];unfold dG;simp only[pv,seval,op,hp,hz,W5];rfl
   rw[ay (env':=[some (.pin p .d,dG (N++[(s,m,w)])),some (.f,.int s),some (.f,eM m),some (.f,wD w),t]) (by
    generalize dG (N++[(s,m,w)])=G2 at e2 ⊢;generalize dG N=G1 at e2 hn ⊢;generalize (sPutP 0 (aR 1) (fH (aA (aR 2) (aA (aR 3) br))))=TT at e2 ⊢;simp only[pv,seval,op,hn,Zo,e2])]
   show _=Res.ok (O.t [.f,.pin p .d],D.tup [.non,dG (N++[(s,m,w)])]);generalize dG (N++[(s,m,w)])=G2;simp only[pv,seval,op,gH]
  |some n=>
   rw[hs]at hn;have hd:=FH hs;unfold vG at hd;have K9:=Hi n.2.1 m;by_cases hm:n.2.1=m
   .rw[Vu hm]at K9;dsimp only;rw[U5 hm];show _=Res.ok (O.t [.f,.pin p .d],D.tup [.non,dG N]);generalize dG N=G1 at hd hn ⊢;rw[ay (env':=[some (.pin p .d,G1),some (.f,.int s),some (.f,eM m),some (.f,wD w),t]) (by simp only[pv,seval,op,hn,Xq,hd,Q0,K9,V9,eD])];simp only[pv,seval,op,gH]
   .rw[Vq hm]at K9;dsimp only;rw[U8 hm];show _=Res.ok (O.t [.f,.pin p .d],D.tup [HI n.2.2 w,dG N]);generalize dG N=G1 at hd hn ⊢;rw[JY];simp only[pv,seval,op,gH,hn,Xq,hd,Q0,T3,K9,Xc,eD];rfl
def jo(ap:List Jw)(s:Int)(m:List Nat):List Int:=(ap.filter fun a=>a.1==s&&a.2.1==m).map fun a=>a.2.2
def xa(nY:LNN)(ap:List Jw)(s:Int)(m:List Nat)(hl:ap.length<=16777216):fA [JD nY ap,.int s,.str m]=.ok (.l .f,.lst ((jo ap s m).map D.int)):=by
 unfold fA o9;rw[bq (h:=by rfl)];simp only[pv,seval,op,JD];rw[yz (p:=fun a:Jw=>a.1==s&&a.2.1==m) (r:=fun a:Jw=>D.int a.2.2) (fun env=>∃t1 t2 t3,env=[t1,t2,t3,some (.f,.int s),some (.f,.str m)]) ap ?_ _ ⟨_,_,_,rfl⟩]
 .rw[JA,U5 (yF hl),JA];unfold jo;rw[Vj];rfl
 .rintro a _ env ⟨t1,t2,t3,rfl⟩;refine⟨_,lF a t1 t2 t3 _,?_⟩;simp only[pv,seval,op];cases h1:a.1==s with
  |true=>
   cases h2:a.2.1==m with
   |true=>exact⟨_,rfl,_,_,rfl,_,_,_,rfl⟩
   |false=>exact⟨_,rfl,_,_,_,rfl⟩
  |false=>exact⟨_,rfl,_,_,_,rfl⟩
def EV(w:LNN)(mv:List Nat):D:=.tup [.str [115,116,117,99,107],wD w,.str mv]
def EW(w:LNN)(mv:List Nat):D:=.tup [.str [102,114,101,101],wD w,.str mv]
abbrev So:=Option D×List Gt
def cj(N:List Gt)(s:Int)(m:List Int)(w:LNN):So:=match jI N s m w with
 | .inl d=>(some d,N)
 | .inr N'=>(none,N')
def bM(m:List Int)(w:LNN):List Int->List Gt->So
 |[],N=>(none,N)
 |s::ss,N=>match cj N s m w with
  |(some d,N')=>(some d,N')
  |(none,N')=>bM m w ss N'
noncomputable def cZ(nY:LNN)(ps:List Pl)(ap:List Jw)(n:Gt)(mv:List Nat)(N:List Gt):So:=match bL (nY.idxOf mv) (n.2.1.zip ps),jo ap n.1 mv with
 |none,[]=>(none,N)
 |none,_::_=>(some (EV n.2.2 mv),N)
 |some _,[]=>(some (EW n.2.2 mv),N)
 |some t,s::ss=>bM t (n.2.2++[mv]) (s::ss) N
def aX(nY:LNN)(ps:List Pl)(ap:List Jw)(n:Gt):LNN->List Gt->So
 |[],N=>(none,N)
 |mv::r,N=>match cZ nY ps ap n mv N with
  |(some d,N')=>(some d,N')
  |(none,N')=>aX nY ps ap n r N'
structure Iv(N:List Gt):Prop where
 nd:(N.map (·.1)).Nodup
 bd:∀n∈N,0<=n.1/\n.1<12
 wl:∀(k:Nat) (n:Gt),N[k]?=some n->n.2.2.length<=k
def Iv.le{N:List Gt}(i:Iv N):N.length<=12:=by
 have:=nJ 12 i.nd (fun x hx=>by
  obtain⟨n,hn,e⟩:=nU hx;rw[<-e];exact i.bd n hn)
 rwa [bD]at this
structure Gr(N N':List Gt)(o:Option D):Prop where
 iv:Iv N'
 ex:∃more,N'=N++more
 fl:flatD (o.getD .non)=true
def Gr.refl{N:List Gt}(i:Iv N):Gr N N none:=⟨i,⟨[],(Vo N).symm⟩,rfl⟩
def Gr.trans{N N' N2:List Gt}{o o':Option D}(a:Gr N N' o)(b:Gr N' N2 o'):Gr N N2 o':=by
 obtain⟨m1,e1⟩:=a.ex;obtain⟨m2,e2⟩:=b.ex;exact⟨b.iv,⟨m1++m2,by rw[e2,e1,VH]⟩,b.fl⟩
def Gr.le{N N':List Gt}{o:Option D}(a:Gr N N' o):N.length<=N'.length:=by
 obtain⟨m,e⟩:=a.ex;rw[e,nH];lia
def yT(l:List Nat)(a b:D)(ha:flatD a=true)(hb:flatD b=true):flatD (.tup [.str l,a,b])=true:=by
 rw[cN];simp only[flatDs,ha,hb,flatD,Wf]
def nM{N:List Gt}(i:Iv N){s:Int}(hs:0<=s/\s<12)(m:List Int){w:LNN}(hw:w.length<=N.length):Gr N (cj N s m w).2 (cj N s m w).1:=by
 unfold cj jI;split
 .rename_i d hd;refine⟨i,⟨[],(Vo N).symm⟩,?_⟩;split at hd
  .cases hd;exact yT _ _ _ (gL _) (gL _)
  .split at hd
   .cases hd
   .split at hd
    .cases hd
    .cases hd;exact yT _ _ _ (gL _) (gL _)
 .rename_i N' hd;split at hd
  .cases hd
  .split at hd
   .rename_i hf;cases hd;rw[List.find?_eq_none]at hf;refine⟨⟨?_,fun n hn=>?_,fun k n hk=>?_⟩,⟨_,rfl⟩,rfl⟩
    .rw[Vh];refine Vs.mpr ⟨i.nd,Vz.mpr ⟨Wb,WH⟩,fun x hx y hy e=>?_⟩;obtain⟨n,hn,en⟩:=nU hx;have hy:y=s:=lM hy;exact hf n hn (by rw[VL,en,e,hy])
    .rcases uk hn with hn|hn
     .exact i.bd n hn
     .rw[lM hn];exact hs
    .rcases uo hk with h|⟨e1,e2⟩
     .exact i.wl k n h
     .rw[e2,e1];exact hw
   .split at hd
    .cases hd;exact Gr.refl i
    .cases hd
theorem nN(m:List Int)(w:LNN):∀(ss:List Int) {N:List Gt},Iv N->(∀s∈ss,0<=s/\s<12)->w.length<=N.length->Gr N (bM m w ss N).2 (bM m w ss N).1
 |[],N,i,_,_=>Gr.refl i
 |s::ss,N,i,hs,hw=>by
  have g:=nM i (hs s UY) m hw;unfold bM;split
  .rename_i d N' e;rw[e]at g;exact g
  .rename_i N' e;rw[e]at g;exact g.trans (nN m w ss g.iv (fun x hx=>hs x (U4 _ hx)) (Vx hw g.le))
def qN{nY:LNN}{ps:List Pl}{ap:List Jw}(hb:∀a∈ap,0<=a.2.2/\a.2.2<12){n:Gt}(mv:List Nat){N:List Gt}(i:Iv N)(hw:n.2.2.length+1<=N.length):Gr N (cZ nY ps ap n mv N).2 (cZ nY ps ap n mv N).1:=by
 unfold cZ;have hg:∀s∈jo ap n.1 mv,0<=s/\s<12:=fun s hs=>by
  unfold jo at hs;obtain⟨a,ha,e⟩:=nU hs;rw[<-e];exact hb a (WZ.mp ha).1
 split
 .exact Gr.refl i
 .exact⟨i,⟨[],(Vo N).symm⟩,yT _ _ _ (gL _) rfl⟩
 .exact⟨i,⟨[],(Vo N).symm⟩,yT _ _ _ (gL _) rfl⟩
 .rename_i t s ss _ e;rw[e]at hg;exact nN t _ (s::ss) i hg (by rw[nH];exact hw)
theorem gZ{nY:LNN}{ps:List Pl}{ap:List Jw}(hb:∀a∈ap,0<=a.2.2/\a.2.2<12){n:Gt}:∀(l:LNN) {N:List Gt},Iv N->n.2.2.length+1<=N.length->Gr N (aX nY ps ap n l N).2 (aX nY ps ap n l N).1
 |[],N,i,_=>Gr.refl i
 |mv::l,N,i,hw=>by
  have g:=qN (nY:=nY) (ps:=ps) hb mv i hw;unfold aX;split
  .rename_i d N' e;rw[e]at g;exact g
  .rename_i N' e;rw[e]at g;exact g.trans (gZ hb l g.iv (Vx hw g.le))
def Cu(N:List Gt)(s:Int)(m:List Int)(w:LNN):Cs N (jI N s m w)=((cj N s m w).1.getD .non,dG (cj N s m w).2):=by
 unfold cj;cases jI N s m w <;> rfl
def xb(N:List Gt)(i:Iv N)(s:Int)(m:List Int)(w:LNN):jB lg .d (dG N) [.int s,eM m,wD w]=.ok ((.f,(cj N s m w).1.getD .non),dG (cj N s m w).2):=rY (r:=(.f,(cj N s m w).1.getD .non)) fun p=>by
 have:=i.le;have h:=EU N i.nd (by lia) s m w p;rw[Cu]at h;exact h
def sO(N:List Gt):aO .d (dG N)=true:=by
 unfold dG;rw[aO];exact yS N
def zX(ds:List D):isnO (.tup ds) (.non)=.ok (.f,.bl true):=id rfl
def mC(N:List Gt)(s:Int)(m:List Int)(w:LNN):(cj N s m w).1=none\/∃ds,(cj N s m w).1=some (.tup ds):=by
 unfold cj jI;split
 .rename_i d hd;right;split at hd
  .cases hd;exact⟨_,rfl⟩
  .split at hd
   .cases hd
   .split at hd
    .cases hd
    .cases hd;exact⟨_,rfl⟩
 .exact .inl rfl
def EX(CH NE:D)(p:Yx)(N:List Gt)(i:Iv N)(st:Int)(m0:List Int)(w:LNN)(hw:w.length+1<=N.length)(mv:List Nat)(t:List Int)(s:Int)(hs:0<=s/\s<12)(t8 Kg:Option R):
  match(cj N s t (w++[mv])).1 with
  |some d=>cD [some (.f,CH),some (.f,NE),some (.pin p .d,dG N),some (.f,.int st),some (.f,eM m0),some (.f,wD w),some (.f,.str mv),some (.f,eM t),t8,some (.f,.int s),Kg]=.ok (.rt (.t [.f,.pin p .d],.tup [d,dG (cj N s t (w++[mv])).2]))
  |none=>cD [some (.f,CH),some (.f,NE),some (.pin p .d,dG N),some (.f,.int st),some (.f,eM m0),some (.f,wD w),some (.f,.str mv),some (.f,eM t),t8,some (.f,.int s),Kg]=.ok (.nx [some (.f,CH),some (.f,NE),some (.pin p .d,dG (cj N s t (w++[mv])).2),some (.f,.int st),some (.f,eM m0),some (.f,wD w),some (.f,.str mv),some (.f,eM t),t8,some (.f,.int s),some (.f,.non)]):=by
 have hle:=i.le;have ha:=IU w mv (by lia);have hc:=xb N i s t (w++[mv]);have gr:=nM i hs t (w:=w++[mv]) (by rw[nH];exact hw);have cl:=sO (cj N s t (w++[mv])).2;have fl:=gr.fl;have sh:=mC N s t (w++[mv]);revert hc cl fl sh;generalize (cj N s t (w++[mv])).1=o;generalize dG (cj N s t (w++[mv])).2=G2;generalize dG N=G1;intro hc cl fl sh;unfold wD at hc ⊢;have cf:aO .f (o.getD .non)=true:=by rw[aO];exact fl
 unfold cD;rw[ay (env':=[some (.f,CH),some (.f,NE),some (.pin p .d,G2),some (.f,.int st),some (.f,eM m0),some (.f,.tup (w.map D.str)),some (.f,.str mv),some (.f,eM t),t8,some (.f,.int s),some (.f,o.getD .non)]) (by
  simp only[pv,seval,op,B1,ha,hc,cl,cf,Wf];rfl)]
 rcases sh with e|⟨ds,e⟩
 .subst e;simp only[pv,seval,op,lE,Wv,eD]
 .subst e;simp only[pv,seval,op,gH,zX,Xd]
theorem xc(CH NE:D)(p:Yx)(st:Int)(m0:List Int)(w:LNN)(mv:List Nat)(t:List Int)(t8:Option R):∀(ss:List Int) (N:List Gt),Iv N->w.length+1<=N.length->(∀s∈ss,0<=s/\s<12)->∀t9 Kg:Option R,
  match(bM t (w++[mv]) ss N).1 with
  |some d=>d4 (aH 9) cD (ss.map D.int) [some (.f,CH),some (.f,NE),some (.pin p .d,dG N),some (.f,.int st),some (.f,eM m0),some (.f,wD w),some (.f,.str mv),some (.f,eM t),t8,t9,Kg]=.ok (.rt (.t [.f,.pin p .d],.tup [d,dG (bM t (w++[mv]) ss N).2]))
  |none=>∃u9 MS,d4 (aH 9) cD (ss.map D.int) [some (.f,CH),some (.f,NE),some (.pin p .d,dG N),some (.f,.int st),some (.f,eM m0),some (.f,wD w),some (.f,.str mv),some (.f,eM t),t8,t9,Kg]=.ok (.nx [some (.f,CH),some (.f,NE),some (.pin p .d,dG (bM t (w++[mv]) ss N).2),some (.f,.int st),some (.f,eM m0),some (.f,wD w),some (.f,.str mv),some (.f,eM t),t8,u9,MS])
 |[],N,_,_,_,t9,Kg=>⟨t9,Kg,rfl⟩
 |s::ss,N,i,hw,hs,t9,Kg=>by
  have h1:=EX CH NE p N i st m0 w hw mv t s (hs s UY) t8 Kg;have gr:=nM i (hs s UY) t (w:=w++[mv]) (by rw[nH];exact hw);have ha:aH 9 (.int s) [some (.f,CH),some (.f,NE),some (.pin p .d,dG N),some (.f,.int st),some (.f,eM m0),some (.f,wD w),some (.f,.str mv),some (.f,eM t),t8,t9,Kg]=.ok [some (.f,CH),some (.f,NE),some (.pin p .d,dG N),some (.f,.int st),some (.f,eM m0),some (.f,wD w),some (.f,.str mv),some (.f,eM t),t8,some (.f,.int s),Kg]:=rfl;unfold bM;cases hg:cj N s t (w++[mv]) with
  |mk o N'=>
   rw[hg]at h1 gr;cases o with
   |some d=>
    dsimp only at h1 ⊢;rw[dU,cw,ha,JA,h1,JA]
   |none=>
    dsimp only at h1 ⊢;have ih:=xc CH NE p st m0 w mv t t8 ss N' gr.iv (Vx hw gr.le) (fun x hx=>hs x (U4 _ hx)) (some (.f,.int s)) (some (.f,.non));cases hgs:(bM t (w++[mv]) ss N').1 with
    |some d=>
     rw[hgs]at ih;dsimp only at ih ⊢;rw[dU,cw,ha,JA,h1,JA];exact ih
    |none=>
     rw[hgs]at ih;dsimp only at ih ⊢;obtain⟨u9,MS,ih⟩:=ih;refine⟨u9,MS,?_⟩;rw[dU,cw,ha,JA,h1,JA];exact ih
def EY(t:List Int):PZ (eM t) .non=.ok (.f,.bl false):=id rfl
def zY(t:List Int):isnO (eM t) .non=.ok (.f,.bl true):=id rfl
def zZ:PZ .non .non=.ok (.f,.bl true):=id rfl
def EZ(nY:LNN)(ps:List Pl)(hl:ps.length<=100)(hp:∀q∈ps,Kn q nY.length)(ap:List Jw)(L6:ap.length<=60)(hb:∀a∈ap,0<=a.2.2/\a.2.2<12)(p:Yx)(N:List Gt)(i:Iv N)(n:Gt)(hw:n.2.2.length+1<=N.length)(mv:List Nat)(hm:mv∈nY)(t7 t8 t9 Kg:Option R):
  match(cZ nY ps ap n mv N).1 with
  |some d=>cE [some (.f,JD nY ap),some (.f,eN nY ps),some (.pin p .d,dG N),some (.f,.int n.1),some (.f,eM n.2.1),some (.f,wD n.2.2),some (.f,.str mv),t7,t8,t9,Kg]=.ok (.rt (.t [.f,.pin p .d],.tup [d,dG (cZ nY ps ap n mv N).2]))
  |none=>∃u7 u8 u9 MS,cE [some (.f,JD nY ap),some (.f,eN nY ps),some (.pin p .d,dG N),some (.f,.int n.1),some (.f,eM n.2.1),some (.f,wD n.2.2),some (.f,.str mv),t7,t8,t9,Kg]=.ok (.nx [some (.f,JD nY ap),some (.f,eN nY ps),some (.pin p .d,dG (cZ nY ps ap n mv N).2),some (.f,.int n.1),some (.f,eM n.2.1),some (.f,wD n.2.2),some (.f,.str mv),u7,u8,u9,MS]):=by
 have L0:=Cg nY ps hl hp n.2.1 mv hm;have MT:=xa nY ap n.1 mv (by lia);have UE:=Cf (bL (nY.idxOf mv) (n.2.1.zip ps));have hfg:=Jm (jo ap n.1 mv);have hg:∀s∈jo ap n.1 mv,0<=s/\s<12:=fun s hs=>by
  unfold jo at hs;obtain⟨a,ha,e⟩:=nU hs;rw[<-e];exact hb a (WZ.mp ha).1
 unfold cZ;unfold cE;rw[ay (env':=[some (.f,JD nY ap),some (.f,eN nY ps),some (.pin p .d,dG N),some (.f,.int n.1),some (.f,eM n.2.1),some (.f,wD n.2.2),some (.f,.str mv),some (.f,eO (bL (nY.idxOf mv) (n.2.1.zip ps))),t8,t9,Kg]) (by
  generalize eN nY ps=NE at L0 ⊢;generalize JD nY ap=CE at MT ⊢;simp only[pv,seval,op,L0,UE])]
 rw[ay (env':=[some (.f,JD nY ap),some (.f,eN nY ps),some (.pin p .d,dG N),some (.f,.int n.1),some (.f,eM n.2.1),some (.f,wD n.2.2),some (.f,.str mv),some (.f,eO (bL (nY.idxOf mv) (n.2.1.zip ps))),some (.l .f,.lst ((jo ap n.1 mv).map D.int)),t9,Kg]) (by
  generalize eN nY ps=NE at L0 ⊢;generalize JD nY ap=CE at MT ⊢;simp only[pv,seval,op,MT,hfg])]
 clear L0 MT UE;have lp:=fun t=>xc (JD nY ap) (eN nY ps) p n.1 n.2.1 n.2.2 mv t (some (.f,.lst ((jo ap n.1 mv).map D.int))) (jo ap n.1 mv) N i hw hg t9 Kg
 generalize eN nY ps=NE at lp ⊢;generalize JD nY ap=CE at lp ⊢;cases bL (nY.idxOf mv) (n.2.1.zip ps) with
 |none=>
  cases hgs:jo ap n.1 mv with
  |nil=>
   dsimp only;refine⟨some (.f,.non),some (.f,.lst []),t9,Kg,?_⟩;have c0:((0:Int)<((0:Nat):Int))=False:=by simp
   unfold eO;generalize dG N=G1;rw[ay (env':=[some (.f,CE),some (.f,NE),some (.pin p .d,G1),some (.f,.int n.1),some (.f,eM n.2.1),some (.f,wD n.2.2),some (.f,.str mv),some (.f,.non),some (.l .f,.lst []),t9,Kg]) (by simp only[pv,seval,op,zZ,VI,V8,X5,WE,eD] <;> rfl)];rw[ay (env':=[some (.f,CE),some (.f,NE),some (.pin p .d,G1),some (.f,.int n.1),some (.f,eM n.2.1),some (.f,wD n.2.2),some (.f,.str mv),some (.f,.non),some (.l .f,.lst []),t9,Kg]) (by simp only[pv,seval,op,lE,VI,eD])];unfold fO;simp only[pv,seval,op]
  |cons s ss=>
   dsimp only;unfold eO;generalize dG N=G1;have c0:decide ((0:Int)<((ss.length+1:Nat):Int))=true:=Vu (by lia);rw[JY];simp only[pv,seval,op,zZ,gH,bD,c0];rfl
 |some t=>
  have Qy:=lp t;clear lp;cases hgs:jo ap n.1 mv with
  |nil=>
   dsimp only;show _=Res.ok (Out.rt (O.t [.f,.pin p .d],D.tup [EW n.2.2 mv,dG N]));show(sSeq _ _) [some (.f,CE),some (.f,NE),some (.pin p .d,dG N),some (.f,.int n.1),some (.f,eM n.2.1),some (.f,wD n.2.2),some (.f,.str mv),some (.f,eM t),some (.l .f,.lst []),t9,Kg]=_;generalize dG N=G1;rw[ay (env':=[some (.f,CE),some (.f,NE),some (.pin p .d,G1),some (.f,.int n.1),some (.f,eM n.2.1),some (.f,wD n.2.2),some (.f,.str mv),some (.f,eM t),some (.l .f,.lst []),t9,Kg]) (by simp only[pv,seval,op,EY,eD])];rw[JY];simp only[pv,seval,op,zY,gH,V8];rfl
  |cons s ss=>
   rw[hgs]at Qy;dsimp only;show match(bM t (n.2.2++[mv]) (s::ss) N).1 with
    |some d=>(sSeq _ _) [some (.f,CE),some (.f,NE),some (.pin p .d,dG N),some (.f,.int n.1),some (.f,eM n.2.1),some (.f,wD n.2.2),some (.f,.str mv),some (.f,eM t),some (.l .f,.lst ((s::ss).map D.int)),t9,Kg]=.ok (.rt (.t [.f,.pin p .d],.tup [d,dG (bM t (n.2.2++[mv]) (s::ss) N).2]))
    |none=>∃u7 u8 u9 MS,(sSeq _ _) [some (.f,CE),some (.f,NE),some (.pin p .d,dG N),some (.f,.int n.1),some (.f,eM n.2.1),some (.f,wD n.2.2),some (.f,.str mv),some (.f,eM t),some (.l .f,.lst ((s::ss).map D.int)),t9,Kg]=.ok (.nx [some (.f,CE),some (.f,NE),some (.pin p .d,dG (bM t (n.2.2++[mv]) (s::ss) N).2),some (.f,.int n.1),some (.f,eM n.2.1),some (.f,wD n.2.2),some (.f,.str mv),u7,u8,u9,MS])
   have c0:(((ss.length+1:Nat):Int)==0)=false:=by
    rw[V2];lia
   rw[ay (env':=[some (.f,CE),some (.f,NE),some (.pin p .d,dG N),some (.f,.int n.1),some (.f,eM n.2.1),some (.f,wD n.2.2),some (.f,.str mv),some (.f,eM t),some (.l .f,.lst ((s::ss).map D.int)),t9,Kg]) (by
    generalize dG N=G1;simp only[pv,seval,op,EY,eD])]
   rw[ay (env':=[some (.f,CE),some (.f,NE),some (.pin p .d,dG N),some (.f,.int n.1),some (.f,eM n.2.1),some (.f,wD n.2.2),some (.f,.str mv),some (.f,eM t),some (.l .f,.lst ((s::ss).map D.int)),t9,Kg]) (by
    generalize dG N=G1;simp only[pv,seval,op,zY,bD,c0,eD])]
   have go:∀env':Res Out,d4 (aH 9) cD ((s::ss).map D.int) [some (.f,CE),some (.f,NE),some (.pin p .d,dG N),some (.f,.int n.1),some (.f,eM n.2.1),some (.f,wD n.2.2),some (.f,.str mv),some (.f,eM t),some (.f,.lst ((s::ss).map D.int)),t9,Kg]=env'->fO [some (.f,CE),some (.f,NE),some (.pin p .d,dG N),some (.f,.int n.1),some (.f,eM n.2.1),some (.f,wD n.2.2),some (.f,.str mv),some (.f,eM t),some (.l .f,.lst ((s::ss).map D.int)),t9,Kg]=env':=fun env' h=>by
    unfold fO;generalize dG N=G1 at h ⊢;generalize ((s::ss).map D.int)=LL at h ⊢;simp only[pv,seval,op];exact h
   cases MT:(bM t (n.2.2++[mv]) (s::ss) N).1 with
   |some d=>
    rw[MT]at Qy;exact go _ Qy
   |none=>
    rw[MT]at Qy;obtain⟨u9,MS,Qy⟩:=Qy;exact⟨_,_,u9,MS,go _ Qy⟩
structure Nc(nY:LNN)(ps:List Pl)(ap:List Jw):Prop where
 pl:ps.length<=100
 po:∀q∈ps,Kn q nY.length
 al:ap.length<=60
 ab:∀a∈ap,0<=a.2.2/\a.2.2<12
theorem xf{nY:LNN}{ps:List Pl}{ap:List Jw}(c:Nc nY ps ap)(p:Yx)(n:Gt):∀(l:LNN),(∀mv∈l,mv∈nY)->∀(N:List Gt),Iv N->n.2.2.length+1<=N.length->∀t6 t7 t8 t9 Kg:Option R,
  match(aX nY ps ap n l N).1 with
  |some d=>d4 (aH 6) cE (l.map D.str) [some (.f,JD nY ap),some (.f,eN nY ps),some (.pin p .d,dG N),some (.f,.int n.1),some (.f,eM n.2.1),some (.f,wD n.2.2),t6,t7,t8,t9,Kg]=.ok (.rt (.t [.f,.pin p .d],.tup [d,dG (aX nY ps ap n l N).2]))
  |none=>∃u6 u7 u8 u9 MS,d4 (aH 6) cE (l.map D.str) [some (.f,JD nY ap),some (.f,eN nY ps),some (.pin p .d,dG N),some (.f,.int n.1),some (.f,eM n.2.1),some (.f,wD n.2.2),t6,t7,t8,t9,Kg]=.ok (.nx [some (.f,JD nY ap),some (.f,eN nY ps),some (.pin p .d,dG (aX nY ps ap n l N).2),some (.f,.int n.1),some (.f,eM n.2.1),some (.f,wD n.2.2),u6,u7,u8,u9,MS])
 |[],_,N,_,_,t6,t7,t8,t9,Kg=>⟨t6,t7,t8,t9,Kg,rfl⟩
 |mv::l,hm,N,i,hw,t6,t7,t8,t9,Kg=>by
  have h1:=EZ nY ps c.pl c.po ap c.al c.ab p N i n hw mv (hm mv UY) t7 t8 t9 Kg;have gr:=qN (nY:=nY) (ps:=ps) c.ab mv i hw;have ha:aH 6 (.str mv) [some (.f,JD nY ap),some (.f,eN nY ps),some (.pin p .d,dG N),some (.f,.int n.1),some (.f,eM n.2.1),some (.f,wD n.2.2),t6,t7,t8,t9,Kg]=.ok [some (.f,JD nY ap),some (.f,eN nY ps),some (.pin p .d,dG N),some (.f,.int n.1),some (.f,eM n.2.1),some (.f,wD n.2.2),some (.f,.str mv),t7,t8,t9,Kg]:=rfl;unfold aX;cases hg:cZ nY ps ap n mv N with
  |mk o N'=>
   rw[hg]at h1 gr;cases o with
   |some d=>
    dsimp only at h1 ⊢;rw[dU,cw,ha,JA,h1,JA]
   |none=>
    dsimp only at h1 ⊢;obtain⟨u7,u8,u9,MS,h1⟩:=h1;have ih:=xf c p n l (fun x hx=>hm x (U4 _ hx)) N' gr.iv (Vx hw gr.le) (some (.f,.str mv)) u7 u8 u9 MS;cases hgs:(aX nY ps ap n l N').1 with
    |some d=>
     rw[hgs]at ih;dsimp only at ih ⊢;rw[dU,cw,ha,JA,h1,JA];exact ih
    |none=>
     rw[hgs]at ih;dsimp only at ih ⊢;obtain⟨v6,v7,v8,v9,v10,ih⟩:=ih;refine⟨v6,v7,v8,v9,v10,?_⟩;rw[dU,cw,ha,JA,h1,JA];exact ih
def uu(nn:Nat)(c:O)(g:FS)(p:Yx)(d0 d1 d2 d3:D):fBodyJ 2 4 nn c g p [d0,d1,d2,d3]=Res.bnd (g ([some (.f,d1),some (.f,d2),some (.pin p c,d0),some (.f,d3)]++List.replicate nn none)) (f:=⟨fun o=>match o with | .rt r=>.ok r|_=>.bad⟩):=by
 unfold fBodyJ;dsimp only;rw[U5 ⟨rfl,(by decide:2<=3)⟩];rfl
def xg{nY:LNN}{ps:List Pl}{ap:List Jw}(c:Nc nY ps ap)(p:Yx)(N:List Gt)(i:Iv N)(n:Gt)(hn:n∈N)(hw:n.2.2.length+1<=N.length):
  dH p [dG N,JD nY ap,eN nY ps,.int n.1]=.ok (.t [.f,.pin p .d],.tup [(aX nY ps ap n nY N).1.getD .non,dG (aX nY ps ap n nY N).2]):=by
 have hd:=FH (sN i.nd hn);unfold vG at hd;have fm:=mz n.2.1;have fw:=gL n.2.2;have lp:=xf c p n nY (fun _ h=>h) N i hw none none none none none;unfold dH pd;rw[uu];simp only[List.replicate,Wy,W4];rw[ay (env':=[some (.f,JD nY ap),some (.f,eN nY ps),some (.pin p .d,dG N),some (.f,.int n.1),some (.f,eM n.2.1),none,none,none,none,none,none]) (by
  generalize dG N=G1 at hd ⊢;simp only[pv,seval,op,hd,Q0,fm])]
 rw[ay (env':=[some (.f,JD nY ap),some (.f,eN nY ps),some (.pin p .d,dG N),some (.f,.int n.1),some (.f,eM n.2.1),some (.f,wD n.2.2),none,none,none,none,none]) (by
  generalize dG N=G1 at hd ⊢;simp only[pv,seval,op,hd,T3,fw])]
 have go:∀r:Res Out,d4 (aH 6) cE (nY.map D.str) [some (.f,JD nY ap),some (.f,eN nY ps),some (.pin p .d,dG N),some (.f,.int n.1),some (.f,eM n.2.1),some (.f,wD n.2.2),none,none,none,none,none]=r->iI [some (.f,JD nY ap),some (.f,eN nY ps),some (.pin p .d,dG N),some (.f,.int n.1),some (.f,eM n.2.1),some (.f,wD n.2.2),none,none,none,none,none]=r:=fun r h=>by
  unfold iI;generalize dG N=G1 at h ⊢;unfold JD at h ⊢;generalize eN nY ps=NE at h ⊢;simp only[pv,seval,op];exact h
 cases MT:(aX nY ps ap n nY N).1 with
 |some d=>
  rw[MT]at lp;rw[JY,go _ lp,JA];rfl
 |none=>
  rw[MT]at lp;obtain⟨u6,u7,u8,u9,MS,lp⟩:=lp;rw[ay (go _ lp)];unfold jV;generalize dG (aX nY ps ap n nY N).2=G2;generalize eN nY ps=NE;generalize JD nY ap=CE;simp only[pv,seval,op,gH,Wv]
def E4{nY:LNN}{ps:List Pl}{ap:List Jw}(c:Nc nY ps ap)(N:List Gt)(i:Iv N)(n:Gt)(hn:n∈N)(hw:n.2.2.length+1<=N.length):jB dH .d (dG N) [JD nY ap,eN nY ps,.int n.1]=.ok ((.f,(aX nY ps ap n nY N).1.getD .non),dG (aX nY ps ap n nY N).2):=
 rY (r:=(.f,(aX nY ps ap n nY N).1.getD .non)) fun p=>xg c p N i n hn hw
def cF(nY:LNN)(ps:List Pl)(ap:List Jw):Nat->Nat->List Gt->So
 | 0,_,N=>(none,N)
 |f+1,k,N=>match N[k]? with
  |none=>(none,N)
  |some n=>match aX nY ps ap n nY N with
   |(some d,N')=>(some d,N')
   |(none,N')=>cF nY ps ap f (k+1) N'
def E5{c:O}{F:Yx->List D->Res R}{i:Nat}{fs:FOs}{env e:PV.Env}{o0 o1 o2:Opd}{ow:O}{d0:D}{ds:List D}{x:R×D}(h:fs env=.ok ([o0,o1,.var i,o2],e))(hi:e[i]?=some (some (ow,d0)))(ho:oY c ow=true)(hd:iV (e.set i none) [o0,o1,o2]=.ok ds)(hc:jB F c d0 ds=.ok x)(LN:(aO x.1.1 x.1.2&&aO c x.2)=true):
  wg 2 c F i fs env=.ok (x.1,(e.set i none).set i (some (ow,x.2))):=by
 unfold wg;rw[h];show(match([o0,o1,Opd.var i,o2]:List Opd)[2]? with
  |some (.var j')=>if j'=i then(match e[i]? with
   |some (some (ow,d0))=>if oY c ow then(iV (e.set i none) (([o0,o1,Opd.var i,o2]:List Opd).eraseIdx 2)).bind fun ds=>(jB F c d0 ds).bind fun x=>if aO x.1.1 x.1.2&&aO c x.2 then .ok (x.1,(e.set i none).set i (some (ow,x.2))) else .ok (x.1,((e.set i none).map frz).set i (some (ow,x.2))) else .bad
   |_=>.bad) else .bad
  |_=>.bad)=_
 show(if i=i then(match e[i]? with
   |some (some (ow,d0))=>if oY c ow then(iV (e.set i none) [o0,o1,o2]).bind fun ds=>(jB F c d0 ds).bind fun x=>if aO x.1.1 x.1.2&&aO c x.2 then .ok (x.1,(e.set i none).set i (some (ow,x.2))) else .ok (x.1,((e.set i none).map frz).set i (some (ow,x.2))) else .bad
   |_=>.bad) else .bad)=_
 rw[U5 rfl,hi];dsimp only;rw[U5 ho,hd];show((jB F c d0 ds).bind fun x=>if aO x.1.1 x.1.2&&aO c x.2 then .ok (x.1,(e.set i none).set i (some (ow,x.2))) else .ok (x.1,((e.set i none).map frz).set i (some (ow,x.2))))=_;rw[hc];show(if aO x.1.1 x.1.2&&aO c x.2 then Res.ok (x.1,(e.set i none).set i (some (ow,x.2))) else .ok (x.1,((e.set i none).map frz).set i (some (ow,x.2))))=_;rw[U5 LN]
def uv(nY:LNN)(ps:List Pl)(ap:List Jw)(n:Gt)(mv:List Nat)(N:List Gt):∀d,(cZ nY ps ap n mv N).1=some d->∃ds,d=.tup ds:=by
 have gs:∀(m:List Int) (w:LNN) (ss:List Int) (N:List Gt) d,(bM m w ss N).1=some d->∃ds,d=.tup ds:=by
  intro m w ss;induction ss with
  |nil=>intro N d h;cases h
  |cons s ss ih=>
   intro N d h;unfold bM at h;rcases mC N s m w with e|⟨ds,e⟩
   .split at h
    .rename_i d' N' e';rw[e']at e;cases e
    .exact ih _ d h
   .split at h
    .rename_i d' N' e';rw[e']at e;cases e;cases h;exact⟨ds,rfl⟩
    .rename_i N' e';rw[e']at e;cases e
 intro d h;unfold cZ at h;split at h
 .cases h
 .cases h;exact⟨_,rfl⟩
 .cases h;exact⟨_,rfl⟩
 .exact gs _ _ _ _ d h
theorem lI(nY:LNN)(ps:List Pl)(ap:List Jw)(n:Gt):∀(l:LNN) (N:List Gt) d,(aX nY ps ap n l N).1=some d->∃ds,d=.tup ds
 |[],N,d,h=>by cases h
 |mv::l,N,d,h=>by
  unfold aX at h;split at h
  .rename_i d' N' e;cases h;exact uv nY ps ap n mv N d (by rw[e])
  .exact lI nY ps ap n l _ d h
def Cv(N:List Gt):vZ [dG N]=.ok (.l .f,.lst (N.map fun n=>D.int n.1)):=rfl
def E6{nY:LNN}{ps:List Pl}{ap:List Jw}(c:Nc nY ps ap)(N:List Gt)(i:Iv N)(k:Nat)(n:Gt)(hk:N[k]?=some n)(t4:Option R):
  match(aX nY ps ap n nY N).1 with
  |some d=>fB [some (.f,JD nY ap),some (.f,eN nY ps),some (.d,dG N),some (.f,.int (k:Int)),t4]=.ok (.rt (.f,d))
  |none=>fB [some (.f,JD nY ap),some (.f,eN nY ps),some (.d,dG N),some (.f,.int (k:Int)),t4]=.ok (.nx [some (.f,JD nY ap),some (.f,eN nY ps),some (.d,dG (aX nY ps ap n nY N).2),some (.f,.int ((k+1:Nat):Int)),some (.f,.non)]):=by
 have hn:n∈N:=Vm hk;have hkl:=(lT hk).1;have Pu:=i.wl k n hk;have hw:n.2.2.length+1<=N.length:=by lia
 have gr:=gZ (nY:=nY) (ps:=ps) c.ab nY i hw (n:=n);have hc:=E4 c N i n hn hw;have cl:=sO (aX nY ps ap n nY N).2;have sh:=lI nY ps ap n nY N;have cf:aO .f ((aX nY ps ap n nY N).1.getD .non)=true:=by rw[aO];exact gr.fl
 have N7:Kd (N.map fun n=>D.int n.1) (k:Int)=some (.int n.1):=gc (by rw[List.getElem?_map,hk];rfl);have UG:=Cv N;revert hc cl sh cf;generalize (aX nY ps ap n nY N).1=o;generalize dG (aX nY ps ap n nY N).2=G2;intro hc cl sh cf;unfold fB;have e1:wg 2 (.d) dH 2 (ag (aw 0) (ag (aw 1) (ag (aw 2) (ag (aq (aB Ji (aq (a7 vZ (ag (aw 2) aG))) (aw 3))) aG)))) [some (.f,JD nY ap),some (.f,eN nY ps),some (.d,dG N),some (.f,.int (k:Int)),t4]=.ok ((.f,o.getD .non),[some (.f,JD nY ap),some (.f,eN nY ps),some (.d,G2),some (.f,.int (k:Int)),t4]):=by
  generalize dG N=G1 at UG hc ⊢;generalize eN nY ps=NE at hc ⊢;generalize JD nY ap=CE at hc ⊢;rw[E5 (o0:=.var 0) (o1:=.var 1) (o2:=.val (.int n.1)) (e:=[some (.f,CE),some (.f,NE),some (.d,G1),some (.f,.int (k:Int)),t4]) (ow:=.d) (d0:=G1) (ds:=[CE,NE,.int n.1]) (by simp only[pv,seval,op,UG,N7]) rfl rfl rfl hc (by
   show(aO .f (o.getD .non)&&aO .d G2)=true;rw[cf,cl];rfl)]
  rfl
 rw[ay (env':=[some (.f,JD nY ap),some (.f,eN nY ps),some (.d,G2),some (.f,.int (k:Int)),some (.f,o.getD .non)]) (by
  generalize dG N=G1 at e1 ⊢;generalize eN nY ps=NE at e1 ⊢;generalize JD nY ap=CE at e1 ⊢;rw[NQ,e1,JA];rfl)]
 generalize eN nY ps=NE;generalize JD nY ap=CE;cases o with
 |some d=>
  obtain⟨ds,rfl⟩:=sh d rfl;dsimp only;rw[JY];simp only[pv,seval,op,zX,Xd]
 |none=>
  dsimp only;rw[ay (env':=[some (.f,CE),some (.f,NE),some (.d,G2),some (.f,.int (k:Int)),some (.f,.non)]) (by simp only[pv,seval,op,lE,Wv,eD])];simp only[pv,seval,op,X0,X5]
def E7(N:List Gt):f7 [dG N]=.ok (.f,.int (N.length:Int)):=by
 show Res.ok (O.f,D.int (((N.map fun n=>D.int n.1).length:Nat):Int))=_;rw[bD]
section
variable{nY:LNN}{ps:List Pl}{ap:List Jw}{f k:Nat}{N N':List Gt}{n:Gt}{d:D}
theorem g0(h:N[k]?=none):cF nY ps ap (f+1) k N=(none,N):=by rw[cF,h]
theorem jq(h:N[k]?=some n)(hm:aX nY ps ap n nY N=(some d,N')):cF nY ps ap (f+1) k N=(some d,N'):=by
 rw[cF,h];dsimp only;rw[hm]
theorem jJ(h:N[k]?=some n)(hm:aX nY ps ap n nY N=(none,N')):cF nY ps ap (f+1) k N=cF nY ps ap f (k+1) N':=by
 rw[cF,h];dsimp only;rw[hm]
end
theorem held_w{nY:LNN}{ps:List Pl}{ap:List Jw}(c:Nc nY ps ap):∀(f F k:Nat) (N:List Gt),Iv N->k<=N.length->13<=f+k->f<=F->∀t4:Option R,
  match(cF nY ps ap f k N).1 with
  |some d=>dB (JE (aB Mw (aw 3) (aq (a7 f7 (ag (aw 2) aG))))) fB F [some (.f,JD nY ap),some (.f,eN nY ps),some (.d,dG N),some (.f,.int (k:Int)),t4]=.ok (.rt (.f,d))
  |none=>∃u4,dB (JE (aB Mw (aw 3) (aq (a7 f7 (ag (aw 2) aG))))) fB F [some (.f,JD nY ap),some (.f,eN nY ps),some (.d,dG N),some (.f,.int (k:Int)),t4]=.ok (.nx [some (.f,JD nY ap),some (.f,eN nY ps),some (.d,dG (cF nY ps ap f k N).2),some (.f,.int ((cF nY ps ap f k N).2.length:Int)),u4])
 | 0,F,k,N,i,hk,hf,_,t4=>by
  have:=i.le;lia
 |f+1,0,k,N,i,hk,hf,hF,t4=>by lia
 |f+1,F+1,k,N,i,hk,hf,hF,t4=>by
  have hlen:=E7 N;by_cases JL:k<N.length
  .have LH:N[k]?=some N[k]:=lK JL;have h1:=E6 c N i k N[k] LH t4;have Pu:=i.wl k _ LH;have gr:=gZ (nY:=nY) (ps:=ps) c.ab nY i (n:=N[k]) (by lia);have hc:(JE (aB Mw (aw 3) (aq (a7 f7 (ag (aw 2) aG))))) [some (.f,JD nY ap),some (.f,eN nY ps),some (.d,dG N),some (.f,.int (k:Int)),t4]=.ok (true,[some (.f,JD nY ap),some (.f,eN nY ps),some (.d,dG N),some (.f,.int (k:Int)),t4]):=by
    have:(k:Int)<(N.length:Int):=by lia
    generalize dG N=G1 at hlen ⊢;generalize eN nY ps=NE;generalize JD nY ap=CE;simp only[pv,seval,op,hlen,this,W5]
   cases hg:aX nY ps ap N[k] nY N with
   |mk o N'=>
    rw[hg]at h1 gr;cases o with
    |some d=>
     rw[jq LH hg];dsimp only at h1 ⊢;rw[eT,hc,JA];dsimp only;rw[U5 rfl,h1,JA]
    |none=>
     rw[jJ LH hg];dsimp only at h1 gr ⊢;have hl:=gr.le;have ih:=held_w c f F (k+1) N' gr.iv (by lia) (by lia) (by lia) (some (.f,.non));cases hgs:(cF nY ps ap f (k+1) N').1 with
     |some d=>
      rw[hgs]at ih;dsimp only at ih ⊢;rw[eT,hc,JA];dsimp only;rw[U5 rfl,h1,JA];exact ih
     |none=>
      rw[hgs]at ih;dsimp only at ih ⊢;obtain⟨w4,ih⟩:=ih;refine⟨w4,?_⟩;rw[eT,hc,JA];dsimp only;rw[U5 rfl,h1,JA];exact ih
  .have LH:N[k]?=none:=List.getElem?_eq_none (by lia);have ek:k=N.length:=by lia
   rw[g0 LH];dsimp only;refine⟨t4,?_⟩;have hc:(JE (aB Mw (aw 3) (aq (a7 f7 (ag (aw 2) aG))))) [some (.f,JD nY ap),some (.f,eN nY ps),some (.d,dG N),some (.f,.int (k:Int)),t4]=.ok (false,[some (.f,JD nY ap),some (.f,eN nY ps),some (.d,dG N),some (.f,.int (k:Int)),t4]):=by
    have:¬ (k:Int)<(N.length:Int):=by lia
    generalize dG N=G1 at hlen ⊢;generalize eN nY ps=NE;generalize JD nY ap=CE;simp only[pv,seval,op,hlen,this,WE]
   rw[eT,hc,JA];dsimp only;rw[U8 U3,ek]
def N0(ps:List Pl):List Gt:=[(0,ps.map (·.1),[])]
def T4(ps:List Pl):Iv (N0 ps):=by
 refine⟨?_,fun n hn=>?_,fun k n hk=>?_⟩
 .show[(0:Int)].Nodup;exact Vz.mpr ⟨Wb,WH⟩
 .rw[lM hn];exact⟨Int.le_refl 0,(by decide:(0:Int)<12)⟩
 .cases k with
  |zero=>
   cases hk;exact U6 _
  |succ k=>simp[N0]at hk
abbrev walk(nY:LNN)(ps:List Pl)(ap:List Jw):So:=cF nY ps ap 13 0 (N0 ps)
def mk(N:List Gt)(s:Int):List Int:=((N.find? fun z=>z.1==s).map (·.2.1)).getD []
def E8{N:List Gt}{s:Int}{n:Gt}(h:(N.find? fun z=>z.1==s)=some n):mk N s=n.2.1:=by
 unfold mk;rw[h];rfl
def yU{N:List Gt}{s:Int}(h:s∈N.map (·.1)):∃n,(N.find? fun z=>z.1==s)=some n:=by
 cases hf:N.find? fun z=>z.1==s with
 |none=>
  rw[List.find?_eq_none]at hf;obtain⟨z,hz,e⟩:=nU h;exact absurd (VL.mpr e) (hf z hz)
 |some n=>exact⟨n,rfl⟩
def E9(l:List (List Int)):D:=.tup [.str [115,97,109,101],.lst (l.map eM)]
def Fb(N:List Gt)(k:Nat)(all:∀s:Nat,s<k->(s:Int)∈N.map (·.1)):c7 (aH 0) eF (aB Ji (aq (aB Na (aw 1) (aw 0))) (aq (aE (.int 0)))) ((List.range k).map fun(s:Nat)=>D.int (s:Int)) [none,some (.f,dG N)]=.ok (((List.range k).map fun(s:Nat)=>mk N (s:Int)).map eM):=by
 rw[bY (r:=fun s:Nat=>eM (mk N (s:Int))) (fun env=>∃t,env=[t,some (.f,dG N)]) (List.range k) ?_ _ ⟨none,rfl⟩]
 .rw[Vj];rfl
 .rintro s hs env ⟨t,rfl⟩;obtain⟨n,hn⟩:=yU (all s (VF.mp hs));have hd:=FH hn;unfold vG at hd;rw[E8 hn];generalize dG N=G1 at hd ⊢;exact⟨[some (.f,.int (s:Int)),some (.f,G1)],rfl,.f,[some (.f,.int (s:Int)),some (.f,G1)],by simp only[pv,seval,op,hd,Q0],_,rfl⟩
def Fc{nY:LNN}{ps:List Pl}{ap:List Jw}(c:Nc nY ps ap)(MX:0<=ba ap/\ba ap<=12)(all:(walk nY ps ap).1=none->∀s:Nat,s<(ba ap).toNat->(s:Int)∈(walk nY ps ap).2.map (·.1)):
  ml [JD nY ap,eN nY ps]=.ok (.f,((walk nY ps ap).1).getD (E9 ((List.range (ba ap).toNat).map fun(s:Nat)=>mk (walk nY ps ap).2 (s:Int)))):=by
 have Ka:=c.pl;have L6:=c.al;have UH:=Cd nY ps (by lia);have fm:=mz (ps.map (·.1));have Q1:=qH nY ap (by lia);have hw:=held_w c 13 100000 0 (N0 ps) (T4 ps) (VD _) (by lia) (by lia) none;have K9:LO (.tup (nY.map D.str)) (.tup (nY.map D.str))=.ok (.f,.bl false):=gI _ (by rw[plainD];exact fE _ _);have R7:Ji (JD nY ap) (.int 0)=.ok (.f,.tup (nY.map D.str)):=rfl;have Kr:Ji (eN nY ps) (.int 0)=.ok (.f,.tup (nY.map D.str)):=rfl;unfold ml zO;rw[bq (h:=by rfl)];rw[ay (env':=[some (.f,JD nY ap),some (.f,eN nY ps),none,none,none]) (by
  generalize eN nY ps=NE at Kr ⊢;generalize JD nY ap=CE at R7 ⊢;simp only[pv,seval,op,R7,Kr,K9,eD])]
 rw[ay (env':=[some (.f,JD nY ap),some (.f,eN nY ps),some (.d,dG (N0 ps)),none,none]) (by
  generalize eN nY ps=NE at UH ⊢;generalize JD nY ap=CE;simp only[pv,seval,op,UH,fm];rfl)]
 rw[ay (env':=[some (.f,JD nY ap),some (.f,eN nY ps),some (.d,dG (N0 ps)),some (.f,.int ((0:Nat):Int)),none]) (by
  generalize dG (N0 ps)=G0;simp only[pv,seval,op] <;> rfl)]
 unfold walk at all ⊢;cases MT:(cF nY ps ap 13 0 (N0 ps)).1 with
 |some d=>
  rw[MT]at hw;dsimp only at hw;rw[JY];unfold nh;rw[hw,JA];rfl
 |none=>
  rw[MT]at hw;obtain⟨u4,hw⟩:=hw;have SU:=Fb (cF nY ps ap 13 0 (N0 ps)).2 (ba ap).toNat (all MT)
  rw[ay (env':=_) (by
   unfold nh;exact hw)]
  unfold pe;have TN:(((List.range (ba ap).toNat).map fun(s:Nat)=>mk (cF nY ps ap 13 0 (N0 ps)).2 (s:Int)).map eM).length<=sizeLine:=bG (by
   rw[bD,bD,Vi];lia)
  generalize ((List.range (ba ap).toNat).map fun(s:Nat)=>mk (cF nY ps ap 13 0 (N0 ps)).2 (s:Int))=RR at SU TN ⊢;generalize dG (cF nY ps ap 13 0 (N0 ps)).2=G2 at SU ⊢;generalize eN nY ps=NE;generalize JD nY ap=CE at Q1 ⊢;have hr:=GZ (ba ap) MX.1 (by lia) (aq (dA cC (ag (aw 0) aG))) [some (.f,CE),some (.f,NE),some (.d,G2),some (.f,.int ((cF nY ps ap 13 0 (N0 ps)).2.length:Int)),u4] [some (.f,CE),some (.f,NE),some (.d,G2),some (.f,.int ((cF nY ps ap 13 0 (N0 ps)).2.length:Int)),u4] (.val (.int (ba ap))) (by simp only[pv,seval,op,Q1]) rfl;generalize c6 (aq (dA cC (ag (aw 0) aG)))=IT at hr ⊢;generalize (aB Ji (aq (aB Na (aw 1) (aw 0))) (aq (aE (.int 0))))=GG at SU ⊢;simp only[pv,seval,op,hr,SU,TN];rfl
def fT{ap:List Jw}{x s:Int}{mv:List Nat}:s∈jo ap x mv<->((x,mv,s):Jw)∈ap:=by
 unfold jo;rw[VX];constructor
 .rintro⟨a,ha,e⟩;obtain⟨h1,h2⟩:=WZ.mp ha;rw[Va,VL,VL]at h2;obtain⟨a1,a2,a3⟩:=a;obtain⟨e1,e2⟩:=h2;cases e1;cases e2;cases e;exact h1
 .intro h;exact⟨(x,mv,s),WZ.mpr ⟨h,by simp⟩,rfl⟩
def yV{N:List Gt}{s:Int}{m:List Int}{w:LNN}(h:(cj N s m w).1=none):s∈(cj N s m w).2.map (·.1):=by
 unfold cj jI at h ⊢;cases hf:N.find? (ur s m) with
 |some n=>
  rw[hf]at h;cases h
 |none=>
  rw[hf]at h;dsimp only at h ⊢;cases hs:N.find? fun n=>n.1==s with
  |none=>
   dsimp only;rw[Vh];exact U2 _ (Vn.mpr rfl)
  |some n=>
   rw[hs]at h;dsimp only at h ⊢;by_cases hm:n.2.1=m
   .rw[U5 hm];have h1:=List.find?_some hs;have h1:n.1=s:=by simpa using h1
    exact VX.mpr ⟨n,List.mem_of_find?_eq_some hs,h1⟩
   .rw[U8 hm]at h;cases h
def Gr.up{N N':List Gt}{o:Option D}(g:Gr N N' o){s:Int}(h:s∈N.map (·.1)):s∈N'.map (·.1):=by
 obtain⟨m,e⟩:=g.ex;rw[e,Vh];exact U7 _ h
theorem pL(m:List Int)(w:LNN):∀(ss:List Int) (N:List Gt),Iv N->(∀s∈ss,0<=s/\s<12)->w.length<=N.length->(bM m w ss N).1=none->∀s∈ss,s∈(bM m w ss N).2.map (·.1)
 |[],N,_,_,_,_=>fun _ h=>nomatch h
 |s::ss,N,i,hs,hw,h=>by
  have gr:=nM i (hs s UY) m hw;have gh:=yV (N:=N) (s:=s) (m:=m) (w:=w);unfold bM at h ⊢;cases hg:cj N s m w with
  |mk o N'=>
   rw[hg]at gr gh h;cases o with
   |some d=>cases h
   |none=>
    dsimp only at gr gh h ⊢;have g2:=nN m w ss gr.iv (fun x hx=>hs x (U4 _ hx)) (Vx hw gr.le);have ih:=pL m w ss N' gr.iv (fun x hx=>hs x (U4 _ hx)) (Vx hw gr.le) h;intro x hx;rcases Vb.mp hx with e|hx
    .rw[e];exact g2.up (gh rfl)
    .exact ih x hx
def Cw{ap:List Jw}(hb:∀a∈ap,0<=a.2.2/\a.2.2<12){x:Int}{mv:List Nat}:∀s∈jo ap x mv,0<=s/\s<12:=fun s hs=>hb _ (fT.mp hs)
theorem pM{nY:LNN}{ps:List Pl}{ap:List Jw}(hb:∀a∈ap,0<=a.2.2/\a.2.2<12){n:Gt}:∀(l:LNN) (N:List Gt),Iv N->n.2.2.length+1<=N.length->(aX nY ps ap n l N).1=none->∀mv∈l,∀s∈jo ap n.1 mv,s∈(aX nY ps ap n l N).2.map (·.1)
 |[],N,_,_,_=>fun _ h=>nomatch h
 |mv::l,N,i,hw,h=>by
  have gr:=qN (nY:=nY) (ps:=ps) hb mv i hw;have mh:(cZ nY ps ap n mv N).1=none->∀s∈jo ap n.1 mv,s∈(cZ nY ps ap n mv N).2.map (·.1):=fun h=>by
   unfold cZ at h ⊢;have hg:=Cw hb (x:=n.1) (mv:=mv);cases hf:bL (nY.idxOf mv) (n.2.1.zip ps) with
   |none=>
    rw[hf]at h;cases hgs:jo ap n.1 mv with
    |nil=>exact fun _ h=>nomatch h
    |cons s ss=>rw[hgs]at h;cases h
   |some t=>
    rw[hf]at h;cases hgs:jo ap n.1 mv with
    |nil=>rw[hgs]at h;cases h
    |cons s ss=>
     rw[hgs]at h hg;exact pL t (n.2.2++[mv]) (s::ss) N i hg (by rw[nH];exact hw) h
  unfold aX at h ⊢;cases hg:cZ nY ps ap n mv N with
  |mk o N'=>
   rw[hg]at gr mh h;cases o with
   |some d=>cases h
   |none=>
    dsimp only at gr mh h ⊢;have g2:=gZ (nY:=nY) (ps:=ps) hb l gr.iv (n:=n) (Vx hw gr.le);have ih:=pM hb l N' gr.iv (Vx hw gr.le) h;intro x hx s hs;rcases Vb.mp hx with e|hx
    .rw[e]at hs;exact g2.up (mh rfl s hs)
    .exact ih x hx s hs
def Cl(nY:LNN)(ap:List Jw)(N:List Gt)(k:Nat):Prop:=∀(j:Nat) (n:Gt),j<k->N[j]?=some n->∀mv∈nY,∀s∈jo ap n.1 mv,s∈N.map (·.1)
theorem sP{nY:LNN}{ps:List Pl}{ap:List Jw}(hb:∀a∈ap,0<=a.2.2/\a.2.2<12):∀(f k:Nat) (N:List Gt),Iv N->k<=N.length->13<=f+k->Cl nY ap N k->(cF nY ps ap f k N).1=none->Gr N (cF nY ps ap f k N).2 none/\Cl nY ap (cF nY ps ap f k N).2 (cF nY ps ap f k N).2.length
 | 0,k,N,i,hk,hf,_,_=>by
  have:=i.le;lia
 |f+1,k,N,i,hk,hf,cl,h=>by
  by_cases JL:k<N.length
  .have LH:N[k]?=some N[k]:=lK JL;have Pu:=i.wl k _ LH;have gr:=gZ (nY:=nY) (ps:=ps) hb nY i (n:=N[k]) (by lia);have mh:=pM (nY:=nY) (ps:=ps) hb (n:=N[k]) nY N i (by lia);cases hg:aX nY ps ap N[k] nY N with
   |mk o N'=>
    rw[hg]at gr mh;cases o with
    |some d=>rw[jq LH hg]at h;cases h
    |none=>
     rw[jJ LH hg]at h ⊢;dsimp only at gr mh;have hl:=gr.le;obtain⟨more,em⟩:=gr.ex;have cl':Cl nY ap N' (k+1):=fun j n hj hn mv L0 s hs=>by
      have Qz:N[j]?=some n:=by rw[em,List.getElem?_append_left (by lia)]at hn;exact hn
      by_cases ej:j=k
      .subst ej;rw[LH]at Qz;cases Qz;exact mh rfl mv L0 s hs
      .exact gr.up (cl j n (by lia) Qz mv L0 s hs)
     obtain⟨g2,c2⟩:=sP hb f (k+1) N' gr.iv (by lia) (by lia) cl' h;exact⟨gr.trans g2,c2⟩
  .have LH:N[k]?=none:=List.getElem?_eq_none (by lia);have ek:k=N.length:=by lia
   rw[g0 LH];exact⟨Gr.refl i,ek▸cl⟩
section
variable{P:Int->Prop}
theorem Fd{N:List Gt}{s:Int}{m:List Int}{w:LNN}(h:∀n∈N,P n.1)(hs:P s):∀n∈(cj N s m w).2,P n.1:=by
 unfold cj jI;cases N.find? (ur s m) with
 |some n=>exact h
 |none=>
  dsimp only;cases N.find? fun n=>n.1==s with
  |none=>
   intro n hn;rcases uk hn with hn|hn
   .exact h n hn
   .rw[lM hn];exact hs
  |some n=>
   dsimp only;by_cases hm:n.2.1=m
   .rw[U5 hm];exact h
   .rw[U8 hm];exact h
theorem xh(m:List Int)(w:LNN):∀(ss:List Int) (N:List Gt),(∀n∈N,P n.1)->(∀s∈ss,P s)->∀n∈(bM m w ss N).2,P n.1
 |[],N,h,_=>h
 |s::ss,N,h,hs=>by
  have g:=Fd (m:=m) (w:=w) h (hs s UY);unfold bM;cases hg:cj N s m w with
  |mk o N'=>
   rw[hg]at g;cases o with
   |some d=>exact g
   |none=>exact xh m w ss N' g fun x hx=>hs x (U4 _ hx)
theorem xi{nY:LNN}{ps:List Pl}{ap:List Jw}(ha:∀a∈ap,P a.2.2){n:Gt}:∀(l:LNN) (N:List Gt),(∀n∈N,P n.1)->∀n'∈(aX nY ps ap n l N).2,P n'.1
 |[],N,h=>h
 |mv::l,N,h=>by
  have g:∀n'∈(cZ nY ps ap n mv N).2,P n'.1:=by
   unfold cZ;split
   .exact h
   .exact h
   .exact h
   .rename_i t s ss _ e;exact xh t _ (s::ss) N h fun x hx=>ha _ (fT.mp (by rw[e];exact hx))
  unfold aX;cases hg:cZ nY ps ap n mv N with
  |mk o N'=>
   rw[hg]at g;cases o with
   |some d=>exact g
   |none=>exact xi ha l N' g
theorem z4{nY:LNN}{ps:List Pl}{ap:List Jw}(ha:∀a∈ap,P a.2.2):∀(f k:Nat) (N:List Gt),(∀n∈N,P n.1)->∀n∈(cF nY ps ap f k N).2,P n.1
 | 0,k,N,h=>h
 |f+1,k,N,h=>by
  cases hk:N[k]? with
  |none=>rw[g0 hk];exact h
  |some n=>
   have g:=xi (nY:=nY) (ps:=ps) ha (n:=n) nY N h;cases hg:aX nY ps ap n nY N with
   |mk o N'=>
    rw[hg]at g;cases o with
    |some d=>rw[jq hk hg];exact g
    |none=>rw[jJ hk hg];exact z4 ha f (k+1) N' g
end
def walk_all{nY:LNN}{ps:List Pl}{ap:List Jw}{mZ:Nat}(r:Ra nY ap mZ)(h:(walk nY ps ap).1=none):
  (walk nY ps ap).2.length<=12/\((walk nY ps ap).2.length:Int)=ba ap/\∀s:Nat,s<(walk nY ps ap).2.length->(s:Int)∈(walk nY ps ap).2.map (·.1):=by
 have hm:=r.mm;have hb:∀a∈ap,0<=a.2.2/\a.2.2<12:=fun a ha=>by
  have:=r.bd a ha;lia
 have MX:=pG hm.1 r.bd;obtain⟨g,cl⟩:=sP (nY:=nY) (ps:=ps) hb 13 0 (N0 ps) (T4 ps) (VD _) (by lia) (fun j n hj=>by lia) h;have kp:=z4 (P:=fun s=>0<=s/\s<ba ap) (nY:=nY) (ps:=ps) (ap:=ap) (fun a ha=>⟨(hb a ha).1,(pF ha).2⟩) 13 0 (N0 ps) (fun n hn=>by
  rw[lM hn];exact⟨Int.le_refl 0,by show(0:Int)<_;lia⟩)
 unfold walk at h ⊢;generalize cF nY ps ap 13 0 (N0 ps)=W at h g cl kp ⊢;have z0:(0:Int)∈W.2.map (·.1):=g.up (Vn.mpr rfl);obtain⟨f,rc⟩:=r.rc;have kk:∀q j:Nat,f j=q->j<mZ->(j:Int)∈W.2.map (·.1):=by
  intro q;induction q using Nat.strongRecOn with
  |_ q ih=>
   intro j hq hj;cases j with
   |zero=>exact z0
   |succ j=>
    obtain⟨a,ha,e1,b,hbj,e2⟩:=rc (j+1) (by lia) hj;have hbd:=(r.bd a ha).1;obtain⟨n,hn,en⟩:=nU (ih (f b) (by lia) b rfl (by lia));obtain⟨x,hx,ex⟩:=WQ hn;have:=cl x n hx (by rw[lK hx,ex]) a.2.1 (r.nm a ha) a.2.2 (fT.mpr (by rw[en,<-e2];exact ha));rw[e1]at this;exact this
 have key:∀j:Nat,j<mZ->(j:Int)∈W.2.map (·.1):=fun j hj=>kk (f j) j rfl hj
 have len:(W.2.length:Int)=ba ap:=by
  have l1:W.2.length<=(ba ap).toNat:=by
   have:=nJ (ba ap).toNat g.iv.nd (fun x hx=>by
    obtain⟨n,hn,e⟩:=nU hx;rw[<-e];have:=kp n hn;lia)
   rwa [bD]at this
  have l2:(ba ap).toNat<=W.2.length:=by
   have:=qM ((List.range (ba ap).toNat).map fun(s:Nat)=>(s:Int)) (W.2.map (·.1)) (di _ _ fun i j _ _ e=>by lia) (fun x hx=>by
    obtain⟨s,hs,e⟩:=nU hx;rw[<-e];exact key s (by have:=VF.mp hs;lia))
   rwa [bD,Vi,bD]at this
  lia
 exact⟨g.iv.le,len,fun s hs=>key s (by lia)⟩
def Ow(S:List (List Int))(N:List Gt):Prop:=∀n∈N,∃j:Nat,n.1=(j:Int)/\S[j]?=some n.2.1
def yW{S:List (List Int)}(nd:S.Nodup){N:List Gt}(o:Ow S N){j:Nat}{t:List Int}(hj:S[j]?=some t)(w:LNN):(cj N (j:Int) t w).1=none/\Ow S (cj N (j:Int) t w).2:=by
 have hf:N.find? (ur (j:Int) t)=none:=by
  rw[List.find?_eq_none];intro n hn h;unfold ur at h;rw[Va,Ve]at h;obtain⟨i,e1,e2⟩:=o n hn;rw[h.2]at e2;obtain⟨h1,h2⟩:=lT e2;obtain⟨h3,h4⟩:=lT hj;have:i=j:=by
   have pw:=WG.mp nd;rcases Yk i j with hl|hl|hl
   .exact absurd (h2.trans h4.symm) (pw i j h1 h3 hl)
   .exact hl
   .exact absurd (h4.trans h2.symm) (pw j i h3 h1 hl)
  rw[e1,this]at h;simp at h
 unfold cj jI;rw[hf];dsimp only;cases hs:N.find? fun n=>n.1==(j:Int) with
 |none=>
  refine⟨rfl,fun n hn=>?_⟩;rcases uk hn with hn|hn
  .exact o n hn
  .rw[lM hn];exact⟨j,rfl,hj⟩
 |some n=>
  dsimp only;have h1:=List.find?_some hs;have h1:n.1=(j:Int):=by simpa using h1
  obtain⟨i,e1,e2⟩:=o n (List.mem_of_find?_eq_some hs);have:i=j:=by lia
  rw[this,hj]at e2;have e3:n.2.1=t:=(Vg e2).symm;rw[U5 e3];exact⟨rfl,o⟩
theorem pN{S:List (List Int)}(nd:S.Nodup){t:List Int}(w:LNN):∀(ss:List Int) (N:List Gt),Ow S N->(∀s∈ss,∃j:Nat,s=(j:Int)/\S[j]?=some t)->(bM t w ss N).1=none/\Ow S (bM t w ss N).2
 |[],N,o,_=>⟨rfl,o⟩
 |s::ss,N,o,h=>by
  obtain⟨j,e,hj⟩:=h s UY;subst e;obtain⟨g1,g2⟩:=yW nd o hj w;unfold bM;cases hg:cj N (j:Int) t w with
  |mk q N'=>
   rw[hg]at g1 g2;dsimp only at g1;subst g1;exact pN nd w ss N' g2 fun x hx=>h x (U4 _ hx)
structure Or(nY:LNN)(ps:List Pl)(S:List (List Int))(ap:List Jw):Prop where
 nd:S.Nodup
 z:S[0]?=some (ps.map (·.1))
 ab:∀(x s:Int) (mv:List Nat),((x,mv,s):Jw)∈ap->∃i j:Nat,x=(i:Int)/\s=(j:Int)/\∃a b,S[i]?=some a/\S[j]?=some b/\bL (nY.idxOf mv) (a.zip ps)=some b
 fu:∀(i:Nat) (mv:List Nat) (a t:List Int),mv∈nY->S[i]?=some a->bL (nY.idxOf mv) (a.zip ps)=some t->∃m:Nat,(((i:Int),mv,(m:Int)):Jw)∈ap
def yX{nY:LNN}{ps:List Pl}{S:List (List Int)}{ap:List Jw}(r:Or nY ps S ap){n:Gt}(hn:∃j:Nat,n.1=(j:Int)/\S[j]?=some n.2.1)(mv:List Nat)(hm:mv∈nY){N:List Gt}(o:Ow S N):(cZ nY ps ap n mv N).1=none/\Ow S (cZ nY ps ap n mv N).2:=by
 obtain⟨i,e1,e2⟩:=hn;have ar:∀s∈jo ap n.1 mv,∃(j:Nat) (t:List Int),s=(j:Int)/\S[j]?=some t/\bL (nY.idxOf mv) (n.2.1.zip ps)=some t:=fun s hs=>by
  obtain⟨i',j,h1,h2,a,b,h3,h4,h5⟩:=r.ab _ _ _ (fT.mp hs);have:i'=i:=by lia
  rw[this,e2]at h3;rw[<-Vg h3]at h5;exact⟨j,b,h2,h4,h5⟩
 unfold cZ;cases hf:bL (nY.idxOf mv) (n.2.1.zip ps) with
 |none=>
  cases hg:jo ap n.1 mv with
  |nil=>exact⟨rfl,o⟩
  |cons s ss=>
   exfalso;rw[hg,hf]at ar;obtain⟨j,t,_,_,h⟩:=ar s UY;cases h
 |some t=>
  cases hg:jo ap n.1 mv with
  |nil=>
   exfalso;obtain⟨m,hm⟩:=r.fu i mv n.2.1 t hm e2 hf;have:=fT.mpr hm;rw[<-e1,hg]at this;cases this
  |cons s ss=>
   rw[hg,hf]at ar;refine pN r.nd _ (s::ss) N o fun x hx=>?_
   obtain⟨j,t',h1,h2,h3⟩:=ar x hx;rw[<-Vg h3]at h2;exact⟨j,h1,h2⟩
theorem pO{nY:LNN}{ps:List Pl}{S:List (List Int)}{ap:List Jw}(r:Or nY ps S ap){n:Gt}(hn:∃j:Nat,n.1=(j:Int)/\S[j]?=some n.2.1):∀(l:LNN),(∀mv∈l,mv∈nY)->∀N,Ow S N->(aX nY ps ap n l N).1=none/\Ow S (aX nY ps ap n l N).2
 |[],_,N,o=>⟨rfl,o⟩
 |mv::l,hl,N,o=>by
  obtain⟨g1,g2⟩:=yX r hn mv (hl mv UY) o;unfold aX;cases hg:cZ nY ps ap n mv N with
  |mk q N'=>
   rw[hg]at g1 g2;dsimp only at g1;subst g1;exact pO r hn l (fun x hx=>hl x (U4 _ hx)) N' g2
theorem sQ{nY:LNN}{ps:List Pl}{S:List (List Int)}{ap:List Jw}(r:Or nY ps S ap):∀(f k:Nat) (N:List Gt),Ow S N->(cF nY ps ap f k N).1=none
 | 0,k,N,o=>rfl
 |f+1,k,N,o=>by
  cases hk:N[k]? with
  |none=>rw[g0 hk]
  |some n=>
   obtain⟨g1,g2⟩:=pO r (o n (Vm hk)) nY (fun _ h=>h) N o;cases hg:aX nY ps ap n nY N with
   |mk q N'=>
    rw[hg]at g1 g2;dsimp only at g1;subst g1;rw[jJ hk hg];exact sQ r f (k+1) N' g2
def sR{nY:LNN}{ps:List Pl}{S:List (List Int)}{ap:List Jw}(r:Or nY ps S ap):(walk nY ps ap).1=none:=
 sQ r 13 0 (N0 ps) fun n hn=>by
  rw[lM hn];exact⟨0,rfl,r.z⟩
def xj{nY:LNN}{ps:List Pl}{r:Rn}(hn:nY.length<=3)(e:cy nY ps=some r):Or nY ps r.1 (aV bh r.2):=by
 have h:=jm (ps:=ps) hn;rw[e]at h;obtain⟨⟨m,rm⟩,fu,_⟩:=h;refine⟨rm.nd,rm.z,fun x s mv h=>?_,fun i mv a t hm hs hf=>?_⟩
 .obtain⟨_,i,j,_,h1,h2,a,b,h3,h4,h5⟩:=rm.ab _ ((dM bh).mp h);exact⟨i,j,h1,h2,a,b,h3,h4,h5⟩
 .obtain⟨k,hk,e⟩:=WQ hm;obtain⟨m,h1,h2⟩:=fu i k (.inl (lT hs).1) mv (by rw[lK hk,e]) a t hs hf;exact⟨m,(dM bh).mpr h2⟩
section
variable{ok:List Pl->Bool}
def gM(ok:List Pl->Bool):Nat->List Pl->List Pl
 | 0,P=>P
 |k+1,P=>if ok (P.eraseIdx k) then gM ok k (P.eraseIdx k) else gM ok k P
end
def Dj(N:List Gt):Prop:=∀n∈N,∀n'∈N,n.2.1=n'.2.1->n.1=n'.1
def Has(N:List Gt)(s:Int)(m:List Int):Prop:=∃n∈N,n.1=s/\n.2.1=m
def Cy{N:List Gt}{s:Int}{m:List Int}{w:LNN}(h:(cj N s m w).1=none)(dj:Dj N):Dj (cj N s m w).2/\Has (cj N s m w).2 s m/\∀n∈N,n∈(cj N s m w).2:=by
 unfold cj jI at h ⊢;cases hf:N.find? (ur s m) with
 |some n=>
  rw[hf]at h;cases h
 |none=>
  rw[hf]at h;rw[List.find?_eq_none]at hf;have no:∀n∈N,n.2.1=m->n.1=s:=fun n hn e=>by
   have:=hf n hn;unfold ur at this;rw[e,Vu rfl,WD]at this;simpa using this
  dsimp only at h ⊢;cases hs:N.find? fun n=>n.1==s with
  |none=>
   dsimp only;refine⟨fun n hn n' Pp e=>?_,⟨(s,m,w),U2 _ (Vn.mpr rfl),rfl,rfl⟩,fun n hn=>U7 _ hn⟩;rcases uk hn with h1|h1 <;> rcases uk Pp with h2|h2
   .exact dj n h1 n' h2 e
   .rw[lM h2]at e ⊢;exact no n h1 e
   .rw[lM h1]at e ⊢;exact(no n' h2 e.symm).symm
   .rw[lM h1,lM h2]
  |some n=>
   rw[hs]at h;dsimp only at h ⊢;have h1:=List.find?_some hs;have h1:n.1=s:=by simpa using h1
   by_cases hm:n.2.1=m
   .rw[U5 hm];exact⟨dj,⟨n,List.mem_of_find?_eq_some hs,h1,hm⟩,fun _ h=>h⟩
   .rw[U8 hm]at h;cases h
def Has.up{N N':List Gt}{s:Int}{m:List Int}(h:Has N s m)(u:∀n∈N,n∈N'):Has N' s m:=by
 obtain⟨n,hn,e⟩:=h;exact⟨n,u n hn,e⟩
theorem sS(m:List Int)(w:LNN):∀(ss:List Int) (N:List Gt),(bM m w ss N).1=none->Dj N->Dj (bM m w ss N).2/\(∀s∈ss,Has (bM m w ss N).2 s m)/\∀n∈N,n∈(bM m w ss N).2
 |[],N,_,dj=>⟨dj,(fun _ h=>nomatch h),fun _ h=>h⟩
 |s::ss,N,h,dj=>by
  have g:=Cy (N:=N) (s:=s) (m:=m) (w:=w);unfold bM at h ⊢;cases hg:cj N s m w with
  |mk o N'=>
   rw[hg]at g h;cases o with
   |some d=>cases h
   |none=>
    dsimp only at g h ⊢;obtain⟨g1,g2,g3⟩:=g rfl dj;obtain⟨i1,i2,i3⟩:=sS m w ss N' h g1;refine⟨i1,fun x hx=>?_,fun n hn=>i3 n (g3 n hn)⟩;rcases Vb.mp hx with rfl|hx
    .exact g2.up i3
    .exact i2 x hx
section
variable{nY:LNN}{ps:List Pl}{ap:List Jw}
structure Mk(nY:LNN)(ps:List Pl)(ap:List Jw)(N:List Gt)(n:Gt)(mv:List Nat):Prop where
 a:∀s∈jo ap n.1 mv,∃t,bL (nY.idxOf mv) (n.2.1.zip ps)=some t/\Has N s t
 b:∀t,bL (nY.idxOf mv) (n.2.1.zip ps)=some t->∃s,s∈jo ap n.1 mv
theorem Mk.up{N N':List Gt}{n:Gt}{mv:List Nat}(k:Mk nY ps ap N n mv)(u:∀n∈N,n∈N'):Mk nY ps ap N' n mv:=⟨fun s hs=>by
 obtain⟨t,h1,h2⟩:=k.a s hs;exact⟨t,h1,h2.up u⟩,k.b⟩
theorem Cz{n:Gt}{mv:List Nat}{N:List Gt}(h:(cZ nY ps ap n mv N).1=none)(dj:Dj N):Dj (cZ nY ps ap n mv N).2/\Mk nY ps ap (cZ nY ps ap n mv N).2 n mv/\∀x∈N,x∈(cZ nY ps ap n mv N).2:=by
 unfold cZ at h ⊢;cases hf:bL (nY.idxOf mv) (n.2.1.zip ps) with
 |none=>
  rw[hf]at h;cases hgs:jo ap n.1 mv with
  |nil=>exact⟨dj,⟨(fun s hs=>by rw[hgs]at hs;cases hs),(fun t ht=>by rw[hf]at ht;cases ht)⟩,fun _ h=>h⟩
  |cons s ss=>rw[hgs]at h;cases h
 |some t=>
  rw[hf]at h;cases hgs:jo ap n.1 mv with
  |nil=>rw[hgs]at h;cases h
  |cons s ss=>
   rw[hgs]at h;obtain⟨g1,g2,g3⟩:=sS t (n.2.2++[mv]) (s::ss) N h dj;exact⟨g1,⟨fun x hx=>⟨t,hf,g2 x (by rw[hgs]at hx;exact hx)⟩,fun _ _=>⟨s,by rw[hgs];exact UY⟩⟩,g3⟩
theorem sT{n:Gt}:∀(l:LNN) (N:List Gt),(aX nY ps ap n l N).1=none->Dj N->Dj (aX nY ps ap n l N).2/\(∀mv∈l,Mk nY ps ap (aX nY ps ap n l N).2 n mv)/\∀x∈N,x∈(aX nY ps ap n l N).2
 |[],N,_,dj=>⟨dj,(fun _ h=>nomatch h),fun _ h=>h⟩
 |mv::l,N,h,dj=>by
  have g:=Cz (nY:=nY) (ps:=ps) (ap:=ap) (n:=n) (mv:=mv) (N:=N);unfold aX at h ⊢;cases hg:cZ nY ps ap n mv N with
  |mk o N'=>
   rw[hg]at g h;cases o with
   |some d=>cases h
   |none=>
    dsimp only at g h ⊢;obtain⟨g1,g2,g3⟩:=g rfl dj;obtain⟨i1,i2,i3⟩:=sT l N' h g1;refine⟨i1,fun x hx=>?_,fun n hn=>i3 n (g3 n hn)⟩;rcases Vb.mp hx with rfl|hx
    .exact g2.up i3
    .exact i2 x hx
def Ck(nY:LNN)(ps:List Pl)(ap:List Jw)(N:List Gt)(k:Nat):Prop:=∀(j:Nat) (n:Gt),j<k->N[j]?=some n->∀mv∈nY,Mk nY ps ap N n mv
theorem xk(hb:∀a∈ap,0<=a.2.2/\a.2.2<12):∀(f k:Nat) (N:List Gt),Iv N->k<=N.length->13<=f+k->Dj N->Ck nY ps ap N k->(cF nY ps ap f k N).1=none->Iv (cF nY ps ap f k N).2/\Dj (cF nY ps ap f k N).2/\Ck nY ps ap (cF nY ps ap f k N).2 (cF nY ps ap f k N).2.length/\∀x∈N,x∈(cF nY ps ap f k N).2
 | 0,k,N,i,hk,hf,_,_,_=>by
  have:=i.le;lia
 |f+1,k,N,i,hk,hf,dj,ck,h=>by
  by_cases JL:k<N.length
  .have LH:N[k]?=some N[k]:=lK JL;have Pu:=i.wl k _ LH;have gr:=gZ (nY:=nY) (ps:=ps) hb nY i (n:=N[k]) (by lia);have md:=sT (nY:=nY) (ps:=ps) (ap:=ap) (n:=N[k]) nY N;cases hg:aX nY ps ap N[k] nY N with
   |mk o N'=>
    rw[hg]at gr md;cases o with
    |some d=>rw[jq LH hg]at h;cases h
    |none=>
     rw[jJ LH hg]at h ⊢;dsimp only at gr md;obtain⟨g1,g2,g3⟩:=md rfl dj;have hl:=gr.le;obtain⟨more,em⟩:=gr.ex;obtain⟨i0,i1,i2,i3⟩:=xk hb f (k+1) N' gr.iv (by lia) (by lia) g1 (fun j n hj hn mv L0=>by
      have Qz:N[j]?=some n:=by rw[em,List.getElem?_append_left (by lia)]at hn;exact hn
      by_cases ej:j=k
      .subst ej;rw[LH]at Qz;cases Qz;exact g2 mv L0
      .exact(ck j n (by lia) Qz mv L0).up g3) h
     exact⟨i0,i1,i2,fun x hx=>i3 x (g3 x hx)⟩
  .have LH:N[k]?=none:=List.getElem?_eq_none (by lia);have ek:k=N.length:=by lia
   rw[g0 LH];exact⟨i,dj,ek▸ck,fun _ h=>h⟩
theorem CA{mZ:Nat}(r:Ra nY ap mZ)(h:(walk nY ps ap).1=none):∃S,Or nY ps S ap:=by
 have hm:=r.mm;have hb:∀a∈ap,0<=a.2.2/\a.2.2<12:=fun a ha=>by
  have:=r.bd a ha;lia
 obtain⟨_,w2,w3⟩:=walk_all r h;obtain⟨iv,dj,ck,up⟩:=xk (nY:=nY) (ps:=ps) hb 13 0 (N0 ps) (T4 ps) (VD _) (by lia) (fun n hn n' Pp _=>by rw[lM hn,lM Pp]) (fun j n hj=>by lia) h;unfold walk at h w2 w3;generalize cF nY ps ap 13 0 (N0 ps)=W at h w2 w3 iv dj ck up;have ent:∀{s:Int}{m:List Int},Has W.2 s m->mk W.2 s=m:=fun{s m} h=>by
  obtain⟨n,hn,e1,e2⟩:=h;rw[<-e1,E8 (sN iv.nd hn),e2]
 have get:∀s:Nat,s<W.2.length->∃n∈W.2,n.1=(s:Int)/\mk W.2 (s:Int)=n.2.1:=fun s hs=>by
  obtain⟨n,hn,e⟩:=nU (w3 s hs);exact⟨n,hn,e,ent ⟨n,hn,e,rfl⟩⟩
 have at_:∀s:Nat,s<W.2.length->((List.range W.2.length).map fun(s:Nat)=>mk W.2 (s:Int))[s]?=some (mk W.2 (s:Int)):=fun s hs=>by
  rw[List.getElem?_map,List.getElem?_range hs];rfl
 have z:((0:Int),ps.map (·.1),([]:LNN))∈W.2:=up _ (Vn.mpr rfl);refine⟨(List.range W.2.length).map fun(s:Nat)=>mk W.2 (s:Int),di _ _ fun i j hi hj e=>?_,?_,fun x s mv ha=>?_,fun i mv a t L0 hi hf=>?_⟩
 .obtain⟨n,hn,e1,e2⟩:=get i hi;obtain⟨n',Pp,QN,PF⟩:=get j hj;have:=dj n hn n' Pp (by rw[<-e2,<-PF];exact e);lia
 .rw[at_ 0 (Xv z)];congr 1
  exact ent ⟨_,z,rfl,rfl⟩
 .have bd:=r.bd _ ha;have lt:=pF ha;dsimp only at bd lt;obtain⟨i,rfl⟩:=Vl bd.1.1;obtain⟨j,rfl⟩:=Vl bd.2.1;obtain⟨n,hn,e1,e2⟩:=get i (by lia);obtain⟨k,hk,ek⟩:=WQ hn;obtain⟨t,ht,hs⟩:=(ck k n hk (by rw[lK hk,ek]) mv (r.nm _ ha)).a j (fT.mpr (by rw[e1];exact ha));exact⟨i,j,rfl,rfl,_,_,at_ i (by lia),at_ j (by lia),by rw[e2,ent hs];exact ht⟩
 .have Ml:=(lT hi).1;rw[bD,Vi]at Ml;rw[at_ i Ml]at hi;obtain⟨n,hn,e1,e2⟩:=get i Ml;obtain⟨k,hk,ek⟩:=WQ hn;rw[<-Vg hi,e2]at hf;obtain⟨s,hs⟩:=(ck k n hk (by rw[lK hk,ek]) mv L0).b t hf;have hs:=fT.mp hs;have bd:=r.bd _ hs;dsimp only at bd;obtain⟨j,rfl⟩:=Vl bd.2.1;exact⟨j,by rw[<-e1];exact hs⟩
end
section
variable{nY:LNN}{ps:List Pl}{q q' q2:Pl}{LU R8:List Int->Int}
theorem Im.run(im:Im nY ps q LU)(k:Nat){r:Rn}(e:cy nY ps=some r)(ln:∀m∈r.1,m.length=ps.length):cy nY (Le k q ps)=some (hR (fun m=>Le k (LU m) m) r):=
 mB e ⟨by rw[wU,im.z],fun m hm mv hv=>yP im k _ (VY hv) m (ln m hm),fun m hm m' Pj e=>Cj k ((ln m hm).trans (ln m' Pj).symm) e⟩
theorem Im.at{i:Nat}(hi:ps[i]?=some q):Im nY ps q fun m=>m.getD i 0:=by
 have hl:=(lT hi).1;refine⟨by rw[List.getD_eq_getElem?_getD,List.getElem?_map,hi];rfl,fun j m m' _ hm hf=>?_⟩;have O3:i<m.length:=by lia
 have e:(m.zip ps)[i]?=some (m[i],q):=by
  rw[List.getElem?_zip_eq_some];exact⟨lK O3,hi⟩
 obtain⟨h1,h2⟩:=nK j hf e;have e1:m.getD i 0=m[i]:=by rw[List.getD_eq_getElem?_getD,lK O3];rfl
 have e2:m'.getD i 0=m[i]-J6 j q+Ln j q:=by rw[List.getD_eq_getElem?_getD,h2];rfl
 unfold J6 at e2 ⊢;dsimp only at h1 ⊢;rw[e1,e2];exact⟨by lia,rfl⟩
theorem Im.sum(a:Im nY ps q LU)(b:Im nY ps q' R8)(h0:q2.1=q.1+q'.1)(ht:∀j,j<nY.length->J6 j q2=J6 j q+J6 j q')(hg:∀j,j<nY.length->Ln j q2=Ln j q+Ln j q'):Im nY ps q2 fun m=>LU m+R8 m:=by
 refine⟨by rw[a.z,b.z,h0],fun j m m' hj hm hf=>?_⟩;have h1:=a.mv j m m' hj hm hf;have h2:=b.mv j m m' hj hm hf;have h3:=ht j hj;have h4:=hg j hj;lia
theorem Im.more(a:Im nY ps q LU)(c:Int)(hc:0<=c):Im nY ps (q.1+c,q.2) fun m=>LU m+c:=by
 refine⟨by rw[a.z],fun j m m' hj hm hf=>?_⟩;have h1:=a.mv j m m' hj hm hf;have e1:J6 j (q.1+c,q.2)=J6 j q:=rfl;have e2:Ln j (q.1+c,q.2)=Ln j q:=rfl;lia
theorem Im.three(a:Im nY ps q LU)(h0:q2.1=q.1*3)(ht:∀j,j<nY.length->J6 j q2=J6 j q*3)(hg:∀j,j<nY.length->Ln j q2=Ln j q*3):Im nY ps q2 fun m=>LU m*3:=by
 refine⟨by rw[a.z,h0],fun j m m' hj hm hf=>?_⟩;have h1:=a.mv j m m' hj hm hf;have h3:=ht j hj;have h4:=hg j hj;lia
end
section
variable{nY:LNN}{ps P:List Pl}{r:Rn}
theorem CB(hn:nY.length<=3)(e:cy nY ps=some r):∃m,Rm nY ps r.1 r.2 m:=by
 have h:=jm (ps:=ps) hn;rw[e]at h;exact h.1
end
def okb(nY:LNN)(ap:List Jw)(P:List Pl):Bool:=(walk nY P ap).1.isNone
def yY{nY:LNN}{ps:List Pl}{r:Rn}(hn:nY.length<=3)(e:cy nY ps=some r):okb nY (aV bh r.2) ps=true:=by
 unfold okb;rw[sR (xj hn e)];rfl
def qO:List Nat:=[115,97,109,101]
def Df(d:D):Prop:=∃l a b,d=.tup [.str l,a,b]/\l≠qO
def CC{N:List Gt}{s:Int}{m:List Int}{w:LNN}:∀d,(cj N s m w).1=some d->Df d:=by
 unfold cj jI;intro d h;split at h
 .rename_i d' hd;cases h;split at hd
  .cases hd;exact⟨_,_,_,rfl,by decide⟩
  .split at hd
   .cases hd
   .split at hd
    .cases hd
    .cases hd;exact⟨_,_,_,rfl,by decide⟩
 .cases h
theorem sU(m:List Int)(w:LNN):∀(ss:List Int) (N:List Gt) d,(bM m w ss N).1=some d->Df d
 |[],N,d,h=>by cases h
 |s::ss,N,d,h=>by
  unfold bM at h;split at h
  .rename_i d' N' e;cases h;exact CC (N:=N) (s:=s) (m:=m) (w:=w) d (by rw[e])
  .exact sU m w ss _ d h
theorem sV(nY:LNN)(ps:List Pl)(ap:List Jw)(n:Gt):∀(l:LNN) (N:List Gt) d,(aX nY ps ap n l N).1=some d->Df d
 |[],N,d,h=>by cases h
 |mv::l,N,d,h=>by
  unfold aX at h;split at h
  .rename_i d' N' e;cases h;have h:(cZ nY ps ap n mv N).1=some d:=by rw[e]
   unfold cZ at h;split at h
   .cases h
   .cases h;exact⟨_,_,_,rfl,by decide⟩
   .cases h;exact⟨_,_,_,rfl,by decide⟩
   .exact sU _ _ _ _ d h
  .exact sV nY ps ap n l _ d h
theorem xl(nY:LNN)(ps:List Pl)(ap:List Jw):∀(f k:Nat) (N:List Gt) d,(cF nY ps ap f k N).1=some d->Df d
 | 0,k,N,d,h=>by cases h
 |f+1,k,N,d,h=>by
  cases hk:N[k]? with
  |none=>rw[g0 hk]at h;cases h
  |some n=>
   cases hg:aX nY ps ap n nY N with
   |mk o N'=>
    cases o with
    |some d'=>
     rw[jq hk hg]at h;cases h;exact sV nY ps ap n nY N d (by rw[hg])
    |none=>
     rw[jJ hk hg]at h;exact xl nY ps ap f (k+1) N' d h
def Ra.nc{nY:LNN}{ps:List Pl}{ap:List Jw}{mZ:Nat}(r:Ra nY ap mZ)(hl:ps.length<=100)(hp:∀q∈ps,Kn q nY.length):Nc nY ps ap:=⟨hl,hp,r.len,fun a ha=>by
 have:=r.bd a ha;have:=r.mm;lia⟩
def pP{nY:LNN}{P:List Pl}{ap:List Jw}{mZ:Nat}(ra:Ra nY ap mZ)(hl:P.length<=100)(hp:∀q∈P,Kn q nY.length):d8 [JD nY ap,eN nY P]=.ok (.f,.bl (okb nY ap P)):=by
 have c:=ra.nc hl hp;have hm:=ra.mm;have MX:=pG hm.1 ra.bd;have hh:=Fc c ⟨by lia,by lia⟩ fun h s hs=>(walk_all ra h).2.2 s (by have:=(walk_all ra h).2.1;lia)
 have e:∀l:List Nat,KS (.str l) (.str [115,97,109,101])=.ok (.f,.bl (decide (l=qO))):=fun l=>by
  have z:(l==qO)=decide (l=qO):=by
   rw[Vp];simp
  show Res.ok (O.f,D.bl (l==qO))=_;rw[z]
 unfold d8 pg okb;rw[bq (h:=by rfl)];generalize eN nY P=NE at hh ⊢;generalize JD nY ap=CE at hh ⊢;cases hw:(walk nY P ap).1 with
 |some d=>
  rw[hw]at hh;obtain⟨l,a,b,rfl,K9⟩:=xl nY P ap 13 0 (N0 P) d hw;have a0:Kd [D.str l,a,b] (0:Int)=some (.str l):=rfl;have el:=e l;rw[Vq K9]at el;rw[Xd]at hh;cases R9:flatD (.tup [.str l,a,b]) with
  |true=>simp only[pv,seval,op,hh,R9,a0,el,Xq]
  |false=>simp only[pv,seval,op,hh,R9,a0,el,Xq,B2,eD]
 |none=>
  rw[hw,Wv]at hh;unfold E9 at hh;have a0:∀x y:D,Kd (x::y::[]) (0:Int)=some x:=fun _ _=>rfl
  have el:=e qO;rw[Vu rfl]at el;unfold qO at el;simp only[pv,seval,op,hh,a0,el,Zo]
structure Pm(n:Nat)(E I:Nat->Nat):Prop where
 z:E 0=0
 e:∀i,i<n->E i<n/\I (E i)=i
 i:∀i,i<n->I i<n/\E (I i)=i
def Pm.inv{n:Nat}{E I:Nat->Nat}(p:Pm n E I)(h:0<n):Pm n I E:=⟨by
 have:=(p.e 0 h).2;rw[p.z]at this;exact this,p.i,p.e⟩
section
variable{nY:LNN}{P:List Pl}{S:List (List Int)}{ap J4:List Jw}{n:Nat}{E I:Nat->Nat}
structure An(n:Nat)(E:Nat->Nat)(ap J4:List Jw):Prop where
 bd:∀a∈ap,(0<=a.1/\a.1<(n:Int))/\0<=a.2.2/\a.2.2<(n:Int)
 bd':∀a∈J4,(0<=a.1/\a.1<(n:Int))/\0<=a.2.2/\a.2.2<(n:Int)
 iff:∀(i j:Nat) (mv:List Nat),i<n->j<n->((((i:Int),mv,(j:Int)):Jw)∈ap<->(((E i:Nat):Int),mv,((E j:Nat):Int))∈J4)
theorem An.inv(a:An n E ap J4)(p:Pm n E I):An n I J4 ap:=by
 refine⟨a.bd',a.bd,fun i j mv hi hj=>?_⟩;have h:=a.iff (I i) (I j) mv (p.i i hi).1 (p.i j hj).1;rw[(p.i i hi).2,(p.i j hj).2]at h;exact h.symm
theorem Or.perm(o:Or nY P S ap)(p:Pm n E I)(a:An n E ap J4)(hn:0<n)(hS:∀j,j<n->∃s,S[j]?=some s):∃S',Or nY P S' J4:=by
 have at_:∀t,t<n->((List.range n).map fun t=>S.getD (I t) [])[t]?=some (S.getD (I t) []):=fun t ht=>by
  rw[List.getElem?_map,List.getElem?_range ht];rfl
 have gd:∀t,t<n->S[I t]?=some (S.getD (I t) []):=fun t ht=>by
  obtain⟨s,hs⟩:=hS (I t) (p.i t ht).1;rw[List.getD_eq_getElem?_getD,hs];rfl
 refine⟨(List.range n).map fun t=>S.getD (I t) [],?_,?_,fun x s mv hm=>?_,fun i mv b t L0 hi hf=>?_⟩
 .refine di _ _ fun i j hi hj e=>?_
  have g1:=gd i hi;have g2:=gd j hj;rw[e]at g1;obtain⟨l1,h1⟩:=lT g1;obtain⟨l2,h2⟩:=lT g2;have pw:=WG.mp o.nd;have:I i=I j:=by
   rcases Yk (I i) (I j) with hl|hl|hl
   .exact absurd (h1.trans h2.symm) (pw _ _ l1 l2 hl)
   .exact hl
   .exact absurd (h2.trans h1.symm) (pw _ _ l2 l1 hl)
  rw[<-(p.i i hi).2,<-(p.i j hj).2,this]
 .rw[at_ 0 hn,(p.inv hn).z,<-o.z,List.getD_eq_getElem?_getD,o.z];rfl
 .have b:=a.bd' _ hm;dsimp only at b;obtain⟨i,rfl⟩:=Vl b.1.1;obtain⟨j,rfl⟩:=Vl b.2.1;have hi:i<n:=by lia
  have hj:j<n:=by lia
  have Pj:=(a.iff (I i) (I j) mv (p.i i hi).1 (p.i j hj).1).mpr (by rw[(p.i i hi).2,(p.i j hj).2];exact hm);obtain⟨i',j',e1,e2,u,v,hu,hv,hf⟩:=o.ab _ _ _ Pj;have:i'=I i:=by lia
  subst this;have:j'=I j:=by lia
  subst this;rw[gd i hi]at hu;rw[gd j hj]at hv;refine⟨i,j,rfl,rfl,_,_,at_ i hi,at_ j hj,?_⟩;rw[Vg hu,Vg hv];exact hf
 .have Ml:=(lT hi).1;rw[bD,Vi]at Ml;rw[at_ i Ml]at hi;have g:=gd i Ml;rw[Vg hi]at g;obtain⟨m,hm⟩:=o.fu (I i) mv b t L0 g hf;have bd:=a.bd _ hm;dsimp only at bd;have:=(a.iff (I i) m mv (p.i i Ml).1 (by lia)).mp hm;rw[(p.i i Ml).2]at this;exact⟨E m,this⟩
theorem Or.has{mZ:Nat}(o:Or nY P S ap)(r:Ra nY ap mZ):∀j,j<mZ->∃s,S[j]?=some s:=by
 intro j hj;by_cases h:j=0
 .subst h;exact⟨_,o.z⟩
 .obtain⟨f,rc⟩:=r.rc;obtain⟨a,ha,e1,_⟩:=rc j (by lia) hj;obtain⟨_,j',_,e2,_,v,_,hv,_⟩:=o.ab a.1 a.2.2 a.2.1 ha;have:j'=j:=by lia
  subst this;exact⟨v,hv⟩
theorem xm{mZ:Nat}(r:Ra nY ap mZ):okb nY ap P=true<->∃S,Or nY P S ap:=by
 unfold okb;rw[Option.isNone_iff_eq_none];exact⟨fun h=>CA r h,fun⟨S,o⟩=>sR o⟩
theorem yZ{mZ:Nat}(r:Ra nY ap mZ)(r':Ra nY J4 mZ)(p:Pm mZ E I)(a:An mZ E ap J4):okb nY J4 P=okb nY ap P:=by
 have hm:0<mZ:=by have:=r.mm;lia
 rw[Vp,xm r,xm r'];constructor
 .rintro⟨S,o⟩;exact o.perm (p.inv hm) (a.inv p) hm (o.has r')
 .rintro⟨S,o⟩;exact o.perm p a hm (o.has r)
theorem Ra.perm{mZ:Nat}(r:Ra nY ap mZ)(p:Pm mZ E I)(a:An mZ E ap J4)(hl:J4.length<=60)(nm:∀a∈J4,a.2.1∈nY):Ra nY J4 mZ:=by
 have hm:=r.mm;refine⟨r.mm,hl,a.bd',nm,?_⟩;obtain⟨f,rc⟩:=r.rc;refine⟨fun t=>f (I t),fun t h1 h2=>?_⟩;have h0:1<=I t:=by
  have:=(p.i t h2).2;by_cases h:I t=0
  .rw[h,p.z]at this;lia
  .lia
 obtain⟨⟨a1,mv,a2⟩,ha,e1,b,hb,e2⟩:=rc (I t) h0 (p.i t h2).1;dsimp only at e1 e2;subst e1;subst e2;have bd:=(r.bd _ ha).1;dsimp only at bd;have UI:b<mZ:=by lia
 have:=(a.iff b (I t) mv UI (p.i t h2).1).mp ha;rw[(p.i t h2).2]at this;refine⟨_,this,rfl,E b,?_,rfl⟩;show f (I (E b))<f (I t);rw[(p.e b UI).2];exact hb
end
def cut_er(P:List Pl)(k:Nat)(hl:P.length<=100):addO (.lst (cutD (P.map eP) none (some (k:Int)))) (.lst (cutD (P.map eP) (some ((k:Int)+1)) none))=.ok (.l .f,.lst ((P.eraseIdx k).map eP)):=by
 have e:(k:Int)+1=((k+1:Nat):Int):=by lia
 rw[qG,qG,nI,e,sv,qF,U5 (line_le (by rw[bD,bD,Vt,Wa];lia)),List.eraseIdx_eq_take_drop_succ,Vh]
def xn(F:List D->Res R)(fo:FO)(fb:FX)(j:Nat)(env:PV.Env):BM F fo fb j env=Res.bnd (fo env) (f:=⟨fun p=>Res.bnd (fb p.2) (f:=⟨fun q=>match q.2[j]? with
 |some (some (_,dj))=>Res.bnd (pS q.2 p.1) (f:=⟨fun d1=>Res.bnd (F [d1,.tup [q.1.2,dj]]) (f:=⟨fun r=>.ok (r,if aO r.1 r.2 then q.2 else q.2.map frz)⟩)⟩)
 |_=>.bad⟩)⟩):=id rfl
def Fe{nY:LNN}{ap:List Jw}{mZ:Nat}(ra:Ra nY ap mZ)(ps P:List Pl)(hl:P.length<=100)(hp:∀q∈P,Kn q nY.length)(k:Nat)(t4:Option R):
  ∃u4,eJ [some (.f,JD nY ap),some (.f,eN nY ps),some (.l .f,.lst (P.map eP)),some (.f,.int (k:Int)),t4]=.ok (.nx [some (.f,JD nY ap),some (.f,eN nY ps),some (.l .f,.lst ((if okb nY ap (P.eraseIdx k) then P.eraseIdx k else P).map eP)),some (.f,.int (k:Int)),u4]):=by
 have hr:=pP (P:=P.eraseIdx k) ra (by have:=WT P k;lia) fun q hq=>hp q (VS hq)
 have Kr:Ji (eN nY ps) (.int 0)=.ok (.f,.tup (nY.map D.str)):=rfl;have ha:=cut_er P k hl;unfold eJ;rw[show eN nY (P.eraseIdx k)=.tup [.tup (nY.map D.str),.lst ((P.eraseIdx k).map eP)] from rfl]at hr;generalize eN nY ps=NE at Kr ⊢;generalize JD nY ap=CE at hr ⊢;rw[ay (env':=[some (.f,CE),some (.f,NE),some (.l .f,.lst (P.map eP)),some (.f,.int (k:Int)),some (.l .f,.lst ((P.eraseIdx k).map eP))]) (by
  simp only[pv,seval,op,ha])]
 cases hb:okb nY ap (P.eraseIdx k) with
 |true=>
  rw[hb]at hr;rw[U5 rfl];refine⟨none,?_⟩;simp only[pv,seval,op,xn,Kr,hr]
 |false=>
  rw[hb]at hr;rw[U8 U3];refine⟨some (.l .f,.lst ((P.eraseIdx k).map eP)),?_⟩;simp only[pv,seval,op,xn,Kr,hr,eD]
def CD:Nat->List D
 | 0=>[]
 |k+1=>.int (k:Int)::CD k
theorem qP:∀n:Nat,(List.range n).map (fun(k:Nat)=>D.int (((n:Int)-1)+(k:Int) * -1))=CD n
 | 0=>rfl
 |n+1=>by
  rw[CD,Xu,dU,Vj,<-qP n];congr 1
  .congr 1
   lia
  .refine VW fun k _=>?_
   show D.int _=D.int _;congr 1
   lia
theorem lJ{nY:LNN}{ap:List Jw}{mZ:Nat}(ra:Ra nY ap mZ)(ps:List Pl):∀(k:Nat) (P:List Pl),P.length<=100->(∀q∈P,Kn q nY.length)->∀t3 t4:Option R,
  ∃u3 u4,d4 (aH 3) eJ (CD k) [some (.f,JD nY ap),some (.f,eN nY ps),some (.l .f,.lst (P.map eP)),t3,t4]=.ok (.nx [some (.f,JD nY ap),some (.f,eN nY ps),some (.l .f,.lst ((gM (okb nY ap) k P).map eP)),u3,u4])
 | 0,P,_,_,t3,t4=>⟨t3,t4,rfl⟩
 |k+1,P,hl,hp,t3,t4=>by
  obtain⟨v4,e⟩:=Fe ra ps P hl hp k t4;have ha:aH 3 (.int (k:Int)) [some (.f,JD nY ap),some (.f,eN nY ps),some (.l .f,.lst (P.map eP)),t3,t4]=.ok [some (.f,JD nY ap),some (.f,eN nY ps),some (.l .f,.lst (P.map eP)),some (.f,.int (k:Int)),t4]:=rfl;unfold gM CD;cases hb:okb nY ap (P.eraseIdx k) with
  |true=>
   rw[hb,U5 rfl]at e;obtain⟨u3,u4,e4⟩:=lJ ra ps k (P.eraseIdx k) (by have:=WT P k;lia) (fun q hq=>hp q (VS hq)) (some (.f,.int (k:Int))) v4;refine⟨u3,u4,?_⟩;rw[U5 rfl,cw,ha,JA,e,JA];exact e4
  |false=>
   rw[hb,U8 U3]at e;obtain⟨u3,u4,e4⟩:=lJ ra ps k P hl hp (some (.f,.int (k:Int))) v4;refine⟨u3,u4,?_⟩;rw[U8 U3,cw,ha,JA,e,JA];exact e4
def xo{nY:LNN}{ap:List Jw}{mZ:Nat}(ra:Ra nY ap mZ)(ps:List Pl)(hl:ps.length<=100)(hp:∀q∈ps,Kn q nY.length)(hok:okb nY ap ps=true):
  d9 [JD nY ap,eN nY ps]=.ok (.t [.f,.l .f],eN nY (gM (okb nY ap) ps.length ps)):=by
 have hr:=pP ra hl hp;rw[hok]at hr;obtain⟨u3,u4,e⟩:=lJ ra ps ps.length ps hl hp none none;have Kr:Ji (eN nY ps) (.int 0)=.ok (.f,.tup (nY.map D.str)):=rfl;have Lz:Ji (eN nY ps) (.int 1)=.ok (.f,.lst (ps.map eP)):=rfl;unfold d9 ph;rw[bq (h:=by rfl)];rw[show eN nY (gM (okb nY ap) ps.length ps)=.tup [.tup (nY.map D.str),.lst ((gM (okb nY ap) ps.length ps).map eP)] from rfl];generalize eN nY ps=NE at hr e Kr Lz ⊢;generalize JD nY ap=CE at hr e ⊢;rw[ay (env':=[some (.f,CE),some (.f,NE),none,none,none]) (by
  simp only[pv,seval,op,hr,V9,eD])]
 rw[ay (env':=[some (.f,CE),some (.f,NE),some (.l .f,.lst (ps.map eP)),none,none]) (by
  simp only[pv,seval,op,Lz])]
 have MX:k4 ((ps.length:Int)-1) (-1) (-1):=by
  unfold k4;lia
 have hsz:(Builtin.Range.rangeSize ((ps.length:Int)-1) (-1) (-1)).toNat=ps.length:=by
  unfold Builtin.Range.rangeSize;split
  .lia
  .split
   .lia
   .lia
 rw[ay (env':=[some (.f,CE),some (.f,NE),some (.l .f,.lst ((gM (okb nY ap) ps.length ps).map eP)),u3,u4]) (by
  unfold lh;simp only[pv,seval,op,Lz,bD,MX,hsz,W8];rw[qP];exact e)]
 unfold jW;simp only[pv,seval,op,BY,Kr]
def e0(c tn t:Nat):Nat:=if t=0 then 0 else 1+(t-1+tn)%c
def i0(c tn t:Nat):Nat:=if t=0 then 0 else 1+(t-1+(c-tn))%c
def fl(b:Bool)(n t:Nat):Nat:=if b then(if t=0 then 0 else n-t) else t
def uw{x c:Nat}(h:x<2*c):x%c=if x<c then x else x-c:=by
 by_cases hx:x<c
 .rw[U5 hx,Nat.mod_eq_of_lt hx]
 .rw[U8 hx,Nat.mod_eq_sub_mod (by lia),Nat.mod_eq_of_lt (by lia)]
def ei{c tn t:Nat}(ht:t<c+1)(h:tn<c):e0 c tn t<c+1/\i0 c tn (e0 c tn t)=t:=by
 unfold e0 i0;by_cases h0:t=0
 .rw[U5 h0,U5 rfl];lia
 .rw[U8 h0,uw (x:=t-1+tn) (by lia)];by_cases h1:t-1+tn<c
  .rw[U5 h1,U8 (by lia),uw (by lia)];split <;> lia
  .rw[U8 h1,U8 (by lia),uw (by lia)];split <;> lia
def ie{c tn t:Nat}(ht:t<c+1)(h:tn<c):i0 c tn t<c+1/\e0 c tn (i0 c tn t)=t:=by
 unfold e0 i0;by_cases h0:t=0
 .rw[U5 h0,U5 rfl];lia
 .rw[U8 h0,uw (x:=t-1+(c-tn)) (by lia)];by_cases h1:t-1+(c-tn)<c
  .rw[U5 h1,U8 (by lia),uw (by lia)];split <;> lia
  .rw[U8 h1,U8 (by lia),uw (by lia)];split <;> lia
def ff{b:Bool}{n t:Nat}(h:t<n):fl b n t<n/\fl b n (fl b n t)=t:=by
 unfold fl;cases b with
 |false=>exact⟨h,rfl⟩
 |true=>
  rw[U5 rfl,U5 rfl];by_cases h0:t=0
  .rw[U5 h0,U5 rfl];lia
  .rw[U8 h0,U8 (by lia)];lia
def Ff(b:Bool){c tn:Nat}(h:tn<c):Pm (c+1) (fun t=>fl b (c+1) (e0 c tn t)) (fun t=>i0 c tn (fl b (c+1) t)):=by
 refine⟨?_,fun t ht=>?_,fun t ht=>?_⟩
 .show fl b (c+1) (e0 c tn 0)=0;cases b <;> rfl
 .have h1:=ei ht h;have h2:=ff (b:=b) h1.1;exact⟨h2.1,by rw[h2.2];exact h1.2⟩
 .have h1:=ff (b:=b) ht;have h2:=ie h1.1 h;exact⟨h2.1,by show fl b (c+1) (e0 c tn (i0 c tn (fl b (c+1) t)))=t;rw[h2.2];exact h1.2⟩
def Fg(c tn:Nat)(hc:0<c):c7 (aH 0) eF (aB addO (aq (aE (.int 1))) (aq (aB eC (aq (aB addO (aw 0) (aw 1))) (aq (aB nQ (aw 2) (aq (aE (.int 1)))))))) ((List.range c).map fun(k:Nat)=>D.int (k:Int)) [none,some (.f,.int (tn:Int)),some (.f,.int ((c+1:Nat):Int))]=.ok ((List.range c).map fun(k:Nat)=>D.int ((e0 c tn (k+1):Nat):Int)):=by
 refine bY (r:=fun k:Nat=>D.int ((e0 c tn (k+1):Nat):Int)) (fun env=>∃t,env=[t,some (.f,.int (tn:Int)),some (.f,.int ((c+1:Nat):Int))]) (List.range c) ?_ _ ⟨none,rfl⟩;rintro k _ env ⟨t,rfl⟩;refine⟨[some (.f,.int (k:Int)),some (.f,.int (tn:Int)),some (.f,.int ((c+1:Nat):Int))],rfl,.f,[some (.f,.int (k:Int)),some (.f,.int (tn:Int)),some (.f,.int ((c+1:Nat):Int))],?_,_,rfl⟩;have h1:((c+1:Nat):Int)-1=(c:Int):=by lia
 have h2:(0:Int)<(c:Int):=by lia
 have e:(1:Int)+((k:Int)+(tn:Int))%(c:Int)=((e0 c tn (k+1):Nat):Int):=by
  unfold e0;rw[U8 (by lia),Nat.add_sub_cancel,X0,Int.natCast_emod,X0];rfl
 rw[<-e];have hm:eC (.int ((k:Int)+(tn:Int))) (.int (c:Int))=.ok (.f,.int (((k:Int)+(tn:Int))%(c:Int))):=by rw[sr,U5 h2]
 simp only[pv,seval,op,h1,hm]
def Fh(n:Nat)(l:List Nat)(hl:∀x∈l,x<=n):c7 (aH 0) eF (aB nQ (aw 1) (aw 0)) (l.map fun(k:Nat)=>D.int (k:Int)) [none,some (.f,.int (n:Int))]=.ok (l.map fun(k:Nat)=>D.int ((n-k:Nat):Int)):=by
 refine bY (r:=fun k:Nat=>D.int ((n-k:Nat):Int)) (fun env=>∃t,env=[t,some (.f,.int (n:Int))]) l ?_ _ ⟨none,rfl⟩;rintro k hk env ⟨t,rfl⟩;refine⟨[some (.f,.int (k:Int)),some (.f,.int (n:Int))],rfl,.f,[some (.f,.int (k:Int)),some (.f,.int (n:Int))],?_,_,rfl⟩;have:=hl k hk;have e:(n:Int)-(k:Int)=((n-k:Nat):Int):=by lia
 rw[<-e];simp only[pv,seval,op]
def Fi(n:Nat)(h1:1<=n)(h12:n<=12)(x:Int):∃E I,Pm n E I/\dr [.int (n:Int),.int x]=.ok (.l .f,.lst ((List.range n).map fun(t:Nat)=>D.int ((E t:Nat):Int))):=by
 unfold dr lq;by_cases hn:n=1
 .subst hn;refine⟨id,id,⟨rfl,fun i h=>⟨h,rfl⟩,fun i h=>⟨h,rfl⟩⟩,?_⟩;rw[bq (h:=by rfl)];have he:(((1:Nat):Int)==1)=true:=rfl;simp only[pv,seval,op,he];rfl
 .obtain⟨c,rfl⟩:∃c,n=c+1:=⟨n-1,by lia⟩
  have hc:0<c:=by lia
  have QA:((c+1:Nat):Int)-1=(c:Int):=by lia
  have Sw:(0:Int)<(c:Int):=by lia
  have b1:=Int.emod_nonneg x (show(c:Int)≠0 by lia);have b2:=Zl x Sw;obtain⟨tn,htn⟩:∃tn:Nat,x%(c:Int)=(tn:Int):=⟨(x%(c:Int)).toNat,by lia⟩
  have T5:tn<c:=by lia
  have hq:=Fg c tn hc;have K9:(((c+1:Nat):Int)==1)=false:=by
   rw[V2];lia
  have UJ:((List.range c).map fun(k:Nat)=>D.int ((e0 c tn (k+1):Nat):Int)).length<=sizeLine:=bG (by rw[bD,Vi];lia);have Ni:flatDs ((List.range c).map fun(k:Nat)=>D.int ((e0 c tn (k+1):Nat):Int))=true:=jk fun _=>rfl
  have Sa:∀l:List D,l.length=c->addO (.lst [.int 0]) (.lst l)=.ok (.l .f,.lst (.int 0::l)):=fun l hl=>by
   rw[qF,U5 (line_le (by rw[VC];lia))];rfl
  have h3:=Sa _ (show((List.range c).map fun(k:Nat)=>D.int ((e0 c tn (k+1):Nat):Int)).length=c by rw[bD,Vi]);have hE:∀f:Nat->Nat,f 0=0->(List.range (c+1)).map (fun(t:Nat)=>D.int ((f t:Nat):Int))=.int 0::(List.range c).map (fun(k:Nat)=>D.int ((f (k+1):Nat):Int)):=fun f h=>by
   rw[Xu,dU,Vj,h];rfl
  refine⟨_,_,Ff (x / 64%2==1) T5,?_⟩;rw[hE (fun t=>fl (x / 64%2==1) (c+1) (e0 c tn t)) (Ff (x / 64%2==1) T5).z];have hm0:eC (.int x) (.int (c:Int))=.ok (.f,.int (tn:Int)):=by rw[sr,U5 Sw,htn]
  have R9:dk (.int x) (.int 64)=.ok (.f,.int (x / 64)):=by rw[wC,U5 (by decide)]
  have UK:eC (.int (x / 64)) (.int 2)=.ok (.f,.int (x / 64%2)):=by rw[sr,U5 (by decide)]
  rw[bq (h:=by rfl)];rw[ay (env':=[some (.f,.int ((c+1:Nat):Int)),some (.f,.int x),none,none]) (by simp only[pv,seval,op,K9,eD])];rw[ay (env':=[some (.f,.int ((c+1:Nat):Int)),some (.f,.int x),some (.f,.int (tn:Int)),none]) (by simp only[pv,seval,op,QA,hm0])];rw[ay (env':=[some (.f,.int ((c+1:Nat):Int)),some (.f,.int x),some (.f,.int (tn:Int)),some (.l .f,.lst (.int 0::(List.range c).map fun(k:Nat)=>D.int ((e0 c tn (k+1):Nat):Int)))]) (by
   generalize (aB addO (aq (aE (.int 1))) (aq (aB eC (aq (aB addO (aw 0) (aw 1))) (aq (aB nQ (aw 2) (aq (aE (.int 1))))))))=GG at hq ⊢;generalize (List.range c).map (fun(k:Nat)=>D.int ((e0 c tn (k+1):Nat):Int))=LL at hq UJ Ni h3 ⊢;simp only[pv,seval,op,QA];rw[U5 (by lia)];simp only[pv,seval,op,VG,hq,UJ,Ni,h3])]
  cases hb:(x / 64%2==1) with
  |false=>
   rw[ay (env':=[some (.f,.int ((c+1:Nat):Int)),some (.f,.int x),some (.f,.int (tn:Int)),some (.l .f,.lst (.int 0::(List.range c).map fun(k:Nat)=>D.int ((e0 c tn (k+1):Nat):Int)))]) (by simp only[pv,seval,op,R9,UK,hb,eD])];simp only[pv,seval,op];rfl
  |true=>
   have hle:∀y∈(List.range c).map fun(k:Nat)=>e0 c tn (k+1),y<=c+1:=fun y hy=>by
    obtain⟨k,hk,rfl⟩:=nU hy;have:=ei (t:=k+1) (by have:=VF.mp hk;lia) T5;lia
   have h2:=Fh (c+1) _ hle;rw[Vj,Vj]at h2;have e2:((List.range c).map fun(k:Nat)=>D.int ((e0 c tn (k+1):Nat):Int))=(List.range c).map ((fun(k:Nat)=>D.int (k:Int))∘fun(k:Nat)=>e0 c tn (k+1)):=rfl;have e3:((List.range c).map fun(k:Nat)=>D.int ((fl true (c+1) (e0 c tn (k+1)):Nat):Int))=(List.range c).map ((fun(k:Nat)=>D.int ((c+1-k:Nat):Int))∘fun(k:Nat)=>e0 c tn (k+1)):=by
    refine VW fun k _=>?_
    show D.int ((fl true (c+1) (e0 c tn (k+1)):Nat):Int)=D.int ((c+1-e0 c tn (k+1):Nat):Int);unfold fl e0;rw[U5 rfl,U8 (by lia),U8 (by lia)]
   have Sb:((List.range c).map ((fun(k:Nat)=>D.int ((c+1-k:Nat):Int))∘fun(k:Nat)=>e0 c tn (k+1))).length=c:=by rw[bD,Vi]
   have hm:((List.range c).map ((fun(k:Nat)=>D.int ((c+1-k:Nat):Int))∘fun(k:Nat)=>e0 c tn (k+1))).length<=sizeLine:=bG (by lia);have UL:flatDs ((List.range c).map ((fun(k:Nat)=>D.int ((c+1-k:Nat):Int))∘fun(k:Nat)=>e0 c tn (k+1)))=true:=jk fun _=>rfl
   have h4:=Sa _ Sb;rw[e3,e2];generalize (List.range c).map ((fun(k:Nat)=>D.int ((c+1-k:Nat):Int))∘fun(k:Nat)=>e0 c tn (k+1))=L2 at h2 hm UL h4 ⊢;generalize (List.range c).map ((fun(k:Nat)=>D.int (k:Int))∘fun(k:Nat)=>e0 c tn (k+1))=L1 at h2 ⊢;have NT:cutD (D.int 0::L1) (some 1) none=L1:=sv (D.int 0::L1) 1;rw[ay (env':=[some (.f,.int ((c+1:Nat):Int)),some (.f,.int x),some (.f,.int (tn:Int)),some (.l .f,.lst (.int 0::L2))]) (by
    generalize (aB nQ (aw 1) (aw 0))=GG at h2 ⊢;simp only[pv,seval,op,R9,UK,hb,NT,h2,hm,UL,h4])]
   simp only[pv,seval,op]
def pQ(cnt:Nat)(p q:Pl):Pl:=(p.1+q.1,(List.range cnt).map fun(k:Nat)=>J6 k p+J6 k q,(List.range cnt).map fun(k:Nat)=>Ln k p+Ln k q)
def y0(p:Pl):Pl:=(p.1*3,p.2.1.map (·* 3),p.2.2.map (·* 3))
def sW(p q:Pl)(cnt:Nat)(c:Int)(f:Nat->Pl->Int)(h1:∀k,k<cnt->∃l,Kd [D.int p.1,.tup (p.2.1.map D.int),.tup (p.2.2.map D.int)] c=some (.tup l)/\Kd l (k:Int)=some (.int (f k p)))(h2:∀k,k<cnt->∃l,Kd [D.int q.1,.tup (q.2.1.map D.int),.tup (q.2.2.map D.int)] c=some (.tup l)/\Kd l (k:Int)=some (.int (f k q))):
  c7 (aH 0) eF (aB addO (aq (aB Ji (aq (aB Ji (aw 1) (aq (aE (.int c))))) (aw 0))) (aq (aB Ji (aq (aB Ji (aw 2) (aq (aE (.int c))))) (aw 0)))) ((List.range cnt).map fun(k:Nat)=>D.int (k:Int)) [none,some (.f,eP p),some (.f,eP q)]=.ok (((List.range cnt).map fun(k:Nat)=>f k p+f k q).map D.int):=by
 rw[Vj];refine bY (fun env=>∃t,env=[t,some (.f,eP p),some (.f,eP q)]) _ ?_ _ ⟨_,rfl⟩;rintro k hk env ⟨t,rfl⟩;obtain⟨l,e1,e2⟩:=h1 k (VF.mp hk);obtain⟨l',QN,PF⟩:=h2 k (VF.mp hk);refine⟨[some (.f,.int (k:Int)),some (.f,eP p),some (.f,eP q)],rfl,?_⟩;unfold eP;simp only[pv,seval,op,e1,e2,QN,PF];exact⟨_,_,rfl,_,rfl⟩
def Hj{p q:Pl}{cnt:Nat}(hc:cnt<=100)(hp:Kn p cnt)(hq:Kn q cnt):dq [eP p,eP q]=.ok (.f,eP (pQ cnt p q)):=by
 have c1:=sW p q cnt 1 J6 (fun k hk=>⟨_,rfl,yM hp hk⟩) (fun k hk=>⟨_,rfl,yM hq hk⟩);have c2:=sW p q cnt 2 Ln (fun k hk=>⟨_,rfl,Ce hp hk⟩) (fun k hk=>⟨_,rfl,Ce hq hk⟩);have i1:Ji (eP p) (.int 1)=.ok (.f,.tup (p.2.1.map D.int)):=rfl;have i2:Ji (eP p) (.int 2)=.ok (.f,.tup (p.2.2.map D.int)):=rfl;have i0:Ji (eP p) (.int 0)=.ok (.f,.int p.1):=rfl;have j0:Ji (eP q) (.int 0)=.ok (.f,.int q.1):=rfl;have l1:∀f:Nat->Int,(((List.range cnt).map f).map D.int).length<=sizeLine:=fun f=>bG (by rw[bD,bD,Vi];lia)
 have f1:∀f:Nat->Int,flatDs (((List.range cnt).map f).map D.int)=true:=fun f=>Jm _
 unfold dq mr;rw[bq (h:=by rfl)];unfold pQ;rw[show eP (p.1+q.1,(List.range cnt).map fun(k:Nat)=>J6 k p+J6 k q,(List.range cnt).map fun(k:Nat)=>Ln k p+Ln k q)=.tup [.int (p.1+q.1),.tup (((List.range cnt).map fun(k:Nat)=>J6 k p+J6 k q).map D.int),.tup (((List.range cnt).map fun(k:Nat)=>Ln k p+Ln k q).map D.int)] from rfl];generalize eP p=EP at c1 c2 i0 i1 i2 ⊢;generalize eP q=EQ at c1 c2 j0 ⊢;have r1:=GZ (cnt:Int) (by lia) (by lia) (aq (a7 f7 (ag (aq (aB Ji (aw 0) (aq (aE (.int 1))))) aG))) [some (.f,EP),some (.f,EQ),none,none] [some (.f,EP),some (.f,EQ),none,none] (.val (.int (cnt:Int))) (by simp only[pv,seval,op,i1,bD,hp.1]) rfl;rw[VG]at r1;rw[ay (env':=[some (.f,EP),some (.f,EQ),some (.f,.tup (((List.range cnt).map fun(k:Nat)=>J6 k p+J6 k q).map D.int)),none]) (by
  generalize c6 (aq (a7 f7 (ag (aq (aB Ji (aw 0) (aq (aE (.int 1))))) aG)))=IT at r1 ⊢;simp only[pv,seval,op,r1,c1,l1,f1])]
 have r2:=GZ (cnt:Int) (by lia) (by lia) (aq (a7 f7 (ag (aq (aB Ji (aw 0) (aq (aE (.int 2))))) aG))) [some (.f,EP),some (.f,EQ),some (.f,.tup (((List.range cnt).map fun(k:Nat)=>J6 k p+J6 k q).map D.int)),none] [some (.f,EP),some (.f,EQ),some (.f,.tup (((List.range cnt).map fun(k:Nat)=>J6 k p+J6 k q).map D.int)),none] (.val (.int (cnt:Int))) (by simp only[pv,seval,op,i2,bD,hp.2]) rfl;rw[VG]at r2;rw[ay (env':=[some (.f,EP),some (.f,EQ),some (.f,.tup (((List.range cnt).map fun(k:Nat)=>J6 k p+J6 k q).map D.int)),some (.f,.tup (((List.range cnt).map fun(k:Nat)=>Ln k p+Ln k q).map D.int))]) (by
  generalize c6 (aq (a7 f7 (ag (aq (aB Ji (aw 0) (aq (aE (.int 2))))) aG)))=IT at r2 ⊢;simp only[pv,seval,op,r2,c2,l1,f1])]
 simp only[pv,seval,op,i0,j0]
def z5(cnt:Nat)(f:Nat->Int){k:Nat}(h:k<cnt):((List.range cnt).map f).getD k 0=f k:=by
 rw[List.getD_eq_getElem?_getD,List.getElem?_map,List.getElem?_range h];rfl
def xp(l:List Int)(k:Nat):(l.map (·* 3)).getD k 0=l.getD k 0*3:=by
 rw[List.getD_eq_getElem?_getD,List.getD_eq_getElem?_getD,List.getElem?_map];cases l[k]? with
 |none=>rfl
 |some x=>rfl
def Fj(l:List Int):c7 (aH 0) eF (aB jr (aw 0) (aq (aE (.int 3)))) (l.map D.int) [none]=.ok ((l.map (·* 3)).map D.int):=by
 rw[Vj];refine bY (fun env=>∃t,env=[t]) _ ?_ _ ⟨_,rfl⟩;rintro x _ env ⟨t,rfl⟩;have hm:=HF x 3 (by decide);exact⟨[some (.f,.int x)],rfl,.f,[some (.f,.int x)],by simp only[pv,seval,hm];rfl,_,rfl⟩
structure Iq(nY:LNN)(ps:List Pl)(q:Pl):Prop where
 po:Kn q nY.length
 im:∃LU,Im nY ps q LU
theorem Iq.sum{nY:LNN}{ps:List Pl}{p q:Pl}(a:Iq nY ps p)(b:Iq nY ps q):Iq nY ps (pQ nY.length p q):=by
 obtain⟨f,hf⟩:=a.im;obtain⟨g,hg⟩:=b.im;unfold pQ;exact⟨⟨by show(List.map _ _).length=_;rw[bD,Vi],by show(List.map _ _).length=_;rw[bD,Vi]⟩,_,hf.sum hg rfl (fun j hj=>z5 _ _ hj) (fun j hj=>z5 _ _ hj)⟩
theorem Iq.three{nY:LNN}{ps:List Pl}{p:Pl}(a:Iq nY ps p):Iq nY ps (y0 p):=by
 obtain⟨f,hf⟩:=a.im;exact⟨⟨by show(List.map _ _).length=_;rw[bD];exact a.po.1,by show(List.map _ _).length=_;rw[bD];exact a.po.2⟩,_,hf.three rfl (fun j hj=>xp _ _) (fun j hj=>xp _ _)⟩
theorem Iq.more{nY:LNN}{ps:List Pl}{p:Pl}(a:Iq nY ps p)(c:Int)(hc:0<=c):Iq nY ps (p.1+c,p.2):=by
 obtain⟨f,hf⟩:=a.im;exact⟨a.po,_,hf.more c hc⟩
def Nt.more{nY:LNN}{ps:List Pl}{r:Rn}(n:Nt nY ps r){q:Pl}(i:Iq nY ps q)(k:Nat)(hl:ps.length<12):∃r',Nt nY (Le k q ps) r':=by
 obtain⟨f,hf⟩:=i.im;obtain⟨m,rm⟩:=CB n.n3 n.e;refine⟨_,n.n0,n.n3,n.nn,fun h=>?_,by rw[qK];lia,fun p hp=>?_,hf.run k n.e rm.ln⟩
 .have:=qK k q ps;rw[h]at this;cases this
 .unfold Le at hp;rcases uk hp with hp|hp
  .exact n.po p (XI hp)
  .rcases Vb.mp hp with rfl|hp
   .exact i.po
   .exact n.po p (List.mem_of_mem_drop hp)
def Hk:FS:=(bX 6 (dA dq (ag (aw 6) (ag (aw 7) aG))))
noncomputable def y4:FS:=(bX 6 (fH (aA (aB addO (aq (aB Ji (aw 6) (aq (aE (.int 0))))) (aq (aB eC (aq (dA aI (ag (aw 0) (ag (aw 4) aG)))) (aq (aB yf (aq (aE (.int 10))) (aq (aE (.int 40)))))))) (aA (aB Ji (aw 6) (aq (aE (.int 1)))) (aA (aB Ji (aw 6) (aq (aE (.int 2)))) br)))))
noncomputable def sX:FS:=(bX 6 (fH (aA (aB jr (aq (aB Ji (aw 6) (aq (aE (.int 0))))) (aq (aE (.int 3)))) (aA (a7 cT (ag (aq (c8 (si (aB Ji (aw 6) (aq (aE (.int 1))))) [none] (aH 0) eF (aB jr (aw 0) (aq (aE (.int 3)))))) aG)) (aA (a7 cT (ag (aq (c8 (si (aB Ji (aw 6) (aq (aE (.int 2))))) [none] (aH 0) eF (aB jr (aw 0) (aq (aE (.int 3)))))) aG)) br)))))
def CK(v:Int):FT:=(JE (cp KS (aq (aB eC (aq (aB dk (aw 5) (aq (aE (.int 256))))) (aq (aE (.int 4))))) (aq (aE (.int v)))))
noncomputable def Fl:FS:=(J0 (JE (aB PY (aq (aB eC (aq (aB dk (aw 5) (aq (aE (.int 1024))))) (aq (aE (.int 4))))) (aq (aE (.int 0)))))
  (iW (Ej 3 (aB eC (aq (aB dk (aw 5) (aq (aE (.int 4096))))) (aq (aB addO (aq (a7 f7 (ag (aw 3) aG))) (aq (aE (.int 1)))))) (aR 6)))
  bV)
def xq(A0 A1 A2 A3 A4 A6 A7:Option R)(x v:Int):CK v [A0,A1,A2,A3,A4,some (.f,.int x),A6,A7]=.ok (x / 256%4==v,[A0,A1,A2,A3,A4,some (.f,.int x),A6,A7]):=by
 unfold CK;simp only[pv,seval,op,g6 _ 256 (by decide) (by decide),j6 _ 4 (by decide)]
def CF(ns:List Int)(A1 A2 A3:Option R)(k:Nat)(x:Int)(p:Pl)(A7:Option R):y4 [some (.f,.lst (ns.map D.int)),A1,A2,A3,some (.f,.int (k:Int)),some (.f,.int x),some (.f,eP p),A7]=.ok (.nx [some (.f,.lst (ns.map D.int)),A1,A2,A3,some (.f,.int (k:Int)),some (.f,.int x),some (.f,eP (p.1+cell ns k%10 ^ 40,p.2)),A7]):=by
 have UM:yf (.int 10) (.int 40)=.ok (.f,.int (10 ^ 40)):=HE 40 (by decide);have UN:=j6 (cell ns k) (10 ^ 40) (by decide);have c1:=j7 ns k;have i0:Ji (eP p) (.int 0)=.ok (.f,.int p.1):=rfl;have i1:Ji (eP p) (.int 1)=.ok (.f,.tup (p.2.1.map D.int)):=rfl;have i2:Ji (eP p) (.int 2)=.ok (.f,.tup (p.2.2.map D.int)):=rfl;unfold y4;rw[show eP (p.1+cell ns k%10 ^ 40,p.2)=.tup [.int (p.1+cell ns k%10 ^ 40),.tup (p.2.1.map D.int),.tup (p.2.2.map D.int)] from rfl];generalize (10:Int) ^ 40=T at UM UN ⊢;generalize eP p=EP at i0 i1 i2 ⊢;simp only[pv,↓reduceIte,Nat.reduceAdd,Nat.reduceLT,Nat.reduceLeDiff,Nat.reduceEqDiff,op,c1,i0,i1,i2,UM,UN]
def y6(ns:List Int)(A1 A2 A3:Option R)(k:Nat)(x:Int)(p:Pl)(cnt:Nat)(hc:cnt<=100)(hp:Kn p cnt)(A7:Option R):sX [some (.f,.lst (ns.map D.int)),A1,A2,A3,some (.f,.int (k:Int)),some (.f,.int x),some (.f,eP p),A7]=.ok (.nx [some (.f,.lst (ns.map D.int)),A1,A2,A3,some (.f,.int (k:Int)),some (.f,.int x),some (.f,eP (y0 p)),A7]):=by
 have c1:=Fj p.2.1;have c2:=Fj p.2.2;have m0:=HF p.1 3 (by decide);have i0:Ji (eP p) (.int 0)=.ok (.f,.int p.1):=rfl;have i1:Ji (eP p) (.int 1)=.ok (.f,.tup (p.2.1.map D.int)):=rfl;have i2:Ji (eP p) (.int 2)=.ok (.f,.tup (p.2.2.map D.int)):=rfl;have l1:((p.2.1.map (·* 3)).map D.int).length<=sizeLine:=bG (by rw[bD,bD,hp.1];lia);have l2:((p.2.2.map (·* 3)).map D.int).length<=sizeLine:=bG (by rw[bD,bD,hp.2];lia);have f1:=Jm (p.2.1.map (·* 3));have f2:=Jm (p.2.2.map (·* 3));unfold sX;rw[show eP (y0 p)=.tup [.int (p.1*3),.tup ((p.2.1.map (·* 3)).map D.int),.tup ((p.2.2.map (·* 3)).map D.int)] from rfl];generalize hGG:(aB jr (aw 0) (aq (aE (.int 3))))=GG at c1 c2 ⊢;clear hGG;generalize (p.2.1.map (·* 3)).map D.int=T1 at *;generalize (p.2.2.map (·* 3)).map D.int=T2 at *;generalize eP p=EP at i0 i1 i2 ⊢;simp only[pv,seval,op,i0,i1,i2,m0,c1,c2,l1,l2,f1,f2]
def y7(ns:List Int){nY:LNN}(hn:nY.length<=3){ps:List Pl}(A1 A2 A3:Option R)(k:Nat)(x:Int){p p2:Pl}(hp:Iq nY ps p)(Pf:Iq nY ps p2):∃q,Iq nY ps q/\∀Nj:FS,sSeq (J0 (CK 0) Hk bV) (sSeq (J0 (CK 1) y4 bV) (sSeq (J0 (CK 2) sX bV) Nj)) [some (.f,.lst (ns.map D.int)),A1,A2,A3,some (.f,.int (k:Int)),some (.f,.int x),some (.f,eP p),some (.f,eP p2)]=Nj [some (.f,.lst (ns.map D.int)),A1,A2,A3,some (.f,.int (k:Int)),some (.f,.int x),some (.f,eP q),some (.f,eP p2)]:=by
 have k0:=fun q=>xq (some (.f,.lst (ns.map D.int))) A1 A2 A3 (some (.f,.int (k:Int))) (some (.f,eP q)) (some (.f,eP p2)) x 0
 have k1:=fun q=>xq (some (.f,.lst (ns.map D.int))) A1 A2 A3 (some (.f,.int (k:Int))) (some (.f,eP q)) (some (.f,eP p2)) x 1
 have k2:=fun q=>xq (some (.f,.lst (ns.map D.int))) A1 A2 A3 (some (.f,.int (k:Int))) (some (.f,eP q)) (some (.f,eP p2)) x 2
 have m4:=fG (x / 256) 4 (by decide);generalize x / 256%4=c at k0 k1 k2 m4;have hc:c=0\/c=1\/c=2\/c=3:=by lia
 have no:∀{C:FT}{s:FS}{env:PV.Env}{R:FS},C env=.ok (false,env)->sSeq (J0 C s bV) R env=R env:=fun{C s env R} h=>ay (by rw[IM h];rfl)
 have yes:∀{C:FT}{s:FS}{env env':PV.Env}{R:FS},C env=.ok (true,env)->s env=.ok (.nx env')->sSeq (J0 C s bV) R env=R env':=fun{C s env env' R} h h2=>ay (by rw[IP h];exact h2)
 rcases hc with rfl|rfl|rfl|rfl
 .refine⟨pQ nY.length p p2,hp.sum Pf,fun Nj=>?_⟩;have es:=Hj (by lia) hp.po Pf.po;have fs:=flat_P (pQ nY.length p p2);rw[yes (k0 _) (env':=[some (.f,.lst (ns.map D.int)),A1,A2,A3,some (.f,.int (k:Int)),some (.f,.int x),some (.f,eP (pQ nY.length p p2)),some (.f,eP p2)]) (by
   unfold Hk;generalize eP (pQ nY.length p p2)=E3 at es fs ⊢;generalize eP p=E1 at es ⊢;generalize eP p2=E2 at es ⊢;simp only[pv,↓reduceIte,Nat.reduceAdd,Nat.reduceLT,Nat.reduceLeDiff,Nat.reduceEqDiff,op,es,fs]),no (k1 _),no (k2 _)]
 .refine⟨(p.1+cell ns k%10 ^ 40,p.2),hp.more _ (fG _ _ (by decide)).1,fun Nj=>?_⟩;rw[no (k0 _),yes (k1 _) (CF ns A1 A2 A3 k x p _),no (k2 _)]
 .refine⟨y0 p,hp.three,fun Nj=>?_⟩;rw[no (k0 _),no (k1 _),yes (k2 _) (y6 ns A1 A2 A3 k x p nY.length (by lia) hp.po _)]
 .refine⟨p,hp,fun Nj=>?_⟩;rw[no (k0 _),no (k1 _),no (k2 _)]
def Fm(i:Nat)(f g:FX)(env:PV.Env):Ej i f g env=if qe env i then Res.bnd (f env) (f:=⟨fun p=>Res.bnd (g p.2) (f:=⟨fun q=>match q.2[i]?,p.1.2 with
 |some (some (.l .f,.lst ds)),.int k=>if ds.length<sizeLine/\0<=k/\k.toNat<=ds.length then .ok ((.f,.non),q.2.set i (some (.l .f,.lst (ds.take k.toNat++q.1.2::ds.drop k.toNat)))) else .bad
 |_,_=>.bad⟩)⟩) else .bad:=id rfl
def Fn(A0 A1 A2 A4 A7:Option R)(x:Int)(ps:List Pl)(hl:ps.length<=100)(q:Pl):∃b k:Nat,Fl [A0,A1,A2,some (.l .f,.lst (ps.map eP)),A4,some (.f,.int x),some (.f,eP q),A7]=.ok (.nx [A0,A1,A2,some (.l .f,.lst ((if b=0 then ps else Le k q ps).map eP)),A4,some (.f,.int x),some (.f,eP q),A7]):=by
 have d1:=g6 x 1024 (by decide) (by decide);have d2:=g6 x 4096 (by decide) (by decide);have m1:=j6 (x / 1024) 4 (by decide);have m2:=j6 (x / 4096) ((ps.length:Int)+1) (by lia);have b2:=fG (x / 4096) ((ps.length:Int)+1) (by lia);unfold Fl;by_cases h:0<x / 1024%4
 .refine⟨1,(x / 4096%((ps.length:Int)+1)).toNat,?_⟩;rw[U8 (by decide)];unfold Le;rw[Vh,dU,XQ,Zm];generalize x / 4096%((ps.length:Int)+1)=kk at m2 b2 ⊢;have hz:(ps.map eP).length<sizeLine/\0<=kk/\kk.toNat<=(ps.map eP).length:=⟨ko (by rw[bD];lia),b2.1,by rw[bD];lia⟩
  generalize eP q=EQ;have O0:(ps.map eP).length=ps.length:=bD _;generalize ps.map eP=L at hz O0 ⊢;simp only[pv,seval,op,d1,d2,m1,O0,m2,h,W5,Fm];rw[U5 (by rw[<-O0];exact hz)];rfl
 .refine⟨0,0,?_⟩;rw[U5 rfl];generalize ps.map eP=L;simp only[pv,seval,op,d1,m1,h,WE,eD]
def Fo{ps:List Pl}(h0:ps≠[])(y:Int):∃(i:Nat) (p:Pl),y%(ps.length:Int)=(i:Int)/\ps[i]?=some p/\Kd (ps.map eP) (i:Int)=some (eP p):=by
 have hl:=XW.mpr h0;have b:=fG y (ps.length:Int) (by lia);obtain⟨i,ei⟩:=Vl b.1;have hi:i<ps.length:=by lia
 exact⟨i,ps[i],ei,lK hi,gc (by rw[List.getElem?_map,lK hi];rfl)⟩
def Fp(ns:List Int){nY:LNN}{ps:List Pl}{r:Rn}(n:Nt nY ps r)(hl:ps.length<12)(A1 A2:Option R)(k:Nat)(t5 t6 t7:Option R):
  ∃Ki r' u5 u6 u7,Nt nY Ki r'/\Ki.length<=ps.length+1/\bS [some (.f,.lst (ns.map D.int)),A1,A2,some (.l .f,.lst (ps.map eP)),some (.f,.int (k:Int)),t5,t6,t7]=.ok (.nx [some (.f,.lst (ns.map D.int)),A1,A2,some (.l .f,.lst (Ki.map eP)),some (.f,.int (k:Int)),u5,u6,u7]):=by
 have ck:=j7 ns k;have O2:=lG (cell ns k) 31 (by decide) (by decide);generalize uz (cell ns k) 31=x at O2;obtain⟨i,p,ei,hi,ai⟩:=Fo n.p0 x;obtain⟨j,p2,ej,hj,aj⟩:=Fo n.p0 (x / 16);have O7:=XW.mpr n.p0;have m1:=j6 x (ps.length:Int) (by lia);have m2:=j6 (x / 16) (ps.length:Int) (by lia);have d16:=g6 x 16 (by decide) (by decide);rw[ei]at m1;rw[ej]at m2;have q1:Iq nY ps p:=⟨n.po p (Vm hi),_,Im.at hi⟩
 have q2:Iq nY ps p2:=⟨n.po p2 (Vm hj),_,Im.at hj⟩
 obtain⟨q,hq,eq⟩:=y7 ns n.n3 A1 A2 (some (.l .f,.lst (ps.map eP))) k x q1 q2;obtain⟨b,kk,UO⟩:=Fn (some (.f,.lst (ns.map D.int))) A1 A2 (some (.f,.int (k:Int))) (some (.f,eP p2)) x ps (by lia) q;have hr:∃r',Nt nY (if b=0 then ps else Le kk q ps) r':=by
  by_cases hb:b=0
  .rw[U5 hb];exact⟨r,n⟩
  .rw[U8 hb];exact n.more hq kk hl
 have hlen:(if b=0 then ps else Le kk q ps).length<=ps.length+1:=by
  by_cases hb:b=0
  .rw[U5 hb];lia
  .rw[U8 hb,qK];lia
 obtain⟨r',n'⟩:=hr;refine⟨_,r',some (.f,.int x),some (.f,eP q),some (.f,eP p2),n',hlen,?_⟩;have O0:(ps.map eP).length=ps.length:=bD _;have fp:=flat_P p;have JF:=flat_P p2;unfold bS;rw[ay (env':=[some (.f,.lst (ns.map D.int)),A1,A2,some (.l .f,.lst (ps.map eP)),some (.f,.int (k:Int)),some (.f,.int x),t6,t7]) (by
  generalize ps.map eP=L;simp only[pv,seval,op,ck,O2])]
 rw[ay (env':=[some (.f,.lst (ns.map D.int)),A1,A2,some (.l .f,.lst (ps.map eP)),some (.f,.int (k:Int)),some (.f,.int x),some (.f,eP p),t7]) (by
  generalize ps.map eP=L at O0 ai aj ⊢;simp only[pv,seval,op,O0,m1,ai,fp])]
 rw[ay (env':=[some (.f,.lst (ns.map D.int)),A1,A2,some (.l .f,.lst (ps.map eP)),some (.f,.int (k:Int)),some (.f,.int x),some (.f,eP p),some (.f,eP p2)]) (by
  generalize ps.map eP=L at O0 ai aj ⊢;generalize eP p=E1;simp only[pv,seval,op,O0,d16,m2,aj,JF])]
 have e2:=eq Fl;unfold Hk y4 sX CK Fl at e2;rw[e2];unfold Fl at UO;exact UO
def Fq(ns:List Int){nY:LNN}{ps:List Pl}{r:Rn}(n:Nt nY ps r)(hl:ps.length<=9):∃Ki r',Nt nY Ki r'/\bC [.lst (ns.map D.int),eN nY ps,.int 2]=.ok (.f,eN nY Ki):=by
 have Kr:Ji (eN nY ps) (.int 0)=.ok (.f,.tup (nY.map D.str)):=rfl;have Lz:Ji (eN nY ps) (.int 1)=.ok (.f,.lst (ps.map eP)):=rfl;obtain⟨env',ef,Ki,r',t4,t5,t6,t7,n',_,rfl⟩:=nG (a:=aH 4) (g:=bS) (e:=fun k=>D.int ((2:Int)+(k:Int))) 3 (fun i env=>∃(Ki:List Pl) (r':Rn) (t4 t5 t6 t7:Option R),Nt nY Ki r'/\Ki.length<=9+i/\env=[some (.f,.lst (ns.map D.int)),some (.f,eN nY ps),some (.f,.int 2),some (.l .f,.lst (Ki.map eP)),t4,t5,t6,t7]) (by
  rintro k env hk ⟨Ki,r',t4,t5,t6,t7,n',UD,rfl⟩;obtain⟨ps2,r2,u5,u6,u7,n2,O3,e2⟩:=Fp ns n' (by lia) (some (.f,eN nY ps)) (some (.f,.int 2)) (2+k) t5 t6 t7;rw[show((2+k:Nat):Int)=(2:Int)+(k:Int) by lia]at e2;exact⟨_,rfl,_,e2,ps2,r2,_,_,_,_,n2,by lia,rfl⟩) [some (.f,.lst (ns.map D.int)),some (.f,eN nY ps),some (.f,.int 2),some (.l .f,.lst (ps.map eP)),none,none,none,none] ⟨ps,r,none,none,none,none,n,hl,rfl⟩
 refine⟨Ki,r',n',?_⟩;unfold bC eL;rw[bq (h:=by rfl)];rw[show eN nY Ki=.tup [.tup (nY.map D.str),.lst (Ki.map eP)] from rfl];generalize eN nY ps=NE at Kr Lz ef ⊢;rw[ay (env':=[some (.f,.lst (ns.map D.int)),some (.f,NE),some (.f,.int 2),some (.l .f,.lst (ps.map eP)),none,none,none,none]) (by
  simp only[pv,seval,op,Lz])]
 rw[ay (env':=[some (.f,.lst (ns.map D.int)),some (.f,NE),some (.f,.int 2),some (.l .f,.lst (Ki.map eP)),t4,t5,t6,t7]) (by
  unfold dR;simp only[pv,seval,op];rw[U5 (by decide)];try rw[show(((2:Int)+3)-(2:Int)).toNat=3 by rfl]
  simp only[pv,seval,op];exact ef)]
 unfold dI;simp only[pv,seval,op,Kr]
def sY(n:Nat)(l:List Pl):plainDs (n+2) (l.map eP)=true:=by
 induction l with
 |nil=>rfl
 |cons p l ih=>
  rw[dU,plainDs,ih,WD];unfold eP;rw[plainD,plainDs,plainDs,plainDs,plainD,plainD,gY,gY];rfl
def nO(n:Nat)(l:List Jw):plainDs (n+2) (l.map eA)=true:=by
 induction l with
 |nil=>rfl
 |cons a l ih=>
  rw[dU,plainDs,ih];rfl
theorem z6:∀a b:List Jw,iY (a.map eA) (b.map eA)=decide (a=b)
 |[],[]=>rfl
 |[],_::_=>rfl
 |_::_,[]=>rfl
 |x::a,y::b=>by
  rw[dU,dU,iY,z6 a b,Ha,Vp];simp
def Fs(a b:List Jw):KS (.lst (a.map eA)) (.lst (b.map eA))=.ok (.f,.bl (decide (a=b))):=by
 unfold KS;rw[plainD,plainD,nO 37,nO 37,Jg,z6];rfl
def z7{S:List (List Int)}(nd:S.Nodup){i j:Nat}{x:List Int}(hi:S[i]?=some x)(hj:S[j]?=some x):i=j:=by
 obtain⟨l1,h1⟩:=lT hi;obtain⟨l2,h2⟩:=lT hj;have pw:=WG.mp nd;rcases Yk i j with hl|hl|hl
 .exact absurd (h1.trans h2.symm) (pw _ _ l1 l2 hl)
 .exact hl
 .exact absurd (h2.trans h1.symm) (pw _ _ l2 l1 hl)
section
variable{nY:LNN}{ps P:List Pl}{r:Rn}
theorem Ft(hn:nY.length<=3)(e:cy nY ps=some r){S:List (List Int)}(o:Or nY P S (aV bh r.2)):Sim nY ps P (fun m=>S.getD (pos r.1 m) []) r.1:=by
 have o1:=xj hn e;have has:=o.has (w9 hn e).sort;have key:∀{i:Nat}{m:List Int},r.1[i]?=some m->S[i]?=some (S.getD (pos r.1 m) []):=fun{i m} h=>by
  have:=z7 o1.nd h (wV (Vm h));obtain⟨s,hs⟩:=has i (lT h).1;rw[<-this,List.getD_eq_getElem?_getD,hs];rfl
 refine⟨?_,fun m hm mv hv=>?_,fun m hm m' Pj h=>?_⟩
 .have h1:=key o1.z;rw[o.z]at h1;exact(Vg h1).symm
 .obtain⟨i,hi⟩:=VP.mp hm;have ki:=key hi;cases hf:bL (nY.idxOf mv) (m.zip ps) with
  |some t=>
   obtain⟨k,hk⟩:=o1.fu i mv m t hv hi hf;obtain⟨a,b,ea,eb,u,v,hu,UP,hg⟩:=o.ab _ _ _ hk;obtain⟨a',b',ea',eb',u',v',Ot,SE,Sd⟩:=o1.ab _ _ _ hk;have:a=i:=by lia
   subst this;have:a'=a:=by lia
   subst this;have:b'=b:=by lia
   subst this;rw[hi]at Ot;cases Ot;rw[hf]at Sd;cases Sd;have kj:=key SE;rw[ki]at hu;rw[kj]at UP;rw[Vg hu,YQ,Vg UP];exact hg
  |none=>
   cases hg:bL (nY.idxOf mv) ((S.getD (pos r.1 m) []).zip P) with
   |none=>rfl
   |some u=>
    obtain⟨k,hk⟩:=o.fu i mv _ u hv ki hg;obtain⟨a',b',ea',eb',u',v',Ot,SE,Sd⟩:=o1.ab _ _ _ hk;have:a'=i:=by lia
    subst this;rw[hi]at Ot;cases Ot;rw[hf]at Sd;cases Sd
 .obtain⟨i,hi⟩:=VP.mp hm;obtain⟨j,hj⟩:=VP.mp Pj;have ki:=key hi;have kj:=key hj;rw[show S.getD (pos r.1 m) []=S.getD (pos r.1 m') [] from h]at ki;have:=z7 o.nd ki kj;subst this;rw[hi]at hj;exact Vg hj
theorem CG(hn:nY.length<=3)(e:cy nY ps=some r):okb nY (aV bh r.2) P=match cy nY P with
 |some r'=>decide (aV bh r'.2=aV bh r.2)
 |none=>false:=by
 rw[Vp,xm (w9 hn e).sort];constructor
 .rintro⟨S,o⟩;rw[mB e (Ft hn e o)];exact Vu rfl
 .intro h;cases e':cy nY P with
  |none=>rw[e']at h;cases h
  |some r'=>
   rw[e']at h;have o:=xj hn e';rw[W6 h]at o;exact⟨_,o⟩
end
def x_iRevR1(env:PV.Env)(fs:FOs):iRevR1 fs env=Res.bnd (fs env) (f:=⟨fun p=>Res.bnd (ders p.2 p.1) (f:=⟨fun d=>match d with
 |[.int j]=>if 0<=j/\j<=1048576 then .ok ((List.range j.toNat).map fun(k:Nat)=>D.int (j-1+(k:Int) * -1),p.2) else .bad
 |_=>.bad⟩)⟩):=id rfl
section
variable{nY:LNN}{ps:List Pl}{r:Rn}
def lO(o:O):Prop:=o=.f\/o=.l .f
theorem Hl(hn:nY.length<=3)(e:cy nY ps=some r)(P:List Pl)(hP:∀q∈P,q∈ps)(hl:P.length<=100)(hp:∀q∈P,Kn q nY.length)(o2:O)(ho:lO o2)(k:Nat)(t4 t5:Option R):
  ∃u4 u5 o3,lO o3/\df [some (.f,eN nY ps),some (.f,.lst ((aV bh r.2).map eA)),some (o2,.lst (P.map eP)),some (.f,.int (k:Int)),t4,t5]=.ok (.nx [some (.f,eN nY ps),some (.f,.lst ((aV bh r.2).map eA)),some (o3,.lst ((if okb nY (aV bh r.2) (P.eraseIdx k) then P.eraseIdx k else P).map eP)),some (.f,.int (k:Int)),u4,u5]):=by
 have hP':∀q∈P.eraseIdx k,q∈ps:=fun q hq=>hP q (VS hq)
 have hok:=CG (P:=P.eraseIdx k) hn e;have hle:=WT P k;have hr:=wR nY hn (P.eraseIdx k) (by lia) fun q hq=>hp q (VS hq)
 have Kr:Ji (eN nY ps) (.int 0)=.ok (.f,.tup (nY.map D.str)):=rfl;have ha:=cut_er P k hl;have QZ:∀(x y:List D),flatDs [.lst x,.lst y]=false:=fun _ _=>rfl
 have QX:flatD .non=true:=rfl;have a0:∀x y:D,Kd (x::y::[]) (0:Int)=some x:=fun _ _=>rfl
 have Tc:xw o2=true:=by rcases ho with h|h <;> rw[h] <;> rfl
 unfold df;rw[show eN nY (P.eraseIdx k)=.tup [.tup (nY.map D.str),.lst ((P.eraseIdx k).map eP)] from rfl]at hr;generalize eN nY ps=NE at Kr ⊢;rw[ay (env':=[some (.f,NE),some (.f,.lst ((aV bh r.2).map eA)),some (o2,.lst (P.map eP)),some (.f,.int (k:Int)),some (.l .f,.lst ((P.eraseIdx k).map eP)),t5]) (by
  simp only[pv,seval,op,ha,Tc])]
 cases er:cy nY (P.eraseIdx k) with
 |none=>
  rw[er]at hr hok;dsimp only at hr hok;rw[hok,U8 U3];refine⟨some (.f,.lst ((P.eraseIdx k).map eP)),some (.f,.non),o2,ho,?_⟩;rw[ay (env':=[some (.f,NE),some (.f,.lst ((aV bh r.2).map eA)),some (o2,.lst (P.map eP)),some (.f,.int (k:Int)),some (.f,.lst ((P.eraseIdx k).map eP)),some (.f,.non)]) (by
   simp only[pv,seval,op,Kr,hr,QX])]
  simp only[pv,seval,op,lE,eD]
 |some r'=>
  rw[er]at hr hok;dsimp only at hr hok;have he:=Fs (aV bh r'.2) (aV bh r.2);rw[<-hok]at he;have hex:∀X:D,∃Y,Y=X:=fun X=>⟨X,rfl⟩
  rw[ay (env':=[some (.f,NE),some (.f,.lst ((aV bh r.2).map eA)),some (.f,.lst (P.map eP)),some (.f,.int (k:Int)),some (.f,.lst ((P.eraseIdx k).map eP)),some (.f,.tup [.lst ((aV bh r'.2).map eA),.lst (r'.1.map eM)])]) (by
   simp only[pv,seval,op,Kr,hr,QZ,B2,eD])]
  cases hb:okb nY (aV bh r.2) (P.eraseIdx k) with
  |true=>
   rw[hb]at he;rw[U5 rfl];refine⟨some (.f,.lst ((P.eraseIdx k).map eP)),some (.f,.tup [.lst ((aV bh r'.2).map eA),.lst (r'.1.map eM)]),.f,.inl rfl,?_⟩;simp only[pv,seval,op,o_isnT,a0,he]
  |false=>
   rw[hb]at he;rw[U8 U3];refine⟨some (.f,.lst ((P.eraseIdx k).map eP)),some (.f,.tup [.lst ((aV bh r'.2).map eA),.lst (r'.1.map eM)]),.f,.inl rfl,?_⟩;simp only[pv,seval,op,o_isnT,a0,he,eD]
theorem nP(hn:nY.length<=3)(e:cy nY ps=some r):∀(k:Nat) (P:List Pl),(∀q∈P,q∈ps)->P.length<=100->(∀q∈P,Kn q nY.length)->∀(o2:O),lO o2->∀t3 t4 t5:Option R,
  ∃u3 u4 u5 o3,lO o3/\d4 (aH 3) df (CD k) [some (.f,eN nY ps),some (.f,.lst ((aV bh r.2).map eA)),some (o2,.lst (P.map eP)),t3,t4,t5]=.ok (.nx [some (.f,eN nY ps),some (.f,.lst ((aV bh r.2).map eA)),some (o3,.lst ((gM (okb nY (aV bh r.2)) k P).map eP)),u3,u4,u5])
 | 0,P,_,_,_,o2,ho,t3,t4,t5=>⟨t3,t4,t5,o2,ho,rfl⟩
 |k+1,P,hP,hl,hp,o2,ho,t3,t4,t5=>by
  obtain⟨v4,v5,o3,SV,e1⟩:=Hl hn e P hP hl hp o2 ho k t4 t5;have ha:aH 3 (.int (k:Int)) [some (.f,eN nY ps),some (.f,.lst ((aV bh r.2).map eA)),some (o2,.lst (P.map eP)),t3,t4,t5]=.ok [some (.f,eN nY ps),some (.f,.lst ((aV bh r.2).map eA)),some (o2,.lst (P.map eP)),some (.f,.int (k:Int)),t4,t5]:=rfl;unfold gM CD;cases hb:okb nY (aV bh r.2) (P.eraseIdx k) with
  |true=>
   rw[hb,U5 rfl]at e1;obtain⟨u3,u4,u5,o4,h4,e4⟩:=nP hn e k (P.eraseIdx k) (fun q hq=>hP q (VS hq)) (by have:=WT P k;lia) (fun q hq=>hp q (VS hq)) o3 SV (some (.f,.int (k:Int))) v4 v5;refine⟨u3,u4,u5,o4,h4,?_⟩;rw[U5 rfl,cw,ha,JA,e1,JA];exact e4
  |false=>
   rw[hb,U8 U3]at e1;obtain⟨u3,u4,u5,o4,h4,e4⟩:=nP hn e k P hP hl hp o3 SV (some (.f,.int (k:Int))) v4 v5;refine⟨u3,u4,u5,o4,h4,?_⟩;rw[U8 U3,cw,ha,JA,e1,JA];exact e4
theorem Hm(hn:nY.length<=3)(e:cy nY ps=some r)(hl:ps.length<=100)(hp:∀q∈ps,Kn q nY.length):
  ∃o,lO o/\dt [eN nY ps,.lst ((aV bh r.2).map eA)]=.ok (o,.lst ((gM (okb nY (aV bh r.2)) ps.length ps).map eP)):=by
 obtain⟨u3,u4,u5,o3,SV,e1⟩:=nP hn e ps.length ps (fun _ h=>h) hl hp (.l .f) (.inr rfl) none none none;have Lz:Ji (eN nY ps) (.int 1)=.ok (.f,.lst (ps.map eP)):=rfl;refine⟨o3,SV,?_⟩;unfold dt mw;rw[bq (h:=by rfl)];generalize eN nY ps=NE at e1 Lz ⊢;rw[ay (env':=[some (.f,NE),some (.f,.lst ((aV bh r.2).map eA)),some (.l .f,.lst (ps.map eP)),none,none,none]) (by
  simp only[pv,seval,op,Lz])]
 have hb:(0:Int)<=(ps.length:Int)/\(ps.length:Int)<=1048576:=by lia
 rw[ay (env':=[some (.f,NE),some (.f,.lst ((aV bh r.2).map eA)),some (o3,.lst ((gM (okb nY (aV bh r.2)) ps.length ps).map eP)),u3,u4,u5]) (by
  unfold j5;rw[ME];generalize d4 (aH 3) df=FL at e1 ⊢;simp only[pv,seval,op,x_iRevR1,Lz,bD,hb,and_self,VG,W8];rw[qP];exact e1)]
 unfold jg;simp only[pv,seval,op]
end
def p_whole(i:Int):m__law_whole [.int i]=.ok (.f,.bl true):=by
 unfold m__law_whole j4;rw[bq (h:=by rfl)];simp only[pv,seval,op,IS,IQ];rfl
def y8(p:Pl):plainD 40 (eP p)=true:=by
 have h:=sY 38 [p];rw[dU,VI,plainDs,plainDs,WD]at h;exact h
def ux(p:Pl)(hl:p.2.1.length+p.2.2.length<=1000):b6 [eP p,eP p]=.ok (.f,.bl true):=by
 have K9:=gI _ (y8 p);have Sa:=addT p.2.1 p.2.2 (by lia);have hw:=p_whole p.1;unfold eP at K9 ⊢;obtain⟨b,ts,gs⟩:=p;dsimp only at K9 Sa hw ⊢;have SW:=isT [.int b,.tup (ts.map D.int),.tup (gs.map D.int)];have it2:=isT (ts.map D.int);have it3:=isT (gs.map D.int);unfold b6 gA;rw[bq (h:=by rfl)];rw[ay (env':=[some (.f,.tup [.int b,.tup (ts.map D.int),.tup (gs.map D.int)]),some (.f,.tup [.int b,.tup (ts.map D.int),.tup (gs.map D.int)]),none]) (by simp only[pv,seval,op,SW,K9,hw,V9,eD])];rw[ay (env':=[some (.f,.tup [.int b,.tup (ts.map D.int),.tup (gs.map D.int)]),some (.f,.tup [.int b,.tup (ts.map D.int),.tup (gs.map D.int)]),none]) (by simp only[pv,seval,op,it2,it3,at2,V9,eD])];obtain⟨t,ef⟩:=yE (a:=aH 2) (g:=de) (e:=D.int) (ts++gs) (fun t=>[some (.f,.tup [.int b,.tup (ts.map D.int),.tup (gs.map D.int)]),some (.f,.tup [.int b,.tup (ts.map D.int),.tup (gs.map D.int)]),t]) (by
  intro v _ t;refine⟨some (.f,.int v),rfl,?_⟩;unfold de;simp only[pv,seval,op,p_whole,V9,eD]) none
 rw[ay (env':=_) (by
  unfold fC;simp only[pv,seval,op,at2,Sa];exact ef)]
 unfold eQ;simp only[pv,seval,op]
def y9(l:List Pl):((l.map eP).zip (l.map eP)).map (fun z=>D.tup [z.1,z.2])=l.map fun p=>D.tup [eP p,eP p]:=by
 induction l with
 |nil=>rfl
 |cons p l ih=>rw[dU,V0,dU,ih,dU]
def xr(a:LNN):LO (.tup (a.map D.str)) (.tup (a.map D.str))=.ok (.f,.bl false):=gI _ (by rw[plainD,fE])
def Fv(nY:LNN)(hn:nY.length<=3)(F:List Pl)(po:∀p∈F,Kn p nY.length):cR [eN nY F,.tup (nY.map D.str),.lst (F.map eP)]=.ok (.f,.bl true):=by
 have K9:=xr nY;have Se:xy "list" (.lst (F.map eP))=true:=rfl;have SW:=isT [.tup (nY.map D.str),.lst (F.map eP)];have hne2:(!(((2:Nat):Int)==2))=false:=rfl;have Ux:LO (.int (F.length:Int)) (.int (F.length:Int))=.ok (.f,.bl false):=gI _ rfl;have hz:=y9 F;obtain⟨env',ef,t3,t4,ee⟩:=for_list (a:=ky 2 (aT (aH 3) (aT (aH 4) dZ))) (g:=dw) (e:=fun p:Pl=>D.tup [eP p,eP p]) F (fun _ env=>∃t3 t4,env=[some (.f,eN nY F),some (.f,.tup (nY.map D.str)),some (.f,.lst (F.map eP)),t3,t4]) (by
  rintro k p env hk ⟨t3,t4,rfl⟩;have hp:=po p (Vm hk);have Ka:=ux p (by rw[hp.1,hp.2];lia);refine⟨[some (.f,eN nY F),some (.f,.tup (nY.map D.str)),some (.f,.lst (F.map eP)),some (.f,eP p),some (.f,eP p)],by simp only[pv,seval],[some (.f,eN nY F),some (.f,.tup (nY.map D.str)),some (.f,.lst (F.map eP)),some (.f,eP p),some (.f,eP p)],?_,_,_,rfl⟩;unfold dw;simp only[pv,seval,op,Ka,V9,eD]) [some (.f,eN nY F),some (.f,.tup (nY.map D.str)),some (.f,.lst (F.map eP)),none,none] ⟨none,none,rfl⟩
 clear ee;have Ni:(F.map eP).length=F.length:=bD _;unfold cR lr;rw[bq (h:=by rfl)];rw[ay (env':=[some (.f,eN nY F),some (.f,.tup (nY.map D.str)),some (.f,.lst (F.map eP)),none,none]) (by
  unfold eN;generalize F.map eP=LL at Se SW ⊢;simp only[pv,seval,op,SW,K9,hne2,Se,V9,eD])]
 rw[ay (env':=[some (.f,eN nY F),some (.f,.tup (nY.map D.str)),some (.f,.lst (F.map eP)),none,none]) (by
  unfold eN;generalize F.map eP=LL at Ni ⊢;simp only[pv,seval,op,Ni,Ux,eD])]
 rw[ay (env':=env') (by
  unfold jh;rw[ME];generalize d4 (ky 2 (aT (aH 3) (aT (aH 4) dZ))) dw=FL at ef ⊢;rw[<-hz]at ef;unfold eN at ef ⊢;generalize F.map eP=LL at ef ⊢;simp only[pv,seval,op];exact ef)]
 unfold ij;simp only[pv,seval,op]
def Mm(E:Nat->Nat)(a:Jw):Jw:=(((E a.1.toNat:Nat):Int),a.2.1,((E a.2.2.toNat:Nat):Int))
section
variable{nY:LNN}{ap:List Jw}{n:Nat}{E I:Nat->Nat}
theorem Fw{r:Ra nY ap n}(p:Pm n E I):An n E ap (aV bh (ap.map (Mm E))):=by
 refine⟨r.bd,fun a ha=>?_,fun i j mv hi hj=>?_⟩
 .obtain⟨b,hb,e⟩:=nU ((dM bh).mp ha);subst e;have bd:=r.bd b hb;have h1:=(p.e b.1.toNat (by lia)).1;have h2:=(p.e b.2.2.toNat (by lia)).1;unfold Mm;dsimp only;lia
 .rw[dM];constructor
  .intro h;exact VX.mpr ⟨_,h,rfl⟩
  .intro h;obtain⟨⟨x,m,y⟩,hb,e⟩:=nU h;have bd:=r.bd _ hb;dsimp only at bd;obtain⟨x,rfl⟩:=Vl bd.1.1;obtain⟨y,rfl⟩:=Vl bd.2.1;unfold Mm at e;dsimp only at e;rw[VG,VG]at e;injection e with e1 e2;injection e2 with e2 e3;have e1:E x=E i:=by lia
   have e3:E y=E j:=by lia
   have hx:x=i:=by
    rw[<-(p.e x (by lia)).2,<-(p.e i hi).2,e1]
   have hy:y=j:=by
    rw[<-(p.e y (by lia)).2,<-(p.e j hj).2,e3]
   subst hx hy e2;exact hb
theorem Hn(r:Ra nY ap n)(p:Pm n E I):Ra nY (aV bh (ap.map (Mm E))) n:=by
 refine r.perm p (Fw (r:=r) p) (by rw[jj,bD];exact r.len) fun a ha=>?_
 obtain⟨b,hb,e⟩:=nU ((dM bh).mp ha);subst e;exact r.nm b hb
theorem xt(r:Ra nY ap n):c7 (ky 3 (aT (aH 0) (aT (aH 1) (aT (aH 2) dZ)))) eF (fH (aA (aB Ji (aw 3) (aw 0)) (aA (aR 1) (aA (aB Ji (aw 3) (aw 2)) br)))) (ap.map eA) [none,none,none,some (.f,.lst ((List.range n).map fun(t:Nat)=>D.int ((E t:Nat):Int)))]=.ok ((ap.map (Mm E)).map eA):=by
 rw[bY (r:=fun a:Jw=>eA (Mm E a)) (fun env=>∃t u v,env=[t,u,v,some (.f,.lst ((List.range n).map fun(t:Nat)=>D.int ((E t:Nat):Int)))]) ap ?_ _ ⟨none,none,none,rfl⟩]
 .rw[Vj];rfl
 .rintro a ha env ⟨t,u,v,rfl⟩;have bd:=r.bd a ha;obtain⟨x,hx⟩:=Vl bd.1.1;obtain⟨y,hy⟩:=Vl bd.2.1;have at_:∀x:Nat,x<n->Kd ((List.range n).map fun(t:Nat)=>D.int ((E t:Nat):Int)) (x:Int)=some (.int ((E x:Nat):Int)):=fun x h=>gc (by rw[List.getElem?_map,List.getElem?_range h];rfl)
  have a1:=at_ x (by lia);have a2:=at_ y (by lia);obtain⟨b,m,c⟩:=a;dsimp only at hx hy;subst hx hy;have et:Mm E ((x:Int),m,(y:Int))=(((E x:Nat):Int),m,((E y:Nat):Int)):=rfl;rw[et];generalize (List.range n).map (fun(t:Nat)=>D.int ((E t:Nat):Int))=LL at a1 a2 ⊢;refine⟨[some (.f,.int (x:Int)),some (.f,.str m),some (.f,.int (y:Int)),some (.f,.lst LL)],by unfold eA;simp only[pv,seval],.f,[some (.f,.int (x:Int)),some (.f,.str m),some (.f,.int (y:Int)),some (.f,.lst LL)],?_,_,_,_,rfl⟩;unfold eA;simp only[pv,seval,op,a1,a2]
end
def plain_N(nY:LNN)(ps:List Pl):plainDs 38 [.tup (nY.map D.str),.lst (ps.map eP)]=true:=by
 rw[plainDs,plainDs,plainDs,WD,Va];exact⟨by rw[plainD,fE],sY 35 ps⟩
def CI(nY:LNN)(ap:List Jw):plainDs 38 [.tup (nY.map D.str),.lst (ap.map eA)]=true:=by
 rw[plainDs,plainDs,plainDs,WD,Va];exact⟨by rw[plainD,fE],nO 35 ap⟩
def za(nY:LNN)(ap:List Jw)(ps:List Pl):plainD 40 (.lst [JD nY ap,eN nY ps])=true:=by
 show plainDs 39 [JD nY ap,eN nY ps]=true;rw[plainDs,plainDs,plainDs,WD,Va];exact⟨CI nY ap,plain_N nY ps⟩
def xu(ns:List Int)(h63:ns.length<=63):∃o,BO [.lst (ns.map D.int)]=.ok (o,.bl true):=by
 obtain⟨nY,SX,r0,n0,h9,en⟩:=He ns 5;have en:dn [.lst (ns.map D.int),.int 5]=.ok (.f,eN nY SX):=en;obtain⟨ps,r,n,em⟩:=Fq ns n0 h9;have hp9:=n.p9;have n3:=n.n3;have er:=wR nY n.n3 ps (by lia) n.po;rw[n.e]at er;have er:bB [eN nY ps,.int 8]=.ok (.f,.tup [.lst ((aV bh r.2).map eA),.lst (r.1.map eM)]):=er;have ra:=(w9 n3 n.e).sort;have UQ:=ra.mm;have QA:=j7 ns 1;have O2:=lG (cell ns 1) 5 (by decide) (by decide);obtain⟨E,I,pm,ee⟩:=Fi r.1.length UQ.1 UQ.2 (uz (cell ns 1) 5);have UR:=Hn ra pm;have hok:okb nY (aV bh ((aV bh r.2).map (Mm E)))=okb nY (aV bh r.2):=funext fun P=>yZ ra UR pm (Fw (r:=ra) pm)
 have ok:=yY n3 n.e;rw[<-hok]at ok;have N8:=xo UR ps (by lia) n.po ok;rw[hok]at N8;obtain⟨od,hod,QB⟩:=Hm n3 n.e (by lia) n.po;have Sg:=xt (E:=E) ra;have Rl:∀(g:List Pl->Bool) (k:Nat) (P:List Pl),∀q∈gM g k P,q∈P:=fun g k=>by
  induction k with
  |zero=>exact fun P q hq=>hq
  |succ k ih=>
   intro P q hq;unfold gM at hq;split at hq
   .exact VS (ih _ q hq)
   .exact ih _ q hq
 have Sh:=Fv nY n3 (gM (okb nY (aV bh r.2)) ps.length ps) fun p hp=>n.po p (Rl _ _ _ p hp)
 have hlen:((((aV bh r.2).map (Mm E)).map eA)).length<=sizeLine:=bG (by
  have:=ra.len;rw[bD,bD];lia)
 have SY:=B4 ((aV bh r.2).map (Mm E));have Q1:=wM ((aV bh r.2).map (Mm E)) (by
  have:=ra.len;rw[bD];lia)
 have US:flatDs ((List.range r.1.length).map fun(t:Nat)=>D.int ((E t:Nat):Int))=true:=jk fun _=>rfl
 have QY:=wZ (gM (okb nY (aV bh r.2)) ps.length ps);have hnm:flatDs (nY.map D.str)=true:=PV.flat_strs nY;have QZ:∀(x y:List D),flatDs [.lst x,.lst y]=false:=fun _ _=>rfl
 have hft2:∀(x:D) (y:List D),flatDs [x,.lst y]=false:=fun x y=>by
  rw[flatDs,flatDs,flatD,XA,X7]
 have UT:=za nY (aV bh ((aV bh r.2).map (Mm E))) ps;have K9:=gI _ UT;have heq:=wI _ UT;have Sb:(r.1.map eM).length=r.1.length:=bD _;have hnn:flatD (.tup (nY.map D.str))=true:=by
  rw[cN];exact hnm
 have QA:aI [.lst (ns.map D.int),.int 1]=.ok (.f,.int (cell ns 1)):=QA;generalize gM (okb nY (aV bh r.2)) ps.length ps=F at N8 QB Sh QY;have UU:(F.map eP).all (aO .f)=true:=by rw[kz];exact QY
 rw[show eN nY F=.tup [.tup (nY.map D.str),.lst (F.map eP)] from rfl]at N8 Sh;rw[show eN nY ps=.tup [.tup (nY.map D.str),.lst (ps.map eP)] from rfl]at em er N8 QB K9 heq;rw[show eN nY SX=.tup [.tup (nY.map D.str),.lst (SX.map eP)] from rfl]at en em;rw[show JD nY (aV bh ((aV bh r.2).map (Mm E)))=.tup [.tup (nY.map D.str),.lst ((aV bh ((aV bh r.2).map (Mm E))).map eA)] from rfl]at N8 K9 heq;refine⟨.f,?_⟩;unfold BO Ek;rw[bq (h:=by rfl)];generalize F.map eP=FF at N8 QB Sh QY UU;generalize ps.map eP=PP at em er N8 QB K9 heq;generalize SX.map eP=P0 at en em;generalize (aV bh ((aV bh r.2).map (Mm E))).map eA=A2 at Q1 N8 K9 heq;generalize ((aV bh r.2).map (Mm E)).map eA=A1 at Sg hlen SY Q1;generalize (aV bh r.2).map eA=AA at er QB Sg;generalize (List.range r.1.length).map (fun(t:Nat)=>D.int ((E t:Nat):Int))=EE at ee Sg US;generalize uz (cell ns 1) 5=mx at O2 ee;generalize cell ns 1=c1 at QA O2;generalize hMM:r.1.map eM=MM at er Sb;generalize hRL:r.1.length=rl at ee Sb;generalize D.tup (nY.map D.str)=NN at *;rw[ay (env':=[some (.f,.lst (ns.map D.int)),some (.f,D.tup [NN,.lst PP]),none,none,none,none,none,none,none]) (by
  simp only[pv,seval,op,en,em,hft2,B2,ED,eD])]
 rw[ay (env':=[some (.f,.lst (ns.map D.int)),some (.f,D.tup [NN,.lst PP]),some (.f,.lst AA),some (.f,.lst MM),none,none,none,none,none]) (by
  simp only[pv,seval,op,er,QZ,B2,ED,eD])]
 rw[ay (env':=[some (.f,.lst (ns.map D.int)),some (.f,D.tup [NN,.lst PP]),some (.f,.lst AA),some (.f,.lst MM),some (.l .f,.lst EE),none,none,none,none]) (by
  simp only[pv,seval,op,Sb,QA,O2,ee,US])]
 rw[ay (env':=[some (.f,.lst (ns.map D.int)),some (.f,D.tup [NN,.lst PP]),some (.f,.lst AA),some (.f,.lst MM),some (.l .f,.lst EE),some (.f,D.tup [NN,.lst A2]),none,none,none]) (by
  generalize (fH (aA (aB Ji (aw 3) (aw 0)) (aA (aR 1) (aA (aB Ji (aw 3) (aw 2)) br))))=GG at Sg ⊢;simp only[pv,seval,op,Sg,hlen,SY,Q1])]
 obtain⟨oe,e6⟩:∃oe,bX 6 (dA dt (ag (aw 1) (ag (aw 2) aG))) [some (.f,.lst (ns.map D.int)),some (.f,D.tup [NN,.lst PP]),some (.f,.lst AA),some (.f,.lst MM),some (.l .f,.lst EE),some (.f,D.tup [NN,.lst A2]),none,none,none]=.ok (.nx [some (.f,.lst (ns.map D.int)),some (.f,D.tup [NN,.lst PP]),some (.f,.lst AA),some (.f,.lst MM),some (oe,.lst EE),some (.f,D.tup [NN,.lst A2]),some (od,.lst FF),none,none]):=by
  have Ni:∀x:List D,flatD (.lst x)=false:=fun _=>rfl
  rcases hod with h|h
  .subst h;exact⟨.f,by simp only[pv,seval,op,QB,Ni,B2,ED,eD]⟩
  .subst h;exact⟨.l .f,by simp only[pv,seval,op,QB,QY]⟩
 rw[ay e6];rw[ay (env':=[some (.f,.lst (ns.map D.int)),some (.f,D.tup [NN,.lst PP]),some (.f,.lst AA),some (.f,.lst MM),some (oe,.lst EE),some (.f,D.tup [NN,.lst A2]),some (od,.lst FF),some (.l .f,.lst [D.tup [NN,.lst A2],D.tup [NN,.lst PP]]),none]) (by
  simp only[pv,seval,op])]
 have UW:aO (.t [.f,.l .f]) (.tup [NN,.lst FF])=true:=by
  rw[aO,jN,jN,jN,aO,aO,hnn,UU];rfl
 rw[ay (env':=[some (.f,.lst (ns.map D.int)),some (.f,D.tup [NN,.lst PP]),some (.f,.lst AA),some (.f,.lst MM),some (oe,.lst EE),some (.f,D.tup [NN,.lst A2]),some (od,.lst FF),some (.l .f,.lst [D.tup [NN,.lst A2],D.tup [NN,.lst PP]]),some (.t [.f,.l .f],.tup [NN,.lst FF])]) (by
  simp only[pv,seval,op,N8,UW])]
 rw[ay (env':=[some (.f,.lst (ns.map D.int)),some (.f,D.tup [NN,.lst PP]),some (.f,.lst AA),some (.f,.lst MM),some (oe,.lst EE),some (.f,D.tup [NN,.lst A2]),some (od,.lst FF),some (.l .f,.lst [D.tup [NN,.lst A2],D.tup [NN,.lst PP]]),some (.t [.f,.l .f],.tup [NN,.lst FF])]) (by
  simp only[pv,seval,op,Sh,K9,V9,eD])]
 rw[ay (env':=[some (.f,.lst (ns.map D.int)),some (.f,D.tup [NN,.lst PP]),some (.f,.lst AA),some (.f,.lst MM),some (oe,.lst EE),some (.f,D.tup [NN,.lst A2]),some (od,.lst FF),some (.l .f,.lst [D.tup [NN,.lst A2],D.tup [NN,.lst PP]]),some (.t [.f,.l .f],.tup [NN,.lst []])]) (by
  simp only[pv,seval,op,yB])]
 simp only[pv,seval,op,heq,N8,UW,Sh]
end LW
namespace FIN
open PySem PySem.Spec PyProof.Rows L2 NX PV LW
def Fx{l:PySem.W.OpenLaw}{w:World}{K:W.Frag}{h:YB}{mg:Str->Option Yu}{fa f:Yx}{od an:Option Yx}{sl:Array (Option Yu)}{oc kV dc pm cd ct:Yu}(X:K.In h)(G:h.Ns mainGlobals mg)(SY:mg "law" = some (.ref fa))
  (aL:PySem.W.nsIn K mainGlobals "law" = some (some (.ref f))) (lL:K.lookup f=some ⟨oc,od,.func (PySem.W.fnOf "law" "law" (eU nE) (cO nE) (defScope nE) .none kV dc pm an cd ct),sl⟩) (cL:PySem.W.codeIn K cd "law" = true) (kL:PySem.W.keepIn K (.ref f)=true)
  (K4:Def K mg "states_of" iJ) (LI:Def K mg "goes_to" lu) (Kb:Def K mg "first_marking" eh) (Md:Def K mg "can_go" ni) (MU:Def K mg "moved" qu) (NV:Def K mg "give" wx) (LJ:Def K mg "look_at" lx) (NW:Def K mg "held" wz) (LK:Def K mg "has_run" lz) (LM:Def K mg "thinned" lA) (Kj:Def K mg "_law_cell_at" eZ) (KN:Def K mg "_law_mixed" gB) (KO:Def K mg "_law_names" gC) (K5:Def K mg "_law_step" iK) (Lo:Def K mg "_law_run" jE) (K6:Def K mg "_law_fold" iL) (KP:Def K mg "_law_place" gD) (Kv:Def K mg "_law_scaled" fR) (Kw:Def K mg "_law_places" fS) (KQ:Def K mg "_law_moves" gE) (Lp:Def K mg "_law_net" jF) (Lq:Def K mg "_law_sum" jG) (JZ:Def K mg "_law_more_places" dh) (K7:Def K mg "_law_ends" iO) (KR:Def K mg "_law_whole" gF) (Kc:Def K mg "_law_is_place" eB) (Lr:Def K mg "_law_due" jH) (K8:Def K mg "_law_told" iP)
  (MP:PySem.W.nsIn K mainGlobals "all" = some none) (LS:PySem.W.nsIn K mainGlobals "bool" = some none) (MQ:PySem.W.nsIn K mainGlobals "int" = some none) (Jn:PySem.W.nsIn K mainGlobals "isinstance" = some none) (Jv:PySem.W.nsIn K mainGlobals "len" = some none) (JG:PySem.W.nsIn K mainGlobals "list" = some none) (K2:PySem.W.nsIn K mainGlobals "max" = some none) (Jq:PySem.W.nsIn K mainGlobals "range" = some none) (J8:PySem.W.nsIn K mainGlobals "reversed" = some none) (JS:PySem.W.nsIn K mainGlobals "sorted" = some none) (Jh:PySem.W.nsIn K mainGlobals "tuple" = some none) (Kt:PySem.W.nsIn K mainGlobals "zip" = some none):
  ∃fd:FuncData,(∀(s:Yw) (v:Yu),BindsTo s fd ⟨[v],[]⟩ [("_law_script",v)])/\∀base:YB,K.In base->base.Ns mainGlobals mg->FnOk l.prog w K mg base M3 7 fa fd ["_law_script"] (yi K):=by
 have e:=SY.symm.trans (PySem.W.mg_of X G aL);cases e;have F:=zi (st:=nE) lL cL kL;have Si:=VJ X G MP;have y_bool:=VJ X G LS;have Sj:=VJ X G MQ;have J9:=VJ X G Jn;have Kk:=VJ X G Jv;have K1:=VJ X G JG;have Pn:=VJ X G K2;have JV:=VJ X G Jq;have MF:=VJ X G J8;have Ls:=VJ X G JS;have JI:=VJ X G Jh;have MV:=VJ X G Kt;refine⟨PySem.W.fnOf "law" "law" (eU nE) (cO nE) (defScope nE) .none kV dc pm an cd ct,fun s v=>.of_eq rfl,fun base KB GB=>?_⟩;have Me:Ct l.prog w K mg base "states_of" 1 (spF K cC):=pk K4 Pn;have Nk:Ct l.prog w K mg base "goes_to" 1 (spF K fA):=ud LI;have Lf:Ct l.prog w K mg base "first_marking" 1 (spF K b5):=km Kb JI;have NY:Ct l.prog w K mg base "can_go" 1 (spF K gX):=wu Md Si MV;have O8:Ct l.prog w K mg base "moved" 2 (spF K jD):=yu MU NY JI MV;have xb:Ct l.prog w K mg base "give" 1 (spM K (.d) lg):=BP NV;have Nl:Ct l.prog w K mg base "look_at" 3 (spJ 2 K (.d) dH):=ue LJ xb Nk O8 Kk;have QC:Ct l.prog w K mg base "held" 4 (spF K ml):=BQ NW Lf Nl Me Kk K1 JV;have Nm:Ct l.prog w K mg base "has_run" 5 (spF K d8):=ug LK QC;have Nn:Ct l.prog w K mg base "thinned" 6 (spF K d9):=uh LM Nm Kk K1 JV;have JJ:Ct l.prog w K mg base "_law_cell_at" 1 (spF K aI):=lC Kj Kk;have JK:Ct l.prog w K mg base "_law_mixed" 1 (spF K aW):=nj KN;have LV:Ct l.prog w K mg base "_law_names" 2 (spF K cU):=nq KO JK JV Ls;have Mf:Ct l.prog w K mg base "_law_step" 1 (spF K cQ):=px K5 JI MV;have KG:Ct l.prog w K mg base "_law_run" 2 (spF K bB):=qw Lo Mf Kk Ls JI;have Mg:Ct l.prog w K mg base "_law_fold" 2 (spF K dm):=pA K6 JK;have LX:Ct l.prog w K mg base "_law_place" 2 (spF K cV):=nr KP JK Pn JV;have LA:Ct l.prog w K mg base "_law_scaled" 1 (spF K b9):=lR Kv JI;have LB:Ct l.prog w K mg base "_law_places" 3 (spF K cJ):=lS Kw JJ Mg LX LA JV;have LY:Ct l.prog w K mg base "_law_moves" 3 (spF K cW):=nu KQ JJ LV JI;have MG:Ct l.prog w K mg base "_law_net" 4 (spF K dn):=qx Lp LY LB KG Kk JI;have MH:Ct l.prog w K mg base "_law_sum" 1 (spF K dq):=qy Lq Kk JV JI;have KH:Ct l.prog w K mg base "_law_more_places" 2 (spF K bC):=iN JZ JJ JK MH Kk K1 JV JI;have Mh:Ct l.prog w K mg base "_law_ends" 1 (spF K dr):=pB K7 JV;have LZ:Ct l.prog w K mg base "_law_whole" 1 (spF K m__law_whole):=ny KR y_bool Sj J9;have Lg:Ct l.prog w K mg base "_law_is_place" 2 (spF K b6):=kn Kc LZ J9 JI;have MI:Ct l.prog w K mg base "_law_due" 3 (spF K dt):=qz Lr KG Kk K1 JV MF;have Mi:Ct l.prog w K mg base "_law_told" 3 (spF K cR):=pC K8 Lg J9 Kk K1 JI MV;exact(Em F JJ MI Mh JK KH MG KG Mi Nn Kk K1 Ls).imp (DZ xu)
end FIN
def PySem.W.Fast.tw11764003987642285031:=0
def PySem.W.Fast.tw9643924236450375476:=0
def PySem.W.Fast.tw12480399926053029128:=0
def PySem.W.Fast.tw9356161165463032130:=0
def PySem.W.Fast.tw173217047580703379:=0
def PySem.W.Fast.tw11102851944819128864:=0
def PySem.W.Fast.tw5915744419625841258:=0
def PySem.W.Fast.tw5124783792426784013:=0
def PySem.W.Fast.tw12738006281448588180:=0
def PySem.W.Fast.tw13638702285363211005:=0
def PySem.W.Fast.tw16436715398263712859:=0
def PySem.W.Fast.tw15597699374547964447:=0
def PySem.W.Fast.tw11542234731907927369:=0
def PySem.W.Fast.tw15448531179696236555:=0
def PySem.W.Fast.tw6955368454278284755:=0
def PySem.W.Fast.tw3033218687406875497:=0
def PySem.W.Fast.tw16912217974098697733:=0
def PySem.W.Fast.tw12635034490295353382:=0
def PySem.W.Fast.tw9160078910763735205:=0
def PySem.W.Fast.tw14644762772022034843:=0
def PySem.W.Fast.tw18191492373828280362:=0
def PySem.W.Fast.tw5292014787885357386:=0
def PySem.W.Fast.tw15339713476700137166:=0
def PySem.W.Fast.tw18162950268528579082:=0
def PySem.W.Fast.tw7753886760382659639:=0
def PySem.W.Fast.tw9075192852026815477:=0
def PySem.W.Fast.tw12961061185509878154:=0
def PySem.W.Fast.tw3369945178461245521:=0
def PySem.W.Fast.tw17872527532433067556:=0
def PySem.W.Fast.tw7895426934868437489:=0
def PySem.W.Fast.tw10802957699706880944:=0
def PySem.W.Fast.tw5181058931267580023:=0
open PySem PySem.W PyProof.Rows
set_option maxRecDepth 100000 in
set_option maxHeartbeats 0 in
theorem PySem.Challenge.cw_netfinder_k75_places_left_out_holds : PySem.Challenge.rw_netfinder_k75_places_left_out.Holds := by
  w_on; o_law; k_head; (case hw => w_witness2)
  k_fill
  refine PV.walk (l := PySem.Challenge.rw_netfinder_k75_places_left_out) (k := 7) (x := "_law_script") rfl rfl ⟨rfl, by decide, by decide⟩ (fun w h Y => PySem.W.kIn_of Y) ?F
  case F =>
    intro w mg fa h KX G Rf
    refine' FIN.Fx KX G Rf ?aL ?lL ?cL ?kL ?K4 ?LI ?Kb ?Md ?MU ?NV ?LJ ?NW ?LK ?LM ?Kj ?KN ?KO ?K5 ?Lo ?K6 ?KP ?Kv ?Kw ?KQ ?Lp ?Lq ?JZ ?K7 ?KR ?Kc ?Lr ?K8 ?MP ?LS ?MQ ?Jn ?Jv ?JG ?K2 ?Jq ?J8 ?JS ?Jh ?Kt
    (case aL => k_is); (case lL => k_is); (case cL => k_is); (case kL => k_is)
    iterate 28 (refine' PV.D3 KX G ?a ?l ?c ?k; (case a => k_is); (case l => k_is); (case c => k_is); (case k => k_is))
    iterate 12 k_is
