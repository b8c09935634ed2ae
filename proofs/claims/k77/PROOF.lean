import PyProof.Rows.All
import Wide.All
import OpenK.AllK
import Wide.FinOn
import Lean
import PyProof.EqAt
import PyProof.EqKinds
import PyProof.TupleCall
import PySem.Challenge.RW_netfinder_k77_nets_not_thinned
set_option hygiene false
local macro_rules
|`(tactic|simp?)=>`(tactic|simp only[KZ,bBad,Rh,Nw,Pj,Ri,Rj,Pk,Ox,Pm,Oy,Rk,Rl,Pn,Po,Pp,Pq,Oz,OA,Pr,Pt,Pu,Ro,Pw,Tx,Rp,Tz,Rq,Rr,Px,Rt,Ru,Rv,RD,RE,Py,Pz,Rw,PD,PF,Rx,PH,Nd,Nf,Ng,Ry,PJ,MD,NL,LR,PL,LA,Nh,K8,PM,OB,PN,Rz,TB,RB,PQ,RC,List.getElem?_cons_zero,List.getElem?_cons_succ,List.set_cons_zero,List.set_cons_succ,List.length_cons,List.length_nil,List.map_cons,List.map_nil,List.replicate_succ,List.replicate_zero,List.cons_append,List.nil_append,Nat.zero_add,RF,NM,PR,PU,PY,PZ,OC,Tt,Tu,Tw,Ph,Ov,seval,Iy,Iz,IA,FU,IB,IC,ID,FY,FZ,Cp,yy,IE,F0,IF,F2,F1,Uv,R8,Cq,zY,pE,yz,jk,pF,KC,qT,PV.flat_strs,bO,F7,Cw,Cu,F4,Cv,F5,F6])
|`(tactic|simp?[$x,*])=>`(tactic|simp only[KZ,bBad,Rh,Nw,Pj,Ri,Rj,Pk,Ox,Pm,Oy,Rk,Rl,Pn,Po,Pp,Pq,Oz,OA,Pr,Pt,Pu,Ro,Pw,Tx,Rp,Tz,Rq,Rr,Px,Rt,Ru,Rv,RD,RE,Py,Pz,Rw,PD,PF,Rx,PH,Nd,Nf,Ng,Ry,PJ,MD,NL,LR,PL,LA,Nh,K8,PM,OB,PN,Rz,TB,RB,PQ,RC,List.getElem?_cons_zero,List.getElem?_cons_succ,List.set_cons_zero,List.set_cons_succ,List.length_cons,List.length_nil,List.map_cons,List.map_nil,List.replicate_succ,List.replicate_zero,List.cons_append,List.nil_append,Nat.zero_add,RF,NM,PR,PU,PY,PZ,OC,Tt,Tu,Tw,Ph,Ov,seval,Iy,Iz,IA,FU,IB,IC,ID,FY,FZ,Cp,yy,IE,F0,IF,F2,F1,Uv,R8,Cq,zY,pE,yz,jk,pF,KC,qT,PV.flat_strs,bO,F7,Cw,Cu,F4,Cv,F5,F6,$x,*])
|`(tactic|simp?[$x,*]$l:location)=>`(tactic|simp only[KZ,bBad,Rh,Nw,Pj,Ri,Rj,Pk,Ox,Pm,Oy,Rk,Rl,Pn,Po,Pp,Pq,Oz,OA,Pr,Pt,Pu,Ro,Pw,Tx,Rp,Tz,Rq,Rr,Px,Rt,Ru,Rv,RD,RE,Py,Pz,Rw,PD,PF,Rx,PH,Nd,Nf,Ng,Ry,PJ,MD,NL,LR,PL,LA,Nh,K8,PM,OB,PN,Rz,TB,RB,PQ,RC,List.getElem?_cons_zero,List.getElem?_cons_succ,List.set_cons_zero,List.set_cons_succ,List.length_cons,List.length_nil,List.map_cons,List.map_nil,List.replicate_succ,List.replicate_zero,List.cons_append,List.nil_append,Nat.zero_add,RF,NM,PR,PU,PY,PZ,OC,Tt,Tu,Tw,Ph,Ov,seval,Iy,Iz,IA,FU,IB,IC,ID,FY,FZ,Cp,yy,IE,F0,IF,F2,F1,Uv,R8,Cq,zY,pE,yz,jk,pF,KC,qT,PV.flat_strs,bO,F7,Cw,Cu,F4,Cv,F5,F6,$x,*]$l:location)
local macro_rules
|`(tactic|simp![$x,*])=>`(tactic|simp only[$x,*])
|`(tactic|simp![$x,*]$l:location)=>`(tactic|simp only[$x,*]$l:location)
set_option Elab.async false
set_option linter.all false
set_option maxRecDepth 100000
set_option compiler.extract_closed false
set_option bootstrap.genMatcherCode false
noncomputable section
abbrev Wp:=PySem.Value
abbrev WF:=PySem.Shared
abbrev WP:=PySem.Addr
abbrev W1:=PySem.Program
abbrev Uf:=PySem.Around
abbrev UF:=PySem.Heap
def ZB(x:a)(y:b):a∧b:=⟨x,y⟩
def WI:=@PySem.wpAny_bind
def WJ:=@List.mem_cons_self
def WK:=@List.mem_cons_of_mem
def WL:=@PySem.Heap.get?_push_of_some
def WM:=@List.getElem?_eq_getElem
def WN:=@List.length_map
def WO:=@PySem.wpAny_pure
def WQ:=@List.mem_append_right
def WR:=@List.mem_append_left
def WS:=@List.getElem?_eq_some_iff
def WT:=@Bool.false_ne_true
def WU:=@Nat.le_refl
def WV:=@if_pos
def WW:=@Bool.and_eq_true
def WX:=@List.length_cons
def WY:=@List.mem_cons
def WZ:=@List.size_toArray
def W0:=@Array.length_toList
def W2:=@List.getElem?_map
def W3:=@decide_eq_true_eq
def W4:=@PySem.Heap.lt_size
def W5:=@List.mem_singleton
def W6:=@if_neg
def W7:=@PySem.Heap.get?_push_size
def W8:=@List.getD_eq_getElem?_getD
def W9:=@Nat.lt_of_lt_of_le
def Xa:=@List.map_cons
def Xb:=@List.length_singleton
def Xc:=@decide_eq_true
def Xd:=@List.map_append
def Xe:=@List.append_nil
def Xf:=@List.nodup_cons
def Xg:=@Int.eq_ofNat_of_zero_le
def Xh:=@Nat.ne_of_lt
def Xi:=@Option.map_eq_some_iff
def Xj:=@Option.some.inj
def Xk:=@List.length_range
def Xl:=@List.nodup_append
def Xm:=@List.mem_of_getElem?
def Xn:=@decide_eq_false
def Xo:=@Bool.eq_iff_iff
def Xp:=@List.mem_range
def Xq:=@List.map_map
def Xr:=@List.all_eq_true
def Xs:=@List.length_append
def Xt:=@Bool.false_eq_true
def Xu:=@List.getElem?_append_left
def Xv:=@List.mem_append
def Xw:=@Nat.zero_le
def Xx:=@beq_iff_eq
def Xy:=@Array.getD_eq_getD_getElem?
def Xz:=@Nat.le_trans
def XA:=@List.length_take
def XB:=@List.length_set
def XC:=@PySem.Heap.get?_update_other
def XD:=@List.map_nil
def XE:=@Array.getElem?_eq_getElem
def XF:=@List.getElem?_set_self
def XG:=@Option.isSome_iff_exists
def XH:=@List.getElem?_append_right
def XI:=@List.append_assoc
def XJ:=@Option.bind_eq_some_iff
def XM:=@List.any_eq_true
def XN:=@List.nodup_nil
def XO:=@PySem.wpAny_mono
def XQ:=@beq_eq_false_iff_ne
def XR:=@PySem.sizeLine_eq
def XT:=@List.eq_nil_of_length_eq_zero
def XU:=@List.not_mem_nil
def XW:=@Array.getElem_toList
def XX:=@List.find?_cons_of_pos
def XY:=@List.find?_cons_of_neg
def XZ:=@List.filterMap_cons_some
def X0:=@List.mem_filter
def X1:=@PyProof.Rows.callWith_type1
def X2:=@List.length_nil
def X3:=@List.mem_iff_getElem?
def X4:=@beq_self_eq_true
def X5:=@List.lookup_cons
def X6:=@List.getElem_mem
def X7:=@PySem.wpAny_seqItems
def X8:=@Bool.not_false
def X9:=@PySem.wpAny_callSpecial?_slot
def Ya:=@decide_eq_false_iff_not
def Yb:=@Bool.not_true
def Yc:=@List.getElem?_set_ne
def Yd:=@PySem.wpAny_Call_Name_kw
def Ye:=@List.find?_eq_none
def Yf:=@Bool.and_self
def Yg:=@List.map_congr_left
def Yh:=@List.getElem_of_mem
def Yi:=@List.filterMap_cons_none
def Yj:=@Ne.symm
def Yk:=@PySem.wpAny_field
def Yl:=@PySem.wpAny_holding
def Ym:=@PySem.W.mg_of
def Yn:=@List.idxOf_lt_length_of_mem
def Yo:=@List.length_drop
def Yp:=@congrArg
def Yq:=@Array.getElem?_eq_some_iff
def Yr:=@List.filterMap_cons
def Ys:=@PyProof.Rows.slot_tuple_getitem
def Yt:=@PySem.wpAny_newObj_type
def Yu:=@of_decide_eq_true
def Yv:=@Nat.lt_irrefl
def Yw:=@PySem.Heap.size_push
def Yx:=@List.mem_of_find?_eq_some
def Yy:=@Classical.byContradiction
def Yz:=@PySem.Heap.get?_update_self
def YA:=@PySem.codeAny_builtin
def YB:=@List.all_map
def YC:=@List.any_map
def YD:=@List.getElem?_eq_none
def YE:=@decide_false
def YF:=@List.mem_filterMap
def YG:=@if_false
def YH:=@PySem.wpAny_call_entry
def YI:=@List.cons_append
def YJ:=@List.mem_map
def YK:=@PyProof.Rows.F.plain_set_update_loop
def YL:=@PySem.wpAny_truthy_bool
def YM:=@PySem.wpAny_pyIter_list
def YN:=@Int.toNat_natCast
def YO:=@Bool.eq_false_iff
def YQ:=@PySem.mem_of_lookup
def YR:=@PyProof.Rows.KeyOrd.kle_refl
def YS:=@PySem.Calls.callWith_builtin
def YT:=@List.take_of_length_le
def YU:=@PySem.F.slot_tuple_iterator_next
def YV:=@PySem.wpAny_execs_cons
def YW:=@Option.getD_none
def YX:=@PySem.F.plain_max_loop
def YY:=@PySem.wpAny_pyIter_tuple
def YZ:=@PySem.wpAny_typeOf
def Y0:=@PySem.wpAny_setField_rec
def Y1:=@List.pairwise_cons
def Y2:=@List.zip_cons_cons
def Y3:=@List.set_set
def Y4:=@List.pairwise_iff_getElem
def Y5:=@decide_true
def Y6:=@PySem.Calls.evalArgs_plain
def Y7:=@PySem.Around.under_plainId
def Y8:=@List.mem_iff_getElem
def Y9:=@PySem.wpAny_passesOwn
def Za:=@List.of_mem_zip
def Zb:=@if_true
def Zc:=@List.pairwise_map
def Zd:=@Nat.lt_succ_self
def Ze:=@List.length_pos_of_mem
def Zf:=@Int.cast_ofNat_Int
def Zg:=@Nat.le_succ
def Zh:=@List.find?_cons
def Zi:=@Nat.zero_add
def Zj:=@List.nil_append
def Zk:=@Array.getElem?_toList
def Zl:=@List.length_zip
def Zm:=@List.take_add_one
def Zn:=@PySem.wpAny_setState_of
def Zo:=@List.all_cons
def Zp:=@List.nodup_iff_pairwise_ne
def Zq:=@PySem.F.excBase_ValueError
def Zt:=@PySem.codeAny_call_builtin
def Zu:=@Array.mem_toList_iff
def Zv:=@List.mem_of_mem_take
def Zw:=@List.getElem?_eq_none_iff
def Zx:=@Bool.false_and
def Zy:=@List.getElem?_zip_eq_some
def Zz:=@PySem.Calls.call_function_entry
def ZA:=@Bool.and_false
def ZC:=@PyProof.Rows.F.entry_set_update_loop
def ZD:=@List.drop_eq_getElem_cons
def ZE:=@Option.getD_some
def ZF:=@List.take_length
def ZG:=@PySem.wpAny_letGo
def ZH:=@PySem.Heap.SameBut.update
def ZI:=@PySem.F.args_tuple_add_2
def ZJ:=@List.length_erase_of_mem
def ZK:=@PySem.wpAny_execs_nil
def ZL:=@PySem.Calls.spliced_cons
def ZM:=@PySem.F.entry_tuple_add
def ZN:=@List.foldl_cons
def ZO:=@Bool.or_eq_true
def ZP:=@PySem.tupleKind_room_in1
def ZQ:=@List.find?_some
def ZR:=@List.getElem?_cons_succ
def ZT:=@List.getElem?_cons_zero
def ZU:=@Option.isNone_some
def ZV:=@List.findIdx_lt_length_of_exists
def ZW:=@PySem.F.slot_tuple_add
def ZX:=@bne_self_eq_false
def ZY:=@PyProof.Rows.KeyOrd.kle_of_klt
def ZZ:=@List.ext_getElem?
def Z0:=@Option.some.injEq
def Z1:=@PySem.wpAny_tryCatch
def Z2:=@List.take_zero
def Z3:=@PySem.codeAny_mono
def Z4:=@List.filterMap_append
def Z5:=@PyProof.Rows.KeyOrd.kle_trans
def Z6:=@PySem.wpAny_forIn_list
def Z7:=@PySem.wpAny_updateSeq_pair
def Z8:=@PySem.W.looks_findIn
def Z9:=@List.mem_of_mem_drop
def aaa:=@List.findIdx_getElem
def aab:=@PySem.Paired.length
def aac:=@PySem.plainId_quiet
def aad:=@PySem.F.args_tuple_iterator_next_1
def aae:=@PySem.F.slot_dict_setdefault
def aaf:=@PySem.W.hideAll_get
def aag:=@List.toList_toArray
def aah:=@List.length_pos_iff
def aai:=@PySem.F.entry_tuple_iterator_next
def aaj:=@PySem.F.slot_zip_next
def aak:=@PySem.W.looks_mroIn
def aal:=@Option.map_some
def aam:=@Nat.min_eq_left
def aan:=@Int.natCast_add
def aap:=@List.perm_append_singleton
def aaq:=@of_decide_eq_false
def aar:=@PySem.Code.quiet_builtin
def aas:=@Nat.sub_self
def aat:=@List.contains_cons
def aau:=@List.getElem_range
def aav:=@List.drop_zero
def aaw:=@List.mem_or_eq_of_mem_set
def aax:=@PySem.Calls.spliced_nil
def aay:=@List.getElem?_take_of_lt
def aaz:=@List.take_sublist
def aaA:=@PySem.typeIs_str
def aaD:=@Nat.lt_succ_of_lt
def aaE:=@Option.isSome_map
def aaF:=@Nat.lt_trichotomy
def aaH:=@PySem.F.slot_tuple_index
def aaI:=@PySem.wpAny_onRaise
def aaK:=@PySem.wpAny_newList
def aaL:=@List.not_lt
def aaM:=@List.cons.inj
def aaN:=@List.filter_cons_of_neg
def aaO:=@List.filter_cons_of_pos
def aaP:=@PySem.F.plainAttrs_list
def aaQ:=@Bool.and_true
def aaR:=@PySem.F.slot_list_index
def aaS:=@List.map_take
def aaT:=@Bool.true_and
def aaU:=@PySem.noFill_tuple_add
def aaV:=@PySem.F.entry_max_loop
def aaW:=@Nat.le_add_right
def aaX:=@List.drop_length
def aaY:=@List.findIdx_map
def aa1:=@PySem.W.cellsFrom_some
def aa5:=@List.Perm.append_right
def aa6:=@List.range_succ_eq_map
def aa7:=@List.drop_eq_nil_of_le
def aa8:=@Nat.le_of_lt
def aba:=@PySem.concat_meets
def abb:=@List.range_succ
def abc:=@List.forIn_cons
def abd:=@PySem.wpAny_updateSeq
def abf:=@Array.mem_of_getElem?
def abg:=@List.take_append_drop
def abj:=@List.getElem?_toArray
def abk:=@List.Perm.append_left
def abl:=@List.perm_append_comm
def abm:=@Classical.choose_spec
def abn:=@PySem.PassesOwn.never
def abp:=@PySem.wpAny_rule
def abP:=@Bool.false_or
def abS:=@List.any_cons
def abV:=@List.sum_cons
def acd:=@Nat.ne_of_gt
def acg:=@Nat.le_of_eq
def aci:=@Bool.true_or
def acj:=@Nat.add_zero
def acn:=@Nat.lt_or_ge
def acD:=@or_false
namespace L2
open PySem PySem.Spec PyProof.Rows
def IsTupN(h:UF)(a:WP)(items:Array Wp):Prop:=∃o,h.get? a=some o/\o.cls=.type "tuple"/\(∃n,o.data=.seq items n)/\o.dict=none
variable{h:UF}{a:WP}
theorem IsTupN.tup(p:IsTupN h a items):IsTup h a items:=by
 obtain⟨o,e,c,n,_⟩:=p;exact⟨o,e,c,n⟩
theorem IsTupN.new(h:UF)(items:Array Wp):IsTupN (h.push {cls:=.type "tuple",data:=.seq items}) h.objs.size items:=⟨_,W7 _ rfl,rfl,⟨_,rfl⟩,rfl⟩
abbrev Key:=Sum Int Str
noncomputable def oO:Key->Wp->Bool
 | .inl k,v=>Value.isInt k v
 | .inr x,v=>Value.isStrOf x v
noncomputable def Jt(w:World):Key->Int
 | .inl k=>hashInt k
 | .inr x=>hashStr w x
theorem bq:∀{k:Key}{v:Wp},oO k v=true->(∃i t,k=Sum.inl i/\v=Value.int i t)\/(∃x t,k=Sum.inr x/\v=Value.str x t)
 | .inl i,v,h=>by
  obtain⟨t,e⟩:=Value.isInt_shape (k:=i) (v:=v) h;exact .inl ⟨i,t,rfl,e⟩
 | .inr x,v,h=>by
  obtain⟨t,e⟩:=Value.isStrOf_shape (x:=x) (v:=v) h;exact .inr ⟨x,t,rfl,e⟩
theorem tu(i:Int)(t:Tok):oO (.inl i) (.int i t)=true:=by simp[oO,Value.isInt]
theorem tw(x:Str)(t:Tok):oO (.inr x) (.str x t)=true:=by simp[oO,Value.isStrOf]
theorem Dw(a b:Int):decide ((Sum.inl a:Key)=Sum.inl b)=(a==b):=by
 by_cases e:a=b
 .subst e;simp
 .have h:¬ (Sum.inl a:Key)=Sum.inl b:=λq=>e (Sum.inl.inj q)
  rw[Xn h];exact(XQ.mpr e).symm
theorem Dx(a b:Str):decide ((Sum.inr a:Key)=Sum.inr b)=decide (a=b):=by
 by_cases e:a=b
 .subst e;simp
 .have h:¬ (Sum.inr a:Key)=Sum.inr b:=λq=>e (Sum.inr.inj q)
  rw[Xn h,Xn e]
theorem Dy(a:Int)(b:Str):decide ((Sum.inl a:Key)=Sum.inr b)=false:=Xn (λq=>nomatch q)
theorem Dz(a:Str)(b:Int):decide ((Sum.inr a:Key)=Sum.inl b)=false:=Xn (λq=>nomatch q)
def mixKind(prog:W1)(w:World):PySem.KeyKind prog w Key where
 is:=oO
 hash:=Jt w
 inj:=λv a b ha hb=>by
  rcases bq ha with⟨i,t,rfl,rfl⟩|⟨x,t,rfl,rfl⟩
  .rcases bq hb with⟨j,u,rfl,e⟩|⟨y,u,rfl,e⟩
   .injection e with e1 _;rw[e1]
   .exact nomatch e
  .rcases bq hb with⟨j,u,rfl,e⟩|⟨y,u,rfl,e⟩
   .exact nomatch e
   .injection e with e1 _;rw[e1]
 byValue:=λk v h=>by
  rcases bq h with⟨i,t,rfl,rfl⟩|⟨x,t,rfl,rfl⟩ <;> rfl
 pyHash:=λhv h=>by
  rcases bq hv with⟨i,t,rfl,rfl⟩|⟨x,t,rfl,rfl⟩
  .exact wpAny_pyHash_int h
  .exact wpAny_pyHash_str h
 eqBool:=λhu hv h=>by
  rcases bq hu with⟨i,t,rfl,rfl⟩|⟨x,t,rfl,rfl⟩
  .rcases bq hv with⟨j,u,rfl,rfl⟩|⟨y,u,rfl,rfl⟩
   .rw[Dw]at h;exact wpAny_eqBool_int h
   .rw[Dy]at h;exact SeqAt.EqAt.int_str i t y u _ _ _ _ h
  .rcases bq hv with⟨j,u,rfl,rfl⟩|⟨y,u,rfl,rfl⟩
   .rw[Dz]at h;exact SeqAt.EqAt.str_int x t j u _ _ _ _ h
   .rw[Dx]at h;exact wpAny_eqBool_str h
 «strs»:=λk x t v h=>by
  rcases bq h with⟨i,u,rfl,e⟩|⟨y,u,rfl,e⟩
  .exact nomatch e
  .injection e with e1 _;subst e1;cases v <;> rfl
theorem rO(prog:W1)(w:World)(k:Key)(v:Wp):(mixKind prog w).is k v=oO k v:=rfl
theorem oP(prog:W1)(w:World)(i:Int)(t:Tok):(mixKind prog w).is (.inl i) (.int i t)=true:=tu i t
theorem oQ(prog:W1)(w:World)(x:Str)(t:Tok):(mixKind prog w).is (.inr x) (.str x t)=true:=tw x t
inductive V where
 |non|bl (b:Bool)|int (i:Int)|str (x:Str)|byt (b:Array UInt8)|flt (b:UInt64)|ref (a:WP)|ty (n:String)
 deriving DecidableEq
end L2
set_option maxRecDepth 100000
set_option hygiene false
local macro_rules
|`(@a)=>`(by lia)
|`(@b)=>`(by decide)
|`(@c)=>`(model X.prog X.w)
|`(@d)=>`([fq (eN nY ps),fI 8,fL (r.1.map eM),fL (r.2.map eA),fI ((d:Nat):Int),t5,t6])
|`(@e)=>`(eN nY ps)
|`(@f)=>`(af (av (.int 1)))
|`(@g)=>`(af (av (.int 0)))
|`(@h)=>`(nY.map D.str)
|`(@i)=>`(model prog w)
|`(@j)=>`([fq CE,fq NE,some (.pin p .d,dG N),fI n.1,fq (eM n.2.1),fq (wD n.2.2),fq (.str mv),fq (eM t),fL ((s::ss).map D.int),t9,LM])
|`(@k)=>`(Ky nY ap)
|`(@l)=>`([fq A,fq B,fL [.bl false,.bl false,.bl true],none,none])
|`(@m)=>`(gC 3 (aw (ao 0) (aw (ao 1) (aw (ao 2) b8))))
|`(@n)=>`(.lst (ns.map D.int))
|`(@o)=>`(x==("__debug__" : Str))
|`(@p)=>`(aa (ae 0) (aa (ae 1) aj))
|`(@q)=>`(λq=>nc (by simp[q]))
|`(@r)=>`((backTo Kx (starEach (e::es) X.env)).all (λx=>!x.1)&&(backToKw Kx (keywordEach [] X.env)).all (λx=>x.1.isSome)&&decide ((e::es).length+([]:List Keyword).length+(if([]:List Keyword).isEmpty then 0 else 1)<30))
|`(@s)=>`(.frz o (.dK kvs))
|`(@t)=>`(by simp)
|`(@u)=>`([.int b,.lst (ts.map D.int),.lst (gs.map D.int)])
|`(@v)=>`(.lst (ap.map eA))
|`(@w)=>`(PySem.W.fnOf x x (defArgs st) (bj st) (defScope st) .none kV doc pm an KW ct)
|`(@A)=>`(af (aH eW (aa (ae 2) aj)))
namespace L2
open PySem PySem.Spec PyProof.Rows
variable{h:UF}{a:WP}
noncomputable def RelV:V->Wp->Prop
 | .non,u=>u=Value.none
 | .bl b,u=>u=Value.bool b
 | .int i,u=>∃t,u=Value.int i t
 | .str x,u=>∃t,u=Value.str x t
 | .byt b,u=>∃t,u=Value.bytes b t
 | .flt b,u=>∃t,u=Value.float b t
 | .ref a,u=>u=Value.ref a
 | .ty n,u=>u=Value.type n
abbrev Vals:List V->List Wp->Prop:=Paired RelV
theorem Vals.length{xs:List V}{us:List Wp}(r:Vals xs us):xs.length=us.length:=aab r
theorem Vals.get:∀{xs:List V}{us:List Wp}{i:Nat}{x:V},Vals xs us->xs[i]?=some x->∃u,us[i]?=some u/\RelV x u
 |_,_,_,_,.nil,e=>by simp at e
 |_,_,0,_,.cons r _,e=>by simp at e;subst e;exact⟨_,rfl,r⟩
 |_,_,i+1,x,.cons _ t,e=>by
  obtain⟨u,h1,h2⟩:=Vals.get (i:=i) (x:=x) t (by simpa using e);exact⟨u,by simpa using h1,h2⟩
theorem Vals.set(r:RelV x u):∀{xs:List V}{us:List Wp}(i:Nat),Vals xs us->Vals (xs.set i x) (us.set i u)
 |_,_,_,.nil=>.nil
 |_,_,0,.cons _ t=>.cons r t
 |_,_,i+1,.cons q t=>.cons q (Vals.set r i t)
theorem Vals.append:∀{xs ys:List V}{us ws:List Wp},Vals xs us->Vals ys ws->Vals (xs++ys) (us++ws)
 |_,_,_,_,.nil,s=>s
 |_,_,_,_,.cons r t,s=>.cons r (Vals.append t s)
theorem Vals.take:∀{xs:List V}{us:List Wp}(n:Nat),Vals xs us->Vals (xs.take n) (us.take n)
 |_,_,0,_=>.nil
 |_,_,_+1,.nil=>.nil
 |_,_,n+1,.cons r t=>.cons r (Vals.take n t)
theorem Vals.drop:∀{xs:List V}{us:List Wp}(n:Nat),Vals xs us->Vals (xs.drop n) (us.drop n)
 |_,_,0,r=>r
 |_,_,_+1,.nil=>.nil
 |_,_,n+1,.cons _ t=>Vals.drop n t
theorem Vals.none_of:∀{xs:List V}{us:List Wp}{i:Nat},Vals xs us->xs[i]?=none->us[i]?=none:=λ{xs us i} r e=>by
 have h1:=r.length;have h2:xs.length<=i:=Zw.mp e;exact Zw.mpr @a
def RelO:Option V->Option Wp->Prop
 |some v,some u=>RelV v u
 |none,none=>True
 |_,_=>False
def KV{κ:Type}:List (κ×V)->List (κ×Wp)->Prop:=Paired λ(p:κ×V) (q:κ×Wp)=>p.1=q.1/\RelV p.2 q.2
noncomputable def kV:Key->V
 | .inl i=>.int i
 | .inr x=>.str x
inductive HO where
 |lst (xs:List V)
 |tup (xs:List V)
 |dK (kvs:List (Key×V))|dT (kvs:List (List Key×V))
 |set (S:Int->Bool) (n:Nat)
 |ins (C dx:WP) (fs:List (Str×V))
 |own (x:WP)
 |xd (fs:List (Str×V))
 |met (f x:WP)
 |rng (lo hi:Int)
 |frz (o:Obj) (u:HO)
 |tbl (ps:Array Wp)
 |ext (φ:UF->Prop)
abbrev Hp:=WP->Option HO
noncomputable def upd(H:Hp)(a:WP)(o:HO):Hp:=λb=>if b=a then some o else H b
variable{H:Hp}{o:HO}
theorem aG:upd H a o a=some o:=by unfold upd;rw[WV rfl]
variable{b:WP}
theorem au(h:b≠a):upd H a o b=H b:=by unfold upd;rw[W6 h]
theorem Hn(h:H a=some o)(h':H b=some u)(d:o≠u):a≠b:=by
 intro e;subst e;rw[h]at h';exact d (Xj h')
theorem aN(h:H a=some o)(h':H b=none):a≠b:=by
 intro e;subst e;rw[h]at h';cases h'
section
variable(P:W1)(w:World)
def ObjOk(H:Hp)(h:UF)(a:WP):HO->Prop
 | .lst xs=>xs.length<=sizeLine/\∃(Kt:List Wp) (n:Nat),Vals xs Kt/\h.get? a=some {cls:=.type "list",data:=.seq Kt.toArray n}
 | .tup xs=>xs.length<=sizeLine/\∃Kt:List Wp,Vals xs Kt/\IsTupN h a Kt.toArray
 | .dK kvs=>kvs.length<=sizeLine/\(a==sysModules)=false/\∃vs,KV kvs vs/\h.DictOf (mixKind P w) a vs
 | .dT kvs=>kvs.length<=sizeLine/\(a==sysModules)=false/\∃xs:List (List Key×WP×Wp),
   Paired (λ(p:List Key×V) (q:List Key×WP×Wp)=>p.1=q.1/\H q.2.1=some (.tup (p.1.map kV))/\RelV p.2 q.2.2) kvs xs/\
   ∃o es ep,h.get? a=some o/\o.ExactDict/\o.data=.dict es ep/\es.toList=xs.map (entryOfKey (tupleKind (mixKind P w)))/\(xs.map (·.1)).Nodup
 | .set S n=>h.SetOf (intKind P w) a S n
 | .ins C dx fs=>H dx=some (.own a)/\fs.length<=1000/\dx≠a/\h.get? a=some (PySem.W.instObj C dx)/\
   ∃mA,h.Ns1 dx mA/\(∀f,RelO (fs.lookup f) (mA f))/\PySem.Within mA (fs.map (·.1))
 | .own _=>∃o,h.get? a=some o
 | .xd fs=>∃mA,h.Ns1 a mA/\∀f,RelO (fs.lookup f) (mA f)
 | .rng lo hi=>∃t u v,h.get? a=some {cls:=.type "range",data:=.fields #[.int lo t,.int hi u,.int 1 v]}
 | .frz o u=>h.get? a=some o/\ObjOk H h a u
 | .tbl ps=>h.get? a=some {cls:=.none,data:=.fields ps}
 | .met f x=>h.get? a=some (PySem.W.methodObj (.ref f) (.ref x))
 | .ext φ=>φ h/\(∃o,h.get? a=some o)/\∀h1 h2:UF,φ h1->(∀o,h1.get? a=some o->h2.get? a=some o)->φ h2
def HOk(H:Hp)(h:UF):Prop:=∀a o,H a=some o->ObjOk P w H h a o
end
variable{P:W1}{w:World}{H':Hp}{h':UF}
section
theorem ObjOk.lt(x:ObjOk P w H h a o):a<h.objs.size:=by
 cases o with
 |lst xs=>obtain⟨_,_,_,_,e⟩:=x;exact W4 e
 |tup xs=>obtain⟨_,_,_,p⟩:=x;exact p.tup.lt
 |dK kvs=>obtain⟨_,_,_,_,o,_,_,e,_⟩:=x;exact W4 e
 |dT kvs=>obtain⟨_,_,_,_,o,_,_,e,_⟩:=x;exact W4 e
 |set S n=>obtain⟨o,_,_,_,e,_⟩:=x;exact W4 e
 |ins C dx fs=>obtain⟨_,_,_,e,_⟩:=x;exact W4 e
 |own y=>obtain⟨_,e⟩:=x;exact W4 e
 |xd fs=>obtain⟨_,⟨_,_,_,e,_⟩,_⟩:=x;exact W4 e
 |rng lo hi=>obtain⟨_,_,_,e⟩:=x;exact W4 e
 |frz ob u=>obtain⟨e,_⟩:=x;exact W4 e
 |tbl ps=>exact W4 (show h.get? a=some _ from x)
 |met f y=>exact W4 (show h.get? a=some _ from x)
 |ext φ=>obtain⟨_,⟨_,e⟩,_⟩:=x;exact W4 e
theorem Paired.mapP:∀{l₁:List α}{l₂:List β},Paired F l₁ l₂->(∀a b,F a b->G a b)->Paired G l₁ l₂
 |_,_,.nil,_=>.nil
 |_,_,.cons r t,f=>.cons (f _ _ r) (Paired.mapP t f)
theorem ObjOk.stay(x:ObjOk P w H h a o)(k:∀b u,(b=a\/H b=some (.own a))->h.get? b=some u->h'.get? b=some u)
  (ho:∀b,H b=some (.own a)->H' b=some (.own a)) (ht:∀b xs,H b=some (.tup xs)->H' b=some (.tup xs)):ObjOk P w H' h' a o:=by
 induction o with
 |lst xs=>obtain⟨z,Kt,n,r,e⟩:=x;exact⟨z,Kt,n,r,k _ _ (.inl rfl) e⟩
 |tup xs=>obtain⟨z,Kt,r,ob,e,c⟩:=x;exact⟨z,Kt,r,ob,k _ _ (.inl rfl) e,c⟩
 |dK kvs=>obtain⟨z,y,vs,r,ob,es,ep,e,c⟩:=x;exact⟨z,y,vs,r,ob,es,ep,k _ _ (.inl rfl) e,c⟩
 |dT kvs=>
  obtain⟨z,y,xs,r,ob,es,ep,e,c⟩:=x;exact⟨z,y,xs,Paired.mapP r λp q z=>⟨z.1,ht _ _ z.2.1,z.2.2⟩,ob,es,ep,k _ _ (.inl rfl) e,c⟩
 |set S n=>obtain⟨ob,es,ep,t,e,c⟩:=x;exact⟨ob,es,ep,t,k _ _ (.inl rfl) e,c⟩
 |ins C dx fs=>
  obtain⟨d,z,ne,e,mA,⟨od,es,ep,e2,c⟩,r⟩:=x;exact⟨ho _ d,z,ne,k _ _ (.inl rfl) e,mA,⟨od,es,ep,k _ _ (.inr d) e2,c⟩,r⟩
 |own y=>obtain⟨ob,e⟩:=x;exact⟨ob,k _ _ (.inl rfl) e⟩
 |xd fs=>obtain⟨mA,⟨od,es,ep,e,c⟩,r⟩:=x;exact⟨mA,⟨od,es,ep,k _ _ (.inl rfl) e,c⟩,r⟩
 |rng lo hi=>obtain⟨t,u,v,e⟩:=x;exact⟨t,u,v,k _ _ (.inl rfl) e⟩
 |frz ob u ih=>obtain⟨e,q⟩:=x;exact⟨k _ _ (.inl rfl) e,ih q⟩
 |tbl ps=>
  have e:h.get? a=some {cls:=.none,data:=.fields ps}:=x;show h'.get? a=some {cls:=.none,data:=.fields ps};exact k a _ (.inl rfl) e
 |met f y=>
  have e:h.get? a=some (PySem.W.methodObj (.ref f) (.ref y)):=x;show h'.get? a=some (PySem.W.methodObj (.ref f) (.ref y));exact k a _ (.inl rfl) e
 |ext φ=>obtain⟨p,⟨o,e⟩,st⟩:=x;exact⟨st _ _ p λo q=>k _ _ (.inl rfl) q,⟨o,k _ _ (.inl rfl) e⟩,st⟩
theorem HOk.lt(x:HOk P w H h)(e:H a=some o):a<h.objs.size:=(x a o e).lt
theorem HOk.fresh(x:HOk P w H h)(e:h.objs.size<=a):H a=none:=by
 cases q:H a with
 |none=>rfl
 |some u=>exact absurd (W9 (x.lt q) e) (Yv _)
theorem HOk.kept(x:HOk P w H h)(k:∀b u,h.get? b=some u->h'.get? b=some u):HOk P w H h':=λa o e=>
 (x a o e).stay (λb u _ q=>k b u q) (λ_ q=>q) λ_ _ q=>q
theorem HOk.laid(x:HOk P w H h)(k:∀b u,h.get? b=some u->h'.get? b=some u)(hp:h.objs.size<=a)(new:ObjOk P w (upd H a o) h' a o):HOk P w (upd H a o) h':=λb u e=>by
 have hn:=x.fresh hp;by_cases hb:b=a
 .subst hb;rw[aG]at e;cases e;exact new
 .rw[au hb]at e;exact(x b u e).stay (λc v _ q=>k c v q) (λc q=>by rw[au (aN q hn)];exact q) λc xs q=>by rw[au (aN q hn)];exact q
end
def Rd(H:Hp)(a:WP)(u:HO):Prop:=H a=some u\/∃o,H a=some (.frz o u)
theorem Rd.ok(r:Rd H a u)(x:HOk P w H h):ObjOk P w H h a u:=by
 rcases r with r|⟨o,r⟩
 .exact x a u r
 .obtain⟨_,q⟩:=x a _ r;exact q
noncomputable def Sb:Option HO->Prop
 |some (.lst _)=>True
 |some (.dK _)=>True
 |some (.dT _)=>True
 |some (.set _ _)=>True
 |some (.ins _ _ _)=>True
 |some (.ext _)=>True
 |_=>False
section
variable{x e:WP}{o':HO}
theorem HOk.write(ok:HOk P w H h)(mu:Sb (H x))(he:e=x\/H e=some (.own x))(k:∀b u,b≠e->h.get? b=some u->h'.get? b=some u)(RT:∃u,h'.get? e=some u)
  (new:ObjOk P w (upd H x o') h' x o'):HOk P w (upd H x o') h':=λb u q=>by
 have Sd:∀c y,H c=some (.own y)->c≠x:=λc y r z=>by subst z;rw[r]at mu;exact mu
 have ntup:∀c xs,H c=some (.tup xs)->c≠x:=λc xs r z=>by subst z;rw[r]at mu;exact mu
 by_cases hb:b=x
 .subst hb;rw[aG]at q;cases q;exact new
 .rw[au hb]at q;by_cases hbe:b=e
  .have q':H b=some (.own x):=by
    rcases he with z|z
    .exact absurd (hbe.trans z) hb
    .rw[hbe];exact z
   rw[q]at q';cases q';obtain⟨v,hv⟩:=RT;exact⟨v,by rw[hbe];exact hv⟩
  .refine(ok b u q).stay (λc v hc r=>k c v ?_ r) (λc r=>by rw[au (Sd c b r)];exact r) λc xs r=>by rw[au (ntup c xs r)];exact r
   rcases hc with rfl|hc
   .exact hbe
   .rintro rfl;rcases he with z|z
    .exact Sd c b hc z
    .rw[hc]at z;cases z;exact hb rfl
end
structure Un(fs ex:List WP)(H H':Hp)(h h':UF):Prop where
 keep:∀b o,h.get? b=some o->H b=none->b∉fs->b∉ex->h'.get? b=some o
 slot:∀b o,h.get? b=some o->H b=none->b∈fs->b∉ex->∃sl,h'.get? b=some {o with slots:=sl}
 free:∀b o,h.get? b=some o->H b=none->b∉ex->H' b=none
 there:∀b o,h.get? b=some o->b∉ex->∃o',h'.get? b=some o'
 tups:∀b xs,H b=some (.tup xs)->H' b=some (.tup xs)
 frzs:∀b o u,H b=some (.frz o u)->H' b=some (.frz o u)
 tbls:∀b ps,H b=some (.tbl ps)->∃more,H' b=some (.tbl (ps++more))
section
variable{fs fs' ex ex':List WP}{H1 H2:Hp}{h1 h2:UF}{x e:WP}
theorem Un.any(u:Un fs ex H H1 h h1)(q:h.get? b=some ob)(n:H b=none)(hx:b∉ex):∃sl,h1.get? b=some {ob with slots:=sl}:=by
 by_cases hb:b∈fs
 .exact u.slot b ob q n hb hx
 .exact⟨ob.slots,u.keep b ob q n hb hx⟩
theorem Un.kept(k:∀b u,h.get? b=some u->h'.get? b=some u):Un fs ex H H h h':=
 ⟨λb ob q _ _ _=>k b ob q,λb ob q _ _ _=>⟨ob.slots,k b ob q⟩,λ_ _ _ n _=>n,λb ob q _=>⟨ob,k b ob q⟩,λ_ _ q=>q,λ_ _ _ q=>q,λ_ ps q=>⟨#[],by rw[q];simp⟩⟩
theorem Un.refl:Un fs ex H H h h:=Un.kept λ_ _ q=>q
theorem Un.laid(k:∀b u,h.get? b=some u->h'.get? b=some u)(hp:h.objs.size<=a)(hn:H a=none):Un fs ex H (upd H a o) h h' where
 keep:=λb u q _ _ _=>k b u q
 slot:=λb u q _ _ _=>⟨u.slots,k b u q⟩
 free:=λb u q n _=>by rw[au (Xh (W9 (W4 q) hp))];exact n
 there:=λb u q _=>⟨u,k b u q⟩
 tups:=λb xs q=>by rw[au (aN q hn)];exact q
 frzs:=λb u xs q=>by rw[au (aN q hn)];exact q
 tbls:=λb ps q=>⟨#[],by rw[au (aN q hn),q];simp⟩
theorem Un.write(mu:Sb (H x))(he:e=x\/H e=some (.own x))(k:∀b u,b≠e->h.get? b=some u->h'.get? b=some u)(RT:∃u,h'.get? e=some u):Un fs ex H (upd H x o) h h':=by
 have hx:∀b,H b=none->b≠x:=λb n z=>by subst z;rw[n]at mu;exact mu
 have hb:∀b,H b=none->b≠e:=λb n z=>by
  subst z;rcases he with r|r
  .exact hx b n r
  .rw[n]at r;cases r
 have hm:∀b u,H b=some u->¬ Sb (some u)->b≠x:=λb u q nm z=>by subst z;rw[q]at mu;exact nm mu
 refine⟨λb u q n _ _=>k b u (hb b n) q,λb u q n _ _=>⟨u.slots,k b u (hb b n) q⟩,λb u q n _=>by rw[au (hx b n)];exact n,λb u q _=>?_,
  λb xs q=>by rw[au (hm b _ q λz=>z)];exact q,λb u xs q=>by rw[au (hm b _ q λz=>z)];exact q,λb ps q=>⟨#[],by rw[au (hm b _ q λz=>z),q];simp⟩⟩
 by_cases hbe:b=e
 .subst hbe;exact RT
 .exact⟨u,k b u hbe q⟩
end
noncomputable def trk(h:UF)(H:Hp):List WP:=(List.range h.objs.size).filter λa=>(H a).isSome
def xf(h:UF)(H:Hp):UF:=PySem.W.hideAll h (trk h H)
theorem tF(h:UF)(H:Hp):(xf h H).objs.size=h.objs.size:=PySem.W.hideAll_size _ _
theorem xg{o:Obj}(e:h.get? b=some o)(n:H b=none):(xf h H).get? b=some o:=
 aaf _ e λhm=>by
  have q:(H b).isSome=true:=(X0.mp hm).2;rw[n]at q;simp at q
theorem Ao{o:Obj}(e:(xf h H).get? b=some o):h.get? b=some o/\H b=none:=by
 have e':h.get? b=some o:=PySem.W.of_hideAll (trk h H) e;refine⟨e',?_⟩;cases q:H b with
 |none=>rfl
 |some x=>
  have hm:b∈trk h H:=X0.mpr ⟨Xp.mpr (W4 e'),by simp[q]⟩;have z:(xf h H).get? b=none:=PySem.W.hideAll_none (trk h H) hm;rw[z]at e;cases e
noncomputable def Ap(g h:UF)(L:WP):List (WP×Obj):=(List.range h.objs.size).filterMap λa=>if a=L\/(g.get? a).isSome=true then none else(h.get? a).map λo=>(a,o)
def aZ(g h:UF)(L d:WP):List (WP×Obj):=(Ap g h L).filter λp=>decide (p.1≠d)
structure Mod(K:W.Frag)(mg:Str->Option Wp)(base:UF):Prop where
 kin:K.In base
 glob:base.Ns mainGlobals mg
 blt:∃mb,base.Ns builtinsNs mb/\∀x:Str,x≠"__name__"->mb x=bootBuiltins x
 nolimit:base.NoLimit
structure Cx where
 prog:W1
 w:World
 K:W.Frag
 mg:Str->Option Wp
 base:UF
 A:Uf
 N:List Str
 s₀:WF
 H₀:Hp
 env:Env
 outer:List Env
 stack:List Env
 ex:List WP
 fn:Str->Bool
 calm:Bool
 pn:List (WP×Obj)
 xe:Wp->WF->Prop
noncomputable def Lv(l:List Env):List WP:=l.filterMap (·.frame)
abbrev Cx.fs(X:Cx):List WP:=Lv X.outer
def UL(sc:Scope)(x:Str):Prop:=sc.names.lookup x=some .local\/sc.names.lookup x=some .cell\/sc.names.lookup x=some .free
def Loc(sc:Scope)(x:Str):Prop:=sc.names.lookup x=some .local\/sc.names.lookup x=some .cell
noncomputable def IZ(sc:Scope)(x:Str):Bool:=match sc.names.lookup x with
 |some .local=>true
 |some .cell=>true
 |_=>false
variable{sc:Scope}{x:Str}
theorem lo(h:IZ sc x=true):Loc sc x:=by
 unfold IZ at h;split at h
 .exact .inl (by assumption)
 .exact .inr (by assumption)
 .cases h

def Ju(env:Env)(h:UF)(m:Str->Option Wp)(x:Str)(u:Wp):Prop:=
 (env.kindOf x=some .local/\m x=some u)\/((env.kindOf x=some .cell\/env.kindOf x=some .free)/\∃c,env.cells.lookup x=some c/\h.IsCell c (some u))
structure Cx.Ok(X:Cx):Prop where
 mod:Mod X.K X.mg X.base
 kind:X.env.scope.kind=.function
 glob:X.env.globals=mainGlobals
 blt:X.env.builtins=builtinsNs
 above:X.s₀.heap.objs.size<=X.env.locals
 inj:∀x y c,X.env.cells.lookup x=some c->X.env.cells.lookup y=some c->x=y
 has:∀x,(X.env.kindOf x=some .cell\/X.env.kindOf x=some .free)->∃c,X.env.cells.lookup x=some c
 cab:∀x c,X.fn x=true->X.env.cells.lookup x=some c->X.s₀.heap.objs.size<=c
 hd:X.calm=true->X.A.handled=none
 frames:X.A.frames=some X.stack
 stk:X.stack=X.outer\/(X.stack=X.env::X.outer/\X.env.frame=some X.env.locals)
 exf:∀b∈X.ex,b≠X.env.locals/\∀x c,X.env.cells.lookup x=some c->c≠b
 bs:∀b o,X.base.get? b=some o->X.s₀.heap.get? b=some o/\X.H₀ b=none
 bsz:X.base.objs.size<=X.s₀.heap.objs.size
 noex:∀b o,X.base.get? b=some o->b∉X.ex
 exfs:∀b∈X.ex,b∉X.fs
 funs:X.s₀.heap.FunFrames X.base X.outer
 frf:∀b∈X.fs,X.H₀ b=none
structure Inv(X:Cx)(pr:List (WP×Obj))(σ:List (Option V))(H:Hp)(s:WF):Prop where
 ok:X.Ok
 os:s.os=X.s₀.os
 bare:AllBare s.gens
 base:Un X.fs X.ex X.H₀ H X.s₀.heap s.heap
 loc:∃m,s.heap.Ns X.env.locals m/\∀(i:Nat) (x:Str) (v:V),X.N[i]?=some x->σ[i]?=some (some v)->UL X.env.scope x->∃u,RelV v u/\Ju X.env s.heap m x u
 cell:∀x c,X.env.cells.lookup x=some c->∃v,s.heap.IsCell c v
 free:H X.env.locals=none
 freeC:∀x c,X.env.cells.lookup x=some c->H c=none
 pin:∀p∈X.pn++pr,s.heap.get? p.1=some p.2/\H p.1=none/\p.1≠X.env.locals/\p.1∉X.fs/\∀v,p.2.data≠.cell v
 hok:HOk X.prog X.w H s.heap
 len:σ.length=X.N.length
variable{X:Cx}{pr:List (WP×Obj)}{s s':WF}{ch:List WP}{N:List Str}{i:Nat}{v:V}{u:Wp}
section
variable{σ:List (Option V)}
theorem Cx.Ok.nofr(ok:X.Ok){o:Obj}(e:X.base.get? b=some o):b∉X.fs:=λhb=>by
 have:=(ok.funs.mem hb).1;rw[e]at this;cases this
theorem Inv.bs(I:Inv X pr σ H s):∀b o,X.base.get? b=some o->s.heap.get? b=some o/\H b=none:=λb o e=>
 ⟨I.base.keep b o (I.ok.bs b o e).1 (I.ok.bs b o e).2 (I.ok.nofr e) (I.ok.noex b o e),I.base.free b o (I.ok.bs b o e).1 (I.ok.bs b o e).2 (I.ok.noex b o e)⟩
theorem Inv.bk(I:Inv X pr σ H s):∀b o,X.base.get? b=some o->s.heap.get? b=some o:=λb o e=>(I.bs b o e).1
theorem Inv.mod(I:Inv X pr σ H s):Mod X.K X.mg X.base:=I.ok.mod
theorem Inv.kIn(I:Inv X pr σ H s):X.K.In s.heap:=I.ok.mod.kin.keeps I.bk
theorem Inv.lt(I:Inv X pr σ H s):X.env.locals<s.heap.objs.size:=let⟨_,hn,_⟩:=I.loc;hn.lt
theorem Inv.sz(I:Inv X pr σ H s):X.s₀.heap.objs.size<=s.heap.objs.size:=Xz I.ok.above (aa8 I.lt)
theorem Inv.nofs(I:Inv X pr σ H s)(h:s.heap.objs.size<=a):a∉X.fs:=λhb=>by
 obtain⟨_,o,ho,_⟩:=I.ok.funs.mem hb;exact absurd (W9 (W4 ho) (Xz I.sz h)) (Yv _)
theorem Inv.cne(I:Inv X pr σ H s):∀x c,X.env.cells.lookup x=some c->c≠X.env.locals:=λx c e z=>by
 obtain⟨v,o,ho,hd⟩:=I.cell x c e;obtain⟨m,⟨o',es,ep,NQ,OR,_⟩,_⟩:=I.loc;rw[z,NQ]at ho;cases ho;rw[OR]at hd;cases hd
theorem Inv.funs(I:Inv X pr σ H s):s.heap.FunFrames X.base X.outer:=by
 have all:∀(l:List Env),(∀b∈Lv l,b∈X.fs)->X.s₀.heap.FunFrames X.base l->s.heap.FunFrames X.base l:=by
  intro l;induction l with
  |nil=>intro _ _;trivial
  |cons env r ih=>
   intro hs hl;obtain⟨hk,⟨L,o,hf,hn,ho,hd⟩,hr⟩:=hl;have hL:L∈X.fs:=hs L (by unfold Lv;rw[Yr,hf];exact WJ);obtain⟨sl,e⟩:=I.base.slot L o ho (I.ok.frf L hL) hL λz=>I.ok.exfs L z hL
   exact⟨hk,⟨L,_,hf,hn,e,hd⟩,ih (λb hb=>hs b (by unfold Lv;rw[Yr,hf];exact WK _ hb)) hr⟩
 exact all X.outer (λ_ hb=>hb) I.ok.funs
theorem Inv.stack(I:Inv X pr σ H s):s.heap.FunFrames X.base X.stack:=by
 rcases I.ok.stk with e|⟨e,hf⟩
 .rw[e];exact I.funs
 .rw[e];obtain⟨m,hn,_⟩:=I.loc;refine .cons (by rw[I.ok.kind];decide) hf hn ?_ I.funs;exact Heap.get?_none_of_le (Xz I.ok.bsz I.ok.above)
theorem Inv.stkSub(I:Inv X pr σ H s):∀b∈Lv X.stack,b∈X.env.locals::X.fs:=λb hb=>by
 rcases I.ok.stk with e|⟨e,hf⟩
 .rw[e]at hb;exact WK _ hb
 .rw[e]at hb;unfold Lv at hb;rw[Yr,hf]at hb;exact hb
theorem Inv.stkFree(I:Inv X pr σ H s):∀b∈Lv X.stack,H b=none:=λb hb=>by
 rcases WY.mp (I.stkSub b hb) with e|hb
 .rw[e];exact I.free
 .obtain⟨_,o,ho,_⟩:=I.ok.funs.mem hb;exact I.base.free b o ho (I.ok.frf b hb) λz=>I.ok.exfs b z hb
theorem Inv.step(I:Inv X pr σ H s)(OJ:∀b∈ch,(b∈X.ex\/X.s₀.heap.objs.size<=b)/\b≠X.env.locals/\(∀x c,X.env.cells.lookup x=some c->c≠b)/\∀p∈X.pn++pr,p.1≠b)(keep:∀b o,b≠X.env.locals->b∉X.fs->b∉ch->s.heap.get? b=some o->H b=none->h'.get? b=some o)(slot:∀b o,b≠X.env.locals->b∈X.fs->b∉ch->s.heap.get? b=some o->H b=none->∃sl,h'.get? b=some {o with slots:=sl})(free:∀b o,b∉ch->s.heap.get? b=some o->H b=none->H' b=none)(there:∀b o,b∉ch->s.heap.get? b=some o->∃o',h'.get? b=some o')(tups:∀b xs,H b=some (.tup xs)->H' b=some (.tup xs))(frzs:∀b o u,H b=some (.frz o u)->H' b=some (.frz o u))(tbls:∀b ps,H b=some (.tbl ps)->∃more,H' b=some (.tbl (ps++more)))(ns:∀m,s.heap.Ns X.env.locals m->h'.Ns X.env.locals m)(hok:HOk X.prog X.w H' h')(hg:AllBare g'):
  Inv X pr σ H' {s with heap:=h',gens:=g',drawn:=d',toks:=t'}:=by
 have Se:∀b o,X.s₀.heap.get? b=some o->b≠X.env.locals:=λb o e=>Xh (W9 (W4 e) I.ok.above)
 have TZ:∀b o,X.s₀.heap.get? b=some o->b∉X.ex->b∉ch:=λb o e hx hb=>by
  rcases(OJ b hb).1 with z|z
  .exact hx z
  .exact absurd (W9 (W4 e) z) (Yv _)
 have cellK:∀x c,X.env.cells.lookup x=some c->∀v,s.heap.IsCell c v->h'.IsCell c v:=λx c e v Kz=>by
  obtain⟨o,ho,hd⟩:=Kz;have Sg:c∉ch:=λz=>(OJ c z).2.2.1 x c e rfl
  by_cases hc:c∈X.fs
  .obtain⟨sl,q⟩:=slot c o (I.cne x c e) hc Sg ho (I.freeC x c e);exact⟨_,q,hd⟩
  .exact⟨o,keep c o (I.cne x c e) hc Sg ho (I.freeC x c e),hd⟩
 refine⟨I.ok,I.os,hg,⟨λb o e n hb hx=>?_,λb o e n hb hx=>?_,λb o e n hx=>?_,λb o e hx=>?_,λb xs e=>tups b xs (I.base.tups b xs e),λb o xs e=>frzs b o xs (I.base.frzs b o xs e),λb ps e=>?_⟩,?_,λx c e=>?_,?_,λx c e=>?_,λp hp=>?_,hok,I.len⟩
 .exact keep b o (Se b o e) hb (TZ b o e hx) (I.base.keep b o e n hb hx) (I.base.free b o e n hx)
 .obtain⟨sl,e1⟩:=I.base.slot b o e n hb hx;obtain⟨VR,e2⟩:=slot b _ (Se b o e) hb (TZ b o e hx) e1 (I.base.free b o e n hx);exact⟨VR,e2⟩
 .obtain⟨o',e1⟩:=I.base.there b o e hx;exact free b o' (TZ b o e hx) e1 (I.base.free b o e n hx)
 .obtain⟨o',e1⟩:=I.base.there b o e hx;exact there b o' (TZ b o e hx) e1
 .obtain⟨m1,e1⟩:=I.base.tbls b ps e;obtain⟨m2,e2⟩:=tbls b _ e1;exact⟨m1++m2,by rw[e2,Array.append_assoc]⟩
 .obtain⟨m,hn,hl⟩:=I.loc;refine⟨m,ns m hn,λi x v e1 e2 e3=>?_⟩;obtain⟨u,r,l⟩:=hl i x v e1 e2 e3;refine⟨u,r,?_⟩;rcases l with l|⟨k,c,e,z⟩
  .exact .inl l
  .exact .inr ⟨k,c,e,cellK x c e _ z⟩
 .obtain⟨v,z⟩:=I.cell x c e;exact⟨v,cellK x c e v z⟩
 .obtain⟨m,⟨o,_,_,ho,_⟩,_⟩:=I.loc;exact free _ o (λz=>(OJ _ z).2.1 rfl) ho I.free
 .obtain⟨v,o,ho,hd⟩:=I.cell x c e;exact free c o (λz=>(OJ c z).2.2.1 x c e rfl) ho (I.freeC x c e)
 .obtain⟨e,n,ne,nf,d⟩:=I.pin p hp;have Sg:p.1∉ch:=λz=>(OJ p.1 z).2.2.2 p hp rfl
  exact⟨keep p.1 p.2 ne nf Sg e n,free p.1 p.2 Sg e n,ne,nf,d⟩
theorem Inv.un(I:Inv X pr σ H s)(u:Un X.fs [] H H' s.heap h')(hok:HOk X.prog X.w H' h'):Inv X pr σ H' {s with heap:=h',toks:=t'}:=by
 obtain⟨m,⟨o,es,ep,ho,r⟩,_⟩:=id I.loc;obtain⟨sl,hL⟩:=u.any ho I.free @t;exact I.step (g':=s.gens) (d':=s.drawn) (ch:=[]) (λ_ z=>nomatch z) (λb o _ hb _ e n=>u.keep b o e n hb @t) (λb o _ hb _ e n=>u.slot b o e n hb @t) (λb o _ e n=>u.free b o e n @t) (λb o _ e=>u.there b o e @t) u.tups u.frzs u.tbls (λm' hm=>by
  obtain⟨o',MR,QB,NQ,r'⟩:=hm;rw[ho]at NQ;cases NQ;exact⟨_,MR,QB,hL,r'⟩) hok I.bare
theorem Inv.call(I:Inv X pr σ H s)(u:Un (Lv X.stack) ch H H' s.heap h')(hok:HOk X.prog X.w H' h')(hg:AllBare g')(OJ:∀b∈ch,(b∈X.ex\/X.s₀.heap.objs.size<=b)/\b≠X.env.locals/\(∀x c,X.env.cells.lookup x=some c->c≠b)/\∀p∈X.pn++pr,p.1≠b):
  Inv X pr σ H' {s with heap:=h',gens:=g',drawn:=d',toks:=t'}:=by
 obtain⟨m,⟨o,es,ep,ho,r⟩,_⟩:=id I.loc;obtain⟨sl,hL⟩:=u.any ho I.free λz=>(OJ _ z).2.1 rfl
 exact I.step (ch:=ch) OJ (λb o hL hb hc e n=>u.keep b o e n (λz=>(WY.mp (I.stkSub b z)).elim hL hb) hc) (λb o _ _ hc e n=>u.any e n hc) (λb o hc e n=>u.free b o e n hc) (λb o hc e=>u.there b o e hc) u.tups u.frzs u.tbls (λm' hm=>by
  obtain⟨o',MR,QB,NQ,r'⟩:=hm;rw[ho]at NQ;cases NQ;exact⟨_,MR,QB,hL,r'⟩) hok hg
theorem Inv.turned(I:Inv X pr σ H s)(k:∀b o,b≠it->s.heap.get? b=some o->h'.get? b=some o)(hn:H it=none)(hL:it≠X.env.locals)(h1:it∈X.ex\/X.s₀.heap.objs.size<=it)(h2:∀x c,X.env.cells.lookup x=some c->c≠it)(h3:∀p∈X.pn++pr,p.1≠it):Inv X pr σ H {s with heap:=h',toks:=t'}:=by
 have VS:∀b u,H b=some u->b≠it:=λb u e z=>by rw[z,hn]at e;cases e
 refine I.step (g':=s.gens) (d':=s.drawn) (ch:=[it]) (λb hb=>?_) (λb o _ _ hc e _=>k b o (λz=>hc (by simp[z])) e) (λb o _ _ hc e _=>⟨o.slots,k b o (λz=>hc (by simp[z])) e⟩) (λ_ _ _ _ n=>n)
  (λb o hc e=>⟨o,k b o (λz=>hc (by simp[z])) e⟩) (λ_ _ e=>e) (λ_ _ _ e=>e) (λb ps e=>⟨#[],by rw[e];simp⟩) (λm hm=>?_) (λb u e=>?_) I.bare
 .have e:b=it:=by simpa using hb
  subst e;exact⟨h1,hL,h2,h3⟩
 .obtain⟨o,es,ep,ho,r⟩:=hm;exact⟨o,es,ep,k _ o (Yj hL) ho,r⟩
 .refine(I.hok b u e).stay (λc v hc q=>k c v ?_ q) (λ_ q=>q) λ_ _ q=>q
  rcases hc with z|z
  .rw[z];exact VS b u e
  .exact VS c _ z
theorem Inv.tok(I:Inv X pr σ H s)(t:Nat):Inv X pr σ H {s with toks:=t}:=I.un (h':=s.heap) (t':=t) Un.refl I.hok
theorem Inv.kept(I:Inv X pr σ H s)(k:∀b u,s.heap.get? b=some u->h'.get? b=some u):Inv X pr σ H {s with heap:=h',toks:=t'}:=I.un (Un.kept k) (I.hok.kept k)
theorem Inv.laid{a:WP}{o:HO}(I:Inv X pr σ H s)(k:∀b u,s.heap.get? b=some u->h'.get? b=some u)(hp:s.heap.objs.size<=a)(new:ObjOk X.prog X.w (upd H a o) h' a o):
  Inv X pr σ (upd H a o) {s with heap:=h',toks:=t'}:=I.un (Un.laid k hp (I.hok.fresh hp)) (I.hok.laid k hp new)
theorem Inv.write{x:WP}{o:HO}(I:Inv X pr σ H s)(mu:Sb (H x))(he:e=x\/H e=some (.own x))(k:∀b u,b≠e->s.heap.get? b=some u->h'.get? b=some u)(RT:∃u,h'.get? e=some u)(new:ObjOk X.prog X.w (upd H x o) h' x o):Inv X pr σ (upd H x o) {s with heap:=h',toks:=t'}:=I.un (Un.write mu he k RT) (I.hok.write mu he k RT new)
theorem Inv.pins_of(I:Inv X pr σ H s)(h:∀p∈Qa,s.heap.get? p.1=some p.2/\H p.1=none/\p.1≠X.env.locals/\p.1∉X.fs/\∀v,p.2.data≠.cell v):Inv X Qa σ H s:=
 ⟨I.ok,I.os,I.bare,I.base,I.loc,I.cell,I.free,I.freeC,λp hp=>(Xv.mp hp).elim (λz=>I.pin p (WR _ z)) (h p),I.hok,I.len⟩
theorem kY(hN:N.Nodup)(a:N[i]?=some x)(b:N[j]?=some x):i=j:=by
 obtain⟨h1,e1⟩:=WS.mp a;obtain⟨h2,e2⟩:=WS.mp b;exact(List.getElem_inj hN).mp (e1.trans e2.symm)
theorem mF(I:Inv X pr σ H s)(hN:X.N.Nodup)(hi:X.N[i]?=some x)(hx:Loc X.env.scope x)(r:RelV v u)(h:∀s',Inv X pr (σ.set i (some v)) H s'->(∃a,Heap.SameBut a s.heap s'.heap/\(a=X.env.locals\/X.env.cells.lookup x=some a))->Q () s')(hf:X.fn x=true\/X.env.scope.names.lookup x=some .local:=by first|exact .inl rfl|exact .inr rfl|assumption):wpAny M A (storeName X.env x u) Q E s:=by
 obtain⟨m,hn,hl⟩:=id I.loc;have QC:(X.env.scope.kind==.class||(X.env.scope.kind==.module&&X.env.locals != X.env.globals))=false:=by rw[I.ok.kind];rfl
 have hiσ:i<σ.length:=by rw[I.len];exact(WS.mp hi).1
 have cne:=I.cne;have tracked:∀{a:WP}{h':UF},(∃o,s.heap.get? a=some o/\H a=none)->Heap.SameBut a s.heap h'->HOk X.prog X.w H h':=λ{a h'} ha hs b ob e=>by
  obtain⟨_,_,Qb⟩:=ha;refine(I.hok b ob e).stay (λc w' hc q=>(hs.2 c ?_).trans q) (λ_ q=>q) λ_ _ q=>q
  rintro rfl;rcases hc with rfl|hc
  .rw[Qb]at e;cases e
  .rw[Qb]at hc;cases hc
 rcases hx with hk|hk
 .refine wpAny_storeName_local hk hn (λh' Mw hs=>?_) QC;obtain⟨oL,_,_,hoL,_⟩:=id hn;refine h _ ⟨I.ok,I.os,I.bare,⟨λb o e n hb hx=>?_,λb o e n hb hx=>?_,I.base.free,λb o e hx=>?_,I.base.tups,I.base.frzs,I.base.tbls⟩,⟨_,Mw,λj y v' e1 e2 e3=>?_⟩,λy c e=>?_,I.free,I.freeC,λp hp=>?_,tracked ⟨oL,hoL,I.free⟩ hs,by simpa using I.len⟩ ⟨_,hs,.inl rfl⟩
  .exact(hs.2 b (Xh (W9 (W4 e) I.ok.above))).trans (I.base.keep b o e n hb hx)
  .obtain⟨sl,e1⟩:=I.base.slot b o e n hb hx;exact⟨sl,(hs.2 b (Xh (W9 (W4 e) I.ok.above))).trans e1⟩
  .obtain⟨o',e1⟩:=I.base.there b o e hx;exact⟨o',(hs.2 b (Xh (W9 (W4 e) I.ok.above))).trans e1⟩
  .by_cases hj:j=i
   .subst hj;rw[hi]at e1;cases e1;rw[XF hiσ]at e2;cases e2;exact⟨u,r,.inl ⟨hk,by simp⟩⟩
   .rw[Yc (Yj hj)]at e2;obtain⟨u',r',q⟩:=hl j y v' e1 e2 e3;refine⟨u',r',?_⟩;rcases q with⟨k,e⟩|⟨k,c,e,z⟩
    .refine .inl ⟨k,?_⟩;have:y≠x:=λe=>hj (kY hN e1 (e▸hi))
     simp[this,e]
    .exact .inr ⟨k,c,e,z.sameBut hs (cne y c e)⟩
  .obtain⟨w',z⟩:=I.cell y c e;exact⟨w',z.sameBut hs (cne y c e)⟩
  .obtain⟨e,n,ne,nf,d⟩:=I.pin p hp;exact⟨(hs.2 p.1 ne).trans e,n,ne,nf,d⟩
 .have NR:X.fn x=true:=by
   rcases hf with z|z
   .exact z
   .rw[z]at hk;cases hk
  obtain⟨c,hc⟩:=I.ok.has x (.inl hk);obtain⟨w',z⟩:=I.cell x c hc;refine wpAny_storeName_cell I.ok.kind hk hc z (λh' OS hs=>?_);obtain⟨oc,VT,hocd⟩:=id z;refine h {s with heap:=h'} ⟨I.ok,I.os,I.bare,⟨λb o e n hb hx=>?_,λb o e n hb hx=>?_,I.base.free,λb o e hx=>?_,I.base.tups,I.base.frzs,I.base.tbls⟩,⟨m,hn.sameBut hs (Yj (cne x c hc)),λj y v' e1 e2 e3=>?_⟩,λy c' e=>?_,I.free,I.freeC,λp hp=>?_,tracked ⟨oc,VT,I.freeC x c hc⟩ hs,by simpa using I.len⟩ ⟨c,hs,.inr hc⟩
  .exact(hs.2 b (Xh (W9 (W4 e) (I.ok.cab x c NR hc)))).trans (I.base.keep b o e n hb hx)
  .obtain⟨sl,e1⟩:=I.base.slot b o e n hb hx;exact⟨sl,(hs.2 b (Xh (W9 (W4 e) (I.ok.cab x c NR hc)))).trans e1⟩
  .obtain⟨o',e1⟩:=I.base.there b o e hx;exact⟨o',(hs.2 b (Xh (W9 (W4 e) (I.ok.cab x c NR hc)))).trans e1⟩
  .by_cases hj:j=i
   .subst hj;rw[hi]at e1;cases e1;rw[XF hiσ]at e2;cases e2;exact⟨u,r,.inr ⟨.inl hk,c,hc,OS⟩⟩
   .rw[Yc (Yj hj)]at e2;obtain⟨u',r',q⟩:=hl j y v' e1 e2 e3;refine⟨u',r',?_⟩;rcases q with q|⟨k,c',e,z'⟩
    .exact .inl q
    .refine .inr ⟨k,c',e,z'.sameBut hs ?_⟩;rintro rfl;exact hj (kY hN e1 (I.ok.inj _ _ _ e hc▸hi))
  .by_cases Sh:c'=c
   .subst Sh;exact⟨_,OS⟩
   .obtain⟨w2,z2⟩:=I.cell y c' e;exact⟨w2,z2.sameBut hs Sh⟩
  .obtain⟨e,n,ne,nf,d⟩:=I.pin p hp;refine⟨(hs.2 p.1 ?_).trans e,n,ne,nf,d⟩;intro q;rw[q,VT]at e;have q':oc=p.2:=Xj e;exact d w' (by rw[<-q'];exact hocd)
theorem kZ(I:Inv X pr σ H s)(hN:X.N.Nodup)(hi:X.N[i]?=some x)(hx:Loc X.env.scope x)(r:RelV v u)(h:∀s',Inv X pr (σ.set i (some v)) H s'->Q () s')(hf:X.fn x=true\/X.env.scope.names.lookup x=some .local:=by first|exact .inl rfl|exact .inr rfl|assumption):wpAny M A (storeName X.env x u) Q E s:=
 mF I hN hi hx r (λs' I' _=>h s' I') hf
theorem Inv.call'(I:Inv X pr σ H s)(ho:s'.os=s.os)(u:Un (Lv X.stack) ch H H' s.heap s'.heap)(hok:HOk X.prog X.w H' s'.heap)(hg:AllBare s'.gens)
  (OJ:∀b∈ch,(b∈X.ex\/X.s₀.heap.objs.size<=b)/\b≠X.env.locals/\(∀x c,X.env.cells.lookup x=some c->c≠b)/\∀p∈X.pn++pr,p.1≠b):Inv X pr σ H' s':=by
 obtain⟨h',g',d',t',o'⟩:=s';have e:o'=s.os:=ho;subst e;exact I.call (g':=g') (t':=t') (d':=d') u hok hg OJ
end
abbrev XK:=Wp->Option WP->Hp->Prop
abbrev St:=List (Option V)
abbrev VK:=V->Hp->Prop
abbrev TE:=St->Hp->VK->Prop
abbrev TT:=St->Hp->(Bool->Hp->Prop)->Prop
abbrev TA:=St->Hp->(List V->Hp->Prop)->Prop
structure Ends where
 nx:St->Hp->Prop
 rt:VK
 bk:St->Hp->Prop:=λ_ _=>False
 ct:St->Hp->Prop:=λ_ _=>False
abbrev TS:=Ends->St->Hp->Prop
def EP(X:Cx)(pr:List (WP×Obj))(σ:St)(Q:VK)(u:Wp)(s':WF):Prop:=∃v H',Inv X pr σ H' s'/\RelV v u/\Q v H'
def TP(X:Cx)(pr:List (WP×Obj))(σ:St)(Q:Bool->Hp->Prop)(b:Bool)(s':WF):Prop:=∃H',Inv X pr σ H' s'/\Q b H'
def AP(X:Cx)(pr:List (WP×Obj))(σ:St)(Q:List V->Hp->Prop)(us:List Wp)(s':WF):Prop:=∃vs H',Inv X pr σ H' s'/\Vals vs us/\Q vs H'
def SP(X:Cx)(pr:List (WP×Obj))(D:Ends)(f:Flow)(s':WF):Prop:=
 match f with
 | .next=>∃σ' H',Inv X pr σ' H' s'/\D.nx σ' H'
 | .brk=>∃σ' H',Inv X pr σ' H' s'/\D.bk σ' H'
 | .cont=>∃σ' H',Inv X pr σ' H' s'/\D.ct σ' H'
 | .ret u=>∃v σ' H',Inv X pr σ' H' s'/\RelV v u/\D.rt v H'
def PE(X:Cx)(e:Expr)(t:TE):Prop:=
 ∀(pr:List (WP×Obj)) (s:WF) (σ:St) (H:Hp) (Q:VK),Inv X pr σ H s->t σ H Q->wpAny @c X.A (eval e X.env) (EP X pr σ Q) X.xe s
def PT(X:Cx)(e:Expr)(t:TT):Prop:=
 ∀(pr:List (WP×Obj)) (s:WF) (σ:St) (H:Hp) (Q:Bool->Hp->Prop),Inv X pr σ H s->t σ H Q->wpAny @c X.A (isTrue e X.env (eval e X.env)) (TP X pr σ Q) X.xe s
def PW(X:Cx)(e:Expr)(t:TT):Prop:=
 ∀(whole:Sem Wp) (pr:List (WP×Obj)) (s:WF) (σ:St) (H:Hp) (Q:Bool->Hp->Prop),Inv X pr σ H s->t σ H Q->wpAny @c X.A (isTrue e X.env whole) (TP X pr σ Q) X.xe s
variable{e:Expr}
theorem PW.pt{t:TT}(h:PW X e t):PT X e t:=h _
def PA(X:Cx)(es:List Expr)(t:TA):Prop:=
 ∀(pos:Pos) (pr:List (WP×Obj)) (s:WF) (σ:St) (H:Hp) (Q:List V->Hp->Prop),Inv X pr σ H s->t σ H Q->wpAny @c X.A (spliced (backTo pos (starEach es X.env))) (AP X pr σ Q) X.xe s
def PS(X:Cx)(st:Stmt)(t:TS):Prop:=
 ∀(pr:List (WP×Obj)) (s:WF) (σ:St) (H:Hp) (D:Ends),Inv X pr σ H s->t D σ H->wpAny @c X.A (exec st X.env) (SP X pr D) X.xe s
def PSs(X:Cx)(st:List Stmt)(t:TS):Prop:=
 ∀(pr:List (WP×Obj)) (s:WF) (σ:St) (H:Hp) (D:Ends),Inv X pr σ H s->t D σ H->wpAny @c X.A (execs st X.env) (SP X pr D) X.xe s
variable{α:Type}{A:Uf}{E:Wp->WF->Prop}
theorem KN{t:Sem α}(h:wpAny M A t Q E s)(hQ:∀a s,Q a s->Q' a s):wpAny M A t Q' E s:=XO h hQ λ_ _ x=>x
variable{Q:Wp->WF->Prop}{ta:TE}{σ:St}
section
theorem bin{a b:Expr}{tb:TE}(ha:PE X a ta)(hb:PE X b tb){R:V->V->Hp->Prop}(I:Inv X pr σ H s)(h:ta σ H λx H1=>tb σ H1 λy H2=>R x y H2)
  {Q:α->WF->Prop}{f:Wp->Wp->Sem α}
  (hf:∀v u s2 x y H2,Inv X pr σ H2 s2->RelV x v->RelV y u->R x y H2->wpAny @c X.A (f v u) Q X.xe s2):
  wpAny @c X.A (eval a X.env) (λv s₁=>wpAny @c X.A (eval b X.env) (λu s₂=>wpAny @c X.A (f v u) Q X.xe s₂) X.xe s₁) X.xe s:=by
 refine KN (ha pr s σ H _ I h) λv s1 KQ=>?_
 obtain⟨x,H1,I1,r1,q1⟩:=KQ;refine KN (hb pr s1 σ H1 _ I1 q1) λu s2 KQ=>?_
 obtain⟨y,H2,I2,r2,q2⟩:=KQ;exact hf v u s2 x y H2 I2 r1 r2 q2
noncomputable def oK(i:Nat):TE:=λσ H Q=>∃v,σ[i]?=some (some v)/\Q v H
noncomputable def tC(v:V):TE:=λ_ H Q=>Q v H
theorem DA{pos:Pos}(hN:X.N[i]?=some x)(hv:UL X.env.scope x)(hd:@o=false:=by decide)(NA:(x==("__classdict__" : Str))=false:=by decide):PE X (.Name x pos) (oK i):=by
 intro pr s σ H Q I h;obtain⟨v,e,h⟩:=h;obtain⟨m,hn,hl⟩:=I.loc;obtain⟨u,r,l⟩:=hl i x v hN e hv;have fin:EP X pr σ Q u s:=⟨v,H,I,r,h⟩
 rcases l with⟨hk,hm⟩|⟨hk,c,hc,Lm⟩
 .exact wpAny_Name (wpAny_loadName_local I.ok.kind hk hn hm fin) hd
 .rcases hk with hk|hk
  .exact wpAny_Name (wpAny_loadName_cell I.ok.kind hk hc Lm fin) hd
  .exact wpAny_Name (wpAny_loadName_free I.ok.kind hk hc Lm fin NA) hd
theorem DB{i j pos}:PE X (.Constant (.int i) j pos) (tC (.int i)):=λ_ _ _ H _ I h=>wpAny_Constant_int ⟨.int i,H,I.tok _,⟨_,rfl⟩,h⟩
theorem Ho{b j pos}:PE X (.Constant (.bool b) j pos) (tC (.bl b)):=λ_ _ _ H _ I h=>Constant_bool ⟨.bl b,H,I,rfl,h⟩
theorem DD{j pos}:PE X (.Constant .none j pos) (tC .non):=λ_ _ _ H _ I h=>Constant_none ⟨.non,H,I,rfl,h⟩
theorem DE{x j pos}:PE X (.Constant (.str x) j pos) (tC (.str x)):=λ_ _ _ H _ I h=>Calls.Constant_str ⟨.str x,H,I.tok _,⟨_,rfl⟩,h⟩
def Gl(X:Cx)(x:Str):Prop:=X.env.kindOf x=some .globalImplicit
theorem jr{E:Wp->WF->Prop}{pos:Pos}(I:Inv X pr σ H s)(hg:Gl X x)(hm:X.mg x=some u)(h:Q u s)
  (hd:@o=false:=by decide):wpAny @c X.A (eval (.Name x pos) X.env) Q E s:=
 Calls.Name_function_global I.ok.kind hg (Calls.loadGlobal_global (by rw[I.ok.glob];exact I.mod.glob.keeps I.bk) hm h) hd
theorem eQ{E:Wp->WF->Prop}{pos:Pos}(I:Inv X pr σ H s)(hg:Gl X x)(hm:X.mg x=none)(hv:bootBuiltins x=some u)(h:Q u s)
  (hn:x≠"__name__":=by decide) (hd:@o=false:=by decide):wpAny @c X.A (eval (.Name x pos) X.env) Q E s:=by
 obtain⟨mb,h1,h2⟩:=I.mod.blt;exact Calls.Name_function_global I.ok.kind hg (Calls.loadGlobal_builtin (by rw[I.ok.glob];exact I.mod.glob.keeps I.bk) hm (by rw[I.ok.blt];exact h1.keeps I.bk) ((h2 x hn).trans hv) h) hd
theorem tG{pos:Pos}(hg:Gl X x)(hm:X.mg x=some u)(r:RelV v u)(hd:@o=false:=by decide):PE X (.Name x pos) (tC v):=
 λ_ _ _ H _ I h=>jr I hg hm ⟨v,H,I,r,h⟩ hd
theorem Aq{pos:Pos}(hg:Gl X x)(hm:X.mg x=none)(hv:bootBuiltins x=some u)(r:RelV v u)(hn:x≠"__name__":=by decide)(hd:@o=false:=by decide):PE X (.Name x pos) (tC v):=
 λ_ _ _ H _ I h=>eQ I hg hm hv ⟨v,H,I,r,h⟩ hn hd
variable{a b:Expr}{tb:TE}{pos:Pos}
def PC(X:Cx)(op:CmpOp)(a b:Expr)(t:TE):Prop:=
 ∀(pr:List (WP×Obj)) (s:WF) (σ:St) (H:Hp) (Q:VK),Inv X pr σ H s->t σ H Q->
  wpAny @c X.A (eval a X.env) (λv s₁=>wpAny @c X.A (eval b X.env) (λu s₂=>wpAny @c X.A (compareOp op v u) (EP X pr σ Q) X.xe s₂) X.xe s₁) X.xe s
theorem xh(b:Expr){op:CmpOp}(h:op≠.In)(h2:op≠.NotIn):behindInMarks op b=false:=by
 have e1:(op==CmpOp.In)=false:=by cases op <;> first|rfl|exact absurd rfl h
 have e2:(op==CmpOp.NotIn)=false:=by cases op <;> first|rfl|exact absurd rfl h2
 cases b <;> simp[behindInMarks,e1,e2]
noncomputable def tB(t:TE):TT:=λσ H Q=>t σ H λx H1=>∃c,x=.bl c/\Q c H1
theorem I0{op:CmpOp}{t:TE}(h:PC X op a b t)(h1:behindInMarks op b=false:=by first|exact xh _ @b @b|rfl):PT X (.Compare a [op] [b] pos) (tB t):=by
 intro pr s σ H Q I hw;refine wpAny_isTrue_Compare1 (KN (h pr s σ H _ I hw) λv s1 h1=>KN h1 λu s2 h2=>KN h2 λc s3 ⟨x,H1,I1,r1,q1⟩=>?_) h1;obtain⟨d,rfl,q⟩:=q1;cases r1;exact YL ⟨H1,I1,q⟩
theorem DF{t:TE}(h:PE X e t)(he:∀whole,isTrue e X.env whole=(do let v <-whole;standAt e.pos;holding [v] (truthy v)):=by intro _;rfl):PT X e (tB t):=by
 intro pr s σ H Q I hw;refine isTrue_plain (KN (h pr s σ H _ I hw) λv s1 ⟨x,H1,I1,r1,q1⟩=>?_) (he _);obtain⟨d,rfl,q⟩:=q1;cases r1;exact YL ⟨H1,I1,q⟩
variable{tA T3:TT}{aZ:List Expr}
noncomputable def Jv(t u:TT):TT:=λσ H Q=>t σ H λc H1=>if c=true then u σ H1 Q else Q false H1
noncomputable def tOr(t u:TT):TT:=λσ H Q=>t σ H λc H1=>if c=true then Q true H1 else u σ H1 Q
noncomputable def Jw(t:TT):TT:=λσ H Q=>t σ H λc H1=>Q (!c) H1
theorem Ar(ha:PT X a tA):PW X (.BoolOp .And [a] pos) tA:=by
 intro wh pr s σ H Q I h;refine isTrue_and (KN (ha pr s σ H Q I h) λc s1 e=>?_);cases c with
 |true=>exact isTrue_and_nil e
 |false=>exact e
theorem DG(ha:PT X a tA):PW X (.BoolOp .Or [a] pos) tA:=by
 intro wh pr s σ H Q I h;refine isTrue_or (KN (ha pr s σ H Q I h) λc s1 e=>?_);cases c with
 |false=>exact isTrue_or_nil e
 |true=>exact e
theorem DH(ha:PT X a tA)(hb:PW X (.BoolOp .And (b::aZ) pos) T3):PW X (.BoolOp .And (a::b::aZ) pos) (Jv tA T3):=by
 intro wh pr s σ H Q I h;refine isTrue_and (KN (ha pr s σ H _ I h) λc s1 KQ=>?_);obtain⟨H1,I1,q1⟩:=KQ;cases c with
 |true=>exact hb wh pr s1 σ H1 Q I1 q1
 |false=>exact⟨H1,I1,q1⟩
theorem Hq(ha:PT X a tA)(hb:PW X (.BoolOp .Or (b::aZ) pos) T3):PW X (.BoolOp .Or (a::b::aZ) pos) (tOr tA T3):=by
 intro wh pr s σ H Q I h;refine isTrue_or (KN (ha pr s σ H _ I h) λc s1 KQ=>?_);obtain⟨H1,I1,q1⟩:=KQ;cases c with
 |true=>exact⟨H1,I1,q1⟩
 |false=>exact hb wh pr s1 σ H1 Q I1 q1
theorem DI(ha:PT X a tA):PT X (.UnaryOp .Not a pos) (Jw tA):=by
 intro pr s σ H Q I h;exact isTrue_not (ha pr s σ H (λc H1=>Q (!c) H1) I h)
noncomputable def Hr(ta tb:TE):TE:=λσ H Q=>ta σ H λx H1=>∃c,x=.bl c/\if c=true then tb σ H1 Q else Q (.bl false) H1
noncomputable def Hs(ta:TE):TE:=λσ H Q=>ta σ H λx H1=>∃c,x=.bl c/\Q (.bl (!c)) H1
theorem DJ{op}{t:TE}(h:PE X a t):PE X (.BoolOp op [a] pos) t:=λpr s σ H Q I hw=>BoolOp_one (h pr s σ H Q I hw)
theorem DK(ha:PE X a ta)(hb:PE X (.BoolOp .And (b::aZ) pos) tb):PE X (.BoolOp .And (a::b::aZ) pos) (Hr ta tb):=by
 intro pr s σ H Q I h;refine BoolOp_and (KN (ha pr s σ H _ I h) λv s1 KQ=>?_);obtain⟨x,H1,I1,r1,q1⟩:=KQ;obtain⟨c,rfl,q1⟩:=q1;cases r1;refine YL ?_;cases c with
 |true=>exact hb pr s1 σ H1 Q I1 q1
 |false=>exact⟨.bl false,H1,I1,rfl,q1⟩
theorem y0(ha:PE X a ta):PE X (.UnaryOp .Not a pos) (Hs ta):=by
 intro pr s σ H Q I h;refine UnaryOp_ (KN (ha pr s σ H _ I h) λv s1 KQ=>?_);obtain⟨x,H1,I1,r1,q1⟩:=KQ;obtain⟨c,rfl,q1⟩:=q1;cases r1;exact not_of (YL ⟨.bl (!c),H1,I1,rfl,q1⟩)
end
def SqL(K:W.Frag)(H:Hp)(a:WP)(xs:List V):Prop:=
 Rd H a (.lst xs)\/
  ∃(o:Obj) (Kt:Array Wp) (n:Nat),K.lookup a=some o/\o.cls=.type "list"/\o.dict=none/\o.data=.seq Kt n/\Kt.size<=sizeLine/\Vals xs Kt.toList
def SqT(K:W.Frag)(H:Hp)(a:WP)(xs:List V):Prop:=
 Rd H a (.tup xs)\/
  ∃(o:Obj) (Kt:Array Wp) (n:Nat),K.lookup a=some o/\o.cls=.type "tuple"/\o.dict=none/\o.data=.seq Kt n/\Kt.size<=sizeLine/\Vals xs Kt.toList
noncomputable def Jx:Wp->Option V
 | .none=>some .non
 | .bool b=>some (.bl b)
 | .int i _=>some (.int i)
 | .str x _=>some (.str x)
 | .bytes b _=>some (.byt b)
 | .float b _=>some (.flt b)
 | .ref a=>some (.ref a)
 | .type n=>some (.ty n)
 |_=>none
theorem RelV.abs{x:V}(r:RelV x u):Jx u=some x:=by
 cases x with
 |non=>cases r;rfl
 |bl _=>cases r;rfl
 |int _=>obtain⟨t,rfl⟩:=r;rfl
 |str _=>obtain⟨t,rfl⟩:=r;rfl
 |byt _=>obtain⟨t,rfl⟩:=r;rfl
 |flt _=>obtain⟨t,rfl⟩:=r;rfl
 |ref _=>cases r;rfl
 |ty _=>cases r;rfl
theorem RelV.inj{x y:V}(r:RelV x u)(q:RelV y u):x=y:=Xj (r.abs.symm.trans q.abs)
theorem Vals.inj:∀{xs ys:List V}{us:List Wp},Vals xs us->Vals ys us->xs=ys
 |_,_,_,.nil,.nil=>rfl
 |_,_,_,.cons r t,.cons r' t'=>by rw[r.inj r',Vals.inj t t']
variable{xs:List V}{K:W.Frag}
section
variable{ys:List V}
theorem SqL.of(h:H a=some (.lst xs)):SqL K H a xs:=.inl (.inl h)
theorem SqT.of(h:H a=some (.tup xs)):SqT K H a xs:=.inl (.inl h)
theorem Inv.list(I:Inv X pr σ H s)(h:SqL X.K H a xs):∃Kt:List Wp,Vals xs Kt/\PlainL s.heap a Kt.toArray/\xs.length<=sizeLine:=by
 rcases h with h|⟨o,Kt,n,hk,hc,hd,hs,hz,r⟩
 .obtain⟨z,Kt,n,r,e⟩:=h.ok I.hok;exact⟨Kt,r,⟨_,n,e,rfl,rfl,rfl⟩,z⟩
 .refine⟨Kt.toList,r,⟨o,n,I.kIn a o hk,hc,hd,by simpa using hs⟩,?_⟩;have e:=r.length;simp![W0]at e;lia
theorem Inv.tupleN(I:Inv X pr σ H s)(h:SqT X.K H a xs):∃Kt:List Wp,Vals xs Kt/\IsTupN s.heap a Kt.toArray/\xs.length<=sizeLine:=by
 rcases h with h|⟨o,Kt,n,hk,hc,hdn,hs,hz,r⟩
 .obtain⟨z,Kt,r,p⟩:=h.ok I.hok;exact⟨Kt,r,p,z⟩
 .refine⟨Kt.toList,r,⟨o,I.kIn a o hk,hc,⟨n,by simpa using hs⟩,hdn⟩,?_⟩;have e:=r.length;simp![W0]at e;lia
theorem Inv.tuple(I:Inv X pr σ H s)(h:SqT X.K H a xs):∃Kt:List Wp,Vals xs Kt/\IsTup s.heap a Kt.toArray/\xs.length<=sizeLine:=by
 obtain⟨Kt,r,p,z⟩:=I.tupleN h;exact⟨Kt,r,p.tup,z⟩
theorem Inv.list_inj(I:Inv X pr σ H s)(h:SqL X.K H a xs)(h':SqL X.K H a ys):xs=ys:=by
 obtain⟨Kt,r,⟨o,n,e,_,_,d⟩,_⟩:=I.list h;obtain⟨its',r',⟨o',n',e',_,_,d'⟩,_⟩:=I.list h';rw[e]at e';cases e';rw[d]at d';injection d' with d1 _;have:Kt=its':=by simpa using Yp Array.toList d1
 subst this;exact r.inj r'
theorem Inv.tuple_inj(I:Inv X pr σ H s)(h:SqT X.K H a xs)(h':SqT X.K H a ys):xs=ys:=by
 obtain⟨Kt,r,⟨o,e,_,n,d⟩,_⟩:=I.tuple h;obtain⟨its',r',⟨o',e',_,n',d'⟩,_⟩:=I.tuple h';rw[e]at e';cases e';rw[d]at d';injection d' with d1 _;have:Kt=its':=by simpa using Yp Array.toList d1
 subst this;exact r.inj r'
end
abbrev Cx.wish(X:Cx)(E:Wp->WF->Prop):Cx:={X with xe:=E}
abbrev Cx.nox(X:Cx):Cx:=X.wish λ_ _=>False
theorem Cx.Ok.wish{X:Cx}(ok:X.Ok)(E:Wp->WF->Prop):(X.wish E).Ok:=
 ⟨ok.mod,ok.kind,ok.glob,ok.blt,ok.above,ok.inj,ok.has,ok.cab,ok.hd,ok.frames,ok.stk,ok.exf,ok.bs,ok.bsz,ok.noex,ok.exfs,ok.funs,ok.frf⟩
theorem Cx.Ok.unwish(ok:(X.wish E).Ok):X.Ok:=
 ⟨ok.mod,ok.kind,ok.glob,ok.blt,ok.above,ok.inj,ok.has,ok.cab,ok.hd,ok.frames,ok.stk,ok.exf,ok.bs,ok.bsz,ok.noex,ok.exfs,ok.funs,ok.frf⟩
section
theorem Inv.wish(I:Inv X pr σ H s)(E:Wp->WF->Prop):Inv (X.wish E) pr σ H s:=⟨I.ok.wish E,I.os,I.bare,I.base,I.loc,I.cell,I.free,I.freeC,I.pin,I.hok,I.len⟩
theorem Inv.unwish(I:Inv (X.wish E) pr σ H s):Inv X pr σ H s:=⟨I.ok.unwish,I.os,I.bare,I.base,I.loc,I.cell,I.free,I.freeC,I.pin,I.hok,I.len⟩
theorem SP.unwish{D:Ends}{s':WF}(h:SP (X.wish E) pr D f s'):SP X pr D f s':=by
 cases f with
 |next=>obtain⟨σ',H',I,q⟩:=h;exact⟨σ',H',I.unwish,q⟩
 |brk=>obtain⟨σ',H',I,q⟩:=h;exact⟨σ',H',I.unwish,q⟩
 |cont=>obtain⟨σ',H',I,q⟩:=h;exact⟨σ',H',I.unwish,q⟩
 |ret u=>obtain⟨v,σ',H',I,r,q⟩:=h;exact⟨v,σ',H',I.unwish,r,q⟩
theorem PT.nox{t:TT}(h:PT X.nox e t):PT X e t:=λpr s σ H Q I hw=>
 XO (h pr s σ H Q (I.wish _) hw) (λ_ _ ⟨H',I',q⟩=>⟨H',I'.unwish,q⟩) λ_ _ z=>False.elim z
theorem PSs.nox{st:List Stmt}{t:TS}(h:PSs X.nox st t):PSs X st t:=λpr s σ H D I hw=>
 XO (h pr s σ H D (I.wish _) hw) (λ_ _ q=>q.unwish) λ_ _ z=>False.elim z
end
variable{te:TE}{c:Expr}{tc:TT}
section
variable{st:Stmt}{aZ:List Stmt}{t u:TS}{pos:Pos}
noncomputable def Ht:TS:=λD σ H=>D.nx σ H
noncomputable def Jy(t u:TS):TS:=λD σ H=>t {D with nx:=u D} σ H
theorem tH:PSs X [] Ht:=λ_ _ σ H _ I h=>ZK ⟨σ,H,I,h⟩
theorem k4(h1:PS X st t)(h2:PSs X aZ u):PSs X (st::aZ) (Jy t u):=by
 intro pr s σ H D I h;refine YV (KN (h1 pr s σ H {D with nx:=u D} I h) λf s1 q=>?_);cases f with
 |next=>
  obtain⟨σ',H',I',q⟩:=q;exact h2 pr s1 σ' H' D I' q
 |ret v=>exact q
 |brk=>exact q
 |cont=>exact q
theorem As(h1:PS X st t):PSs X [st] t:=by
 intro pr s σ H D I h;refine YV (KN (h1 pr s σ H D I h) λf s1 q=>?_);cases f with
 |next=>exact ZK q
 |ret v=>exact q
 |brk=>exact q
 |cont=>exact q
theorem Inv.quiet(I:Inv X pr σ H s):interactive X.env=false:=by simp[interactive,I.ok.kind]
noncomputable def Hu(te:TE):TS:=λD σ H=>te σ H λ_ H1=>D.nx σ H1
theorem Au(he:PE X e te)(hs:swapsWith e none pos.line X.env=pure false:=by rfl):PS X (.Expr e pos) (Hu te):=by
 intro pr s σ H D I h;exact wpAny_Expr_any (KN (he pr s σ H _ I h) λv s1 ⟨x,H1,I1,r1,q1⟩=>⟨σ,H1,I1,q1⟩) I.quiet hs
noncomputable def Jz(te:TE):TS:=λD σ H=>te σ H D.rt
theorem y1(he:PE X e te):PS X (.Return (some e) pos) (Jz te):=by
 intro pr s σ H D I h;exact wpAny_Return_some (KN (he pr s σ H _ I h) λv s1 ⟨x,H1,I1,r1,q1⟩=>⟨x,σ,H1,I1,r1,q1⟩)
noncomputable def JA(c:TT)(t u:TS):TS:=λD σ H=>c σ H λb H1=>if b=true then t D σ H1 else u D σ H1
theorem Hv{a b:List Stmt}(hc:PT X c tc)(ha:PSs X a t)(hb:PSs X b u):PS X (.If c a b pos) (JA tc t u):=by
 intro pr s σ H D I h;refine wpAny_If (KN (hc pr s σ H _ I h) λd s1 KQ=>?_);obtain⟨H1,I1,q1⟩:=KQ;cases d with
 |true=>exact ha pr s1 σ H1 D I1 q1
 |false=>exact hb pr s1 σ H1 D I1 q1
noncomputable def DL:TS:=λ_ _ _=>False
theorem xi:PS X st DL:=λ_ _ _ _ _ _ h=>h.elim
end
abbrev TG:=V->St->Hp->(St->Hp->Prop)->Prop
abbrev Qc:=List V->St->Hp->(St->Hp->Prop)->Prop
def PG(X:Cx)(target:Expr)(t:TG):Prop:=
 ∀(pr:List (WP×Obj)) (s:WF) (σ:St) (H:Hp) (v:V) (u:Wp) (Q:St->Hp->Prop),Inv X pr σ H s->RelV v u->t v σ H Q->
  wpAny @c X.A (assign target X.env u) (λ_ s'=>∃σ' H',Inv X pr σ' H' s'/\Q σ' H') X.xe s
def QD(X:Cx)(ts:List Expr)(t:Qc):Prop:=
 ∀(pr:List (WP×Obj)) (s:WF) (σ:St) (H:Hp) (vs:List V) (us:List Wp) (Q:St->Hp->Prop),Inv X pr σ H s->Vals vs us->t vs σ H Q->
  wpAny @c X.A (assignInOrder ((assignEach ts X.env).map (·.2)) us) (λ_ s'=>∃σ' H',Inv X pr σ' H' s'/\Q σ' H') X.xe s
abbrev JB:=V->V->V->Hp->(Hp->Prop)->Prop
def JC(X:Cx)(t:JB):Prop:=
 ∀(pr:List (WP×Obj)) (s:WF) (σ:St) (H:Hp) (o i v:V) (ov iv u:Wp) (Q:Hp->Prop),Inv X pr σ H s->RelV o ov->RelV i iv->RelV v u->t o i v H Q->
  wpAny @c X.A (setItem ov iv u) (λ_ s'=>∃H',Inv X pr σ H' s'/\Q H') X.xe s
variable{es:List Expr}{n:Nat}{tg:Expr}
section
variable{pos:Pos}
noncomputable def DM(i:Nat):TG:=λv σ H Q=>Q (σ.set i (some v)) H
theorem Av(hN:X.N.Nodup)(hi:X.N[i]?=some x)(hx:Loc X.env.scope x)(hf:X.fn x=true\/X.env.scope.names.lookup x=some .local:=by first|exact .inl rfl|exact .inr rfl|assumption):PG X (.Name x pos) (DM i):=by
 intro pr s σ H v u Q I r h;exact wpAny_assign_Name (kZ I hN hi hx r (λs' I'=>⟨_,H,I',h⟩) hf)
noncomputable def JD:Qc:=λvs σ H Q=>vs=[]/\Q σ H
noncomputable def Hw(t:TG)(u:Qc):Qc:=λvs σ H Q=>∃v r,vs=v::r/\t v σ H λσ' H'=>u r σ' H' Q
theorem Aw:QD X [] JD:=by
 intro pr s σ H vs us Q I r h;obtain⟨e,h⟩:=h;subst e;cases r;exact assignInOrder_nil ⟨σ,H,I,h⟩
theorem xj{t:TG}{u:Qc}(h1:PG X e t)(h2:QD X es u)
  (hs:(assignEach (e::es) X.env).map (·.2)=assign e X.env::(assignEach es X.env).map (·.2):=by rfl):QD X (e::es) (Hw t u):=by
 intro pr s σ H vs us Q I r h;obtain⟨v,vr,e1,h⟩:=h;subst e1;cases r with
 |cons r rr=>
  rw[hs];refine assignInOrder_cons (KN (h1 pr s σ H _ _ _ I r h) λ_ s1 KQ=>?_);obtain⟨σ1,H1,I1,q1⟩:=KQ;exact h2 pr s1 σ1 H1 _ _ Q I1 rr q1
noncomputable def JE(K:W.Frag)(n:Nat)(t:Qc):TG:=λv σ H Q=>∃a xs,v=.ref a/\SqT K H a xs/\xs.length=n/\t xs σ H Q
theorem DN{k:Nat}{t:Qc}(hc:X.calm=true)(h:QD X es t)
  (hn:(assignEach es X.env).length=n:=by rfl) (Mf:(assignEach es X.env).findIdx? (·.1)=none:=by rfl):PG X (.Tuple es k pos) (JE X.K n t):=by
 intro pr s σ H v u Q I r hw;obtain⟨a,xs,e1,hq,hl,hw⟩:=hw;subst e1;cases r;obtain⟨Kt,rv,ht,hz⟩:=I.tuple hq;refine assign_Tuple_tuple (I.ok.hd hc) ht (by simp[hn,<-hl,rv.length]) Mf λh' hx=>?_
 have I1:Inv X pr σ H {s with heap:=h'}:=I.kept (t':=s.toks) λb o e=>hx b o (Xh (W4 e)) e
 exact h pr _ σ H xs _ Q I1 (by simpa using rv) hw
noncomputable def Ja(te:TE)(g:TG):TS:=λD σ H=>te σ H λx H1=>g x σ H1 D.nx
theorem DO(he:PE X e te)(hg:PG X tg g)(hs:swapsWithSole [tg] e pos.line X.env=pure false:=by rfl)(hw:swappedStores [tg] e X.env=pure none:=by rfl)(h1:(assignEach [tg] X.env).map (·.2)=[assign tg X.env]:=by rfl):PS X (.Assign [tg] e pos) (Ja te g):=by
 intro pr s σ H D I h;refine wpAny_Assign_stores (KN (he pr s σ H _ I h) λv s1 ⟨x,H1,I1,r1,q1⟩=>?_) hs hw;rw[h1];exact KN (hg pr s1 σ H1 x v _ I1 r1 q1) λ_ s2 q=>q
theorem tI(hN:X.N.Nodup)(hi:X.N[i]?=some x)(hx:Loc X.env.scope x)(he:PE X e te)(hs:swapsWith e (some (.Name x pos')) pos.line X.env=pure false:=by rfl)(hf:X.fn x=true\/X.env.scope.names.lookup x=some .local:=by first|exact .inl rfl|exact .inr rfl|assumption):
  PS X (.Assign [.Name x pos'] e pos) (Ja te (DM i)):=by
 intro pr s σ H D I h;refine wpAny_Assign_Name (KN (he pr s σ H _ I h) λv s1 ⟨y,H1,I1,r1,q1⟩=>?_) hs;exact kZ I1 hN hi hx r1 (λs2 I2=>⟨_,H1,I2,q1⟩) hf
end
variable{tb:TS}{body:List Stmt}
section
variable{pos:Pos}
noncomputable def DP(c:TT)(tb:TS):TS:=λD σ H=>∃W:Nat->St->Hp->Prop,(∃m,W m σ H)/\∀m σ H,W m σ H->
 c σ H λb H1=>if b=true then ∃N:St->Hp->Prop,(∀σ' H',N σ' H'->∃m',m'<m/\W m' σ' H')/\tb {D with nx:=N,ct:=N,bk:=D.nx} σ H1 else D.nx σ H1
theorem xk(hp:PassesOwn @c X.A X.env X.xe)(hc:PT X c tc)(hb:PSs X body tb):PS X (.While c body [] pos) (DP tc tb):=by
 intro pr s σ H D I h;obtain⟨W,⟨m0,w0⟩,turn⟩:=h;refine wpAny_While (codeAny_whileLoop (λn s'=>∃σ' H',Inv X pr σ' H' s'/\W n σ' H') ?_ m0 ⟨σ,H,I,w0⟩);rintro n s1 ⟨σ1,H1,I1,w1⟩;refine Y9 hp (KN (hc pr s1 σ1 H1 _ I1 (turn n σ1 H1 w1)) λb s2 KQ=>?_);obtain⟨H2,I2,q2⟩:=KQ;cases b with
 |true=>
  obtain⟨N,hN,q2⟩:=q2;rw[WV rfl];refine Y9 hp (KN (hb pr s2 σ1 H2 _ I2 q2) λf s3 q3=>?_);cases f with
  |next=>
   obtain⟨σ3,H3,I3,n3⟩:=q3;obtain⟨m',hm,w3⟩:=hN σ3 H3 n3;exact⟨m',hm,σ3,H3,I3,w3⟩
  |cont=>
   obtain⟨σ3,H3,I3,n3⟩:=q3;obtain⟨m',hm,w3⟩:=hN σ3 H3 n3;exact⟨m',hm,σ3,H3,I3,w3⟩
  |brk=>exact q3
  |ret v=>exact q3
 |false=>
  rw[W6 WT];exact ZK ⟨σ1,H2,I2,q2⟩
end
structure It where
 go:Nat->Hp->Prop
 yld:Nat->Hp->V->Hp->Prop
 stop:Nat->Hp->Prop
def sY(X:Cx)(pr:List (WP×Obj))(H:Hp)(b:WP):Prop:=
 H b=none/\b≠X.env.locals/\b∉X.fs/\(b∈X.ex\/X.s₀.heap.objs.size<=b)/\(∀x c,X.env.cells.lookup x=some c->c≠b)/\∀p∈X.pn++pr,p.1≠b
theorem Inv.fpOk(I:Inv X pr σ H s)(hb:s.heap.objs.size<=b)(hn:H' b=none):sY X pr H' b:=by
 refine⟨hn,acd (W9 I.lt hb),I.nofs hb,.inr (Xz I.sz hb),λx c e z=>?_,λp hp z=>?_⟩
 .obtain⟨v,q⟩:=I.cell x c e;exact absurd (W9 q.lt (by rw[z];exact hb)) (Yv _)
 .exact absurd (W9 (W4 (I.pin p hp).1) (by rw[z];exact hb)) (Yv _)
structure Turn(P:W1)(w:World)(K:W.Frag)(tg:Expr)(J:It)(fp:List WP)(it:WP)(tn:Nat->UF->Prop):Prop where
 mem:it∈fp
 obj:∀i h,tn i h->∀b∈fp,∃o,h.get? b=some o/\∀v,o.data≠.cell v
 keep:∀i h h',tn i h->(∀b∈fp,∀o,h.get? b=some o->h'.get? b=some o)->tn i h'
 item:∀(X:Cx),X.prog=P->X.w=w->X.K=K->X.calm=true->∀(i:Nat) (pr:List (WP×Obj)) (s:WF) (σ:St) (H:Hp) (E:Wp->WF->Prop),Inv X pr σ H s->(∀b∈fp,sY X pr H b)->tn i s.heap->J.go i H->
  wpAny (model P w) X.A (pyNext (.ref it)) (λr s1=>∃u,r=some u/\
   wpAny (model P w) X.A (letOwnedTupleGo tg (.ref it) u) (λ_ s2=>∃x H',Inv X pr σ H' s2/\RelV x u/\J.yld i H x H'/\tn (i+1) s2.heap/\∀b∈fp,H' b=none) E s1) E s
 done:∀(X:Cx),X.prog=P->X.w=w->X.K=K->X.calm=true->∀(i:Nat) (pr:List (WP×Obj)) (s:WF) (σ:St) (H:Hp) (E:Wp->WF->Prop),Inv X pr σ H s->(∀b∈fp,sY X pr H b)->tn i s.heap->J.stop i H->
  wpAny (model P w) X.A (pyNext (.ref it)) (λr s1=>r=none/\Inv X pr σ H s1) E s
 self:∀(A:Uf) (i:Nat) (s:WF) (Q:Wp->WF->Prop) (E:Wp->WF->Prop),tn i s.heap->Q (.ref it) s->wpAny (model P w) A (pyIter (.ref it)) Q E s
abbrev TI:=St->Hp->(It->Hp->Prop)->Prop
def UM(X:Cx)(pr:List (WP×Obj))(σ:St)(tg:Expr)(R:It->Hp->Prop)(T4:Wp)(s2:WF):Prop:=
 ∃(it:WP) (fp:List WP) (tn:Nat->UF->Prop) (J:It) (H':Hp),T4=.ref it/\Inv X pr σ H' s2/\Turn X.prog X.w X.K tg J fp it tn/\tn 0 s2.heap/\(∀b∈fp,sY X pr H' b)/\R J H'
def PI(X:Cx)(tg iter:Expr)(wi:TI):Prop:=
 ∀(pr:List (WP×Obj)) (s:WF) (σ:St) (H:Hp) (R:It->Hp->Prop),Inv X pr σ H s->wi σ H R->
  wpAny @c X.A (eval iter X.env) (λv s1=>wpAny @c X.A (pyIter v) (UM X pr σ tg R) X.xe s1) X.xe s
theorem tJ{A : Uf}{E : Wp -> WF -> Prop}{s : WF}{tg : Expr}{u : Wp}{o : Obj}{n : String}{Q : Unit -> WF -> Prop}(ho : s.heap.get? it = some o)(hc : o.cls = .type n)(hd : o.data = .fields vs)(hn : ["enumerate", "zip", "dict_itemiterator", "dict_reverseitemiterator", "odict_iterator", "itertools.zip_longest", "itertools.pairwise"].contains n = false)(hQ : Q () s): wpAny M A (letOwnedTupleGo tg (.ref it) u) Q E s := by
  unfold letOwnedTupleGo
  cases tg <;> first
    | exact WO hQ
    | (cases u <;> first
        | exact WO hQ
        | (refine WI (wpAny_load ho ?_)
           rw [hc, hd]
           show wpAny M A (if (["enumerate", "zip", "dict_itemiterator", "dict_reverseitemiterator", "odict_iterator", "itertools.zip_longest", "itertools.pairwise"].contains n && vs[0]? == some (rawInt _)) = true then _ else _) Q E s
           rw [W6 (by intro h; rw [hn, Zx] at h; cases h)]
           exact WO hQ))
noncomputable def RU(K:W.Frag)(a:WP):It:=
 ⟨λi H=>∃xs x,SqL K H a xs/\xs[i]?=some x,λi H x H'=>H'=H/\∀xs,SqL K H a xs->xs[i]?=some x,λi H=>∃xs,SqL K H a xs/\xs.length<=i⟩
noncomputable def UN(K:W.Frag)(a:WP):It:=
 ⟨λi H=>∃xs x,SqT K H a xs/\xs[i]?=some x,λi H x H'=>H'=H/\∀xs,SqT K H a xs->xs[i]?=some x,λi H=>∃xs,SqT K H a xs/\xs.length<=i⟩
noncomputable def Si(lo:Int)(n:Nat):It:=⟨λi _=>i<n,λi H x H'=>H'=H/\x=.int (lo+i),λi _=>n<=i⟩
theorem tL(a it:WP):Turn P w K tg (RU K a) [it] it (λi h=>h.IsListIter it a i) where
 mem:=by simp
 obj:=λi h st b hb=>by
  have e:b=it:=by simpa using hb
  subst e;obtain⟨o,e,c,d⟩:=st;exact⟨o,e,λv z=>by rw[d]at z;cases z⟩
 keep:=λi h h' st k=>st.at λo e=>k it @t o e
 item:=by
  intro X hP hw hK hc i pr s σ H E I hf st hg;subst hP hw hK;obtain⟨xs,x,hq,hx⟩:=hg;obtain⟨Kt,rv,p,hz⟩:=I.list hq;obtain⟨u,hu,ru⟩:=rv.get hx;obtain⟨f0,f1,f2,f3,f4,f5⟩:=hf it @t;refine wpAny_pyNext_list_item st p.isList (x:=u) (by simpa using hu) λh' L3 sb=>?_
  have I1:Inv X pr σ H {s with heap:=h'}:=I.turned (t':=s.toks) (λb o hb e=>(sb.2 b hb).trans e) f0 f1 f3 f4 f5;obtain⟨o,e,c,d⟩:=id L3;exact⟨u,rfl,tJ (s:={s with heap:=h'}) e c d @b ⟨x,H,I1,ru,⟨rfl,λys hy=>by rw[I.list_inj hy hq];exact hx⟩,L3,λb hb=>(hf b hb).1⟩⟩
 done:=by
  intro X hP hw hK hc i pr s σ H E I hf st hg;subst hP hw hK;obtain⟨xs,hq,hx⟩:=hg;obtain⟨Kt,rv,p,hz⟩:=I.list hq;obtain⟨f0,f1,f2,f3,f4,f5⟩:=hf it @t;have hl:=rv.length;exact wpAny_pyNext_list_end (I.ok.hd hc) st p.isList (by simp;lia) λh' eb=>⟨rfl,I.turned (t':=s.toks) (λb o hb e=>eb b o hb e) f0 f1 f3 f4 f5⟩
 self:=λ_ _ _ _ _ st h=>wpAny_pyIter_listiter st h
theorem rP(a it:WP):Turn P w K tg (UN K a) [it] it (λi h=>h.IsTupleIter it a i) where
 mem:=by simp
 obj:=λi h st b hb=>by
  have e:b=it:=by simpa using hb
  subst e;obtain⟨o,e,c,d⟩:=st;exact⟨o,e,λv z=>by rw[d]at z;cases z⟩
 keep:=λi h h' st k=>st.at λo e=>k it @t o e
 item:=by
  intro X hP hw hK hc i pr s σ H E I hf st hg;subst hP hw hK;obtain⟨xs,x,hq,hx⟩:=hg;obtain⟨Kt,rv,p,hz⟩:=I.tuple hq;obtain⟨u,hu,ru⟩:=rv.get hx;obtain⟨f0,f1,f2,f3,f4,f5⟩:=hf it @t;refine wpAny_pyNext_tuple_item st (show s.heap.IsTuple a Kt.toArray from p) (x:=u) (by simpa using hu) λh' L3 sb=>?_
  have I1:Inv X pr σ H {s with heap:=h'}:=I.turned (t':=s.toks) (λb o hb e=>(sb.2 b hb).trans e) f0 f1 f3 f4 f5;obtain⟨o,e,c,d⟩:=id L3;exact⟨u,rfl,tJ (s:={s with heap:=h'}) e c d @b ⟨x,H,I1,ru,⟨rfl,λys hy=>by rw[I.tuple_inj hy hq];exact hx⟩,L3,λb hb=>(hf b hb).1⟩⟩
 done:=by
  intro X hP hw hK hc i pr s σ H E I hf st hg;subst hP hw hK;obtain⟨xs,hq,hx⟩:=hg;obtain⟨Kt,rv,p,hz⟩:=I.tuple hq;obtain⟨f0,f1,f2,f3,f4,f5⟩:=hf it @t;have hl:=rv.length;exact wpAny_pyNext_tuple_end (I.ok.hd hc) st (show s.heap.IsTuple a Kt.toArray from p) (by simp;lia) λh' eb=>⟨rfl,I.turned (t':=s.toks) (λb o hb e=>eb b o hb e) f0 f1 f3 f4 f5⟩
 self:=λ_ _ _ _ _ st h=>wpAny_pyIter_tupleiter st h
theorem rQ(it:WP)(lo:Int)(n:Nat):Turn P w K tg (Si lo n) [it] it (λi h=>IsRangeIter h it (lo+(i:Nat)*1) ((n:Int)-(i:Nat)) 1) where
 mem:=by simp
 obj:=λi h st b hb=>by
  have e:b=it:=by simpa using hb
  subst e;exact⟨_,st,λv z=>by
   have z':Data.fields _=Data.cell v:=z;cases z'⟩
 keep:=λi h h' st k=>k it @t _ st
 item:=by
  intro X hP hw hK hc i pr s σ H E I hf st hg;subst hP hw hK;obtain⟨f0,f1,f2,f3,f4,f5⟩:=hf it @t;have W:=Walks.range (prog:=X.prog) (w:=X.w) (I.ok.hd hc) it lo 1 n;refine W.item i s _ _ hg st λv h' tk hv L3 kk=>?_
  obtain⟨t,rfl⟩:=hv;have I1:Inv X pr σ H {s with heap:=h',toks:=tk}:=I.turned (λb o hb e=>kk b o (by simpa using hb) e) f0 f1 f3 f4 f5;refine⟨_,rfl,tJ (s:={s with heap:=h',toks:=tk}) (n:="range_iterator") L3 rfl rfl @b ⟨.int (lo+i),H,I1,⟨t,?_⟩,⟨rfl,rfl⟩,L3,λb hb=>(hf b hb).1⟩⟩;rw[Int.mul_one]
 done:=by
  intro X hP hw hK hc i pr s σ H E I hf st hg;subst hP hw hK;obtain⟨f0,f1,f2,f3,f4,f5⟩:=hf it @t;exact wpAny_pyNext_range_end (I.ok.hd hc) st (by have:n<=i:=hg;lia) λh' eb=>⟨rfl,I.turned (t':=s.toks) (λb o hb e=>eb b o hb e) f0 f1 f3 f4 f5⟩
 self:=λ_ _ _ _ _ st h=>wpAny_pyIter_rangeiter st h
variable{l:Expr}{tl:TE}{fp:List WP}
section
def Hx(K:W.Frag)(tl:TE):TI:=λσ H R=>tl σ H λx H1=>∃a,x=.ref a/\(∃xs,SqL K H1 a xs)/\R (RU K a) H1
def JF(K:W.Frag)(tl:TE):TI:=λσ H R=>tl σ H λx H1=>∃a,x=.ref a/\(∃xs,SqT K H1 a xs)/\R (UN K a) H1
theorem tM(hl:PE X l tl):PI X tg l (Hx X.K tl):=by
 intro pr s σ H R I h;refine KN (hl pr s σ H _ I h) λv s1 KQ=>?_
 obtain⟨x,H1,I1,r1,q1⟩:=KQ;obtain⟨a,e,⟨xs,hq⟩,q⟩:=q1;subst e;cases r1;obtain⟨Kt,rv,p,hz⟩:=I1.list hq;refine YM p.isList ?_;refine⟨s1.heap.objs.size,[s1.heap.objs.size],_,_,H1,rfl,I1.kept (t':=s1.toks) λb o e=>WL _ e,tL a _,⟨_,W7 _ rfl,rfl,rfl⟩,λb hb=>?_,q⟩;have e:b=s1.heap.objs.size:=by simpa using hb
 subst e;exact I1.fpOk (WU _) (I1.hok.fresh (WU _))
theorem DQ(hl:PE X l tl):PI X tg l (JF X.K tl):=by
 intro pr s σ H R I h;refine KN (hl pr s σ H _ I h) λv s1 KQ=>?_
 obtain⟨x,H1,I1,r1,q1⟩:=KQ;obtain⟨a,e,⟨xs,hq⟩,q⟩:=q1;subst e;cases r1;obtain⟨Kt,rv,p,hz⟩:=I1.tuple hq;refine YY (show s1.heap.IsTuple a Kt.toArray from p) ?_;refine⟨s1.heap.objs.size,[s1.heap.objs.size],_,_,H1,rfl,I1.kept (t':=s1.toks) λb o e=>WL _ e,rP a _,⟨_,W7 _ rfl,rfl,rfl⟩,λb hb=>?_,q⟩;have e:b=s1.heap.objs.size:=by simpa using hb
 subst e;exact I1.fpOk (WU _) (I1.hok.fresh (WU _))
theorem pP{R:It->Hp->Prop}{lo:Int}{t u v:Tok}(I:Inv X pr σ H s)(h1:-(2 ^ 62)<=lo)(h2:lo<2 ^ 62)(h3:-(2 ^ 62)<=hi)(h4:hi<2 ^ 62)(q:R (Si lo (hi-lo).toNat) H):wpAny @c X.A (pyIter (.ref s.heap.objs.size)) (UM X pr σ tg R) E {s with heap:=s.heap.push {cls:=.type "range",data:=.fields #[.int lo t,.int hi u,.int 1 v]},toks:=tk}:=by
 refine wpAny_pyIter_range (IsRange.new ..) (small_one h1 h2 h3 h4) ?_;have I1:Inv X pr σ H {s with heap:=s.heap.push {cls:=.type "range",data:=.fields #[.int lo t,.int hi u,.int 1 v]},toks:=tk}:=I.kept λb o e=>WL _ e
 refine⟨(s.heap.push {cls:=.type "range",data:=.fields #[.int lo t,.int hi u,.int 1 v]}).objs.size,[(s.heap.push {cls:=.type "range",data:=.fields #[.int lo t,.int hi u,.int 1 v]}).objs.size],_,_,H,rfl,
  I1.kept (t':=tk) λb o e=>WL _ e,rQ _ lo (hi-lo).toNat,?_,λb hb=>?_,q⟩
 .have e1:lo+((0:Nat):Int)*1=lo:=by simp
  have e2:(((hi-lo).toNat:Nat):Int)-((0:Nat):Int)=Builtin.Range.rangeSize lo hi 1:=by rw[rangeSize_one];split <;> lia
  show IsRangeIter _ _ (lo+((0:Nat):Int)*1) ((((hi-lo).toNat:Nat):Int)-((0:Nat):Int)) 1;rw[e1,e2];exact W7 _ rfl
 .have e:b=(s.heap.push {cls:=.type "range",data:=.fields #[.int lo t,.int hi u,.int 1 v]}).objs.size:=by simpa using hb
  subst e;exact I1.fpOk (WU _) (I1.hok.fresh (WU _))
def Hy(ta:TA):TI:=λσ H R=>ta σ H λvs H1=>∃j:Int,vs=[.int j]/\-(2 ^ 62)<=j/\j<2 ^ 62/\R (Si 0 j.toNat) H1
def Hz(ta:TA):TI:=λσ H R=>ta σ H λvs H1=>∃i j:Int,vs=[.int i,.int j]/\(-(2 ^ 62)<=i/\i<2 ^ 62/\-(2 ^ 62)<=j/\j<2 ^ 62)/\R (Si i (j-i).toNat) H1
theorem tN{a:Expr}{ta:TA}{pos:Pos}(hg:Gl X "range")(hm:X.mg "range" = none)(ha:PA X [a] ta)(hs:starEach [a] X.env=[(false,eval a X.env)]:=by rfl):PI X tg (.Call (.Name "range" p) [a] [] pos) (Hy ta):=by
 intro pr s σ H R I h;refine Call_ (eQ I hg hm boot_range (X1 (KN (ha pos pr s σ H _ I h) λus s1 ⟨vs,H1,I1,r1,q1⟩=>?_) hs rfl));obtain⟨j,e,q1,q2,q⟩:=q1;subst e;cases r1 with
 |cons r rr=>
  cases rr;obtain⟨t,rfl⟩:=r;exact call_range_1 (pP I1 @a @a q1 q2 (by simpa using q))
theorem tP{a b:Expr}{ta:TA}{pos:Pos}(hg:Gl X "range")(hm:X.mg "range" = none)(ha:PA X [a,b] ta)(hs:starEach [a,b] X.env=[(false,eval a X.env),(false,eval b X.env)]:=by rfl)(M3:starEach [b] X.env=[(false,eval b X.env)]:=by rfl):
  PI X tg (.Call (.Name "range" p) [a,b] [] pos) (Hz ta):=by
 intro pr s σ H R I h;refine Call_ (eQ I hg hm boot_range (X1 (KN (ha pos pr s σ H _ I h) λus s1 ⟨vs,H1,I1,r1,q1⟩=>?_) (by rw[hs,M3]) (by rw[M3];rfl)));obtain⟨i,j,e,⟨q1,q2,q3,q4⟩,q⟩:=q1;subst e;cases r1 with
 |cons r rr=>
  cases rr with
  |cons r' rr=>
   cases rr;obtain⟨t,rfl⟩:=r;obtain⟨t',rfl⟩:=r';exact call_range_2 (pP I1 q1 q2 q3 q4 q)
noncomputable def JG(wi:TI)(g:TG)(tb:TS):TS:=λD σ H=>wi σ H λJ H1=>∃W:Nat->Nat->St->Hp->Prop,(∃m,W 0 m σ H1)/\∀i m σ H,W i m σ H->
 (J.stop i H/\D.nx σ H)\/(J.go i H/\∃N:St->Hp->Prop,(∀σ' H',N σ' H'->∃m',m'<m/\W (i+1) m' σ' H')/\∀x H',J.yld i H x H'->g x σ H' λσ2 H2=>tb {D with nx:=N,ct:=N,bk:=D.nx} σ2 H2)
noncomputable def mG(fp:List WP)(h:UF):List (WP×Obj):=fp.filterMap λb=>(h.get? b).map λo=>(b,o)
theorem fG{o:Obj}(hb:b∈fp)(e:h.get? b=some o):(b,o)∈mG fp h:=YF.mpr ⟨b,hb,by rw[e];rfl⟩
theorem tR(hp:p∈mG fp h):p.1∈fp/\h.get? p.1=some p.2:=by
 obtain⟨b,hb,e⟩:=YF.mp hp;cases q:h.get? b with
 |none=>rw[q]at e;cases e
 |some o=>
  rw[q]at e;have e':(b,o)=p:=Xj e;subst e';exact⟨hb,q⟩
theorem Inv.pinned(I:Inv X pr σ H s)(hf:∀b∈fp,sY X pr H b)(ho:∀b∈fp,∃o,s.heap.get? b=some o/\∀v,o.data≠.cell v):Inv X (pr++mG fp s.heap) σ H s:=
 I.pins_of λp hp=>(Xv.mp hp).elim (λz=>I.pin p (WQ _ z)) λz=>by
  obtain⟨hb,e⟩:=tR z;obtain⟨f0,f1,f2,_⟩:=hf p.1 hb;obtain⟨o,e',d⟩:=ho p.1 hb;rw[e]at e';cases e';exact⟨e,f0,f1,f2,d⟩
theorem Inv.unpinned(I:Inv X (pr++pl) σ H s):Inv X pr σ H s:=I.pins_of λp hp=>I.pin p (WQ _ (WR _ hp))
theorem y4{pos:Pos}(hp:PassesOwn @c X.A X.env X.xe)(hc:X.calm=true)(hi:PI X tg iter wi)(hg:PG X tg g)(hb:PSs X body tb)(hs:∀x,foldedSetIterable iter X.env x=pure x:=by intro _;rfl):PS X (.For tg iter body [] pos) (JG wi g tb):=by
 intro pr s σ H D I h;refine wpAny_For (KN (hi pr s σ H _ I h) λv s1 h1=>KN h1 λT4 s2 h2=>?_) hs;obtain⟨it,fp,tn,J,H2,e,I2,T,Kw,f2,W,⟨m0,w0⟩,turn⟩:=h2;subst e;have M4:∀{H':Hp},(∀b∈fp,H' b=none)->∀b∈fp,sY X pr H' b:=λhn b hb=>⟨hn b hb,(f2 b hb).2⟩
 refine codeAny_forLoop_any (λn s'=>∃i σ' H',Inv X pr σ' H' s'/\tn i s'.heap/\(∀b∈fp,H' b=none)/\W i n σ' H') ?_ m0 ⟨0,σ,H2,I2,Kw,λb hb=>(f2 b hb).1,w0⟩;rintro n s3 ⟨i,σ3,H3,I3,K3,Sj,w3⟩;rcases turn i n σ3 H3 w3 with⟨stop,qn⟩|⟨go,N,hN,step⟩
 .refine Y9 hp (KN (T.done X rfl rfl rfl hc i pr s3 σ3 H3 X.xe I3 (M4 Sj) K3 stop) λr s4 KQ=>?_);obtain⟨hr,I4⟩:=KQ;subst hr;exact ZK ⟨σ3,H3,I4,qn⟩
 .refine Y9 hp (KN (T.item X rfl rfl rfl hc i pr s3 σ3 H3 X.xe I3 (M4 Sj) K3 go) λr s4 KQ=>?_);obtain⟨u,hr,h4⟩:=KQ;subst hr;refine Y9 hp (KN h4 λ_ s5 KQ=>?_);obtain⟨x,H5,I5,r5,y5,L8,UO⟩:=KQ;have UP:=I5.pinned (M4 UO) (T.obj _ _ L8);refine Y9 hp (KN (hg _ s5 σ3 H5 x u _ UP r5 (step x H5 y5)) λ_ s6 KQ=>?_);obtain⟨σ6,H6,I6,q6⟩:=KQ;refine Y9 hp (KN (hb _ s6 σ6 H6 _ I6 q6) λf s7 q7=>?_);have again:∀{σ7:St}{H7:Hp},Inv X (pr++mG fp s5.heap) σ7 H7 s7->N σ7 H7->∃m,m<n/\∃i σ' H',Inv X pr σ' H' s7/\tn i s7.heap/\(∀b∈fp,H' b=none)/\W i m σ' H':=λ{σ7 H7} I7 n7=>by
   obtain⟨m',hm,w7⟩:=hN σ7 H7 n7;refine⟨m',hm,i+1,σ7,H7,I7.unpinned,T.keep _ _ _ L8 λb hb o e=>(I7.pin (b,o) (WQ _ (WQ _ (fG hb e)))).1,λb hb=>?_,w7⟩;obtain⟨o,e,d⟩:=T.obj _ _ L8 b hb;exact(I7.pin (b,o) (WQ _ (WQ _ (fG hb e)))).2.1
  cases f with
  |next=>obtain⟨σ7,H7,I7,n7⟩:=q7;exact again I7 n7
  |cont=>obtain⟨σ7,H7,I7,n7⟩:=q7;exact again I7 n7
  |brk=>obtain⟨σ7,H7,I7,q7⟩:=q7;exact⟨σ7,H7,I7.unpinned,q7⟩
  |ret v=>obtain⟨x7,σ7,H7,I7,r7,q7⟩:=q7;exact⟨x7,σ7,H7,I7.unpinned,r7,q7⟩
end
theorem for_list{g:TG}{D:Ends}(Pv:Nat->St->Hp->Prop)(h0:Pv 0 σ H)(hl:∀i σ H,i<=xs.length->Pv i σ H->SqL K H a xs)
  (hs:∀i x σ H,xs[i]?=some x->Pv i σ H->g x σ H λσ2 H2=>tb {D with nx:=Pv (i+1),ct:=Pv (i+1),bk:=D.nx} σ2 H2) (hd:∀σ H,Pv xs.length σ H->D.nx σ H):
  ∃W:Nat->Nat->St->Hp->Prop,(∃m,W 0 m σ H)/\∀i m σ H,W i m σ H->
   ((RU K a).stop i H/\D.nx σ H)\/((RU K a).go i H/\∃N:St->Hp->Prop,(∀σ' H',N σ' H'->∃m',m'<m/\W (i+1) m' σ' H')/\∀x H',(RU K a).yld i H x H'->g x σ H' λσ2 H2=>tb {D with nx:=N,ct:=N,bk:=D.nx} σ2 H2):=by
 refine⟨λi m σ H=>m=xs.length-i/\i<=xs.length/\Pv i σ H,⟨xs.length,by simp,Xw _,h0⟩,?_⟩;rintro i m σ H ⟨rfl,hi,p⟩;have q:=hl i σ H hi p;by_cases K4:i<xs.length
 .refine .inr ⟨⟨xs,xs[i],q,by simp[K4]⟩,Pv (i+1),λσ' H' p'=>⟨xs.length-(i+1),by lia,rfl,K4,p'⟩,λx H' y=>?_⟩;obtain⟨e,y⟩:=y;subst e;exact hs i x σ _ (y xs q) p
 .have e:i=xs.length:=by lia
  subst e;exact .inl ⟨⟨xs,q,WU _⟩,hd σ H p⟩
abbrev R2:=V->V->Hp->VK->Prop
def Lk(X:Cx)(f:Wp->Wp->Sem Wp)(r:R2):Prop:=
 ∀(pr:List (WP×Obj)) (s:WF) (σ:St) (H:Hp) (x y:V) (v u:Wp) (Q:VK),Inv X pr σ H s->RelV x v->RelV y u->r x y H Q->
  wpAny @c X.A (f v u) (EP X pr σ Q) X.xe s
def UQ(X:Cx)(f:Wp->Sem Wp)(r:V->Hp->VK->Prop):Prop:=
 ∀(pr:List (WP×Obj)) (s:WF) (σ:St) (H:Hp) (x:V) (v:Wp) (Q:VK),Inv X pr σ H s->RelV x v->r x H Q->
  wpAny @c X.A (f v) (EP X pr σ Q) X.xe s
def cb(X:Cx)(f:Wp)(r:List V->Hp->VK->Prop):Prop:=
 ∀(pr:List (WP×Obj)) (s:WF) (σ:St) (H:Hp) (xs:List V) (us:List Wp) (Q:VK),Inv X pr σ H s->Vals xs us->r xs H Q->
  wpAny @c X.A (call f us) (EP X pr σ Q) X.xe s
noncomputable def RV(r:R2)(ta tb:TE):TE:=λσ H Q=>ta σ H λx H1=>tb σ H1 λy H2=>r x y H2 Q
noncomputable def tUn(r:V->Hp->VK->Prop)(ta:TE):TE:=λσ H Q=>ta σ H λx H1=>r x H1 Q
noncomputable def rI(C:Int->Int->Prop)(g:Int->Int->V):R2:=λx y H Q=>∃i j,x=.int i/\y=.int j/\C i j/\Q (g i j) H
noncomputable def QF(g:Int->Int->V):R2:=λx y H Q=>∃i j,x=.int i/\y=.int j/\Q (g i j) H
noncomputable def rU(g:Int->V):V->Hp->VK->Prop:=λx H Q=>∃i,x=.int i/\Q (g i) H
variable{g:Int->Int->Int}{f:Wp->Wp->Sem Wp}{r:R2}
section
variable{a b:Expr}{tb tc:TE}{pos:Pos}
theorem HA(ha:PE X a ta)(hb:PE X b tb){R:V->V->Hp->Prop}(I:Inv X pr σ H s)
  (h:ta σ H λx H1=>tb σ H1 λy H2=>R x y H2) 
  (hf:∀v u s2 x y H2,Inv X pr σ H2 s2->RelV x v->RelV y u->R x y H2->wpAny @c X.A (f v u) Q X.xe s2):
  wpAny @c X.A (eval a X.env) (λv s₁=>wpAny @c X.A (eval b X.env) (λu s₂=>wpAny @c X.A (f v u) Q X.xe s₂) X.xe s₁) X.xe s:=by
 refine KN (ha pr s σ H _ I h) λv s1 KQ=>?_
 obtain⟨x,H1,I1,r1,q1⟩:=KQ;refine KN (hb pr s1 σ H1 _ I1 q1) λu s2 KQ=>?_
 obtain⟨y,H2,I2,r2,q2⟩:=KQ;exact hf v u s2 x y H2 I2 r1 r2 q2
theorem HB{op:Operator}(ho:Lk X (binaryOp op) r)(ha:PE X a ta)(hb:PE X b tb):PE X (.BinOp a op b pos) (RV r ta tb):=by
 intro pr s σ H Q I h;exact wpAny_BinOp (HA ha hb I h λv u s2 x y H2 I2 rx ry q=>ho pr s2 σ H2 x y v u Q I2 rx ry q)
theorem HC{op:UnaryOp}{r:V->Hp->VK->Prop}(ho:UQ X (unaryOp op) r)(ha:PE X a ta):PE X (.UnaryOp op a pos) (tUn r ta):=by
 intro pr s σ H Q I h;exact UnaryOp_ (KN (ha pr s σ H _ I h) λv s1 ⟨x,H1,I1,r1,q1⟩=>ho pr s1 σ H1 x v Q I1 r1 q1)
theorem T5{f:Wp->Wp->Sem Wp}(rule:∀(i j:Int) (t u:Tok) (s:WF) (Q:Wp->WF->Prop) (E:Wp->WF->Prop),C i j->Q (.int (g i j) s.toks) {s with toks:=s.toks+1}->wpAny @c X.A (f (.int i t) (.int j u)) Q E s):
  Lk X f (rI C λi j=>.int (g i j)):=by
 intro pr s σ H x y v u Q I rx ry h;obtain⟨i,j,rfl,rfl,hc,q⟩:=h;obtain⟨t,rfl⟩:=rx;obtain⟨t',rfl⟩:=ry;exact rule i j t t' s _ _ hc ⟨.int (g i j),H,I.tok _,⟨_,rfl⟩,q⟩
theorem Jb{f:Wp->Wp->Sem Wp}
  (rule:∀(i j:Int) (t u:Tok) (s:WF) (Q:Wp->WF->Prop) (E:Wp->WF->Prop),Q (.int (g i j) s.toks) {s with toks:=s.toks+1}->wpAny @c X.A (f (.int i t) (.int j u)) Q E s):
  Lk X f (QF λi j=>.int (g i j)):=by
 intro pr s σ H x y v u Q I rx ry h;obtain⟨i,j,rfl,rfl,q⟩:=h;obtain⟨t,rfl⟩:=rx;obtain⟨t',rfl⟩:=ry;exact rule i j t t' s _ _ ⟨.int (g i j),H,I.tok _,⟨_,rfl⟩,q⟩
theorem HD{g:Int->Int->Bool}
  (rule:∀(i j:Int) (t u:Tok) (s:WF) (Q:Wp->WF->Prop) (E:Wp->WF->Prop),Q (.bool (g i j)) s->wpAny @c X.A (f (.int i t) (.int j u)) Q E s):
  Lk X f (QF λi j=>.bl (g i j)):=by
 intro pr s σ H x y v u Q I rx ry h;obtain⟨i,j,rfl,rfl,q⟩:=h;obtain⟨t,rfl⟩:=rx;obtain⟨t',rfl⟩:=ry;exact rule i j t t' s _ _ ⟨.bl (g i j),H,I,rfl,q⟩
def JH(i j:Int):Prop:=0<j/\j<1073741824
def JI(i j:Int):Prop:=0<=j/\j<=1000000/\i.natAbs<2 ^ 64
def CMul(i j:Int):Prop:=(-(2 ^ 64)<i/\i<2 ^ 64)\/(-(2 ^ 64)<j/\j<2 ^ 64)
theorem CMul.ok{i:Int}(h:CMul i j):IntMulOk i j:=by
 rcases h with⟨h1,h2⟩|⟨h1,h2⟩
 .exact .of_left (intBits_le_64 h1 h2)
 .exact .of_right (intBits_le_64 h1 h2)
theorem DR:Lk X (binaryOp .Add) (QF λi j=>.int (i+j)):=Jb λ_ _ _ _ _ _ _ q=>add_int q
theorem DS:Lk X (binaryOp .Sub) (QF λi j=>.int (i-j)):=Jb λ_ _ _ _ _ _ _ q=>sub_int q
theorem DT:Lk X (binaryOp .Mult) (rI CMul λi j=>.int (i*j)):=T5 λ_ _ _ _ _ _ _ hc q=>mul_int q hc.ok
theorem Ax:Lk X (binaryOp .FloorDiv) (rI JH λi j=>.int (i / j)):=T5 λi j _ _ _ _ _ hc q=>by
 have h1:(0:Int)<j:=hc.1;have h2:j<1073741824:=hc.2;exact floordiv_int @a (by rw[Int.fdiv_eq_ediv_of_nonneg i @a];exact q) (.inl (PyProof.noPylong_small @a))
theorem DU:Lk X (binaryOp .Mod) (rI (λ_ j=>0<j) λi j=>.int (i%j)):=T5 λi j _ _ _ _ _ hc q=>by
 have h1:(0:Int)<j:=hc;exact mod_int' @a (by rw[Int.fmod_eq_emod_of_nonneg i @a];exact q)
theorem DV:Lk X (binaryOp .Pow) (rI JI λi j=>.int (i ^ j.toNat)):=T5 λ_ _ _ _ _ _ _ hc q=>pow_int_small hc.1 hc.2.1 hc.2.2 q
theorem unI{f:Wp->Sem Wp}{g:Int->Int}
  (rule:∀(i:Int) (t:Tok) (s:WF) (Q:Wp->WF->Prop) (E:Wp->WF->Prop),Q (.int (g i) s.toks) {s with toks:=s.toks+1}->wpAny @c X.A (f (.int i t)) Q E s):
  UQ X f (rU λi=>.int (g i)):=by
 intro pr s σ H x v Q I rx h;obtain⟨i,rfl,q⟩:=h;obtain⟨t,rfl⟩:=rx;exact rule i t s _ _ ⟨.int (g i),H,I.tok _,⟨_,rfl⟩,q⟩
theorem DW:UQ X (unaryOp .USub) (rU λi=>.int (-i)):=unI λ_ _ _ _ _ q=>neg_int q
end
variable{us:List Wp}
section
variable{a b:Expr}{tb tc:TE}{pos:Pos}
theorem tU{Q:VK}{k:Bool}(I:Inv X pr σ H s)(q:Q (.bl k) H)(e:k=k'):EP X pr σ Q (.bool k') s:=by
 subst e;exact⟨.bl k,H,I,rfl,q⟩
theorem HE:Lk X (compareOp .Lt) (QF λi j=>.bl (decide (i<j))):=HD λ_ _ _ _ _ _ _ q=>lt_int q
theorem HF:Lk X (compareOp .Gt) (QF λi j=>.bl (decide (j<i))):=HD λ_ _ _ _ _ _ _ q=>gt_int q
theorem HG:Lk X (compareOp .GtE) (QF λi j=>.bl (decide (j<=i))):=HD λ_ _ _ _ _ _ _ q=>ge_int q
theorem tV:Lk X (compareOp .Lt) (λx y H Q=>∃i j,x=.str i/\y=.str j/\Q (.bl (decide (i.cps.toList<j.cps.toList))) H):=by
 intro pr s σ H x y v u Q I rx ry h;obtain⟨i,j,rfl,rfl,q⟩:=h;obtain⟨t,rfl⟩:=rx;obtain⟨t',rfl⟩:=ry;exact lt_str (tU I q rfl)
theorem tW:Lk X (compareOp .In) (λx y H Q=>∃i j,x=.str i/\y=.str j/\Q (.bl (!(Builtin.Str.occurrences j i 0 j.length 1).isEmpty)) H):=by
 intro pr s σ H x y v u Q I rx ry h;obtain⟨i,j,rfl,rfl,q⟩:=h;obtain⟨t,rfl⟩:=rx;obtain⟨t',rfl⟩:=ry;exact in_str (tU I q rfl)
theorem mH:Lk X (compareOp .NotIn) (λx y H Q=>∃i j,x=.str i/\y=.str j/\Q (.bl (!(!(Builtin.Str.occurrences j i 0 j.length 1).isEmpty))) H):=by
 intro pr s σ H x y v u Q I rx ry h;obtain⟨i,j,rfl,rfl,q⟩:=h;obtain⟨t,rfl⟩:=rx;obtain⟨t',rfl⟩:=ry;exact notIn_str (tU I q rfl)
theorem gc(b:Expr){op:CmpOp}(h:op≠.In:=by decide)(h2:op≠.NotIn:=by decide):behindInMarks op b=false:=by
 have e1:(op==CmpOp.In)=false:=by cases op <;> first|rfl|exact absurd rfl h
 have e2:(op==CmpOp.NotIn)=false:=by cases op <;> first|rfl|exact absurd rfl h2
 cases b <;> simp[behindInMarks,e1,e2]
theorem tY{op:CmpOp}(ho:Lk X (compareOp op) r)(ha:PE X a ta)(hb:PE X b tb)(hm:behindInMarks op b=false):PE X (.Compare a [op] [b] pos) (RV r ta tb):=by
 intro pr s σ H Q I h;exact wpAny_Compare1 (HA ha hb I h λv u s2 x y H2 I2 rx ry q=>ho pr s2 σ H2 x y v u Q I2 rx ry q) hm
noncomputable def HI(t:TE):TT:=λσ H Q=>t σ H λx H'=>∃k,x=.bl k/\Q k H'
theorem tZ{op:CmpOp}(ho:Lk X (compareOp op) r)(ha:PE X a ta)(hb:PE X b tb)(hm:behindInMarks op b=false):PT X (.Compare a [op] [b] pos) (HI (RV r ta tb)):=by
 intro pr s σ H Q I h;refine wpAny_isTrue_Compare1 (KN (ha pr s σ H _ I h) λv s1 ⟨x,H1,I1,r1,q1⟩=>KN (hb pr s1 σ H1 _ I1 q1) λu s2 ⟨y,H2,I2,r2,q2⟩=>
  KN (ho pr s2 σ H2 x y v u _ I2 r1 r2 q2) λc s3 ⟨z,H3,I3,r3,k,e,q3⟩=>?_) hm
 subst e;cases r3;exact YL ⟨H3,I3,q3⟩
theorem kr:(sizeLine:Nat)<2 ^ 63:=by rw[XR];decide
theorem rR:Lk X (binaryOp .Add) (λx y H Q=>∃i j,x=.str i/\y=.str j/\i.length+j.length<=sizeLine/\Q (.str (i++j)) H):=by
 intro pr s σ H x y v u Q I rx ry h;obtain⟨i,j,rfl,rfl,hz,q⟩:=h;obtain⟨t,rfl⟩:=rx;obtain⟨t',rfl⟩:=ry;exact add_str (λt' tk=>⟨.str (i++j),H,I.tok _,⟨_,rfl⟩,q⟩) hz
theorem dM{x:V}(r:Vals [x] us):∃u,us=[u]/\RelV x u:=by
 cases r with
 |cons r1 r2=>cases r2;exact⟨_,rfl,r1⟩
theorem rS{x:V}(r:Vals [x,y] us):∃u w',us=[u,w']/\RelV x u/\RelV y w':=by
 cases r with
 |cons r1 r2=>
  cases r2 with
  |cons r3 r4=>cases r4;exact⟨_,_,rfl,r1,r3⟩
theorem ub(hc:X.calm=true):cb X (.builtin "min") (λxs H Q=>∃i j,xs=[.int i,.int j]/\Q (.int (if j<i then j else i)) H):=by
 intro pr s σ H xs us Q I r h;obtain⟨i,j,rfl,q⟩:=h;obtain⟨u,w',rfl,⟨t,rfl⟩,⟨t',rfl⟩⟩:=rS r;refine min_two_ints (I.ok.hd hc) λh' tk k=>⟨_,H,I.kept k,?_,q⟩
 by_cases hj:j<i
 .rw[WV hj,WV hj];exact⟨_,rfl⟩
 .rw[W6 hj,W6 hj];exact⟨_,rfl⟩
end
variable{C:WP}{name:Str}
section
variable{prog:W1}{x dx f:WP}{mA:Str->Option Wp}{v:Wp}
end
theorem RelO.some_of{o:Option Wp}(r:RelO (some v) o):∃u,o=some u/\RelV v u:=by
 cases o with
 |none=>exact(show False from r).elim
 |some u=>exact⟨u,rfl,r⟩
theorem RelO.none_of{o:Option Wp}(r:RelO none o):o=none:=by
 cases o with
 |none=>rfl
 |some u=>exact(show False from r).elim
section
variable{dx:WP}{fs fs':List (Str×V)}
end
section
variable{dx:WP}{fs:List (Str×V)}{f:Str}
end
section
variable{o value:Expr}{f:Str}{pos pos' Mx:Pos}{tv:TE}
end
section
variable{c:Wp}{b:Bool}
end
structure Room(k:Nat)(A:Uf):Prop where
 hd:A.handled=none
 dp:A.depth+3*k+5<recursionLimit
 un:A.units+16*k+200<cLine
theorem Room.mono{k:Nat}(r:Room k A)(h:j<=k):Room j A:=⟨r.hd,by have:=r.dp;lia,by have:=r.un;lia⟩
theorem Room.m{k:Nat}(r:Room k A)(h:j<=k:=by decide):Room j A:=r.mono h
theorem Room.deeper{k:Nat}{A:Uf}(r:Room (k+1) A)(env:Env):Room k (A.deeper env):=
 ⟨r.hd,by have:=r.dp;show A.depth+1+3*k+5<_;lia,by have:=r.un;show A.units+3+16*k+200<_;lia⟩
theorem Room.depth{k:Nat}{A:Uf}(r:Room k A):A.depth<recursionLimit:=by have:=r.dp;lia
theorem Room.units{k:Nat}{A:Uf}(r:Room k A):A.units+64<cLine:=by have:=r.un;lia
theorem Room.units0{k:Nat}(r:Room k A):A.units<cLine:=by have:=r.un;lia
noncomputable def Hf:TA:=λ_ H Q=>Q [] H
noncomputable def xl(ta:TE)(tr:TA):TA:=λσ H Q=>ta σ H λx H1=>tr σ H1 λxs H2=>Q (x::xs) H2
section
variable{t:TA}{pos:Pos}
theorem gM:PA X [] Hf:=λ_ _ _ _ H Q I h=>aax ⟨[],H,I,.nil,h⟩
theorem cc(ha:PE X e te)(hr:PA X es t)(hs:starEach (e::es) X.env=(false,eval e X.env)::starEach es X.env:=by rfl):PA X (e::es) (xl te t):=by
 intro pos pr s σ H Q I h;rw[hs];show wpAny _ _ (spliced ((false,eval e X.env)::backTo pos (starEach es X.env))) _ _ s;refine ZL (KN (ha pr s σ H _ I h) λu s1 KQ=>?_);obtain⟨x,H1,I1,r1,q1⟩:=KQ;exact KN (hr pos pr s1 σ H1 _ I1 q1) λus s2 ⟨xs,H2,I2,r2,q2⟩=>⟨x::xs,H2,I2,.cons r1 r2,q2⟩
def JJ(t:TA):TE:=λσ H Q=>t σ H λxs H1=>xs.length<=sizeLine/\∀p,H1 p=none->Q (.ref p) (upd H1 p (.tup xs))
def JK(t:TA):TE:=λσ H Q=>t σ H λxs H1=>xs.length<=sizeLine/\∀p,H1 p=none->Q (.ref p) (upd H1 p (.lst xs))
theorem uc{x1}(h:PA X es t):PE X (.Tuple es x1 pos) (JJ t):=by
 intro pr s σ H Q I hq;refine wpAny_Tuple_spliced (KN (h pos pr s σ H _ I hq) λus s1 ⟨xs,H1,I1,r,z,q⟩=>⟨by rw[<-r.length];exact z,?_⟩);have hf:H1 s1.heap.objs.size=none:=I1.hok.fresh (WU _);refine⟨.ref s1.heap.objs.size,upd H1 s1.heap.objs.size (.tup xs),I1.laid (t':=s1.toks) (λb u e=>WL _ e) (WU _) ?_,rfl,q _ hf⟩;exact⟨z,us,r,⟨_,W7 _ rfl,rfl,⟨_,rfl⟩,rfl⟩⟩
theorem y6(h:PA X es t):PE X (.List es pos) (JK t):=by
 intro pr s σ H Q I hq;refine wpAny_List_spliced (KN (h pos pr s σ H _ I hq) λus s1 ⟨xs,H1,I1,r,z,q⟩=>⟨by rw[<-r.length];exact z,?_⟩);have hf:H1 s1.heap.objs.size=none:=I1.hok.fresh (WU _);refine⟨.ref s1.heap.objs.size,upd H1 s1.heap.objs.size (.lst xs),I1.laid (t':=s1.toks) (λb u e=>WL _ e) (WU _) ?_,rfl,q _ hf⟩;exact⟨z,us,0,r,W7 _ rfl⟩
end
abbrev Sp:=List V->Hp->VK->XK->Prop
abbrev NB:=List Env->Hp->WF->XK->Wp->WF->Prop
structure Env0(P:W1)(w:World)(K:W.Frag)(mg:Str->Option Wp)(base:UF)(A:Uf)(outer:List Env)(s:WF)(H:Hp):Prop where
 frames:A.frames=some outer
 mod:Mod K mg base
 bs:∀b o,base.get? b=some o->s.heap.get? b=some o/\H b=none
 bsz:base.objs.size<=s.heap.objs.size
 funs:s.heap.FunFrames base outer
 frf:∀b∈Lv outer,H b=none
 hok:HOk P w H s.heap
 bare:AllBare s.gens
def CE(outer:List Env)(P:W1)(w:World)(H:Hp)(s:WF)(Q:VK)(u:Wp)(s':WF):Prop:=
 ∃v H',s'.os=s.os/\AllBare s'.gens/\Un (Lv outer) [] H H' s.heap s'.heap/\HOk P w H' s'.heap/\RelV v u/\Q v H'
def CR(CX:NB)(outer:List Env)(P:W1)(w:World)(H:Hp)(s:WF)(Q:VK)(E:XK)(r:Result)(s':WF):Prop:=
 match r with
 | .ok (.ret u)=>CE outer P w H s Q u s'
 | .ok _=>False
 | .error e=>CX outer H s E e s'
structure FnOk(P:W1)(w:World)(K:W.Frag)(mg:Str->Option Wp)(base:UF)(CX:NB)(k:Nat)(f:WP)(fd:FuncData)(ps:List Str)(sp:Sp):Prop where
 len:∀vs H Q E,sp vs H Q E->vs.length=ps.length
 run:∀(A:Uf) (outer:List Env) (s:WF) (H:Hp) (args:Args) (us:List Wp) (vs:List V) (Q:VK) (E:XK),Room k A->Env0 P w K mg base A outer s H->BindsTo s fd args (ps.zip us)->Vals vs us->sp vs H Q E->
  codeAny (model P w) A (.call (.ref f) args) (CR CX outer P w H s Q E) s
variable{mg:Str->Option Wp}{base:UF}{CX:NB}{fd:FuncData}{ps:List Str}{sp:Sp}
theorem FnOk.imp{k:Nat}{f:WP}(F:FnOk P w K mg base CX k f fd ps sp)(h:∀vs H Q E,VU vs H Q E->sp vs H Q E):FnOk P w K mg base CX k f fd ps VU:=
 ⟨λvs H Q E q=>F.len vs H Q E (h _ _ _ _ q),λA outer s H args us vs Q E hr he hb hv hs=>F.run A outer s H args us vs Q E hr he hb hv (h _ _ _ _ hs)⟩
section
theorem Inv.env0(I:Inv X pr σ H s):Env0 X.prog X.w X.K X.mg X.base X.A X.stack s H:=
 ⟨I.ok.frames,I.ok.mod,I.bs,Xz I.ok.bsz I.sz,I.stack,I.stkFree,I.hok,I.bare⟩
theorem Inv.after{Q:VK}(I:Inv X pr σ H s)(h:CE X.stack X.prog X.w H s Q u s'):EP X pr σ Q u s':=by
 obtain⟨v,H',os,bare,un,hok,r,q⟩:=h;obtain⟨hh,g,d,t,T6⟩:=s';obtain rfl:T6=s.os:=os;exact⟨v,H',I.call (h':=hh) (g':=g) (d':=d) (t':=t) (ch:=[]) un hok bare (λb z=>absurd z @t),r,q⟩
end
noncomputable def tCall(sp:Sp)(Qd:List V)(E:XK)(t:TA):TE:=λσ H Q=>t σ H λvs H1=>sp (vs++Qd) H1 Q E
def Binds(K:W.Frag)(fd:FuncData)(ps:List Str)(ds:List Wp):Prop:=
 ∀(s:WF) (us:List Wp),K.In s.heap->(us++ds).length=ps.length->BindsTo s fd ⟨us,[]⟩ (ps.zip (us++ds))
theorem Binds.all(h:∀us:List Wp,us.length=ps.length->bindArgs fd ⟨us,[]⟩=pure (ps.zip us)):Binds K fd ps []:=λs us _ hl=>by
 rw[Xe]at hl |-;exact .of_eq (h us hl)
def ud(CX:NB)(X:Cx)(E:XK):Prop:=∀(pr:List (WP×Obj)) (σ:St) (H:Hp) (s:WF) (e:Wp) (s':WF),Inv X pr σ H s->CX X.stack H s E e s'->X.xe e s'
variable{p:Pos}{vs:List V}
section
variable{k:Nat}{f:WP}{Qd:List V}{ds:List Wp}{E:XK}{m:Str}{pos apos:Pos}{o:Expr}{t:TA}
theorem DX{Q:VK}(F:FnOk X.prog X.w X.K X.mg X.base CX k f fd ps sp)(hr:Room k X.A)(hb:Binds X.K fd ps ds)(hd:Vals Qd ds)(hx:ud CX X E)
  (I:Inv X pr σ H s) (r:Vals vs us) (h:sp (vs++Qd) H Q E):wpAny @c X.A (call (.ref f) us) (EP X pr σ Q) X.xe s:=by
 have r2:Vals (vs++Qd) (us++ds):=r.append hd;have hl:(us++ds).length=ps.length:=by rw[<-r2.length];exact F.len _ _ _ _ h
 refine wpAny_call (Z3 (F.run X.A X.stack s H ⟨us,[]⟩ (us++ds) (vs++Qd) Q E hr I.env0 (hb s us I.kIn hl) r2 h) λr s' hq=>?_);cases r with
 |error e=>exact hx pr σ H s e s' I hq
 |ok fl=>
  cases fl with
  |ret u=>exact I.after hq
  |next=>exact False.elim hq
  |brk=>exact False.elim hq
  |cont=>exact False.elim hq
theorem Ay(F:FnOk X.prog X.w X.K X.mg X.base CX k f fd ps sp)(hr:Room k X.A)(hg:Gl X x)(hm:X.mg x=some (.ref f))(hk:PySem.W.keepIn X.K (.ref f)=true)(hb:Binds X.K fd ps ds)(hd:Vals Qd ds)(hx:ud CX X E)
  (ha:PA X (e::es) t) (Lw:@o=false:=by decide) (he:starEach (e::es) X.env=(false,eval e X.env)::starEach es X.env:=by rfl) (Lj:(backTo pos (starEach es X.env)).any (·.1)=false:=by rfl):
  PE X (.Call (.Name x p) (e::es) [] pos) (tCall sp Qd E t):=by
 intro pr s σ H Q I h;refine Yd (jr I hg hm ?_ Lw);refine PySem.W.callWith_K (h₀:=X.base) I.ok.mod.kin hk (KN (ha pos pr s σ H _ I h) λus s1 ⟨vs,H1,I1,r,q⟩=>⟨I1.kIn,?_⟩) he Lj;exact DX F hr hb hd hx I1 r q
structure Mk(K:W.Frag)(C f:WP):Prop where
 makes:PySem.W.makesIn K C=true
 init:PySem.W.findIn K (.ref C) "__init__" = some (some (.ref f))
 fn:PySem.W.isFn K (.ref f)=true
 kp:PySem.W.keepIn K (.ref C)=true
end
def PK(X:Cx)(Sk:List Keyword)(t:TA):Prop:=
 ∀(pos:Pos) (pr:List (WP×Obj)) (s:WF) (σ:St) (H:Hp) (Q:List V->Hp->Prop),Inv X pr σ H s->t σ H Q->wpAny @c X.A (evalAll ((backToKw pos (keywordEach Sk X.env)).map (·.2))) (AP X pr σ Q) X.xe s
section
variable{k:Nat}{f:WP}{ks:List Str}{E:XK}{m:Str}{pos apos NC:Pos}{o:Expr}{Sk:List Keyword}{t tk:TA}{nm:Option Str}
theorem DY:PK X [] Hf:=λ_ _ _ _ H Q I h=>wpAny_evalAll_nil ⟨[],H,I,.nil,h⟩
theorem Az(ha:PE X e te)(hr:PK X Sk t):PK X (⟨nm,e,NC⟩::Sk) (xl te t):=by
 intro pos pr s σ H Q I h;show wpAny _ _ (evalAll ((do let v <-eval e X.env;standAt pos;pure v)::(backToKw pos (keywordEach Sk X.env)).map (·.2))) _ _ s;refine wpAny_evalAll_cons (WI (KN (ha pr s σ H _ I h) λu s1 ⟨x,H1,I1,r1,q1⟩=>WI (wpAny_standAt (WO ?_))));exact KN (hr pos pr s1 σ H1 _ I1 q1) λus s2 ⟨xs,H2,I2,r2,q2⟩=>⟨x::xs,H2,I2,.cons r1 r2,q2⟩
variable{g:List Wp->List Wp->List Wp}{gV:List V->List V->List V}
end
structure FnScope(N P:List Str)(sc:Scope):Prop where
 kind:sc.kind=.function
 co:sc.isCoroutine=false
 gen:sc.isGenerator=false
 nd:N.Nodup
 pre:N.take P.length=P
 par:∀x∈P,sc.names.lookup x=some .local\/sc.names.lookup x=some .cell
 nofree:∀y∈sc.names,y.2≠.free
theorem fs{N P:List Str}(a:sc.kind=.function:=by rfl)(b:sc.isCoroutine=false:=by rfl)(c:sc.isGenerator=false:=by rfl)(d:N.Nodup:=by decide +kernel)(e:N.take P.length=P:=by rfl)(f:∀x∈P,sc.names.lookup x=some .local\/sc.names.lookup x=some .cell:=by decide +kernel)(g:∀y∈sc.names,y.2≠.free:=by decide +kernel):FnScope N P sc:=⟨a,b,c,d,e,f,g⟩
theorem mI{kindOf:Str->Option NameKind}{x:Str}:∀{binds:List (Str×Wp)}{m:Str->Option Wp},(∀v,(x,v)∉binds)->bindL kindOf binds m x=m x
 |[],_,_=>rfl
 |(n,v)::r,m,h=>by
  unfold bindL;rw[mI λw hw=>h w (WK _ hw)];split
  .have:x≠n:=by rintro rfl;exact h v WJ
   simp[this]
  .rfl
theorem mJ{kindOf:Str->Option NameKind}{x:Str}:∀{binds:List (Str×Wp)}{m:Str->Option Wp},(∀v,(x,v)∉binds)->bindC kindOf binds m x=m x
 |[],_,_=>rfl
 |(n,v)::r,m,h=>by
  unfold bindC;rw[mJ λw hw=>h w (WK _ hw)];split
  .rfl
  .have:x≠n:=by rintro rfl;exact h v WJ
   simp[this]
theorem mK{kindOf:Str->Option NameKind}{x:Str}{v:Wp}:∀{P:List Str}{vs:List Wp}{i:Nat}{m:Str->Option Wp},P.Nodup->P[i]?=some x->vs[i]?=some v->kindOf x=some .local->
  bindL kindOf (P.zip vs) m x=some v
 |[],_,_,_,_,h,_,_=>by simp at h
 |_::_,[],_,_,_,_,h,_=>by simp at h
 |p::P,w::vs,0,m,nd,h1,h2,hk=>by
  simp at h1 h2;subst h1;subst h2;show bindL kindOf ((p,w)::P.zip vs) m p=_;unfold bindL;rw[mI λv hv=>(Xf.mp nd).1 (Za hv).1,WV hk];simp
 |p::P,w::vs,i+1,m,nd,h1,h2,hk=>by
  show bindL kindOf ((p,w)::P.zip vs) m x=_;unfold bindL;exact mK (i:=i) (Xf.mp nd).2 (by simpa using h1) (by simpa using h2) hk
theorem mL{kindOf:Str->Option NameKind}{x:Str}{v:Wp}:∀{P:List Str}{vs:List Wp}{i:Nat}{m:Str->Option Wp},P.Nodup->P[i]?=some x->vs[i]?=some v->kindOf x≠some .local->
  bindC kindOf (P.zip vs) m x=some v
 |[],_,_,_,_,h,_,_=>by simp at h
 |_::_,[],_,_,_,_,h,_=>by simp at h
 |p::P,w::vs,0,m,nd,h1,h2,hk=>by
  simp at h1 h2;subst h1;subst h2;show bindC kindOf ((p,w)::P.zip vs) m p=_;unfold bindC;rw[mJ λv hv=>(Xf.mp nd).1 (Za hv).1,W6 hk];simp
 |p::P,w::vs,i+1,m,nd,h1,h2,hk=>by
  show bindC kindOf ((p,w)::P.zip vs) m x=_;unfold bindC;exact mL (i:=i) (Xf.mp nd).2 (by simpa using h1) (by simpa using h2) hk
noncomputable def gN(N:List Str)(vs:List V):St:=vs.map some++List.replicate (N.length-vs.length) none
noncomputable def oM(CX:NB)(P:W1)(w:World)(K:W.Frag)(mg:Str->Option Wp)(base:UF)(N:List Str)(qual:Str)(scope:Scope)(f:WP)(cd:Wp)(A:Uf)(outer:List Env)(s:WF)(H:Hp)(E:XK):Cx where
 prog:=P
 w:=w
 K:=K
 mg:=mg
 base:=base
 A:=A.deeper (envOfC qual scope s.heap.objs.size f cd)
 N:=N
 s₀:=s
 H₀:=H
 env:=envOfC qual scope s.heap.objs.size f cd
 outer:=outer
 stack:=envOfC qual scope s.heap.objs.size f cd::outer
 ex:=[]
 calm:=true
 fn:=λ_=>true
 pn:=[]
 xe:=λe s'=>wpAny (model P w) (A.deeper (envOfC qual scope s.heap.objs.size f cd)) (leaving (envOfC qual scope s.heap.objs.size f cd) e) (λ_ UR=>CX outer H s E e UR) (λe' UR=>CX outer H s E e' UR) s'
theorem pQ(h:sc.names.lookup x=some .cell):∃c,(cellsFrom n sc.names []).lookup x=some c:=by
 have q:=aa1 sc.names n [] (.inl h);exact XG.mp q
variable{qual:Str}{scope:Scope}
theorem ue{f:WP}{E:XK}(S:FnScope N ps scope)(hd:A.handled=none)(e0:Env0 P w K mg base A outer s H)(hl:vs.length=ps.length)(r:Vals vs us)(x:InCallC s s.heap.objs.size (bindL (envOfC qual scope s.heap.objs.size f cd).kindOf (ps.zip us) λ_=>none) (cellsFrom (s.heap.objs.size+1) scope.names []) (bindC (envOfC qual scope s.heap.objs.size f cd).kindOf (ps.zip us) λ_=>none) s1):
  Inv (oM CX P w K mg base N qual scope f cd A outer s H E) [] (gN N vs) H s1:=by
 have Lj:ps.length<=N.length:=by have:=Yp List.length S.pre;rw[XA]at this;lia
 obtain⟨h1,tk,rfl,hk⟩:=x.done;have Sl:∀b:WP,b∉(oM CX P w K mg base N qual scope f cd A outer s H E).ex:=λb z=>absurd (show b∈([]:List WP) from z) @t
 refine⟨⟨e0.mod,S.kind,rfl,rfl,WU _,λy z c h1 h2=>?_,λy hy=>?_,λy c _ h=>?_,λ_=>hd,Around.frames_deeper e0.frames,.inr ⟨rfl,rfl⟩,λb z=>absurd z (Sl b),e0.bs,e0.bsz,λb _ _=>Sl b,λb z=>absurd z (Sl b),e0.funs,e0.frf⟩,
  rfl,e0.bare,Un.kept hk,⟨_,x.toInCall.ns,λi y v h1 h2 h3=>?_⟩,λy c h=>⟨_,x.cell y c h⟩,e0.hok.fresh (WU _),λy c h=>?_,λp hp=>absurd (show p∈([]:List (WP×Obj)) from hp) @t,e0.hok.kept hk,?_⟩
 .exact name_of_addr x.apart (YQ h1) (YQ h2)
 .have hy:scope.names.lookup y=some .cell\/scope.names.lookup y=some .free:=hy;rcases hy with hy|hy
  .exact pQ hy
  .exact absurd rfl (S.nofree _ (YQ hy))
 .exact aa8 (x.above y c (YQ h))
 .have hi:i<vs.length:=by
   unfold gN at h2;by_cases hi:i<vs.length
   .exact hi
   .rw[XH (by simpa using hi)]at h2;rw[List.getElem?_replicate]at h2;split at h2 <;> cases h2
  have ha:vs[i]?=some v:=by
   unfold gN at h2;rw[Xu (by simpa using hi),W2]at h2;cases e:vs[i]? with
   |none=>rw[e]at h2;cases h2
   |some a=>rw[e]at h2;cases h2;rfl
  obtain⟨u,hu,rv⟩:=r.get ha;have hp:ps[i]?=some y:=by
   rw[<-S.pre,aay @a];exact h1
  have VW:ps.Nodup:=by rw[<-S.pre];exact S.nd.sublist (aaz _ _)
  refine⟨u,rv,?_⟩;rcases S.par y (Xm hp) with k|k
  .exact .inl ⟨k,mK VW hp hu k⟩
  .obtain⟨c,e⟩:=pQ (n:=s.heap.objs.size+1) k;refine .inr ⟨.inl k,c,e,?_⟩;have q:=x.cell y c e;rw[mL VW hp hu (by show scope.names.lookup y≠_;rw[k];decide)]at q;exact q
 .exact e0.hok.fresh (aa8 (x.above y c (YQ h)))
 .unfold gN;show _=N.length;rw[Xs,WN,List.length_replicate];lia
theorem DZ{k:Nat}{f:WP}{dV kV:Wp}(lk:K.lookup f=some ⟨oc,od,.func (PySem.W.fnOf name qual params body scope dV kV doc pm an KW ct),ND⟩)(NA:PySem.W.codeIn K KW qual=true)(S:FnScope N ps scope)(len:∀vs H Q E,sp vs H Q E->vs.length=ps.length)(MS:∀(A:Uf) (outer:List Env) (s:WF) (H:Hp) (vs:List V) (Q:VK) (E:XK),Room k (A.deeper (envOfC qual scope s.heap.objs.size f KW))->sp vs H Q E->
   ∃t,PSs (oM CX P w K mg base N qual scope f KW A outer s H E) body t/\t {nx:=λ_ H'=>Q .non H',rt:=Q} (gN N vs) H):
  FnOk P w K mg base CX (k+1) f (PySem.W.fnOf name qual params body scope dV kV doc pm an KW ct) ps sp:=by
 refine⟨len,λA outer s H args us vs Q E hr e0 hb r Mv=>?_⟩;have hl:=len _ _ _ _ Mv;have KX:K.In s.heap:=e0.mod.kin.keeps λb o e=>(e0.bs b o e).1
 have lim:s.heap.NoLimit:=e0.mod.nolimit.keeps λb o e=>(e0.bs b o e).1
 have Ml:∀y∈ps.zip us,scope.names.lookup y.1=some .local\/(scope.names.lookup y.1=some .cell/\((cellsFrom (s.heap.objs.size+1) scope.names []).lookup y.1).isSome=true):=λKz hy=>by
  obtain⟨n,v⟩:=Kz;rcases S.par n (Za hy).1 with q|q
  .exact .inl q
  .exact .inr ⟨q,aa1 _ _ _ (.inl q)⟩
 refine codeAny_call_function hr.depth (KX _ _ lk) rfl S.co S.gen rfl (PySem.W.codeRec_of KX NA) (hb _ _ _ _ ?_);refine wpAny_newFunctionEnv_cells S.kind Ml λenv he s1 x=>?_
 subst he;refine⟨lim.keeps x.toInCall.keep,codeAny_func ?_⟩;obtain⟨t,ht,hq⟩:=MS A outer s H vs Q E (hr.deeper _) Mv;have I:Inv (oM CX P w K mg base N qual scope f KW A outer s H E) [] (gN N vs) H s1:=ue S hr.hd e0 hl r x;refine XO (ht [] s1 (gN N vs) H _ I hq) (λfl s' hs=>?_) λe s' hs=>hs
 have fin:∀{σ':St}{H':Hp}{v:V}{u:Wp},Inv (oM CX P w K mg base N qual scope f KW A outer s H E) [] σ' H' s'->RelV v u->Q v H'->CE outer P w H s Q u s':=
  λ{σ' H' v u} J rv q=>⟨v,H',J.os,J.bare,J.base,J.hok,rv,q⟩
 cases fl with
 |ret u=>
  obtain⟨v,σ',H',J,rv,q⟩:=hs;exact fin J rv q
 |next=>
  obtain⟨σ',H',J,q⟩:=hs;exact fin (v:=V.non) (u:=Value.none) J rfl q
 |brk=>
  obtain⟨_,_,_,q⟩:=hs;exact False.elim q
 |cont=>
  obtain⟨_,_,_,q⟩:=hs;exact False.elim q
section
variable{pos:Pos}{t:TA}{id T:String}{r:List V->Hp->VK->Prop}
noncomputable def US(r:List V->Hp->VK->Prop)(t:TA):TE:=λσ H Q=>t σ H λvs H1=>r vs H1 Q
theorem jd(hc:cb X (.builtin id) r)(hg:Gl X x)(hm:X.mg x=none)(hv:bootBuiltins x=some (.builtin id))(ha:PA X (e::es) t)(hn:x≠"__name__":=by decide)(Lw:@o=false:=by decide)
  (he:starEach (e::es) X.env=(false,eval e X.env)::starEach es X.env:=by rfl) (Lj:(backTo pos (starEach es X.env)).any (·.1)=false:=by rfl):PE X (.Call (.Name x p) (e::es) [] pos) (US r t):=by
 intro pr s σ H Q I h;refine Yd (eQ I hg hm hv ?_ hn Lw);exact PyProof.Rows.callWith_builtin1 (KN (ha pos pr s σ H _ I h) λus s1 ⟨vs,H1,I1,r1,q1⟩=>hc pr s1 σ H1 vs us Q I1 r1 q1) he Lj
theorem uf(hc:cb X (.type T) r)(hg:Gl X x)(hm:X.mg x=none)(hv:bootBuiltins x=some (.type T))(ha:PA X (e::es) t)(hn:x≠"__name__":=by decide)(Lw:@o=false:=by decide)
  (he:starEach (e::es) X.env=(false,eval e X.env)::starEach es X.env:=by rfl) (Lj:(backTo pos (starEach es X.env)).any (·.1)=false:=by rfl):PE X (.Call (.Name x p) (e::es) [] pos) (US r t):=by
 intro pr s σ H Q I h;refine Yd (eQ I hg hm hv ?_ hn Lw);exact X1 (KN (ha pos pr s σ H _ I h) λus s1 ⟨vs,H1,I1,r1,q1⟩=>hc pr s1 σ H1 vs us Q I1 r1 q1) he Lj
end
end L2
namespace HT
open PySem PyProof.Rows
section
open PySem.SeqAt
open PySem.AutoSeq1 (wpAny_loadPart')
open PySem.MeetsSeq PySem.MeetsSeq2 PySem.MeetsSeq3
end
section
variable{prog:W1}{w:World}{A:Uf}{E:Wp->WF->Prop}{s:WF}
theorem AB{t:WP}(ht:IsTup s.heap t vs.toArray)(hb:IsTup s.heap b ws.toArray)(hv:vs≠[])(h1:ws=[]->Q (.ref t) s)(h2:ws≠[]->Q (.ref s.heap.objs.size) {s with heap:=s.heap.push {cls:=.type "tuple",data:=.seq (vs++ws).toArray}})(hsz:vs.length+ws.length<=sizeLine):wpAny @i A (binaryOp .Add (.ref t) (.ref b)) Q E s:=by
 obtain⟨⟨cls,dd,data,sl⟩,ho,hc,n,hd⟩:=id ht;obtain⟨⟨Sm,RW,data2,RX⟩,OK,Nl,n2,hd2⟩:=id hb;simp only at hc hd Nl hd2;subst hc hd Nl hd2;have e:vs.toArray++ws.toArray=(vs++ws).toArray:=by simp
 by_cases hw:ws=[]
 .exact aba ⟨_,ho,rfl⟩ ⟨_,OK,rfl⟩ aaU seq_tuple_add ZW ZM (ZI _ _)
   (tuple_addW1 t b vs.toArray ws.toArray n n2 dd RW sl RX (by simpa using hv) (by simp[hw])) ⟨ho,OK,h1 hw⟩
 .refine aba ⟨_,ho,rfl⟩ ⟨_,OK,rfl⟩ aaU seq_tuple_add ZW ZM (ZI _ _)
   (tuple_addW2 t b vs.toArray ws.toArray n n2 dd RW sl RX (by simpa using hv) (by simpa using hw) (by rw[WZ,WZ];exact hsz)) ⟨ho,OK,?_⟩
  rw[e];exact h2 hw
noncomputable def sIx(n d:Nat):Option Int->Nat
 |none=>d
 |some v=>if v<0 then(v+(n:Int)).toNat else min v.toNat n
theorem pR(n d:Nat):sIx n d none=d:=rfl
theorem k7(n d k:Nat):sIx n d (some (k:Int))=min k n:=by
 show(if(k:Int)<0 then((k:Int)+(n:Int)).toNat else min (k:Int).toNat n)=min k n;rw[W6 @a,YN]
theorem ug(n d:Nat)(hd:d<=n)(o:Option Int):sIx n d o<=n:=by
 cases o with
 |none=>exact hd
 |some v=>
  show(if v<0 then(v+(n:Int)).toNat else min v.toNat n)<=n;by_cases hv:v<0
  .rw[WV hv];lia
  .rw[W6 hv];exact Nat.min_le_right _ _
theorem uh(v:Int)(n d:Nat):(if v<0 then max (v+(n:Int)) 0 else min v (n:Int))=((sIx n d (some v):Nat):Int):=by
 show(if v<0 then max (v+(n:Int)) 0 else min v (n:Int))=(((if v<0 then(v+(n:Int)).toNat else min v.toNat n):Nat):Int)
 by_cases hv:v<0
 .simp![WV hv];lia
 .simp![W6 hv];lia
theorem rT(lo hi:Option Int)(n:Nat):Builtin.Slice.sliceAdjust lo hi 1 (n:Int)=(((sIx n 0 lo:Nat):Int),((sIx n n hi:Nat):Int)):=by
 have h1:¬ ((1:Int)<0):=by lia
 unfold Builtin.Slice.sliceAdjust;simp![h1,YG];refine Prod.ext ?_ ?_
 .cases lo with
  |none=>rfl
  |some v=>exact uh v n 0
 .cases hi with
  |none=>rfl
  |some v=>exact uh v n n
theorem rV(i j:Nat):Builtin.Slice.slicePlaces (i:Int) (j:Int) 1=j-i:=by
 unfold Builtin.Slice.slicePlaces;have h1:(1:Int)>0:=by lia
 simp![h1,Zb,Int.ediv_one];split <;> lia
theorem ku(p:IsPart v o)(h:Q o s):wpAny @i A (Builtin.Slice.slicePartIndex v) Q E s:=by
 cases p with
 |none=>exact slicePart_none h
 |int i t=>exact slicePart_int h
theorem d9{sl:WP}{vl vu:Wp}{lo hi:Option Int}{n:Nat}{Q:Int×Int×Nat->WF->Prop}(hs:s.heap.IsSliceOf sl vl vu .none)(pl:IsPart vl lo)(pu:IsPart vu hi)
  (h:Q (((sIx n 0 lo:Nat):Int),1,sIx n n hi-sIx n 0 lo) s):wpAny @i A (Builtin.Slice.sliceApplied (.ref sl) (pure (n:Int))) Q E s:=by
 obtain⟨os,N5,T7,N6⟩:=id hs;unfold Builtin.Slice.sliceApplied Builtin.Slice.sliceFields;refine WI (WI (Yk N5 N6 (x:=vl) rfl (WI (Yk N5 N6 (x:=vu) rfl (WI (Yk N5 N6 (x:=.none) rfl (WO ?_)))))));refine WI (slicePart_none ?_);show wpAny _ _ (if((1:Int)==0)=true then _ else _) _ _ s;rw[W6 @b];refine WI (ku pl (WI (ku pu (WI (WO ?_)))));show wpAny _ _ (match Builtin.Slice.sliceAdjust lo hi 1 (n:Int) with|(lo,hi)=>pure (lo,(1:Int),Builtin.Slice.slicePlaces lo hi 1)) _ _ s;rw[rT lo hi n];show wpAny _ _ (pure (((sIx n 0 lo:Nat):Int),(1:Int),Builtin.Slice.slicePlaces ((sIx n 0 lo:Nat):Int) ((sIx n n hi:Nat):Int) 1)) _ _ s;rw[rV];exact WO h
theorem xm(xs:Array Wp)(i k:Nat):((List.range k).filterMap λ(m:Nat)=>xs[((i:Int)+(m:Int)*1).toNat]?).toArray=((xs.toList.drop i).take k).toArray:=by
 have e:(λ(m:Nat)=>xs[((i:Int)+(m:Int)*1).toNat]?)=λm=>xs[i+m]?:=by
  funext m
  have:((i:Int)+(m:Int)*1).toNat=i+m:=by lia
  rw[this]
 rw[e];have:=pick_run xs i k;rw[List.filterMap_map]at this;have e2:((λx=>xs[x]?)∘λx=>i+x)=λm=>xs[i+m]?:=rfl
 rw[e2]at this;rw[this]
theorem iy{t:WP}{lo:Option Int}(ht:IsTup s.heap t items)(hs:s.heap.IsSliceOf sl vl vu .none)(pl:IsPart vl lo)(pu:IsPart vu hi)(hw:¬ (sIx items.size 0 lo=0/\sIx items.size items.size hi=items.size))(h:Q (.ref s.heap.objs.size) {s with heap:=s.heap.push {cls:=.type "tuple",data:=.seq ((items.toList.drop (sIx items.size 0 lo)).take (sIx items.size items.size hi-sIx items.size 0 lo)).toArray}})(hsz:items.size<=sizeLine):wpAny @i A (getItem (.ref t) (.ref sl)) Q E s:=by
 have Nm:sizeOk (.seq ((items.toList.drop (sIx items.size 0 lo)).take (sIx items.size items.size hi-sIx items.size 0 lo)).toArray):=by
  show((items.toList.drop (sIx items.size 0 lo)).take (sIx items.size items.size hi-sIx items.size 0 lo)).toArray.size<=sizeLine;rw[WZ,XA,Yo,W0];lia
 have hj:sIx items.size items.size hi<=items.size:=ug _ _ (WU _) hi;obtain⟨os,N5,T7,N6⟩:=id hs;have UT:s.TypeIs (.ref sl) "slice":=⟨os,N5,T7⟩
 unfold getItem;try with_reducible refine Yl ?_
 first|refine WI (WO ?_)|skip
 refine WI (wpAny_sequenceKey ht.typeIs @b ?_);refine WI (X9 (name:=Str.ofString "__getitem__") ht.typeIs Ys
  (YH Ys ht.typeIs entry_tuple_getitem ?_ (args_tuple_getitem _ _)))
 show wpAny _ _ (Builtin.Tuple.tupleItemsOf (.ref t) >>= _) _ _ s;refine WI (tupleItemsOf_ ht ?_);refine WI (YZ UT ?_);rw[WV @b];refine WI (d9 hs pl pu ?_);have Qe:¬ ((((sIx items.size 0 lo:Nat):Int)==0&&(1:Int)==1&&(sIx items.size items.size hi-sIx items.size 0 lo)==items.size)=true):=by
  intro q;rw[WW,WW]at q;have q1:((sIx items.size 0 lo:Nat):Int)=0:=eq_of_beq q.1.1;have q2:sIx items.size items.size hi-sIx items.size 0 lo=items.size:=eq_of_beq q.2;exact hw ⟨by lia,by lia⟩
 show wpAny _ _ (if(((sIx items.size 0 lo:Nat):Int)==0&&(1:Int)==1&&(sIx items.size items.size hi-sIx items.size 0 lo)==items.size)=true then _ else _) _ _ s;rw[W6 Qe,xm];first
  |exact WI (m:=Builtin.Tuple.tupleExact _) (Yt (WO ⟨_,rfl,WO h⟩) Nm)
  |exact WI (m:=Builtin.Tuple.tupleExact _) (Yt (WI (WO (WO ⟨_,rfl,WO h⟩))) Nm)
  |exact WI (WI (m:=Builtin.Tuple.tupleExact _) (Yt (WO (WO ⟨_,rfl,WO h⟩)) Nm))
  |exact WI (WI (m:=Builtin.Tuple.tupleExact _) (Yt (WO ⟨_,rfl,WO h⟩) Nm))
end
end HT
namespace L2
open PySem PySem.Spec PyProof.Rows
abbrev TO:=St->Hp->(Option Int->Hp->Prop)->Prop
def PO(X:Cx)(e:Option Expr)(t:TO):Prop:=
 ∀(pr:List (WP×Obj)) (s:WF) (σ:St) (H:Hp) (Q:Option Int->Hp->Prop),Inv X pr σ H s->t σ H Q->
  wpAny @c X.A (evalPart e X.env) (λu s'=>∃o H',Inv X pr σ H' s'/\IsPart u o/\Q o H') X.xe s
noncomputable def AD:TO:=λ_ H Q=>Q none H
noncomputable def HJ(t:TE):TO:=λσ H Q=>t σ H λx H1=>∃i,x=.int i/\Q (some i) H1
variable{X:Cx}{xs:List V}
section
variable{e:Expr}{te:TE}{lo hi:Option Expr}{tl th:TO}{pos p2:Pos}
theorem AE:PO X none AD:=by
 intro pr s σ H Q I h;rw[evalPart_none];exact WO ⟨none,H,I,.none,h⟩
theorem AG(h:PE X e te):PO X (some e) (HJ te):=by
 intro pr s σ H Q I hw;rw[evalPart_some];refine KN (h pr s σ H _ I hw) λu s1 KQ=>?_
 obtain⟨x,H1,I1,r1,q1⟩:=KQ;obtain⟨i,rfl,q⟩:=q1;obtain⟨t,rfl⟩:=r1;exact⟨some i,H1,I1,.int i t,q⟩
def QH(X:Cx)(r:V->Option Int->Option Int->Hp->VK->Prop):Prop:=
 ∀(pr:List (WP×Obj)) (s:WF) (σ:St) (H:Hp) (x:V) (v vl vu:Wp) (lo hi:Option Int) (sl:WP) (Q:VK),Inv X pr σ H s->RelV x v->s.heap.IsSliceOf sl vl vu .none->IsPart vl lo->IsPart vu hi->r x lo hi H Q->
  ∃T id,typeLookup (.type T) "__getitem__" = pure (some (.builtin id))/\s.TypeIs v T/\wpAny @c X.A (getItem v (.ref sl)) (EP X pr σ Q) X.xe s
noncomputable def tSl(r:V->Option Int->Option Int->Hp->VK->Prop)(te:TE)(tl th:TO):TE:=λσ H Q=>te σ H λx H1=>tl σ H1 λl H2=>th σ H2 λu H3=>r x l u H3 Q
theorem xn(hr:QH X r)(he:PE X e te)(hl:PO X lo tl)(hu:PO X hi th):PE X (.Subscript e (.Slice lo hi none p2) pos) (tSl r te tl th):=by
 intro pr s σ H Q I h;refine Subscript_ (KN (he pr s σ H _ I h) λv s1 KQ=>?_);obtain⟨x,H1,I1,r1,q1⟩:=KQ;refine wpAny_Slice (KN (hl pr s1 σ H1 _ I1 q1) λvl s2 ⟨l,H2,I2,pl,q2⟩=>KN (hu pr s2 σ H2 _ I2 q2) λvu s3 KQ=>?_);obtain⟨u,H3,I3,pu,q3⟩:=KQ;rw[evalPart_none];refine WO ?_;have I4:Inv X pr σ H3 {s3 with heap:=s3.heap.push {cls:=.type "slice",data:=.fields #[vl,vu,.none]}}:=I3.kept (t':=s3.toks) λb ob q=>WL _ q
 obtain⟨T,id,hT,ht,hg⟩:=hr pr {s3 with heap:=s3.heap.push {cls:=.type "slice",data:=.fields #[vl,vu,.none]}} σ H3 x v vl vu l u s3.heap.objs.size Q I4 r1 (Heap.IsSliceOf.new ..) pl pu q3;show wpAny @c X.A (subscriptTail e (.Slice lo hi none p2) v (.ref s3.heap.objs.size)) (EP X pr σ Q) X.xe {s3 with heap:=s3.heap.push {cls:=.type "slice",data:=.fields #[vl,vu,.none]}};exact tail_any (ops:=[.ref s3.heap.objs.size,v]) ht hT hg (by with_unfolding_all rfl)
def y7(xs:List V)(lo hi:Option Int):List V:=(xs.drop (HT.sIx xs.length 0 lo)).take (HT.sIx xs.length xs.length hi-HT.sIx xs.length 0 lo)
theorem js(xs:List V)(lo hi:Option Int):(y7 xs lo hi).length<=xs.length:=by
 unfold y7;rw[XA,Yo];lia
def JL(K:W.Frag):V->Option Int->Option Int->Hp->VK->Prop:=λx lo hi H Q=>∃a xs,x=.ref a/\SqT K H a xs/\
 ¬ (HT.sIx xs.length 0 lo=0/\HT.sIx xs.length xs.length hi=xs.length)/\∀p,H p=none->Q (.ref p) (upd H p (.tup (y7 xs lo hi)))
theorem D1:QH X (JL X.K):=by
 intro pr s σ H x v vl vu lo hi sl Q I rx hs pl pu h;obtain⟨a,xs,rfl,hx,hw,q⟩:=h;cases rx;obtain⟨Kt,r,ht,hz⟩:=I.tuple hx;have hlen:Kt.toArray.size=xs.length:=by rw[WZ];exact r.length.symm
 refine⟨"tuple",_,PyProof.Rows.slot_tuple_getitem.lookup,ht.typeIs,?_⟩;refine HT.iy ht hs pl pu (by rw[hlen];exact hw) ?_ (by rw[hlen];exact hz);rw[hlen];refine⟨.ref s.heap.objs.size,_,I.laid (t':=s.toks) (o:=.tup (y7 xs lo hi)) (λb ob q=>WL _ q) (WU _) ?_,rfl,q _ (I.hok.fresh (WU _))⟩;exact⟨Xz (js xs lo hi) hz,_,(r.drop (HT.sIx xs.length 0 lo)).take (HT.sIx xs.length xs.length hi-HT.sIx xs.length 0 lo),IsTupN.new _ _⟩
def HK(K:W.Frag):R2:=λx y H Q=>∃a b xs ys,x=.ref a/\y=.ref b/\SqT K H a xs/\SqT K H b ys/\xs≠[]/\xs.length+ys.length<=sizeLine/\
 (ys=[]->Q (.ref a) H)/\(ys≠[]->∀p,H p=none->Q (.ref p) (upd H p (.tup (xs++ys))))
theorem Vals.nil_iff(r:Vals xs us):us=[]<->xs=[]:=by
 cases r with
 |nil=>simp
 |cons _ _=>simp
theorem AH:Lk X (binaryOp .Add) (HK X.K):=by
 intro pr s σ H x y v u Q I rx ry h;obtain⟨a,b,xs,ys,rfl,rfl,ha,hb,hx,hz,q1,q2⟩:=h;cases rx;cases ry;obtain⟨Kt,r1,p1,_⟩:=I.tuple ha;obtain⟨N7,r2,p2,_⟩:=I.tuple hb;refine HT.AB p1 p2 (λz=>hx (r1.nil_iff.mp z)) (λz=>⟨.ref a,H,I,rfl,q1 (r2.nil_iff.mp z)⟩) (λz=>?_) (by rw[<-r1.length,<-r2.length];exact hz);refine⟨.ref s.heap.objs.size,_,I.laid (t':=s.toks) (o:=.tup (xs++ys)) (λb ob q=>WL _ q) (WU _) ?_,rfl,q2 (λw=>z (r2.nil_iff.mpr w)) _ (I.hok.fresh (WU _))⟩;exact⟨by rw[Xs];exact hz,_,r1.append r2,IsTupN.new _ _⟩
end
noncomputable def ixN(n:Nat)(i:Int):Option Nat:=if 0<=i then(if i<n then some i.toNat else none) else if -(n:Int)<=i then some (i+n).toNat else none
def LI{α:Type}(xs:List α)(i:Int):Option α:=(ixN xs.length i).bind λj=>xs[j]?
variable{i:Int}{j:Nat}
theorem uk(h:ixN n i=some j):seqIndex? i n=some j/\j<n/\-(n:Int)<=i/\i<n:=by
 unfold ixN at h;by_cases h0:0<=i
 .rw[WV h0]at h;by_cases h1:i<n
  .rw[WV h1]at h;have e:i.toNat=j:=Xj h;exact⟨by rw[seqIndex_of h0 h1,e],by lia,by lia,h1⟩
  .rw[W6 h1]at h;cases h
 .rw[W6 h0]at h;by_cases h1:-(n:Int)<=i
  .rw[WV h1]at h;have e:(i+n).toNat=j:=Xj h;exact⟨by rw[seqIndex_neg @a h1,e],by lia,h1,by lia⟩
  .rw[W6 h1]at h;cases h
variable{α:Type}
theorem oR{xs:List α}(h:LI xs i=some v):∃j,seqIndex? i xs.length=some j/\xs[j]?=some v/\j<xs.length/\-(xs.length:Int)<=i/\i<xs.length:=by
 unfold LI at h;cases e:ixN xs.length i with
 |none=>rw[e]at h;cases h
 |some j=>
  rw[e]at h;obtain⟨h1,h2,h3,h4⟩:=uk e;exact⟨j,h1,h,h2,h3,h4⟩
theorem cR{xs:List α}(h:xs[j]?=some v):LI xs (j:Int)=some v:=by
 have hj:j<xs.length:=(WS.mp h).1;have e:ixN xs.length (j:Int)=some j:=by
  unfold ixN;rw[WV @a,WV @a];simp
 unfold LI;rw[e];exact h
def um(b:Expr):Prop:=∀o i,subscripted b false o i=operate [o,i] (getItem o i)
def Sn(X:Cx)(r:R2):Prop:=
 ∀(value slice:Expr) (pr:List (WP×Obj)) (s:WF) (σ:St) (H:Hp) (x y:V) (v u:Wp) (Q:VK),Inv X pr σ H s->RelV x v->RelV y u->r x y H Q->
  subscripted slice false v u=operate [v,u] (getItem v u)->wpAny @c X.A (subscriptTail value slice v u) (EP X pr σ Q) X.xe s
def Qf(X:Cx)(id:String)(r:V->List V->Hp->VK->Prop):Prop:=
 ∀(pr:List (WP×Obj)) (s:WF) (σ:St) (H:Hp) (x:V) (xs:List V) (v:Wp) (us:List Wp) (Q:VK),Inv X pr σ H s->RelV x v->Vals xs us->r x xs H Q->
  wpAny @c X.A (call (.builtin id) (v::us)) (EP X pr σ Q) X.xe s
variable{pr:List (WP×Obj)}{σ:St}{H:Hp}{s:WF}{p:WP}{A:Uf}{T:String}
section
variable{a b:Expr}{ta tb:TE}{pos:Pos}
theorem HL(hr:Sn X r)(ha:PE X a ta)(hb:PE X b tb)(hs:um b):PE X (.Subscript a b pos) (RV r ta tb):=by
 intro pr s σ H Q I h;exact Subscript_ (HA ha hb I h λv u s2 x y H2 I2 rx ry q=>hr a b pr s2 σ H2 x y v u Q I2 rx ry q (hs _ _))
def JM(K:W.Frag):R2:=λx y H Q=>∃p xs i v,x=.ref p/\y=.int i/\SqL K H p xs/\LI xs i=some v/\Q v H
def JN(K:W.Frag):R2:=λx y H Q=>∃p xs i v,x=.ref p/\y=.int i/\SqT K H p xs/\LI xs i=some v/\Q v H
def JO:R2:=λx y H Q=>∃z i c,x=.str z/\y=.int i/\z.length<=sizeLine/\LI z.cps.toList i=some c/\Q (.str ⟨#[c]⟩) H
theorem AI:Sn X (JM X.K):=by
 intro value slice pr s σ H x y v u Q I rx ry h hs;obtain⟨p,xs,i,z,rfl,rfl,hq,he,q⟩:=h;cases rx;obtain⟨t,rfl⟩:=ry;obtain⟨Kt,r,pl,hz⟩:=I.list hq;obtain⟨j,h1,h2,h3,h4,h5⟩:=oR he;obtain⟨w,ew,M0⟩:=r.get h2;have hl:=r.length;have hn:=kr;have fin:EP X pr σ Q w s:=⟨z,H,I,M0,q⟩
 by_cases h0:0<=i
 .have hj:i.toNat=j:=by
   rw[seqIndex_of h0 h5]at h1;exact Xj h1
  exact item_listR pl.isList h0 @a (by rw[hj];simpa using ew) fin hs
 .have hj:(i+(Kt.toArray.size:Int)).toNat=j:=by
   rw[seqIndex_neg @a h4]at h1;rw[WZ,<-hl];exact Xj h1
  exact subscriptTail_builtinR (x:=w) pl.isList.typeIs slot_list_getitem.lookup
   (wpAny_getItem_list_neg (Q:=λr s'=>r=w/\EP X pr σ Q r s') pl.isList @a (by rw[WZ] <;> lia) @a (by rw[hj];simpa using ew) ⟨rfl,fin⟩) hs
theorem D3:Sn X (JN X.K):=by
 intro value slice pr s σ H x y v u Q I rx ry h hs;obtain⟨p,xs,i,z,rfl,rfl,hq,he,q⟩:=h;cases rx;obtain⟨t,rfl⟩:=ry;obtain⟨Kt,r,pl,hz⟩:=I.tuple hq;obtain⟨j,h1,h2,h3,h4,h5⟩:=oR he;obtain⟨w,ew,M0⟩:=r.get h2;have hl:=r.length;have hn:=kr;have fin:EP X pr σ Q w s:=⟨z,H,I,M0,q⟩
 exact subscriptTail_builtinR (x:=w) pl.typeIs slot_tuple_getitem.lookup
  (getItem_tuple (j:=j) (Q:=λr s'=>r=w/\EP X pr σ Q r s') pl @a @a (by rw[WZ,<-hl];exact h1) (by simpa using ew) ⟨rfl,fin⟩) hs
theorem D4:Sn X JO:=by
 intro value slice pr s σ H x y v u Q I rx ry h hs;obtain⟨z,i,c,rfl,rfl,hz,he,q⟩:=h;obtain⟨t,rfl⟩:=rx;obtain⟨t',rfl⟩:=ry;obtain⟨j,h1,h2,h3,h4,h5⟩:=oR he;have hl:z.cps.toList.length=z.length:=by simp[Str.length]
 rw[hl]at h1 h4 h5;have hn:=kr;exact tail_any (aaA s z t) slot_str_getitem.lookup (getItem_str (c:=c) (by
  have e1:decide (i < -(2 ^ 63:Int))=false:=Xn @a;have e2:decide (i>=2 ^ 63)=false:=Xn @a;rw[e1,e2,Bool.or_false]) (by rw[h1];simpa using h2) ⟨.str ⟨#[c]⟩,H,I.tok _,⟨_,rfl⟩,q⟩) hs
theorem rW(Kt:List Wp)(n j:Nat)(u:Wp):Obj.mapSeq (·.setIfInBounds j u) {cls:=.type "list",data:=.seq Kt.toArray n}={cls:=.type "list",data:=.seq (Kt.set j u).toArray n}:=by
 simp[Obj.mapSeq]
theorem Inv.lst(I:Inv X pr σ H s)(h:H p=some (.lst xs)):
  ∃(Kt:List Wp) (n:Nat),Vals xs Kt/\s.heap.get? p=some {cls:=.type "list",data:=.seq Kt.toArray n}/\xs.length<=sizeLine:=by
 obtain⟨z,Kt,n,r,e⟩:=I.hok p _ h;exact⟨Kt,n,r,e,z⟩
theorem Inv.lstUpd{ys:List V}{Kt its':List Wp}{n n':Nat}{f:Obj->Obj}(I:Inv X pr σ H s)(h:H p=some (.lst xs))
  (ho:s.heap.get? p=some {cls:=.type "list",data:=.seq Kt.toArray n}) (hf:f {cls:=.type "list",data:=.seq Kt.toArray n}={cls:=.type "list",data:=.seq its'.toArray n'}) (r:Vals ys its') (hz:ys.length<=sizeLine) (t:Nat):
  Inv X pr σ (upd H p (.lst ys)) {s with heap:=s.heap.update p f,toks:=t}:=by
 have e:(s.heap.update p f).get? p=some {cls:=.type "list",data:=.seq its'.toArray n'}:=by
  rw[Yz f ho (by rw[hf] <;> rfl),hf]
 refine I.write (x:=p) (e:=p) (by rw[h];trivial) (.inl rfl) (λb u hb q=>(XC _ _ (Yj hb)).trans q) ⟨_,e⟩ ?_;exact⟨hz,its',n',r,e⟩
def D5:V->V->V->Hp->(Hp->Prop)->Prop:=λo i v H Q=>∃p xs k j,o=.ref p/\i=.int k/\H p=some (.lst xs)/\ixN xs.length k=some j/\Q (upd H p (.lst (xs.set j v)))
theorem xo:JC X D5:=by
 intro pr s σ H o i v ov iv u Q I ro ri rv h;obtain⟨p,xs,k,j,rfl,rfl,hp,hj,q⟩:=h;cases ro;obtain⟨t,rfl⟩:=ri;obtain⟨Kt,n,r,ho,hz⟩:=I.lst hp;obtain⟨h1,h2,h3,h4⟩:=uk hj;have hl:=r.length;have hn:=kr;have I':Inv X pr σ (upd H p (.lst (xs.set j v))) {s with heap:=s.heap.update p (Obj.mapSeq (·.setIfInBounds j u))}:=
  I.lstUpd hp ho (rW Kt n j u) (r.set rv j) (by rw[XB];exact hz) s.toks
 by_cases h0:0<=k
 .have hk:k.toNat=j:=by
   rw[seqIndex_of h0 h4]at h1;exact Xj h1
  exact PySem.W.ki_setAt ho h0 @a (by rw[WZ,<-hl];exact h4) (by rw[hk];exact⟨_,I',q⟩)
 .have hk:(k+(Kt.toArray.size:Int)).toNat=j:=by
   rw[seqIndex_neg @a h3]at h1;rw[WZ,<-hl];exact Xj h1
  exact PySem.W.ki_setBack ho @a (by rw[WZ,<-hl];exact h3) @a (by rw[hk];exact⟨_,I',q⟩)
theorem mM(lo hi:Option Int)(n:Nat):(sliceBounds lo hi none n).1=((HT.sIx n 0 lo:Nat):Int)/\(sliceBounds lo hi none n).2.1=((HT.sIx n n hi:Nat):Int)/\(sliceBounds lo hi none n).2.2=1:=by
 refine⟨?_,?_,rfl⟩
 .cases lo with
  |none=>simp[sliceBounds,HT.sIx]
  |some i=>
   simp![sliceBounds,HT.sIx,YW,show(1:Int)>0 by decide,Zb];by_cases h:i<0
   .simp![h,Zb] <;> lia
   .simp![h,YG] <;> lia
 .cases hi with
  |none=>simp[sliceBounds,HT.sIx]
  |some i=>
   simp![sliceBounds,HT.sIx,YW,show(1:Int)>0 by decide,Zb];by_cases h:i<0
   .simp![h,Zb] <;> lia
   .simp![h,YG] <;> lia
theorem k8(Kt:List Wp)(lo hi:Option Int):slicePick Kt.toArray lo hi none=((Kt.drop (HT.sIx Kt.length 0 lo)).take (HT.sIx Kt.length Kt.length hi-HT.sIx Kt.length 0 lo)).toArray:=by
 obtain⟨h1,h2,h3⟩:=mM lo hi Kt.toArray.size;unfold slicePick;rw[h1,h2,h3];simp![sliceRange_one,pick_run,WZ] <;> rfl
def JP(K:W.Frag):V->Option Int->Option Int->Hp->VK->Prop:=λx lo hi H Q=>∃a xs,x=.ref a/\SqL K H a xs/\∀p,H p=none->Q (.ref p) (upd H p (.lst (y7 xs lo hi)))
theorem AJ:QH X (JP X.K):=by
 intro pr s σ H x v vl vu lo hi sl Q I rx hs pl pu h;obtain⟨a,xs,rfl,hx,q⟩:=h;cases rx;obtain⟨Kt,r,ht,hz⟩:=I.list hx;have hlen:=r.length;refine⟨"list",_,slot_list_getitem.lookup,ht.isList.typeIs,?_⟩;refine wpAny_getItem_list_slice ht.isList hs pl pu .none @t ?_ (by rw[WZ] <;> lia);rw[k8,<-hlen];refine⟨.ref s.heap.objs.size,_,I.laid (t':=s.toks) (o:=.lst (y7 xs lo hi)) (λb ob q=>WL _ q) (WU _) ?_,rfl,q _ (I.hok.fresh (WU _))⟩;exact⟨Xz (js xs lo hi) hz,_,0,(r.drop (HT.sIx xs.length 0 lo)).take (HT.sIx xs.length xs.length hi-HT.sIx xs.length 0 lo),W7 _ rfl⟩
noncomputable def xp:V->Bool
 | .non=>true
 | .bl _=>true
 | .int _=>true
 | .str _=>true
 |_=>false
noncomputable def UU:V->V->Bool
 | .non,.non=>true
 | .bl a,.bl b=>a==b
 | .bl a,.int b=>(if a then 1 else 0)==b
 | .int a,.bl b=>a==(if b then 1 else 0)
 | .int a,.int b=>a==b
 | .str a,.str b=>a==b
 |_,_=>false
theorem D6(ry:RelV y u)(rx:RelV x v)(fy:xp y=true)(fx:xp x=true):SeqAt.EqAt A s u v (UU y x):=by
 cases y with
 |non=>
  cases ry;cases x with
  |non=>cases rx;exact SeqAt.EqAt.same _
  |bl b=>cases rx;exact SeqAt.EqAt.none_bool b
  |int b=>obtain⟨t,rfl⟩:=rx;exact SeqAt.EqAt.none_int b t
  |str b=>obtain⟨t,rfl⟩:=rx;exact SeqAt.EqAt.none_str b t
  |_=>exact absurd (show false=true from fx) WT
 |bl a=>
  cases ry;cases x with
  |non=>cases rx;exact SeqAt.EqAt.bool_none a
  |bl b=>cases rx;exact SeqAt.EqAt.bool_bool a b
  |int b=>obtain⟨t,rfl⟩:=rx;exact SeqAt.EqAt.bool_int a b t
  |str b=>obtain⟨t,rfl⟩:=rx;exact SeqAt.EqAt.bool_str a b t
  |_=>exact absurd (show false=true from fx) WT
 |int a=>
  obtain⟨t',rfl⟩:=ry;cases x with
  |non=>cases rx;exact SeqAt.EqAt.int_none a t'
  |bl b=>cases rx;exact SeqAt.EqAt.int_bool a t' b
  |int b=>obtain⟨t,rfl⟩:=rx;exact SeqAt.EqAt.int_int a t' b t
  |str b=>obtain⟨t,rfl⟩:=rx;exact SeqAt.EqAt.int_str a t' b t
  |_=>exact absurd (show false=true from fx) WT
 |str a=>
  obtain⟨t',rfl⟩:=ry;cases x with
  |non=>cases rx;exact SeqAt.EqAt.str_none a t'
  |bl b=>cases rx;exact SeqAt.EqAt.str_bool a t' b
  |int b=>obtain⟨t,rfl⟩:=rx;exact SeqAt.EqAt.str_int a t' b t
  |str b=>obtain⟨t,rfl⟩:=rx;exact SeqAt.EqAt.str_str a t' b t
  |_=>exact absurd (show false=true from fx) WT
 |_=>exact absurd (show false=true from fy) WT
theorem iP:cb X (.builtin "len") (λxs H Q=>∃p ys,xs=[.ref p]/\(SqL X.K H p ys\/SqT X.K H p ys)/\Q (.int ys.length) H):=by
 intro pr s σ H xs us Q I r h;obtain⟨p,ys,rfl,hq,q⟩:=h;obtain⟨u,rfl,rx⟩:=dM r;cases rx;have hn:=kr;rcases hq with hq|hq
 .obtain⟨Kt,r',pl,hz⟩:=I.list hq;have hlen:=r'.length;exact Calls.call_len_list pl.isList (by simp![WZ] <;> lia) ⟨.int ys.length,H,I.tok _,⟨s.toks+1,by rw[WZ,hlen]⟩,q⟩
 .obtain⟨Kt,r',pl,hz⟩:=I.tuple hq;have hlen:=r'.length;exact len_tuple pl (by simp![WZ] <;> lia) ⟨.int ys.length,H,I.tok _,⟨s.toks+1,by rw[WZ,hlen]⟩,q⟩
theorem mO:cb X (.builtin "len") (λxs H Q=>∃z,xs=[.str z]/\z.length<=sizeLine/\Q (.int z.length) H):=by
 intro pr s σ H xs us Q I r h;obtain⟨z,rfl,hz,q⟩:=h;obtain⟨u,rfl,t,rfl⟩:=dM r;have hn:=kr;exact len_str @a ⟨.int z.length,H,I.tok _,⟨_,rfl⟩,q⟩
theorem iQ:cb X (.type "list") (λxs H Q=>∃p ys,xs=[.ref p]/\(SqL X.K H p ys\/SqT X.K H p ys)/\∀l,H l=none->Q (.ref l) (upd H l (.lst ys))):=by
 intro pr s σ H xs us Q I r h;obtain⟨p,ys,rfl,hq,q⟩:=h;obtain⟨u,rfl,rx⟩:=dM r;cases rx;have fin:∀(Kt:List Wp),Vals ys Kt->ys.length<=sizeLine->∀(h':UF) (c':Nat),(∀b o',s.heap.get? b=some o'->h'.get? b=some o')->
   h'.get? s.heap.objs.size=some {cls:=.type "list",dict:=none,data:=.seq Kt.toArray c',slots:=#[]}->EP X pr σ Q (.ref s.heap.objs.size) {s with heap:=h'}:=λKt r' hz h' c' kp e=>
  ⟨.ref s.heap.objs.size,_,I.laid (t':=s.toks) kp (WU _) (show ObjOk X.prog X.w _ h' _ (.lst ys) from⟨hz,Kt,c',r',e⟩),rfl,q _ (I.hok.fresh (WU _))⟩
 rcases hq with hq|hq
 .obtain⟨Kt,r',pl,hz⟩:=I.list hq;have hlen:=r'.length;obtain⟨o,ho,hc,n,hd⟩:=pl.isList;exact call_list_seq p (.inl rfl) ho hc hd (λh' c' kp e=>fin Kt r' hz h' c' kp e) (by simp![WZ] <;> lia)
 .obtain⟨Kt,r',pl,hz⟩:=I.tuple hq;have hlen:=r'.length;obtain⟨o,ho,hc,n,hd⟩:=pl;exact call_list_seq p (.inr rfl) ho hc hd (λh' c' kp e=>fin Kt r' hz h' c' kp e) (by simp![WZ] <;> lia)
theorem gO:cb X (.type "tuple") (λxs H Q=>∃p ys,xs=[.ref p]/\((SqL X.K H p ys/\∀l,H l=none->Q (.ref l) (upd H l (.tup ys)))\/(SqT X.K H p ys/\Q (.ref p) H))):=by
 intro pr s σ H xs us Q I r h;obtain⟨p,ys,rfl,h⟩:=h;obtain⟨u,rfl,rx⟩:=dM r;cases rx;rcases h with⟨hq,q⟩|⟨hq,q⟩
 .obtain⟨Kt,r',pl,hz⟩:=I.list hq;have hlen:=r'.length;refine call_tuple_list pl.isList (λh' kp=>?_) (by simp![WZ] <;> lia);have I1:Inv X pr σ H {s with heap:=h'}:=I.kept (t':=s.toks) kp;have I2:Inv X pr σ (upd H h'.objs.size (.tup ys)) {s with heap:=h'.push {cls:=.type "tuple",data:=.seq Kt.toArray}}:=
   I1.laid (t':=s.toks) (λb o e=>WL _ e) (WU _) (show ObjOk X.prog X.w _ _ _ (.tup ys) from⟨hz,Kt,r',IsTupN.new _ _⟩)
  exact⟨.ref h'.objs.size,_,I2,rfl,q _ (I1.hok.fresh (WU _))⟩
 .obtain⟨Kt,r',pl,hz⟩:=I.tuple hq;exact call_tuple_same pl ⟨.ref p,H,I,rfl,q⟩
def T8(K:W.Frag)(T:String)(x:V)(H:Hp):Prop:=match x with
 | .str _=>T = "str"
 | .int _=>T = "int"
 | .ref p=>(T = "list"/\∃xs,SqL K H p xs)\/(T = "tuple"/\∃o,K.lookup p=some o/\o.cls=.type "tuple"/\o.dict=none)\/
   (T = "dict"/\((∃kvs,H p=some (.dK kvs))\/∃kvs,H p=some (.dT kvs)))\/(T = "set"/\∃S n,H p=some (.set S n))
 |_=>False
theorem y8(I:Inv X pr σ H s)(r:RelV x v)(ty:T8 X.K T x H):
  s.TypeIs v T/\∀a,v=.ref a->∃ob,s.heap.get? a=some ob/\ob.dict=none:=by
 cases x with
 |str z=>
  obtain⟨t,rfl⟩:=r;cases(show T = "str" from ty);exact⟨aaA s z t,λ_ e=>nomatch e⟩
 |int i=>
  obtain⟨t,rfl⟩:=r;cases(show T = "int" from ty);exact⟨typeIs_int s i t,λ_ e=>nomatch e⟩
 |ref p=>
  cases r;rcases ty with⟨rfl,xs,hq⟩|⟨rfl,o,hk,hc,hd⟩|⟨rfl,hk⟩|⟨rfl,S,n,hk⟩
  .obtain⟨Kt,_,pl,_⟩:=I.list hq;refine⟨pl.isList.typeIs,λa e=>?_⟩;cases e;obtain⟨o,n,e,c,hd,_⟩:=pl;exact⟨o,e,hd⟩
  .refine⟨⟨o,I.kIn p o hk,hc⟩,λa e=>?_⟩;cases e;exact⟨o,I.kIn _ o hk,hd⟩
  .have z:∃o,s.heap.get? p=some o/\o.ExactDict:=by
    rcases hk with⟨kvs,hk⟩|⟨kvs,hk⟩
    .obtain⟨_,_,_,_,o,_,_,e,ex,_⟩:=I.hok p _ hk;exact⟨o,e,ex⟩
    .obtain⟨_,_,_,_,o,_,_,e,ex,_⟩:=I.hok p _ hk;exact⟨o,e,ex⟩
   obtain⟨o,e,ex⟩:=z;refine⟨⟨o,e,ex.1⟩,λa e2=>?_⟩;cases e2;exact⟨o,e,ex.2.1⟩
  .obtain⟨o,_,_,_,e,ex,_⟩:=I.hok p _ hk;refine⟨⟨o,e,ex.1⟩,λa e2=>?_⟩;cases e2;exact⟨o,e,ex.2.1⟩
 |_=>exact False.elim ty
noncomputable def tBM(K:W.Frag)(T:String)(r:V->List V->Hp->VK->Prop)(to:TE)(t:TA):TE:=λσ H Q=>to σ H λx H1=>T8 K T x H1/\t σ H1 λxs H2=>r x xs H2 Q
variable{o e:Expr}{es:List Expr}{to:TE}{t:TA}{name:Str}{apos Kx:Pos}{id:String}{r:V->List V->Hp->VK->Prop}
theorem AK(pa:PlainAttrs T)(slot:Slot T name id)(OT:typeOf (.builtin id)=pure (.type "method_descriptor"))(hm:Qf X id r)(ho:PE X o to)(ha:PA X (e::es) t)
  (Li:attributeBase o name X.env (eval o X.env)=eval o X.env:=by rfl)
  (Mg:((backTo Kx (starEach (e::es) X.env)).all (λx=>!x.1)&&(backToKw Kx (keywordEach [] X.env)).all (λx=>x.1.isSome)
   && decide ((e::es).length+([]:List Keyword).length+(if([]:List Keyword).isEmpty then 0 else 1)<30))=true:=by rfl)
  (Ln:(apos.endLine==Kx.line)=true:=by rfl) (hs:starEach (e::es) X.env=(false,eval e X.env)::starEach es X.env:=by rfl) (Lo:(backTo Kx (starEach es X.env)).any (·.1)=false:=by rfl):
  PE X (.Call (.Attribute o name apos) (e::es) [] Kx) (tBM X.K T r to t):=by
 intro pr s σ H Q I h;refine wpAny_Call_method_late Li Mg Ln rfl (KN (ho pr s σ H _ I h) λv s1 KQ=>?_);obtain⟨x,H1,I1,r1,ty,q1⟩:=KQ;obtain⟨h1,h2⟩:=y8 I1 r1 ty;refine⟨T,id,pa,slot,OT,h1,h2,?_⟩;have hA:=ha Kx pr s1 σ H1 _ I1 q1;rw[hs]at hA |-;refine YS (by show(false||(backTo Kx (starEach es X.env)).any (·.1))=false;rw[Lo] <;> rfl) (Y6 ?_);exact KN hA λus s2 ⟨vs,H2,I2,r2,q2⟩=>hm pr s2 σ H2 x vs v us Q I2 r1 r2 q2
end
def MtM(X:Cx)(id:String)(r:V->List V->Hp->VK->Prop):Prop:=
 ∀(pr:List (WP×Obj)) (s:WF) (σ:St) (H:Hp) (x:V) (xs:List V) (v:Wp) (us:List Wp) (Q:VK),Inv X pr σ H s->RelV x v->Vals xs us->r x xs H Q->
  wpAny @c X.A (call (.builtin id) (v::us)) (EP X pr σ Q) X.xe s
theorem Vals.one:∀{x:V}{us:List Wp},Vals [x] us->∃u,us=[u]/\RelV x u
 |_,_,.cons r .nil=>⟨_,rfl,r⟩
section
variable{l b:WP}{ys zs:List V}
theorem Inv.lset{Kt its':List Wp}{n:Nat}{f:Array Wp->Array Wp}{t':Nat}(I:Inv X pr σ H s)(hH:H l=some (.lst xs))
  (e:s.heap.get? l=some {cls:=.type "list",data:=.seq Kt.toArray n}) (hf:f Kt.toArray=its'.toArray) (hv:Vals ys its') (hz:ys.length<=sizeLine):
  Inv X pr σ (upd H l (.lst ys)) {s with heap:=s.heap.update l (Obj.mapSeq f),toks:=t'}:=by
 have q:=PySem.IsL.update e f;rw[hf]at q;refine I.write (x:=l) (e:=l) (by rw[hH];exact trivial) (.inl rfl) (λb' u hb hu=>(XC s.heap (Obj.mapSeq f) (Yj hb)).trans hu) ⟨_,q⟩ ?_;exact⟨hz,its',_,hv,q⟩
theorem Inv.lnew(I:Inv X pr σ H s)(hv:Vals ys Kt)(hz:ys.length<=sizeLine):
  Inv X pr σ (upd H s.heap.objs.size (.lst ys)) {s with heap:=s.heap.push {cls:=.type "list",data:=.seq Kt.toArray},toks:=t'}:=
 I.laid (λ_ _ q=>WL _ q) (WU _) ⟨hz,Kt,0,hv,W7 _ rfl⟩
theorem Inv.fresh(I:Inv X pr σ H s):H s.heap.objs.size=none:=I.hok.fresh (WU _)
theorem Inv.lstM(I:Inv X pr σ H s)(hH:H l=some (.lst xs)):xs.length<=sizeLine/\∃(Kt:List Wp) (n:Nat),Vals xs Kt/\xs.length=Kt.length/\s.heap.get? l=some {cls:=.type "list",data:=.seq Kt.toArray n}:=by
 obtain⟨z,Kt,n,r,e⟩:=I.hok l _ hH;exact⟨z,Kt,n,r,r.length,e⟩
end
section
def AL:V->List V->Hp->VK->Prop:=λx vs H Q=>∃l xs y,x=.ref l/\vs=[y]/\H l=some (.lst xs)/\xs.length<sizeLine/\Q .non (upd H l (.lst (xs++[y])))
theorem mP:MtM X "list.append" AL:=by
 intro pr s σ H x vs v us Q I rx rv h;obtain⟨l,xs,y,rfl,rfl,hH,hz,q⟩:=h;cases rx;obtain⟨u,rfl,ru⟩:=rv.one;obtain⟨z,Kt,n,r,hl,e⟩:=I.lstM hH;refine call_meets F.slot_list_append ⟨_,e,rfl⟩ F.entry_list_append (F.args_list_append_2 _ _) (PySem.list_append l Kt.toArray n u (by rw[WZ];lia)) ⟨e,?_⟩;refine⟨.non,_,I.lset (its':=Kt++[u]) hH e @t (r.append (.cons ru .nil)) ?_,rfl,q⟩;rw[Xs,Xb];lia
end
section
variable{prog:W1}{w:World}{E:Wp->WF->Prop}
end
section
end
end L2
namespace Att
open PySem PySem.W PySem.Calls PyProof.Rows
def jt:∀(ns:List Int) (vs:List Wp),WellAll P h vs (ns.map WData.int)->IntsAre vs ns:=by
 intro ns;induction ns with
 |nil=>
  intro vs w;rw[XD]at w;cases w;exact .nil
 |cons n ns ih=>
  intro vs w;rw[Xa]at w;cases w with
  |cons a b=>
   cases a;exact .cons _ _ (ih _ b)
def uo{l:OpenLaw}{n:Nat}(hn:l.most=some n){P:Params}{h:UF}{args:List WData}{vals:List Wp}
  (OU:l.row.toRowW.claim.pre args=true) (QJ:WellAll P h vals args):
  ∃a vs ns,vals=[Value.ref a]/\args=[WData.list (ns.map WData.int)]/\h.get? a=some {cls:=.type "list",data:=.seq vs.toArray}/\IntsAre vs ns/\ns.length<=n:=by
 have hsh:WShape.hasAll [] args [.list .int]=true:=(pre_splitW OU).1;have hc:l.pre.holds [] {args:=args}=true:=(pre_splitW OU).2;obtain⟨d,r,rfl,h1,h2⟩:=hasAllW_cons hsh;obtain rfl:=hasAllW_nil h2;obtain⟨xs,rfl,h3⟩:=hasW_list h1;obtain⟨ns,rfl⟩:=items_int h3;have hlen:ns.length<=n:=by
  unfold OpenLaw.pre at hc;have h4:(WTm.not (.lt (.lit (.int (n:Int))) (.len (.arg 0)))).holds [] {args:=[.list (ns.map .int)]}=true:=by
   have h4:=(holds_andW hc).1;rw[hn]at h4;exact h4
  have h5:=condW_of h4 (w_not (w_lt w_lit (w_len_list (w_arg rfl))));rw[WN]at h5;refine Nat.le_of_not_lt λq=>?_
  have q':(n:Int)<((ns.length:Nat):Int):=by lia
  first
   |(rw[Xc q']at h5;exact absurd h5 @b)
   |(simp at h5;lia)
 cases QJ with
 |cons w1 w2=>
  cases w2;cases w1 with
  |list ho L4=>exact⟨_,_,ns,rfl,rfl,ho,jt ns _ L4,hlen⟩
def uq(l:OpenLaw)(args:List WData):l.row.toRowW.claim.post args (.bool true) args=true:=
 postW_of (r:=l.row.toRowW) (X:=(true==true))
  (show WShape.has [] (.bool true) .bool=true by first|rfl|decide|simp[WShape.has,WShape.arms,WShape.armsAll])
  (show(WTm.eq .res (.lit (.bool true))).value [] {args:=args,res:=some (.bool true),after:=args}=some (.bool (true==true)) from w_eq_bool (w_res rfl) w_lit) rfl
def attach_call{l:OpenLaw}{n:Nat}{q:W1}{loose:List Str}{XP:(Str->Option Wp)->UF->Prop}{YP:World->UF->Prop}{d:DefRec}
  (hn:l.most=some n) (Sq:d.params.defaults=[])
  (call:∀(w:World) (s₀ s₁:WF) (mg mb:Str->Option Wp) (fa:WP) (o:Obj) (pm cd doc:Wp) (a:WP) (vs:List Wp) (ns:List Int),
   Ground q loose [] XP w s₀ mg mb s₁.heap->YP w s₁.heap->
   s₁.heap.get? fa=some o->o.data=.func (docDef d.name d.params d.body d.scope pm cd doc)->s₁.heap.CodeRec cd d.name->mg d.name=some (.ref fa)->
   s₁.heap.get? a=some {cls:=.type "list",data:=.seq vs.toArray}->IntsAre vs ns->ns.length<=n->s₁.gens = #[]->
   codeAny (model l.prog w) callerA (.call (.ref fa) ⟨[.ref a],[]⟩) (λr s'=>r=.ok (.ret (.bool true))/\OldK s₁.heap s'.heap/\s'.os=s₁.os/\AllBare s'.gens) s₁):
  WalkO q loose XP YP l.row.toRowW d [] (λf vs=>PySem.call f vs):=by
 intro w s₀ s₁ mg mb G Y fa o pm cd doc dV kV ho hd NA hD Sr hg args vals as OU Ss hrd QJ VX;obtain rfl:dV=.none:=Dflts.none hD Sq;obtain rfl:kV=.none:=Dflts.noKw hD;obtain⟨a,vs,ns,rfl,rfl,QK,hints,hlen⟩:=uo hn OU QJ;refine enter_call (Z3 (call w s₀ s₁ mg mb fa o pm cd doc a vs ns G Y ho (fd_plain hd) NA Sr QK hints hlen hg) λr s' hq=>?_);obtain⟨rfl,h2,h3,h4⟩:=hq;exact⟨.inl ⟨.bool true,.bool true,[],rfl,λ_=>rfl,.bool true,uq l _,λ_=>⟨List.Pairwise.nil,λ_ hm=>(nomatch hm)⟩⟩,h2,h3,h4⟩
section
variable{prog:W1}{w:World}{A:Uf}{E:Wp->WF->Prop}{s:WF}{K:Frag}
end
end Att
namespace L2
open PySem PySem.Spec PyProof.Rows
theorem mQ:∀{vs:List Wp}{ns:List Int},IntsAre vs ns->Vals (ns.map V.int) vs
 |_,_,.nil=>.nil
 |_,_,.cons n t h=>.cons ⟨t,rfl⟩ (mQ h)
def HM(H:Hp):Prop:=∀b,H b=none\/∃o xs,H b=some (.frz o (.lst xs))
variable{K:W.Frag}{mg:Str->Option Wp}{x:Str}
theorem xq{k:Nat}(KX:K.In s₁.heap)(RY:s₁.heap.Ns mainGlobals mg)(hb:s₁.heap.Ns builtinsNs mb)(N8:∀x:Str,x≠"__name__"->mb x=bootBuiltins x)(hlim:s₁.heap.NoLimit)(hg:s₁.gens = #[])(ha:s₁.heap.get? a=some {cls:=.type "list",data:=.seq vs.toArray})(hi:IntsAre vs ns)(hl:ns.length<=sizeLine)(hr:Room k callerA)(F:∀base:UF,K.In base->base.Ns mainGlobals mg->FnOk P w K mg base CX k fa fd [x] sp)(Su:∀(s:WF) (u:Wp),BindsTo s fd ⟨[u],[]⟩ [(x,u)])(Mv:∀H:Hp,HM H->SqL K H a (ns.map V.int)->sp [.ref a] H (λv _=>v=.bl true) λ_ _ _=>False)(UW:∀H e s',CX [] H s₁ (λ_ _ _=>False) e s'->False):
  codeAny (model P w) callerA (.call (.ref fa) ⟨[.ref a],[]⟩) (λr s'=>r=.ok (.ret (.bool true))/\OldK s₁.heap s'.heap/\s'.os=s₁.os/\AllBare s'.gens) s₁:=by
 have rv:=mQ hi;have lenV:=hi.length;have core:∀H:Hp,HM H->SqL K H a (ns.map V.int)->HOk P w H s₁.heap->(∀b,H b≠none->b=a)->(H a≠none->K.lookup a=none)->
   codeAny (model P w) callerA (.call (.ref fa) ⟨[.ref a],[]⟩) (λr s'=>r=.ok (.ret (.bool true))/\OldK s₁.heap s'.heap/\s'.os=s₁.os/\AllBare s'.gens) s₁:=by
  intro H hO hS hok hA hK;have Nn:∀{b:WP}{o:Obj},s₁.heap.get? b=some o->H b=none->(xf s₁.heap H).get? b=some o:=λe n=>xg e n
  have Sl:∀{b:WP}{o:Obj}{es:Array DictEntry}{ep:Nat},s₁.heap.get? b=some o->o.data=.dict es ep->H b=none:=λ{b o es ep} e d=>by
   cases q:H b with
   |none=>rfl
   |some u=>
    have e':b=a:=hA b (by rw[q];simp);subst e';rw[ha]at e;cases e;have d':Data.seq vs.toArray _=Data.dict es ep:=d;cases d'
  have T9:∀{b:WP}{m:Str->Option Wp},s₁.heap.Ns b m->(xf s₁.heap H).Ns b m:=λ{b m} ⟨o,es,ep,e,d,r⟩=>⟨o,es,ep,Nn e (Sl e d),d,r⟩
  have VY:K.In (xf s₁.heap H):=λb o e=>Nn (KX b o e) (by
   cases q:H b with
   |none=>rfl
   |some u=>
    have e':b=a:=hA b (by rw[q];simp);subst e';rw[hK (by rw[q];simp)]at e;cases e)
  have hM:Mod K mg (xf s₁.heap H):=⟨VY,T9 RY,⟨mb,T9 hb,N8⟩,let⟨mc,h1,h2⟩:=hlim;⟨mc,T9 h1,h2⟩⟩
  have e0:Env0 P w K mg (xf s₁.heap H) callerA [] s₁ H:=⟨rfl,hM,λb o e=>Ao e,acg (tF _ _),trivial,λb hb=>absurd (show b∈([]:List WP) from hb) @t,hok,.of_eq hg⟩
  refine Z3 ((F _ VY (T9 RY)).run callerA [] s₁ H ⟨[.ref a],[]⟩ [.ref a] [.ref a] _ _ hr e0 (Su s₁ (.ref a)) (.cons rfl .nil) (Mv H hO hS)) λr s' h=>?_
  cases r with
  |error e=>exact(UW H e s' h).elim
  |ok fl=>
   cases fl with
   |next=>exact False.elim h
   |brk=>exact False.elim h
   |cont=>exact False.elim h
   |ret u=>
    obtain⟨v,H',os,bare,un,hok',r',q⟩:=h;have q':v=.bl true:=q;subst q';obtain rfl:u=Value.bool true:=r';refine⟨rfl,OldK.of_keep λb o e=>?_,os,bare⟩;cases q:H b with
    |none=>exact un.keep b o e q (by intro z;exact absurd (show b∈([]:List WP) from z) @t) @t
    |some u=>
     rcases hO b with z|⟨ob,xs,z⟩
     .rw[q]at z;cases z
     .have z2:=un.frzs b ob _ z;obtain⟨e1,_⟩:=hok b _ z;obtain⟨e2,_⟩:=hok' b _ z2;rw[e]at e1;cases e1;exact e2
 cases hk:K.lookup a with
 |some o=>
  have e:=KX a o hk;rw[ha]at e;cases e;refine core (λ_=>none) (λ_=>.inl rfl) (.inr ⟨_,vs.toArray,_,hk,rfl,rfl,rfl,by rw[WZ,lenV];exact hl,by simpa using rv⟩) (λb u z=>by have z':(none:Option HO)=some u:=z;cases z') (λb z=>absurd rfl z) λz=>absurd rfl z
 |none=>
  refine core (λb=>if b=a then some (.frz {cls:=.type "list",data:=.seq vs.toArray} (.lst (ns.map V.int))) else none) (λb=>?_) (.inl (.inr ⟨{cls:=.type "list",data:=.seq vs.toArray},WV rfl⟩)) (λb u z=>?_) (λb z=>?_) λ_=>hk
  .by_cases hb:b=a
   .exact .inr ⟨_,_,WV hb⟩
   .exact .inl (W6 hb)
  .by_cases hb:b=a
   .have z':=(WV hb).symm.trans z;cases z';subst hb;exact⟨ha,by rw[WN];exact hl,vs,_,rv,ha⟩
   .have z':=(W6 hb).symm.trans z;cases z'
  .by_cases hb:b=a
   .exact hb
   .exact absurd (W6 hb) z
theorem AM{l:PySem.W.OpenLaw}{n k:Nat}{q:W1}{loose:List Str}{XP:(Str->Option Wp)->UF->Prop}{YP:World->UF->Prop}{d:DefRec}{K:Params->W.Frag}{CX:World->NB}{sp:World->Sp}
  (hn:l.most=some n) (hn2:n<=sizeLine) (Sq:d.params.defaults=[]) (hr:Room k callerA)
  (hY:∀(w:World) (h:UF),YP w h->(K w.params).In h)
  (F:∀(w:World) (mg:Str->Option Wp) (fa:WP) (h:UF),(K w.params).In h->h.Ns mainGlobals mg->mg d.name=some (.ref fa)->
   ∃fd:FuncData,(∀(s:WF) (u:Wp),BindsTo s fd ⟨[u],[]⟩ [(x,u)])/\
    ∀base:UF,(K w.params).In base->base.Ns mainGlobals mg->FnOk l.prog w (K w.params) mg base (CX w) k fa fd [x] (sp w))
  (Mv:∀(w:World) (H:Hp) (a:WP) (ns:List Int),ns.length<=n->HM H->SqL (K w.params) H a (ns.map V.int)->sp w [.ref a] H (λv _=>v=.bl true) λ_ _ _=>False)
  (UW:∀(w:World) (H:Hp) (s:WF) (e:Wp) (s':WF),CX w [] H s (λ_ _ _=>False) e s'->False):
  PySem.W.WalkO q loose XP YP l.row.toRowW d [] (λf vs=>PySem.call f vs):=by
 refine Att.attach_call hn Sq λw s₀ s₁ mg mb fa o pm cd doc a vs ns G Y ho hd NA Sr QK hints hlen hg=>?_
 have KX:=hY w _ Y;obtain⟨fd,hb,hF⟩:=F w mg fa _ KX G.T.g Sr;exact xq KX G.T.g G.T.b G.T.builtins G.T.nolimit hg QK hints (Xz hlen hn2) hr hF hb (λH hO hS=>Mv w H a ns hlen hO hS) λH e s'=>UW w H s₁ e s'
noncomputable def defArgs(s:Stmt):Arguments:=match s with
 | .FunctionDef _ a _ _ _ _ _ _ _ _=>a
 |_=>{posonlyargs:=[],args:=[],vararg:=none,kwonlyargs:=[],kw_defaults:=[],kwarg:=none,defaults:=[]}
noncomputable def bj(s:Stmt):List Stmt:=match s with
 | .FunctionDef _ _ b _ _ _ _ _ _ _=>b
 |_=>[]
noncomputable def defScope(s:Stmt):Scope:=match s with
 | .FunctionDef _ _ _ _ _ _ sc _ _ _=>sc
 |_=>{kind:=.function,names:=[],isGenerator:=false,isCoroutine:=false}
abbrev M5:NB:=λ_ _ _ _ _ _=>False
abbrev E0:XK:=λ_ _ _=>False
variable{X:Cx}
theorem HN:ud M5 X E0:=λ_ _ _ _ _ _ _ h=>h.elim
structure Fun(K:W.Frag)(x qual:Str)(st:Stmt)(f:WP)(fd:FuncData):Prop where
 ex:∃(oc:Wp) (od:Option WP) (kV doc pm:Wp) (an:Option WP) (KW ct:Wp) (ND:Array (Option Wp)),
  fd=PySem.W.fnOf x qual (defArgs st) (bj st) (defScope st) .none kV doc pm an KW ct/\K.lookup f=some ⟨oc,od,.func fd,ND⟩/\PySem.W.codeIn K KW qual=true
 kp:PySem.W.keepIn K (.ref f)=true
variable{qual:Str}{st:Stmt}{f:WP}{fd:FuncData}{ps:List Str}
section
variable{P:W1}{w:World}{base:UF}
theorem Fun.ok{k:Nat}(F:Fun K x qual st f fd)(S:FnScope N ps (defScope st))(len:∀vs H Q E,sp vs H Q E->vs.length=ps.length)(MS:∀(KW:Wp) (A:Uf) (outer:List Env) (s:WF) (H:Hp) (vs:List V) (Q:VK) (E:XK),Room k (A.deeper (envOfC qual (defScope st) s.heap.objs.size f KW))->sp vs H Q E->
   ∃t,PSs (oM M5 P w K mg base N qual (defScope st) f KW A outer s H E).nox (bj st) t/\t {nx:=λ_ H'=>Q .non H',rt:=Q} (gN N vs) H):FnOk P w K mg base M5 (k+1) f fd ps sp:=by
 obtain⟨oc,od,kV,doc,pm,an,KW,ct,ND,rfl,lk,NA⟩:=F.ex;refine DZ lk NA S len λA outer s H vs Q E hr Mv=>?_
 obtain⟨t,h,q⟩:=MS KW A outer s H vs Q E hr Mv;exact⟨t,h.nox,q⟩
theorem Fun.binds(F:Fun K x qual st f fd)
  (h:∀(kV doc pm:Wp) (an:Option WP) (KW ct:Wp) (us:List Wp),us.length=ps.length->bindArgs (PySem.W.fnOf x qual (defArgs st) (bj st) (defScope st) .none kV doc pm an KW ct) ⟨us,[]⟩=pure (ps.zip us)):Binds K fd ps []:=by
 obtain⟨oc,od,kV,doc,pm,an,KW,ct,ND,rfl,lk,NA⟩:=F.ex;exact .all (h kV doc pm an KW ct)
theorem y9{kV:Wp}(l:K.lookup f=some ⟨oc,od,.func (PySem.W.fnOf x qual (defArgs st) (bj st) (defScope st) .none kV doc pm an KW ct),ND⟩)(c:PySem.W.codeIn K KW qual=true)(k:PySem.W.keepIn K (.ref f)=true):Fun K x qual st f (PySem.W.fnOf x qual (defArgs st) (bj st) (defScope st) .none kV doc pm an KW ct):=⟨⟨oc,od,kV,doc,pm,an,KW,ct,ND,rfl,l,c⟩,k⟩
end
theorem hu_of{k:Nat}(hr:Room k A):A.units+1<cLine:=Nat.lt_of_le_of_lt (Nat.add_le_add_left (by decide:1<=64) _) hr.units
section
theorem pv(i:Nat){pos:Pos}(hN:X.N[i]?=some x:=by rfl)(hv:UL X.env.scope x:=by first|exact Or.inl rfl|exact Or.inr (Or.inl rfl)|exact Or.inr (Or.inr rfl))(hd:@o=false:=by decide)
  (NA:(x==("__classdict__" : Str))=false:=by decide):PE X (.Name x pos) (oK i):=DA hN hv hd NA
end
theorem iteF{A B:Prop}(h:B):if false=true then A else B:=by
 rw[W6 WT];exact h
theorem Hg{A B:Prop}(h:A):if true=true then A else B:=by
 rw[WV rfl];exact h
def Same(H H':Hp):Prop:=∀b o,H b=some o->H' b=some o
theorem Same.refl(H:Hp):Same H H:=λ_ _ h=>h
theorem Same.trans(a:Same H H1)(b:Same H1 H2):Same H H2:=λc o h=>b c o (a c o h)
end L2
set_option maxHeartbeats 4000000
namespace NX
open PySem PySem.Spec PyProof.Rows L2
variable{X:Cx}
section
theorem xr(v:Int)(n:Nat):max (0:Int) (min (if v<0 then v+(n:Int) else v) (n:Int))=((HT.sIx n 0 (some v):Nat):Int):=by
 show _=(((if v<0 then(v+(n:Int)).toNat else min v.toNat n):Nat):Int)
 split <;> lia
theorem D7(a b:Nat):sliceRange (a:Int) (b:Int) 1=(List.range (b-a)).map (λk=>a+k):=by
 unfold sliceRange;rw[WV (by decide:(1:Int)>0)];by_cases K4:(a:Int)<b
 .have e3:(((b:Int)-a+1-1) / 1).toNat=b-a:=by first|lia|(simp;done)|(simp;lia)
  simp![K4,Zb,e3];refine Yg λk _=>?_
  lia
 .have:b-a=0:=by lia
  simp[K4,this]
theorem JQ(lo hi:Option Int)(n:Nat):Builtin.Str.strSliceIndices lo hi 1 n=(List.range (HT.sIx n n hi-HT.sIx n 0 lo)).map (λk=>HT.sIx n 0 lo+k):=by
 rw[<-D7];unfold Builtin.Str.strSliceIndices;simp![show(1:Int)>0 from by decide,Zb];cases lo with
 |none=>
  cases hi with
  |none=>rfl
  |some v=>exact Yp (λz=>sliceRange 0 z 1) (xr v n)
 |some u=>
  cases hi with
  |none=>exact Yp (λz=>sliceRange z (n:Int) 1) (xr u n)
  |some v=>exact(Yp (λz=>sliceRange z _ 1) (xr u n)).trans (Yp (λz=>sliceRange _ z 1) (xr v n))
def D8(xs:List Nat)(lo hi:Option Int):List Nat:=(xs.drop (HT.sIx xs.length 0 lo)).take (HT.sIx xs.length xs.length hi-HT.sIx xs.length 0 lo)
theorem za(l:List α):∀(n a:Nat),a+n<=l.length->((List.range n).map (λk=>a+k)).filterMap (l[·]?)=(l.drop a).take n
 | 0,_,_=>by simp
 |n+1,a,h=>by
  have K4:a+n<l.length:=by lia
  rw[abb,Xd,Z4,za l n a @a,Zm,List.getElem?_drop];simp[WM K4]
theorem ur(x:Str)(lo hi:Option Int):(Txt.slice x lo hi).cps.toList=D8 x.cps.toList lo hi:=by
 have hl:x.cps.toList.length=x.length:=W0;have ha:=HT.ug x.length 0 (Xw _) lo;have hb:=HT.ug x.length x.length (WU _) hi;unfold Txt.slice D8;rw[JQ,hl];split
 .rename_i h;have h2:HT.sIx x.length x.length hi-HT.sIx x.length 0 lo=x.length:=by simpa using h
  have ez:HT.sIx x.length 0 lo=0\/x.length=0:=by lia
  rcases ez with e|e
  .rw[h2,e,aav,YT @a]
  .have:x.cps.toList=[]:=XT @a;rw[this];simp
 .have hk:∀(f:List Nat),f.filterMap (x.cps[·]?)=f.filterMap (x.cps.toList[·]?):=λf=>by
   congr 1
   funext i
   simp
  show(List.filterMap _ _).toArray.toList=_;rw[aag,hk];by_cases hle:HT.sIx x.length 0 lo<=HT.sIx x.length x.length hi
  .rw[za _ _ _ @a]
  .have e0:HT.sIx x.length x.length hi-HT.sIx x.length 0 lo=0:=by lia
   rw[e0];rfl
abbrev S(l:List Nat):Str:=⟨l.toArray⟩
theorem mR(x:Str):S x.cps.toList=x:=by cases x;simp[S]
theorem S_inj(h:S a=S b):a=b:=by
 have:=Yp (λz:Str=>z.cps.toList) h;simpa[S] using this
theorem mS(l:List Nat):(S l).length=l.length:=by simp[S,Str.length]
theorem cJ(l:List Nat):(S l).cps.toList=l:=by simp[S]
theorem HP(a b:List Nat):S a++S b=S (a++b):=by
 rw[<-mR (S a++S b),PySem.W.KT.app_list,cJ,cJ]
def JR:V->Option Int->Option Int->Hp->VK->Prop:=λx lo hi H Q=>∃l,x=.str (S l)/\l.length<=sizeLine/\Q (.str (S (D8 l lo hi))) H
theorem D9:QH X JR:=by
 intro pr s σ H x v vl vu lo hi sl Q I rx hs pl pu h;obtain⟨l,rfl,hz,q⟩:=h;obtain⟨t,rfl⟩:=rx;have Qg:(S l).length<=sizeLine:=by rw[mS];exact hz
 have e:∀t' k,EP X pr σ Q (.str (Txt.slice (S l) lo hi) t') {s with toks:=k}:=λt' k=>by
  refine⟨.str (S (D8 l lo hi)),H,I.tok _,⟨t',?_⟩,q⟩;have e1:=ur (S l) lo hi;rw[cJ]at e1;rw[<-e1,mR]
 refine⟨"str",_,PySem.F.slot_str_getitem.lookup,aaA _ _ _,?_⟩;have key:∀(QL Ua:Option (Int×Tok)),partValue QL=vl->partValue Ua=vu->QL.map (·.1)=lo->Ua.map (·.1)=hi->
   wpAny @c X.A (getItem (.str (S l) t) (.ref sl)) (EP X pr σ Q) X.xe s:=by
  rintro QL Ua rfl rfl rfl rfl;exact wpAny_getItem_str_slice (l:=QL) (u:=Ua) (st:=none) hs rfl (post_val_or_str ⟨Xz (Txt.slice_le (S l) _ _) Qg,λt' k=>e t' k⟩)
 cases pl with
 |none=>
  cases pu with
  |none=>exact key none none rfl rfl rfl rfl
  |int j uj=>exact key none (some (j,uj)) rfl rfl rfl rfl
 |int i ui=>
  cases pu with
  |none=>exact key (some (i,ui)) none rfl rfl rfl rfl
  |int j uj=>exact key (some (i,ui)) (some (j,uj)) rfl rfl rfl rfl
theorem AN{xs:List V}{j:Nat}{x:V}(h:xs[j]?=some x):xs.getD j .non=x:=by rw[W8,h];rfl
end
def Def(K:W.Frag)(mg:Str->Option Wp)(x:Str)(st:Stmt):Prop:=∃f fd,Fun K x x st f fd/\mg x=some (.ref f)
def Ct(P:W1)(w:World)(K:W.Frag)(mg:Str->Option Wp)(base:UF)(x:Str)(k:Nat)(sp:Sp):Prop:=
 ∃f fd ps,FnOk P w K mg base M5 k f fd ps sp/\mg x=some (.ref f)/\PySem.W.keepIn K (.ref f)=true/\Binds K fd ps []
variable{e:Expr}{es:List Expr}{x:Str}
section
variable{t:TA}{p pos:Pos}{k:Nat}{sp:Sp}
theorem AO(C:Ct X.prog X.w X.K X.mg X.base x k sp)(hr:Room k X.A)(hg:Gl X x)(ha:PA X (e::es) t)(Lw:@o=false:=by decide)
  (he:starEach (e::es) X.env=(false,eval e X.env)::starEach es X.env:=by rfl) (Lj:(backTo pos (starEach es X.env)).any (·.1)=false:=by rfl):
  PE X (.Call (.Name x p) (e::es) [] pos) (tCall sp [] E0 t):=by
 obtain⟨f,fd,ps,G,m,kp,b⟩:=C;exact Ay G hr hg m kp b .nil HN ha Lw he Lj
end
theorem bt_len:bootBuiltins "len" = some (.builtin "len"):=by decide +kernel
theorem dN:bootBuiltins "isinstance" = some (.builtin "isinstance"):=by decide +kernel
theorem uu:bootBuiltins "list" = some (.type "list"):=by decide +kernel
theorem xt:bootBuiltins "tuple" = some (.type "tuple"):=by decide +kernel
theorem line_eq:sizeLine=16777216:=XR
theorem flat_strs(a:List (List Nat)):(a.map λl=>V.str (S l)).all xp=true:=by
 rw[Xr];intro v hv;obtain⟨l,_,rfl⟩:=YJ.mp hv;rfl
section
variable{st:Stmt}
end
noncomputable def clOf(scope:Scope)(env:Env):List (Str×WP):=scope.names.foldl (λcs y=>if y.2==NameKind.free then(y.1,(env.cells.lookup y.1).getD 0)::cs else cs) []
noncomputable def gP(scope:Scope)(env:Env):Bool:=scope.names.all λy=>y.2 != NameKind.free||env.kindOf y.1==some .cell||env.kindOf y.1==some .free
theorem fH(env:Env):∀(l:List (Str×NameKind)) (cs:List (Str×WP)),(∀y∈l,y.2=.free->∃c,env.cells.lookup y.1=some c)->
  (forIn l cs λ(y:Str×NameKind) (r:List (Str×WP))=>(do
   if y.2==NameKind.free then
    let a <-cellOf env y.1
    pure (ForInStep.yield ((y.1,a)::r))
   else pure (ForInStep.yield r):Sem (ForInStep (List (Str×WP)))))=pure (l.foldl (λcs y=>if y.2==NameKind.free then(y.1,(env.cells.lookup y.1).getD 0)::cs else cs) cs)
 |[],cs,_=>by simp
 |y::l,cs,h=>by
  rw[abc,ZN];by_cases k:y.2=.free
  .obtain⟨c,e⟩:=h y WJ k;have e2:cellOf env y.1=pure c:=by unfold cellOf;rw[e]
   simp![k,X4,Zb,e2,e,ZE,pure_bind];exact fH env l _ λz hz=>h z (WK _ hz)
  .have kb:(y.2==NameKind.free)=false:=by simpa using k
   simp![kb,Xt,YG,pure_bind];exact fH env l _ λz hz=>h z (WK _ hz)
theorem gd(env:Env)(x:Str)(c:WP):∀(l:List (Str×NameKind)) (cs:List (Str×WP)),(∀y∈l,y.2=.free->∃c,env.cells.lookup y.1=some c)->(cs.lookup x=some c->env.cells.lookup x=some c)->
  (l.foldl (λcs y=>if y.2==NameKind.free then(y.1,(env.cells.lookup y.1).getD 0)::cs else cs) cs).lookup x=some c->env.cells.lookup x=some c
 |[],_,_,h,e=>h e
 |y::l,cs,hf,h,e=>by
  rw[ZN]at e;refine gd env x c l _ (λz hz=>hf z (WK _ hz)) (λq=>?_) e;split at q
  .rename_i k;have k:y.2=.free:=by simpa using k
   obtain⟨d,ed⟩:=hf y WJ k;rw[X5]at q;cases hx:x==y.1 with
   |true=>
    rw[hx]at q;have exy:x=y.1:=by simpa using hx
    rw[ed,ZE]at q;rw[exy,ed];exact q
   |false=>
    rw[hx]at q;exact h q
  .exact h q
theorem ju(env:Env)(x:Str):∀(l:List (Str×NameKind)) (cs:List (Str×WP)),((∃d,cs.lookup x=some d)\/(x,NameKind.free)∈l)->
  ∃d,(l.foldl (λcs y=>if y.2==NameKind.free then(y.1,(env.cells.lookup y.1).getD 0)::cs else cs) cs).lookup x=some d
 |[],_,h=>by
  rcases h with h|h
  .exact h
  .cases h
 |y::l,cs,h=>by
  rw[ZN];refine ju env x l _ ?_;rcases h with⟨d,h⟩|h
  .refine .inl ?_;split
   .rw[X5];cases hx:x==y.1 with
    |true=>exact⟨_,rfl⟩
    |false=>exact⟨d,h⟩
   .exact⟨d,h⟩
  .rcases WY.mp h with h|h
   .refine .inl ?_;rw[<-h];refine⟨(env.cells.lookup x).getD 0,?_⟩;show List.lookup x ((x,_)::cs)=_;rw[X5,X4]
   .exact .inr h
def bz(X:Cx)(scope:Scope)(N:List Str)(C:WP)(s:WF)(H:Hp)(fp:List WP)(pn:List (WP×Obj)):Cx:=
 {X with N:=N,s₀:=s,H₀:=H,env:=compEnvC scope (clOf scope X.env) C X.env,outer:=X.stack,ex:=fp,fn:=λ_=>false,pn:=pn,xe:=λ_ _=>False}
noncomputable def kx(ix:List (Option Nat))(σ:L2.St):L2.St:=ix.map λi=>i.bind λi=>(σ[i]?).bind id
def AQ(wi:TI)(ix:List (Option Nat))(g:TG)(tc:TT)(te:TE):TE:=λσ H Q=>wi σ H λJ H1=>∀D,H1 D=none->∃W:Nat->Nat->L2.St->Hp->Prop,(∃m,W 0 m (kx ix σ) (upd H1 D (.lst [])))/\
 ∀i m σ1 H2,W i m σ1 H2->(J.stop i H2/\Q (.ref D) H2)\/(J.go i H2/\∀x H3,J.yld i H2 x H3->g x σ1 H3 λσ2 H4=>tc σ2 H4 λb H5=>if b=true then te σ2 H5 λv H6=>
  ∃ys,H6 D=some (.lst ys)/\ys.length<sizeLine/\∃m',m'<m/\W (i+1) m' σ2 (upd H6 D (.lst (ys++[v]))) else ∃m',m'<m/\W (i+1) m' σ2 H5)
abbrev OV:Wp->WF->Prop:=λ_ _=>False
variable{α:Type}{A:Uf}{E:Wp->WF->Prop}{s:WF}
theorem RZ{t:Sem α}(h:wpAny M A t Q OV s)(k:∀a s,Q a s->Q' a s):wpAny M A t Q' E s:=XO h k λ_ _ z=>z.elim
variable{prog:W1}{w:World}{elt iter:Expr}{ifs:List Expr}{scope:Scope}{env:Env}
theorem uv{R:Result->WF->Prop}{pos:Pos}(I:Nat->WF->Prop)(turn:∀n s,I n s->wpAny @i A (pyNext it) (λr s₁=>match r with
   |none=>R (.ok .next) s₁
   |some v=>wpAny @i A (letOwnedTupleGo target it v) (λ_ s₂=>wpAny @i A (assign target env v) (λ_ s₃=>
     wpAny @i A (forIn ifs true λc r=>if r=true then do let ok <-isTrue c env (eval c env);pure (ForInStep.yield ok) else pure (ForInStep.yield r)) (λok s₄=>
      if ok=true then wpAny @i A (eval elt env) (λx s₅=>
       wpAny @i A (call (.builtin "list.append") [acc,x]) (λ_ s₆=>∃m,m<n/\I m s₆) OV s₅) OV s₄
      else ∃m,m<n/\I m s₄) OV s₃) OV s₂) OV s₁) OV s)(n:Nat)(h:I n s):codeAny @i A (.compLoop (.ListComp elt [⟨target,iter,ifs,0⟩] scope pos) 0 it acc env) R s:=by
 refine codeAny_loop rfl I (λn s hI=>?_) n h;show wpAny _ A ((compTurn (.ListComp elt [⟨target,iter,ifs,0⟩] scope pos) 0 it acc env).onRaise (λx=>do noteFrame x env;theTreesLotGoes x)) _ _ s;refine wpAny_noted ?_;rw[compTurn_list];refine WI (wpAny_standAt (WI (RZ (turn n s hI) λr s₁ h₁=>?_)));cases r with
 |none=>exact WO h₁
 |some v=>
  refine WI (RZ h₁ λ_ s₂ h₂=>WI (RZ h₂ λ_ s₃ h₃=>WI (RZ h₃ λok s₄ h₄=>?_)));cases ok with
  |false=>exact WO ⟨rfl,h₄⟩
  |true=>exact WI (WI (RZ h₄ λx s₅ h₅=>WI (RZ h₅ λ_ s₆ h₆=>WO (WO ⟨rfl,h₆⟩))))
def R0(X:Cx)(ifs:List Expr)(t:TT):Prop:=
 ∀(pr:List (WP×Obj)) (s:WF) (σ:L2.St) (H:Hp) (Q:Bool->Hp->Prop),Inv X pr σ H s->t σ H Q->
  wpAny @c X.A (forIn ifs true λc r=>if r=true then do let ok <-isTrue c X.env (eval c X.env);pure (ForInStep.yield ok) else pure (ForInStep.yield r)) (TP X pr σ Q) X.xe s
noncomputable def JS:TT:=λ_ H Q=>Q true H
theorem AR:R0 X [] JS:=λ_ _ _ H _ I h=>wpAny_tests_nil ⟨H,I,h⟩
theorem AS{t:TT}(h:PT X c t):R0 X [c] t:=λpr s σ H Q I k=>wpAny_tests_one (h pr s σ H Q I k)
noncomputable def zb(X:Cx)(scope:Scope)(N:List Str)(ix:List (Option Nat)):Bool:=
 N.length==ix.length&&(N.zip ix).all λy=>match y.2 with
  |none=>true
  |some j=>X.N[j]?==some y.1&&scope.names.lookup y.1==some .free
theorem mT(h:scope.names.lookup x=some .free):(relabel scope env).names.lookup x=some .cell\/(relabel scope env).names.lookup x=some .free:=by
 unfold relabel;dsimp only;generalize scope.names=l at h;induction l with
 |nil=>cases h
 |cons y l ih=>
  obtain⟨n,k⟩:=y;rw[X5]at h;rw[Xa];cases hx:x==n with
  |true=>
   rw[hx]at h;have hk:k=.free:=Xj h;subst hk;dsimp only;split
   .exact .inl (by rw[X5,hx])
   .exact .inr (by rw[X5,hx])
  |false=>
   rw[hx]at h;dsimp only;split
   .rw[X5,hx];exact ih h
   .rw[X5,hx];exact ih h
theorem mU(hc:∀y∈scope.names,y.2≠.cell)(h:(relabel scope env).names.lookup x=some .cell\/(relabel scope env).names.lookup x=some .free):(x,NameKind.free)∈scope.names:=by
 unfold relabel at h;dsimp only at h;generalize scope.names=l at h hc;induction l with
 |nil=>rcases h with h|h <;> cases h
 |cons y l ih=>
  obtain⟨n,k⟩:=y;rw[Xa]at h;dsimp only at h;have nk:k≠.cell:=hc (n,k) WJ;have VZ:=ih (hc:=λz hz=>hc z (WK _ hz));by_cases cnd:(k==NameKind.free&&env.scope.kind==.function&&env.kindOf n==some .cell)=true
  .rw[WV cnd,X5]at h;have kf:k=.free:=by
    have:(k==NameKind.free)=true:=by
     simp![WW]at cnd;exact cnd.1.1
    simpa using this
   cases hx:x==n with
   |true=>
    have:x=n:=by simpa using hx
    rw[this,kf];exact WJ
   |false=>
    rw[hx]at h;exact WK _ (VZ h)
  .rw[W6 cnd,X5]at h;cases hx:x==n with
   |true=>
    rw[hx]at h;have:x=n:=by simpa using hx
    rcases h with h|h
    .exact absurd (Xj h) nk
    .rw[this,<-Xj h];exact WJ
   |false=>
    rw[hx]at h;exact WK _ (VZ h)
variable{pr:List (WP×Obj)}{σ:L2.St}{H:Hp}{N:List Str}{ix:List (Option Nat)}{fp:List WP}
section
theorem k9(ok:X.Ok)(hf:gP scope X.env=true):∀y∈scope.names,y.2=.free->∃c,X.env.cells.lookup y.1=some c:=λy hy k=>by
 have:=Xr.mp hf y hy;rw[k]at this;simp![ZX,abP,ZO,Xx]at this;exact ok.has y.1 this
theorem jv(ok:X.Ok)(hf:gP scope X.env=true)(h:(clOf scope X.env).lookup x=some c):X.env.cells.lookup x=some c:=
 gd X.env x c scope.names [] (k9 ok hf) (λz=>nomatch z) h
theorem uw(ok:X.Ok)(hf:gP scope X.env=true)(h:(x,NameKind.free)∈scope.names):∃c,(clOf scope X.env).lookup x=some c/\X.env.cells.lookup x=some c:=by
 obtain⟨c,e⟩:=ju X.env x scope.names [] (.inr h);exact⟨c,e,jv ok hf e⟩
theorem _root_.L2.Inv.block(I:Inv X pr σ H s)(hf:gP scope X.env=true)(hk:scope.kind=.function)(Lm:∀y∈scope.names,y.2≠.cell)(LS:zb X scope N ix=true)(fo:∀b∈fp,sY X pr H b)(fin:∀b∈fp,∃o,s.heap.get? b=some o){D:WP}(hD:D=s.heap.objs.size)(hC:C=s.heap.objs.size+1)(old:∀b o,s.heap.get? b=some o->h1.get? b=some o)(acc:h1.get? D=some {cls:=.type "list",data:=.seq #[] n}){m:Str->Option Wp}(ns:h1.Ns C m):Inv (bz X scope N C s H fp (X.pn++pr)) [] (kx ix σ) (upd H D (.lst [])) {s with heap:=h1,toks:=t1}:=by
 have M6:s.heap.objs.size<=C:=by rw[hC];exact Zg _
 have freshD:s.heap.objs.size<=D:=by rw[hD];exact WU _
 have nD:H D=none:=I.hok.fresh freshD;have DC:D≠C:=by rw[hD,hC];exact Xh (Zd _)
 have QM:∀b,H b=none->b≠D->upd H D (.lst []) b=none:=λb n z=>by rw[au z];exact n
 have R1:∀b o,s.heap.get? b=some o->b≠D:=λb o e=>Xh (W9 (W4 e) freshD)
 have OW:∀b o,s.heap.get? b=some o->b≠C:=λb o e=>Xh (W9 (W4 e) M6)
 have cellAt:∀x c,(clOf scope X.env).lookup x=some c->∃v o,s.heap.get? c=some o/\o.data=.cell v:=λx c e=>by
  obtain⟨v,o,ho,hd⟩:=I.cell x c (jv I.ok hf e);exact⟨v,o,ho,hd⟩
 have okY:(bz X scope N C s H fp (X.pn++pr)).Ok:=by
  refine⟨I.ok.mod,hk,I.ok.glob,I.ok.blt,M6,λx y c e1 e2=>?_,λx hx=>?_,λx c z _=>?_,I.ok.hd,I.ok.frames,.inl rfl,λb hb=>?_,I.bs,?_,λb o e hb=>?_,λb hb hs=>?_,I.stack,I.stkFree⟩
  .exact I.ok.inj x y c (jv I.ok hf e1) (jv I.ok hf e2)
  .obtain⟨c,e,_⟩:=uw I.ok hf (mU Lm hx);exact⟨c,e⟩
  .exact absurd (show false=true from z) WT
  .obtain⟨f0,f1,f2,f3,f4,f5⟩:=fo b hb;refine⟨?_,λx c e=>f4 x c (jv I.ok hf e)⟩;intro z;have z:b=C:=z;obtain⟨o,ho⟩:=fin b hb;exact OW b o ho z
  .exact Xz I.ok.bsz I.sz
  .obtain⟨f0,f1,f2,f3,f4,f5⟩:=fo b hb;rcases f3 with q|q
   .exact I.ok.noex b o e q
   .exact absurd (W9 (W4 e) (Xz I.ok.bsz q)) (Yv _)
  .obtain⟨f0,f1,f2,_⟩:=fo b hb;exact(WY.mp (I.stkSub b hs)).elim f1 f2
 refine⟨okY,rfl,I.bare,Un.laid old freshD nD,⟨m,ns,λi x v e1 e2 e3=>?_⟩,λx c e=>?_,?_,λx c e=>?_,λp hp=>?_,I.hok.laid old freshD ⟨Xw _,[],n,.nil,acc⟩,?_⟩
 ·
  have e2:(ix.map λi=>i.bind λi=>(σ[i]?).bind id)[i]?=some (some v):=e2;have e1:N[i]?=some x:=e1;unfold zb at LS;rw[WW]at LS;rw[W2]at e2;cases q:ix[i]? with
  |none=>rw[q]at e2;cases e2
  |some o=>
   rw[q]at e2;have e2:(o.bind λi=>(σ[i]?).bind id)=some v:=Xj e2;cases o with
   |none=>cases e2
   |some j=>
    have e2:(σ[j]?).bind id=some v:=e2;have hσ:σ[j]?=some (some v):=by
     cases w':σ[j]? with
     |none=>rw[w']at e2;cases e2
     |some y=>rw[w']at e2;exact Yp some e2
    have hz:(N.zip ix)[i]?=some (x,some j):=by
     rw[Zy];exact⟨e1,q⟩
    have hy:=Xr.mp LS.2 _ (Xm hz);simp![WW,Xx]at hy;have OX:(x,NameKind.free)∈scope.names:=YQ hy.2;obtain⟨c,c1,c2⟩:=uw I.ok hf OX;have Sv:X.env.kindOf x=some .cell\/X.env.kindOf x=some .free:=by
     have:=Xr.mp hf _ OX;simpa using this
    obtain⟨mo,Qe,VX⟩:=I.loc;obtain⟨u,r,l⟩:=VX j x v hy.1 hσ (.inr Sv);refine⟨u,r,.inr ⟨mT hy.2,c,c1,?_⟩⟩;rcases l with⟨k1,_⟩|⟨_,c',e',NQ⟩
    .rcases Sv with k2|k2 <;> (rw[k1]at k2;cases k2)
    .rw[c2]at e';cases e';obtain⟨o,ho,hd⟩:=NQ;exact⟨o,old c o ho,hd⟩
 .obtain⟨v,o,ho,hd⟩:=cellAt x c e;exact⟨v,o,old c o ho,hd⟩
 .exact QM C (I.hok.fresh M6) (Yj DC)
 .obtain⟨v,o,ho,hd⟩:=cellAt x c e;exact QM c (I.freeC x c (jv I.ok hf e)) (R1 c o ho)
 .have hp:p∈X.pn++pr:=by
   have:p∈(X.pn++pr)++[]:=hp
   rwa [Xe]at this
  obtain⟨e,nn,ne,nf,d⟩:=I.pin p hp;refine⟨old _ _ e,QM _ nn (R1 _ _ e),OW _ _ e,λz=>?_,d⟩;exact(WY.mp (I.stkSub p.1 z)).elim ne nf
 .unfold zb at LS;rw[WW]at LS;have:N.length=ix.length:=by simpa using LS.1
  show(ix.map _).length=N.length;rw[WN,this]
theorem _root_.L2.Inv.unblock(I:Inv X pr σ H s)(fo:∀b∈fp,sY X pr H b)(hC:s.heap.objs.size<=C)(J:Inv (bz X scope N C s H fp (X.pn++pr)) [] σ1 H1 s1)(hs:Heap.SameBut C s1.heap h2):
  Inv X pr σ H1 {s1 with heap:=h2}:=by
 have OW:∀b o,s.heap.get? b=some o->b≠C:=λb o e=>Xh (W9 (W4 e) hC)
 have bb:Un (Lv X.stack) fp H H1 s.heap s1.heap:=J.base;have jf:H1 C=none:=J.free;refine I.call' (s':={s1 with heap:=h2}) (ch:=fp) J.os ⟨λb o e n hb hx=>?_,λb o e n hb hx=>?_,bb.free,λb o e hx=>?_,bb.tups,bb.frzs,bb.tbls⟩ (λb ob e=>?_) J.bare λb hb=>?_
 .exact(hs.2 b (OW b o e)).trans (bb.keep b o e n hb hx)
 .obtain⟨sl,q⟩:=bb.slot b o e n hb hx;exact⟨sl,(hs.2 b (OW b o e)).trans q⟩
 .obtain⟨o',q⟩:=bb.there b o e hx;exact⟨o',(hs.2 b (OW b o e)).trans q⟩
 .refine(J.hok b ob e).stay (λc w' hc q=>(hs.2 c ?_).trans q) (λ_ q=>q) λ_ _ q=>q
  rintro rfl;rcases hc with rfl|hc
  .rw[jf]at e;cases e
  .rw[jf]at hc;cases hc
 .obtain⟨f0,f1,f2,f3,f4,f5⟩:=fo b hb;exact⟨f3,f1,f4,f5⟩
end
variable{tg:Expr}{wi:TI}{g:TG}{tc:TT}{te:TE}{it:WP}
section
variable{pos:Pos}
theorem ky{H2:Hp}{s2:WF}{J:It}{tn:Nat->UF->Prop}{Q:VK}{RR:Wp->WP->Result->WF->Prop}{E:Wp->WF->Prop}
  (hc:X.calm=true) (I2:Inv X pr σ H2 s2) (T:Turn X.prog X.w X.K tg J fp it tn) (Kw:tn 0 s2.heap) (f2:∀b∈fp,sY X pr H2 b)
  (hg:∀C s H fp pn,PG (bz X scope N C s H fp pn) tg g) (ht:∀C s H fp pn,R0 (bz X scope N C s H fp pn) ifs tc) (he:∀C s H fp pn,PE (bz X scope N C s H fp pn) elt te)
  (hf:gP scope X.env=true) (hk:scope.kind=.function) (Lm:∀y∈scope.names,y.2≠.cell) (LS:zb X scope N ix=true)
  (q:∀D,H2 D=none->∃W:Nat->Nat->L2.St->Hp->Prop,(∃m,W 0 m (kx ix σ) (upd H2 D (.lst [])))/\
   ∀i m σ1 H3,W i m σ1 H3->(J.stop i H3/\Q (.ref D) H3)\/(J.go i H3/\∀x H4,J.yld i H3 x H4->g x σ1 H4 λσ2 H5=>tc σ2 H5 λb H6=>if b=true then te σ2 H6 λv H7=>
    ∃ys,H7 D=some (.lst ys)/\ys.length<sizeLine/\∃m',m'<m/\W (i+1) m' σ2 (upd H7 D (.lst (ys++[v]))) else ∃m',m'<m/\W (i+1) m' σ2 H6))
  (hRR:∀(D C:WP) (σ1:L2.St) (H1:Hp) (s1:WF),s2.heap.objs.size<=C->Inv (bz X scope N C s2 H2 fp (X.pn++pr)) [] σ1 H1 s1->Q (.ref D) H1->RR (.ref D) C (.ok .next) s1):
  wpAny @c X.A (newList []) (λacc s₃=>wpAny @c X.A (newFunctionEnv scope X.env.globals (clOf scope X.env) [] X.env.qual none .none (some X.env)) (λSw s₄=>
   codeAny @c X.A (.compStart (.ListComp elt [⟨tg,iter,ifs,0⟩] scope pos) 0 (.ref it) acc {Sw with scope:=relabel scope X.env}) (RR acc Sw.locals) s₄) E s₃) E s2:=by
 refine Yt (wpAny_newFunctionEnv Lm (by intro y hy;simp at hy) (λh₁ hns₁ hsb₁=>?_) hk);dsimp only at hns₁ hsb₁ |-;generalize hH2:s2.heap.push {cls:=.type "list",dict:=none,data:=.seq ([]:List Wp).toArray}=HH at hns₁ hsb₁ |-;have hC:HH.objs.size=s2.heap.objs.size+1:=by rw[<-hH2,Yw]
 have hDC:s2.heap.objs.size≠HH.objs.size:=by rw[hC];exact Xh (Zd _)
 have Sy:s2.heap.objs.size<=HH.objs.size:=by rw[hC];exact Zg _
 have OW:∀b o,s2.heap.get? b=some o->b≠HH.objs.size:=λb o e=>Xh (W9 (W4 e) Sy)
 have old:∀b o,s2.heap.get? b=some o->h₁.get? b=some o:=λb o e=>hsb₁.extBut b o (OW b o e) (WL _ (hH2▸WL _ e))
 have M7:h₁.get? s2.heap.objs.size=some {cls:=.type "list",data:=.seq #[] 0}:=hsb₁.extBut _ _ hDC (WL _ (hH2▸W7 _ rfl));obtain⟨W,⟨m0,w0⟩,turn⟩:=q s2.heap.objs.size (I2.hok.fresh (WU _));have fin:∀b∈fp,∃o,s2.heap.get? b=some o:=λb hb=>let⟨o,e,_⟩:=T.obj 0 _ Kw b hb;⟨o,e⟩
 have M4:∀{H':Hp},(∀b∈fp,H' b=none)->∀b∈fp,sY (bz X scope N HH.objs.size s2 H2 fp (X.pn++pr)) [] H' b:=λ{H'} hn b hb=>by
  obtain⟨f0,f1,ff,f3,f4,f5⟩:=f2 b hb;refine⟨hn b hb,?_,λz=>?_,.inl hb,λx c e=>f4 x c (jv I2.ok hf e),λp hp=>?_⟩
  .intro z;have z:b=HH.objs.size:=z;obtain⟨o,ho⟩:=fin b hb;exact OW b o ho z
  .exact(WY.mp (I2.stkSub b z)).elim f1 ff
  .have hp:p∈X.pn++pr:=by
    have:p∈(X.pn++pr)++[]:=hp
    rwa [Xe]at this
   exact f5 p hp
 have loop:∀s₃:WF,s₃={s2 with heap:=h₁,toks:=s2.toks+([]:List (Str×Wp)).length}->
   codeAny @c X.A (.compLoop (.ListComp elt [⟨tg,iter,ifs,0⟩] scope pos) 0 (.ref it) (.ref s2.heap.objs.size) (compEnvC scope (clOf scope X.env) HH.objs.size X.env)) (RR (.ref s2.heap.objs.size) HH.objs.size) s₃:=by
  rintro s₃ rfl;refine uv (λn s'=>∃i σ' H',Inv (bz X scope N HH.objs.size s2 H2 fp (X.pn++pr)) [] σ' H' s'/\tn i s'.heap/\(∀b∈fp,H' b=none)/\W i n σ' H') ?_ m0
   ⟨0,_,_,I2.block hf hk Lm LS f2 fin rfl hC old M7 hns₁,T.keep 0 _ _ Kw λb _ o e=>old b o e,λb hb=>?_,w0⟩
  .rintro n s3 ⟨i,σ3,H3,I3,K3,Sj,w3⟩;rcases turn i n σ3 H3 w3 with⟨stop,qn⟩|⟨go,step⟩
   .refine KN (T.done (bz X scope N HH.objs.size s2 H2 fp (X.pn++pr)) rfl rfl rfl hc i [] s3 σ3 H3 OV I3 (M4 Sj) K3 stop) λr s4 KQ=>?_
    obtain⟨hr,I4⟩:=KQ;subst hr;exact hRR _ _ σ3 H3 s4 Sy I4 qn
   .refine KN (T.item (bz X scope N HH.objs.size s2 H2 fp (X.pn++pr)) rfl rfl rfl hc i [] s3 σ3 H3 OV I3 (M4 Sj) K3 go) λr s4 KQ=>?_
    obtain⟨u,hr,h4⟩:=KQ;subst hr;refine KN h4 λ_ s5 KQ=>?_
    obtain⟨x,H5,I5,r5,y5,L8,UO⟩:=KQ;have UP:=I5.pinned (M4 UO) (T.obj _ _ L8);refine KN (hg _ _ _ _ _ _ s5 σ3 H5 x u _ UP r5 (step x H5 y5)) λ_ s6 KQ=>?_
    obtain⟨σ6,H6,I6,q6⟩:=KQ;refine KN (ht _ _ _ _ _ _ s6 σ6 H6 _ I6 q6) λok s7 KQ=>?_
    obtain⟨H7,I7,q7⟩:=KQ;have again:∀{H8:Hp}{s8:WF},Inv (bz X scope N HH.objs.size s2 H2 fp (X.pn++pr)) ([]++mG fp s5.heap) σ6 H8 s8->(∃m',m'<n/\W (i+1) m' σ6 H8)->
      ∃m,m<n/\∃i σ' H',Inv (bz X scope N HH.objs.size s2 H2 fp (X.pn++pr)) [] σ' H' s8/\tn i s8.heap/\(∀b∈fp,H' b=none)/\W i m σ' H':=λ{H8 s8} I8 ⟨m',hm,w8⟩=>by
     refine⟨m',hm,i+1,σ6,H8,I8.unpinned,T.keep _ _ _ L8 λb hb o e=>(I8.pin (b,o) (WQ _ (WQ _ (fG hb e)))).1,λb hb=>?_,w8⟩;obtain⟨o,e,d⟩:=T.obj _ _ L8 b hb;exact(I8.pin (b,o) (WQ _ (WQ _ (fG hb e)))).2.1
    cases ok with
    |false=>exact again I7 q7
    |true=>
     show wpAny _ _ _ _ _ _;refine KN (he _ _ _ _ _ _ s7 σ6 H7 _ I7 q7) λx8 s8 KQ=>?_
     obtain⟨v8,H8,I8,r8,ys,UX,K4,q8⟩:=KQ;refine KN (mP _ s8 σ6 H8 (.ref s2.heap.objs.size) [v8] (.ref s2.heap.objs.size) [x8] (λ_ H9=>∃m',m'<n/\W (i+1) m' σ6 H9) I8 rfl (.cons r8 .nil) ⟨_,ys,v8,rfl,rfl,UX,K4,q8⟩) λ_ s9 KQ=>?_
     obtain⟨_,H9,I9,_,q9⟩:=KQ;exact again I9 q9
  .rw[au (λz=>by
    obtain⟨o,ho⟩:=fin b hb;exact absurd z (Xh (W4 ho)))]
   exact(f2 b hb).1
 exact codeAny_compStart_list (loop _ rfl) (T.self _ 0 _ _ _ (T.keep 0 _ _ Kw λb _ o e=>old b o e) (loop _ rfl))
theorem AU(ix:List (Option Nat))(N:List Str)(hc:X.calm=true)(hi:PI X tg iter wi)(hg:∀C s H fp pn,PG (bz X scope N C s H fp pn) tg g)(ht:∀C s H fp pn,R0 (bz X scope N C s H fp pn) ifs tc)(he:∀C s H fp pn,PE (bz X scope N C s H fp pn) elt te)
  (hf:gP scope X.env=true:=by rfl) (hk:scope.kind=.function:=by rfl) (Lm:∀y∈scope.names,y.2≠.cell:=by decide +kernel) (LX:∀y∈scope.names,y.2=.local->scope.names.lookup y.1=some .local:=by decide +kernel) (LS:zb X scope N ix=true:=by rfl)
  (hs:∀x,foldedSetIterable iter X.env x=pure x:=by intro _;rfl):PE X (.ListComp elt [⟨tg,iter,ifs,0⟩] scope pos) (AQ wi ix g tc te):=by
 intro pr s σ H Q I h;rw[eval_ListComp];have N9:closureFor scope X.env=pure (clOf scope X.env):=by
  unfold closureFor clOf;have:=fH X.env scope.names [] (k9 I.ok hf);simpa using this
 refine wpAny_comprehension_free (use:=none) rfl hs N9 hk LX (KN (hi pr s σ H _ I h) λv s1 h1=>KN h1 λT4 s2 h2=>?_);obtain⟨it,fp,tn,J,H2,e,I2,T,Kw,f2,q⟩:=h2;subst e;refine ky (RR:=λacc C=>compPost @c X.A X.xe none (EP X pr σ Q) acc C) (Q:=Q) (iter:=iter) hc I2 T Kw f2 hg ht he hf hk Lm LS q λD C σ1 H1 s1 hC J1 q1=>?_
 obtain⟨m,ns,_⟩:=J1.loc;exact⟨m,ns,λh' QN=>⟨.ref D,H1,I2.unblock f2 hC J1 QN,rfl,q1⟩⟩
end
variable{i:Nat}
section
variable{pos:Pos}
theorem AV(ix:List (Option Nat))(N:List Str)(hN:X.N.Nodup)(UY:X.N[i]?=some y)(hy:Loc X.env.scope y)(hc:X.calm=true)(hi:PI X tg iter wi)(hg:∀C s H fp pn,PG (bz X scope N C s H fp pn) tg g)(ht:∀C s H fp pn,R0 (bz X scope N C s H fp pn) ifs tc)(he:∀C s H fp pn,PE (bz X scope N C s H fp pn) elt te)(UZ:swapsWith (.ListComp elt [⟨tg,iter,ifs,0⟩] scope pos) (some (.Name y py)) Oa.line X.env=pure true:=by rfl)(hf:gP scope X.env=true:=by rfl)(hk:scope.kind=.function:=by rfl)(Lm:∀y∈scope.names,y.2≠.cell:=by decide +kernel)(LX:∀y∈scope.names,y.2=.local->scope.names.lookup y.1=some .local:=by decide +kernel)(LS:zb X scope N ix=true:=by rfl)(hs:∀x,foldedSetIterable iter X.env x=pure x:=by intro _;rfl)(NR:X.fn y=true\/X.env.scope.names.lookup y=some .local:=by first|exact .inl rfl|exact .inr rfl):
  PS X (.Assign [.Name y py] (.ListComp elt [⟨tg,iter,ifs,0⟩] scope pos) Oa) (λD σ H=>AQ wi ix g tc te σ H λv H'=>D.nx (σ.set i (some v)) H'):=by
 intro pr s σ H Dd I h;rw[exec_Assign_Name_used _ _ _ _ UZ];have N9:closureFor scope X.env=pure (clOf scope X.env):=by
  unfold closureFor clOf;have:=fH X.env scope.names [] (k9 I.ok hf);simpa using this
 refine WI (wpAny_standAt (WI ?_));show wpAny _ X.A (do let _ <-comprehension (.ListComp elt [⟨tg,iter,ifs,0⟩] scope pos) scope X.env _ (newList []) false (eval iter X.env) (some (assign (.Name y py) X.env))) _ _ s;refine WI (XO (wpAny_comprehension_free (use:=some (assign (.Name y py) X.env)) (Q:=λ_ s'=>SP X pr Dd .next s') rfl hs N9 hk LX
  (KN (hi pr s σ H _ I h) λv s1 h1=>KN h1 λT4 s2 h2=>?_)) (λ_ s' hq=>WO (WO hq)) λ_ _ e=>e)
 obtain⟨it,fp,tn,J,H2,e,I2,T,Kw,f2,q⟩:=h2;subst e;refine ky (RR:=λacc C=>compPost @c X.A X.xe (some (assign (.Name y py) X.env)) (λ_ s'=>SP X pr Dd .next s') acc C) (Q:=λv H'=>Dd.nx (σ.set i (some v)) H') (iter:=iter) hc I2 T Kw f2 hg ht he hf hk Lm LS q λD C σ1 H1 s1 hC J1 q1=>?_
 obtain⟨m,ns,_⟩:=id J1.loc;have ns:s1.heap.Ns C m:=ns;have I3:Inv X pr σ H1 s1:=I2.unblock f2 hC J1 (.refl ..);show wpAny _ X.A (assign (.Name y py) X.env (.ref D)) _ _ s1;refine wpAny_assign_Name (mF I3 hN UY hy (v:=.ref D) rfl (λs4 I4 ⟨a,sb,ha⟩=>?_) NR);have aC:C≠a:=by
  intro z;rcases ha with ha|ha
  .exact Xh (W9 I2.lt hC) (ha▸z.symm)
  .obtain⟨v,o,ho,_⟩:=I2.cell y a ha;exact Xh (W9 (W4 ho) hC) z.symm
 refine⟨m,ns.sameBut sb aC,λh' QN=>?_⟩;have jf:H1 C=none:=J1.free;have kk:∀b o,b≠C->s4.heap.get? b=some o->h'.get? b=some o:=λb o hb e=>(QN.2 b hb).trans e
 refine⟨σ.set i (some (.ref D)),H1,?_,q1⟩;have z:=I4.turned (t':=s4.toks) kk jf (λz=>Xh (W9 I2.lt hC) z.symm) (.inr (Xz I2.sz hC)) (λx c e z=>by
  obtain⟨v,o,ho,_⟩:=I2.cell x c e;exact Xh (W9 (W4 ho) hC) z) (λp hp z=>Xh (W9 (W4 (I2.pin p hp).1) hC) z)
 exact z
end
variable{h':UF}{us:List Wp}{ns:List Int}
section
theorem je{E:Wp->WF->Prop}{R:Wp->WF->Prop}(hc:X.calm=true)(I:Inv X pr σ H s)(h:SqL X.K H p xs\/SqT X.K H p xs)(k:∀(it:WP) (fp:List WP) (o:Obj) (us:List Wp) (Sx:Nat->UF->Prop),Vals xs us->Walks X.prog X.w X.A.in1 it fp [it] us.length (λi v=>us[i]?=some v) Sx->Sx 0 (s.heap.push o)->(∀b∈fp,b<(s.heap.push o).objs.size)->it=s.heap.objs.size->R (.ref it) {s with heap:=s.heap.push o}):
  wpAny @c X.A.in1 (pyIter (.ref p)) R E s:=by
 have hh:X.A.in1.handled=none:=I.ok.hd hc;rcases h with h|h
 .obtain⟨us,r,pl,hz⟩:=I.list h;have K4:p<s.heap.objs.size:=by obtain⟨o,ho,_⟩:=pl.isList;exact W4 ho
  refine YM pl.isList (k s.heap.objs.size [s.heap.objs.size,p] _ us (λi h=>h.IsListIter s.heap.objs.size p i/\h.IsList p us.toArray) r (by
   have W:=Walks.list (prog:=X.prog) (w:=X.w) hh s.heap.objs.size p (Xh K4) us.toArray;simpa using W) ⟨⟨_,W7 _ rfl,rfl,rfl⟩,pl.isList.at λo e=>WL _ e⟩ (λb hb=>?_) rfl)
  rw[Yw];rcases WY.mp hb with rfl|hb
  .exact Zd _
  .rw[W5]at hb;rw[hb];exact aaD K4
 .obtain⟨us,r,pl,hz⟩:=I.tuple h;have QL:s.heap.IsTuple p us.toArray:=pl;have K4:p<s.heap.objs.size:=by obtain⟨o,ho,_⟩:=pl;exact W4 ho
  refine YY QL (k s.heap.objs.size [s.heap.objs.size,p] _ us (λi h=>h.IsTupleIter s.heap.objs.size p i/\h.IsTuple p us.toArray) r (by
   have W:=Walks.tuple (prog:=X.prog) (w:=X.w) hh s.heap.objs.size p (Xh K4) us.toArray;simpa using W) ⟨⟨_,W7 _ rfl,rfl,rfl⟩,QL.at λo e=>WL _ e⟩ (λb hb=>?_) rfl)
  rw[Yw];rcases WY.mp hb with rfl|hb
  .exact Zd _
  .rw[W5]at hb;rw[hb];exact aaD K4
theorem fJ(I:Inv X pr σ H s)(kk:∀b ob,b∉[s.heap.objs.size]->(s.heap.push o).get? b=some ob->h'.get? b=some ob):
  Inv X pr σ H {s with heap:=h',toks:=tk}:=I.kept λb ob e=>kk b ob (λz=>Xh (W4 e) (by simpa using z)) (WL _ e)
theorem aV(l:List α)(i:Nat)(d:α)(h:i<l.length):l.getD i d=l[i]:=by
 rw[W8,WM h];rfl
noncomputable def Ea:V->Bool
 | .bl b=>b
 |_=>false
noncomputable def HQ:V->Bool
 | .bl _=>true
 |_=>false
theorem xu(r:Vals xs us)(hb:xs.all HQ=true):TruthOf X.prog X.w X.A.in1 (λi v=>us[i]?=some v) (λi=>Ea (xs.getD i .non)):=by
 intro i v s Q E hv q;have hl:=r.length;obtain⟨hi,_⟩:=WS.mp hv;have e1:xs[i]?=some (xs[i]'(by lia)):=WM _;obtain⟨u,hu,ru⟩:=r.get e1;rw[hv]at hu;cases hu;have q:Q (Ea (xs.getD i .non)) s:=q;rw[AN e1]at q;have bl:=Xr.mp hb _ (Xm e1);generalize xs[i]'(by lia)=x at ru q bl;cases x <;> first|(exact absurd (show false=true from bl) WT)|skip
 cases ru;exact YL q
theorem ux{xs:List V}(f:V->Bool):(List.range xs.length).all (λi=>f (xs.getD i .non))=xs.all f:=by
 rw[Xo,Xr,Xr];constructor
 .intro h x hx;obtain⟨i,hi,rfl⟩:=Yh hx;have:=h i (Xp.mpr hi)
  rwa [aV _ _ _ hi]at this
 .intro h i hi;have hi:=Xp.mp hi;rw[aV _ _ _ hi];exact h _ (X6 hi)
theorem xv(hc:X.calm=true):cb X (.builtin "all") (λvs H Q=>∃p xs,vs=[.ref p]/\(SqL X.K H p xs\/SqT X.K H p xs)/\xs.all HQ=true/\Q (.bl (xs.all Ea)) H):=by
 intro pr s σ H vs us Q I r h;obtain⟨p,xs,rfl,hp,hb,q⟩:=h;obtain⟨u,rfl,r1⟩:=dM r;cases r1;refine call_all_walk (je hc I hp λit fp o ws Sx rv W st hf hit=>⟨it,fp,[it],_,_,Sx,_,rfl,W,st,xu rv hb,λh' tk kk=>?_⟩);subst hit;refine⟨.bl (xs.all Ea),H,fJ (s:=s) I kk,?_,q⟩;rw[<-rv.length,ux];rfl
theorem dt(r:Vals (ns.map V.int) us)(h:us[i]?=some v):∃t,v=.int (ns.getD i 0) t:=by
 have hl:=r.length;rw[WN]at hl;obtain⟨hi,_⟩:=WS.mp h;have e1:(ns.map V.int)[i]?=some (.int (ns.getD i 0)):=by
  rw[W2,WM @a,aV _ _ _ @a];rfl
 obtain⟨u,hu,t,rfl⟩:=r.get e1;rw[h]at hu;exact⟨t,Xj hu⟩
theorem pS(r:Vals (ns.map V.int) us)(A:Uf):CmpOf X.prog X.w A .Gt (λi v=>us[i]?=some v) (λi j=>decide (ns.getD j 0<ns.getD i 0)):=by
 intro i j vi vj s Q E hi hj q;obtain⟨t,rfl⟩:=dt r hi;obtain⟨t',rfl⟩:=dt r hj;exact gt_int q
theorem uy(r:Vals (ns.map V.int) us)(A:Uf):CmpOf X.prog X.w A .Lt (λi v=>us[i]?=some v) (λi j=>decide (ns.getD i 0<ns.getD j 0)):=by
 intro i j vi vj s Q E hi hj q;obtain⟨t,rfl⟩:=dt r hi;obtain⟨t',rfl⟩:=dt r hj;exact lt_int q
noncomputable def dO(ns:List Int):Int:=ns.foldl max (ns.headD 0)
noncomputable def AW(ns:List Int):Int:=ns.foldl min (ns.headD 0)
theorem lb(ns:List Int):∀k,k<ns.length->argBest (λi j=>decide (ns.getD j 0<ns.getD i 0)) k<ns.length/\ns.getD (argBest (λi j=>decide (ns.getD j 0<ns.getD i 0)) k) 0=(ns.take (k+1)).foldl max (ns.headD 0)
 | 0,h=>by
  refine⟨h,?_⟩;cases ns with
  |nil=>cases h
  |cons a l=>show a=max a a;lia
 |k+1,h=>by
  obtain⟨U0,Sz⟩:=lb ns k @a;have et:ns.take (k+1+1)=ns.take (k+1)++[ns.getD (k+1) 0]:=by
   rw[Zm,WM h,aV _ _ _ h];rfl
  rw[et,List.foldl_append,<-Sz];show(if decide (ns.getD (argBest (λi j=>decide (ns.getD j 0<ns.getD i 0)) k) 0<ns.getD (k+1) 0)=true then k+1 else argBest (λi j=>decide (ns.getD j 0<ns.getD i 0)) k)<ns.length/\
   ns.getD (if decide (ns.getD (argBest (λi j=>decide (ns.getD j 0<ns.getD i 0)) k) 0<ns.getD (k+1) 0)=true then k+1 else argBest (λi j=>decide (ns.getD j 0<ns.getD i 0)) k) 0=max _ _
  split
  .rename_i hd;have:=Yu hd;exact⟨h,by lia⟩
  .rename_i hd;rw[W3]at hd;exact⟨U0,by lia⟩
theorem pT(ns:List Int):∀k,k<ns.length->argBest (λi j=>decide (ns.getD i 0<ns.getD j 0)) k<ns.length/\ns.getD (argBest (λi j=>decide (ns.getD i 0<ns.getD j 0)) k) 0=(ns.take (k+1)).foldl min (ns.headD 0)
 | 0,h=>by
  refine⟨h,?_⟩;cases ns with
  |nil=>cases h
  |cons a l=>show a=min a a;lia
 |k+1,h=>by
  obtain⟨U0,Sz⟩:=pT ns k @a;have et:ns.take (k+1+1)=ns.take (k+1)++[ns.getD (k+1) 0]:=by
   rw[Zm,WM h,aV _ _ _ h];rfl
  rw[et,List.foldl_append,<-Sz];show(if decide (ns.getD (k+1) 0<ns.getD (argBest (λi j=>decide (ns.getD i 0<ns.getD j 0)) k) 0)=true then k+1 else argBest (λi j=>decide (ns.getD i 0<ns.getD j 0)) k)<ns.length/\
   ns.getD (if decide (ns.getD (k+1) 0<ns.getD (argBest (λi j=>decide (ns.getD i 0<ns.getD j 0)) k) 0)=true then k+1 else argBest (λi j=>decide (ns.getD i 0<ns.getD j 0)) k) 0=min _ _
  split
  .rename_i hd;have:=Yu hd;exact⟨h,by lia⟩
  .rename_i hd;rw[W3]at hd;exact⟨U0,by lia⟩
theorem uz(hc:X.calm=true):cb X (.builtin "max") (λvs H Q=>∃(p:WP) (ns:List Int),vs=[.ref p]/\(SqL X.K H p (ns.map V.int)\/SqT X.K H p (ns.map V.int))/\ns≠[]/\Q (.int (dO ns)) H):=by
 intro pr s σ H vs us Q I r h;obtain⟨p,ns,rfl,hp,LB,q⟩:=h;obtain⟨u,rfl,r1⟩:=dM r;cases r1;have hn:0<ns.length:=by cases ns with|nil=>exact absurd rfl LB|cons _ _=>simp
 refine call_max_walk (je hc I hp λit fp o ws Sx rv W st hf hit=>?_);have hl:=rv.length;rw[WN]at hl;refine⟨it,fp,[it],_,_,Sx,_,rfl,W,st,hf,by lia,pS rv _,λv h' tk hv kk=>?_⟩;subst hit;obtain⟨b1,b2⟩:=lb ns (ns.length-1) @a;rw[<-hl]at hv;obtain⟨t,rfl⟩:=dt rv hv;refine⟨.int (dO ns),H,fJ (s:=s) I kk,⟨t,?_⟩,q⟩;rw[b2,show ns.length-1+1=ns.length by lia,ZF];rfl
theorem uA(hc:X.calm=true):cb X (.builtin "min") (λvs H Q=>∃(p:WP) (ns:List Int),vs=[.ref p]/\(SqL X.K H p (ns.map V.int)\/SqT X.K H p (ns.map V.int))/\ns≠[]/\Q (.int (AW ns)) H):=by
 intro pr s σ H vs us Q I r h;obtain⟨p,ns,rfl,hp,LB,q⟩:=h;obtain⟨u,rfl,r1⟩:=dM r;cases r1;have hn:0<ns.length:=by cases ns with|nil=>exact absurd rfl LB|cons _ _=>simp
 refine call_min_walk (je hc I hp λit fp o ws Sx rv W st hf hit=>?_);have hl:=rv.length;rw[WN]at hl;refine⟨it,fp,[it],_,_,Sx,_,rfl,W,st,hf,by lia,uy rv _,λv h' tk hv kk=>?_⟩;subst hit;obtain⟨b1,b2⟩:=pT ns (ns.length-1) @a;rw[<-hl]at hv;obtain⟨t,rfl⟩:=dt rv hv;refine⟨.int (AW ns),H,fJ (s:=s) I kk,⟨t,?_⟩,q⟩;rw[b2,show ns.length-1+1=ns.length by lia,ZF];rfl
end
variable{kw:List (Str×Wp)}
section
variable{R:Result->WF->Prop}{wr:List WP}{n:Nat}{Pv:Nat->Wp->Prop}{Sx:Nat->UF->Prop}
theorem lg:(toString "max"++toString ".loop" : String) = "max.loop":=by decide
theorem HR(Wk:Walks prog w A.in1 it fp wr n Pv Sx)(bt:Nat->Nat->Bool)(cm:CmpOf prog w A.in1 .Gt Pv bt)(T:WP)(nT:T∉fp):∀(k j:Nat) (s:WF) (vb:Wp) (c:Nat),n-(j+1)=k->j+1<=n->Sx (j+1) s.heap->Pv (argBest bt j) vb->
   s.heap.get? T=some {cls:=.type "list",dict:=none,data:=.seq #[vb,vb] c,slots:=#[]}->
   (∀v h' tk,Pv (argBest bt (n-1)) v->(∀b o,b∉wr->b≠T->s.heap.get? b=some o->h'.get? b=some o)->R (.ok (.ret v)) {s with heap:=h',toks:=tk})->codeAny @i A (.builtin "max.loop" ⟨[.ref it,.none,.ref T],kw⟩) R s:=by
 have Ub:T∉wr:=λz=>nT (Wk.sub _ z)
 intro k;induction k with
 |zero=>
  intro j s vb c hk hj st hp hT fin;have ej:j+1=n:=by lia
  refine YA aaV ?_;rw[Y7 YX _];show wpAny _ A.in1 (seqItems? (.ref T) >>= _) _ _ s;refine WI (X7 hT rfl ?_);show wpAny _ A.in1 (tryCatch (pyNext (.ref it)) _ >>= _) _ _ s;refine WI (Z1 (Wk.done s _ _ (ej▸st) λh' tk kk=>?_));have Qh:=kk T _ Ub hT;show wpAny _ A.in1 (updateSeq T (λ_=>#[]) >>= _) _ _ _;refine WI (abd Qh rfl (WI (ZG (WO ?_))));exact fin vb _ tk (by rw[<-ej];exact hp) λb o bw bT e=>(XC _ _ (Yj bT)).trans (kk b o bw e)
 |succ k ih=>
  intro j s vb c hk hj st hp hT fin;have jn:j+1<n:=by lia
  refine YA aaV ?_;rw[Y7 YX _];show wpAny _ A.in1 (seqItems? (.ref T) >>= _) _ _ s;refine WI (X7 hT rfl ?_);show wpAny _ A.in1 (tryCatch (pyNext (.ref it)) _ >>= _) _ _ s;refine WI (Z1 (Wk.item (j+1) s _ _ jn st λv h' tk pv L3 kk=>?_));have Qh:=kk T _ Ub hT;show wpAny _ A.in1 (tryCatch (holding [v,v] (richCompare .Gt v vb >>= _)) _ >>= _) _ _ _;refine WI (Z1 (Yl (WI (cm (j+1) (argBest bt j) v vb _ _ _ pv hp (WI (Yl (YL (WI (ZG (WO ?_))))))))));cases eb:bt (j+1) (argBest bt j) with
  |true=>
   rw[WV rfl];refine WI (abd Qh rfl (WI (ZG ?_)));rw[lg];refine WO ⟨aac YX _,ih (j+1) _ v _ @a jn (Wk.frame _ _ _ L3 λb bf o e=>?_) (by simp![argBest,eb,Zb];exact pv) (Yz _ Qh rfl) λv2 h2 t2 p2 k2=>?_⟩
   .exact(XC _ _ (λz:T=b=>nT (by rw[z];exact bf))).trans e
   .exact fin v2 h2 t2 p2 λb o bw bT e=>k2 b o bw bT ((XC _ _ (Yj bT)).trans (kk b o bw e))
  |false=>
   rw[W6 WT];refine WI (ZG ?_);rw[lg];refine WO ⟨aac YX _,ih (j+1) _ vb c @a jn L3 (by simp![argBest,eb,Xt,YG];exact hp) Qh λv2 h2 t2 p2 k2=>?_⟩;exact fin v2 h2 t2 p2 λb o bw bT e=>k2 b o bw bT (kk b o bw e)
theorem xw(Wk:Walks prog w A.in1 it fp wr n Pv Sx)(bt:Nat->Nat->Bool)(cm:CmpOf prog w A.in1 .Gt Pv bt)(T:WP)(nT:T∉fp)(hkw:kw=[(Str.ofString "default",d)])(st:Sx 0 s.heap)(hT:s.heap.get? T=some {cls:=.type "list",dict:=none,data:=.seq #[] c,slots:=#[]})(fin:∀v h' tk,(if n=0 then v=d else Pv (argBest bt (n-1)) v)->(∀b o,b∉wr->b≠T->s.heap.get? b=some o->h'.get? b=some o)->R (.ok (.ret v)) {s with heap:=h',toks:=tk}):
  codeAny @i A (.builtin "max.loop" ⟨[.ref it,.none,.ref T],kw⟩) R s:=by
 have Ub:T∉wr:=λz=>nT (Wk.sub _ z)
 refine YA aaV ?_;rw[Y7 YX _];show wpAny _ A.in1 (seqItems? (.ref T) >>= _) _ _ s;refine WI (X7 hT rfl ?_);show wpAny _ A.in1 (tryCatch (pyNext (.ref it)) _ >>= _) _ _ s;by_cases hn:n=0
 .refine WI (Z1 (Wk.done s _ _ (by rw[hn];exact st) λh' tk kk=>?_));subst hkw;refine WI (abp (WO ?_));exact fin d _ tk (by rw[WV hn]) λb o bw bT e=>kk b o bw e
 .refine WI (Z1 (Wk.item 0 s _ _ @a st λv h' tk pv L3 kk=>?_));have Qh:=kk T _ Ub hT;show wpAny _ A.in1 (updateSeq T (λ_=>#[v,v]) >>= _) _ _ _;refine WI (abd Qh rfl ?_);rw[lg];refine WO ⟨aac YX _,HR Wk bt cm T nT _ 0 _ v _ rfl @a (Wk.frame _ _ _ L3 λb bf o e=>?_) pv (Yz _ Qh rfl) λv2 h2 t2 p2 k2=>?_⟩
  .exact(XC _ _ (λz:T=b=>nT (by rw[z];exact bf))).trans e
  .exact fin v2 h2 t2 (by rw[W6 hn];exact p2) λb o bw bT e=>k2 b o bw bT ((XC _ _ (Yj bT)).trans (kk b o bw e))
end
variable{Q:Wp->WF->Prop}
theorem tree_kw{id:String}{bf:Builtin}{args:List Wp}(hk:builtinKind id=none)(hp:plainId id=true)
  (hb:entryFor table id=some bf) (ha:argsOk id ⟨args,kw⟩)
  (hc:wpAny @i A.in1 (bf ⟨args,kw⟩) (λfin s'=>match fin with
   | .done f=>(match(Except.ok f:Result) with | .ok (.ret v)=>Q v s' | .ok _=>False | .error e=>E e s')
   | .again c'=>c'.quiet=true/\codeAny @i A c' (λr s'=>match r with | .ok (.ret v)=>Q v s' | .ok _=>False | .error e=>E e s') s') E s):wpAny @i A (call (.builtin id) args kw) Q E s:=by
 refine wpAny_call (Zt hp hb ?_);simp![checkBuiltinCall,hk];cases hsig:Manifest.signature? id with
 |none=>exact WO hc
 |some sig=>
  have ha2:Bind.checkArgs id sig ⟨args,kw⟩=pure ():=by simpa only[argsOk,hsig] using ha
  simp![ha2];exact WO hc
theorem uB(a d:Wp):argsOk "max" ⟨[a],[(Str.ofString "default",d)]⟩:=by unfold argsOk;kernel_rfl
section
variable{k:Expr}{tk:TE}{p pos NC:Pos}
def maxD(ns:List Int)(d:Int):Int:=if ns=[] then d else dO ns
def HS(K:W.Frag)(te tk:TE):TE:=λσ H Q=>xl te Hf σ H λvs H1=>xl tk Hf σ H1 λks H2=>∃(a:WP) (ns:List Int) (d:Int),vs=[.ref a]/\ks=[.int d]/\(SqL K H2 a (ns.map V.int)\/SqT K H2 a (ns.map V.int))/\Q (.int (maxD ns d)) H2
theorem AX(hc:X.calm=true)(hg:Gl X "max")(hm:X.mg "max" = none)(he:PE X e te)(hk:PE X k tk)(hs:starEach [e] X.env=[(false,eval e X.env)]:=by rfl):
  PE X (.Call (.Name "max" p) [e] [⟨some "default",k,NC⟩] pos) (HS X.K te tk):=by
 intro pr s σ H Q I h;refine Yd (eQ I hg hm (by decide +kernel:bootBuiltins "max" = some (.builtin "max")) ?_ @b @b);refine callWith_kw (KN (cc he gM (hs:=hs) pos pr s σ H _ I h) λus s1 ⟨vs,H1,I1,r1,q1⟩=>?_) (by rw[hs];rfl) (by rw[hs];rfl);refine KN (Az hk DY pos pr s1 σ H1 _ I1 q1) λws s2 KQ=>?_
 obtain⟨ks,H2,I2,r2,a,ns,d,e1,e2,hp,q⟩:=KQ;subst e1 e2;obtain⟨u,rfl,ru⟩:=dM r1;obtain⟨w',rfl,t,rfl⟩:=dM r2;cases ru;show wpAny _ _ (call (.builtin "max") [.ref a] [(Str.ofString "default",.int d t)]) _ _ s2;refine tree_kw F.kind_max F.plain_max F.entry_max (uB _ _) ?_;show wpAny _ X.A.in1 (Builtin.Builtins.bindParams "max" ["key","default"] 0 ⟨[],[(Str.ofString "default",.int d t)]⟩ >>= _) _ _ s2;refine WI (wpAny_of_eq (show Builtin.Builtins.bindParams "max" ["key","default"] 0 ⟨[],[(Str.ofString "default",.int d t)]⟩=pure [none,some (.int d t)] from rfl) ?_);refine WI (WO ?_);refine WI (je hc I2 hp λit fp o ws Sx rv Wk st hf hit=>?_);have hl:=rv.length;rw[WN]at hl;refine WI (Yt ?_);have nT:(s2.heap.push o).objs.size∉fp:=λz=>Yv _ (hf _ z)
 rw[lg];refine WO ⟨aac YX _,xw Wk _ (pS rv _) (s2.heap.push o).objs.size nT rfl (Wk.frame _ _ _ st λb _ ob e=>WL _ e) (W7 _ rfl) λv h' U1 hv kk=>?_⟩;subst hit;have I3:Inv X pr σ H2 {s2 with heap:=h',toks:=U1}:=fJ (s:=s2) (o:=o) I2 λb ob nb e=>kk b ob nb (Xh (W4 e)) (WL _ e)
 refine⟨.int (maxD ns d),H2,I3,?_,q⟩;unfold maxD;by_cases hn:ns=[]
 .rw[WV (by rw[<-hl,hn];rfl)]at hv;rw[WV hn,hv];exact⟨t,rfl⟩
 .have h0:0<ns.length:=aah.mpr hn;rw[W6 @a]at hv;rw[W6 hn];obtain⟨b1,b2⟩:=lb ns (ns.length-1) @a;rw[<-hl]at hv;obtain⟨t2,rfl⟩:=dt rv hv;refine⟨t2,?_⟩;rw[b2,show ns.length-1+1=ns.length by lia,ZF];rfl
end
variable{items xs ys:Array Wp}{h:UF}{l l1 l2:WP}{k1 k2:Bool}
section
theorem xx{t:WP}{x:Wp}(hi:s.heap.IsTupleIter it t i)(ht:s.heap.IsTuple t items)(hx:items[i]?=some x)
  (k:∀h',h'.IsTupleIter it t (i+1)->Heap.SameBut it s.heap h'->Q x {s with heap:=h'}):wpAny @i A (Builtin.SmallTypes.nextOf (.ref it)) Q E s:=by
 obtain⟨o,ho,oc,od⟩:=id hi;obtain⟨q,hq,_,n,qd⟩:=ht;unfold Builtin.SmallTypes.nextOf;refine WI (X9 (name:=Str.ofString "__next__") hi.typeIs YU (YH YU hi.typeIs aai ?_ (aad _)));show wpAny _ _ (field (.ref it) 0 >>= _) _ _ s;refine WI (Yk ho od (x:=.ref t) rfl ?_);show wpAny _ _ (if(Value.ref t==Value.none)=true then _ else _) _ _ s;rw[W6 (λz:(Value.ref t==Value.none)=true=>WT z)];show wpAny _ _ (field (.ref it) 1 >>= _) _ _ s;refine WI (Yk ho od (x:=.int i 0) rfl (WI (X7 hq qd ?_)));simp![YN,hx];refine WI (wpAny_setField ho od @t (WO ⟨x,rfl,WO (k _ ⟨_,Yz _ ho (Obj.isFreed_of_fields (Obj.data_mapFields od _)),(Obj.cls_mapFields ..).trans oc,?_⟩ (ZH ..))⟩));rw[Obj.data_mapFields od];simp[rawInt]
theorem AY{t:WP}{Q:Wp->WF->Prop}(hh:A.handled=none)(hi:s.heap.IsTupleIter it t i)(ht:s.heap.IsTuple t items)(hx:items[i]?=none)
  (k:∀h' e,Heap.ExtBut it s.heap h'->(∃o,h'.get? e=some o/\o.cls=.type "StopIteration")->E (.ref e) {s with heap:=h'}):wpAny @i A (Builtin.SmallTypes.nextOf (.ref it)) Q E s:=by
 obtain⟨o,ho,oc,od⟩:=id hi;obtain⟨q,hq,_,n,qd⟩:=ht;unfold Builtin.SmallTypes.nextOf;refine WI (X9 (name:=Str.ofString "__next__") hi.typeIs YU (YH YU hi.typeIs aai ?_ (aad _)));show wpAny _ _ (field (.ref it) 0 >>= _) _ _ s;refine WI (Yk ho od (x:=.ref t) rfl ?_);show wpAny _ _ (if(Value.ref t==Value.none)=true then _ else _) _ _ s;rw[W6 (λz:(Value.ref t==Value.none)=true=>WT z)];show wpAny _ _ (field (.ref it) 1 >>= _) _ _ s;refine WI (Yk ho od (x:=.int i 0) rfl (WI (X7 hq qd ?_)));simp![YN,hx];refine WI (abp (WI (wpAny_setField ho od @t ?_)));show wpAny _ _ (newExc (.type "StopIteration") [] >>= _) _ _ _;refine WI ?_;simp![newExc,newTuple];refine WI (Yt (WI (m:=firstArgMember _ _) (wpAny_of_eq (a:=Value.none) (by first|rfl|(simp![firstArgMember];rfl)) (Yt ?_ (by size_fits)))) (by size_fits));simp![raiseNew];refine WI (wpAny_handled ?_);first
  |rw[show A.in1.handled=none from hh]
  |rw[hh]
 exact WI (WO (wpAny_throw (k _ _ (((ZH ..).extBut.push _).push _) ⟨_,W7 _ rfl,rfl⟩)))
def IsIt(k:Bool)(h:UF)(it l:WP)(i:Nat):Prop:=match k with
 |true=>h.IsListIter it l i
 |false=>h.IsTupleIter it l i
def IsSq(k:Bool)(h:UF)(l:WP)(xs:Array Wp):Prop:=match k with
 |true=>h.IsList l xs
 |false=>h.IsTuple l xs
theorem IsIt.at{k:Bool}(x:IsIt k h it l i)(e:∀o,h.get? it=some o->h'.get? it=some o):IsIt k h' it l i:=by
 cases k with
 |true=>obtain⟨o,ho,r⟩:=(show h.IsListIter it l i from x);exact(show h'.IsListIter it l i from⟨o,e o ho,r⟩)
 |false=>obtain⟨o,ho,r⟩:=(show h.IsTupleIter it l i from x);exact(show h'.IsTupleIter it l i from⟨o,e o ho,r⟩)
theorem IsSq.at{k:Bool}(x:IsSq k h l xs)(e:∀o,h.get? l=some o->h'.get? l=some o):IsSq k h' l xs:=by
 cases k with
 |true=>obtain⟨o,ho,r⟩:=(show h.IsList l xs from x);exact(show h'.IsList l xs from⟨o,e o ho,r⟩)
 |false=>obtain⟨o,ho,r⟩:=(show h.IsTuple l xs from x);exact(show h'.IsTuple l xs from⟨o,e o ho,r⟩)
theorem IsIt.obj{k:Bool}(x:IsIt k h it l i):∃o,h.get? it=some o/\∀v,o.data≠.cell v:=by
 cases k with
 |true=>obtain⟨o,ho,_,d⟩:=(show h.IsListIter it l i from x);exact⟨o,ho,λv z=>by rw[d]at z;cases z⟩
 |false=>obtain⟨o,ho,_,d⟩:=(show h.IsTupleIter it l i from x);exact⟨o,ho,λv z=>by rw[d]at z;cases z⟩
theorem oS{k:Bool}{x:Wp}(hi:IsIt k s.heap it l i)(hl:IsSq k s.heap l xs)(hx:xs[i]?=some x)
  (q:∀h',IsIt k h' it l (i+1)->Heap.SameBut it s.heap h'->Q x {s with heap:=h'}):wpAny @i A (Builtin.SmallTypes.nextOf (.ref it)) Q E s:=by
 cases k with
 |true=>exact wpAny_nextOf_list_item hi hl hx q
 |false=>exact xx hi hl hx q
theorem zc{k:Bool}{Q:Wp->WF->Prop}(hh:A.handled=none)(hi:IsIt k s.heap it l i)(hl:IsSq k s.heap l xs)(hx:xs[i]?=none)
  (q:∀h' e,Heap.ExtBut it s.heap h'->(∃o,h'.get? e=some o/\o.cls=.type "StopIteration")->E (.ref e) {s with heap:=h'}):wpAny @i A (Builtin.SmallTypes.nextOf (.ref it)) Q E s:=by
 cases k with
 |true=>exact wpAny_nextOf_list_end hh hi hl hx q
 |false=>exact AY hh hi hl hx q
theorem AZ{TI TO:WP}{x:Wp}(D:ZipApart z TI TO i1 i2 l1 l2)(hz:IsZip s.heap z TI TO .none)(M8:IsPair s.heap TI (.ref i1) (.ref i2))(NF:IsPair s.heap TO a b)(h1:IsIt k1 s.heap i1 l1 i)(h2:IsIt k2 s.heap i2 l2 i)(g1:IsSq k1 s.heap l1 xs)(g2:IsSq k2 s.heap l2 ys)(hx:xs[i]?=some x)(hy:ys[i]?=some y)(q:∀h',IsZip h' z TI TO (rawInt s.heap.objs.size)->IsPair h' TO x y->IsIt k1 h' i1 l1 (i+1)->IsIt k2 h' i2 l2 (i+1)->IsPair h' s.heap.objs.size x y->
   (∀c o,c≠z->c≠TO->c≠i1->c≠i2->s.heap.get? c=some o->h'.get? c=some o)->Q (.ref s.heap.objs.size) {s with heap:=h'}):
  wpAny @i A (Builtin.«zip.__next__» ⟨[.ref z],[]⟩) (λfin s'=>∃v,fin=.done (.ret v)/\Q v s') E s:=by
 show wpAny _ _ (field (.ref z) 2 >>= _) _ _ _;refine WI (Yk hz rfl (x:=.bool false) rfl ?_);show wpAny _ _ (field (.ref z) 3 >>= _) _ _ _;refine WI (Yk hz rfl (x:=.ref TI) rfl (WI (X7 M8 rfl ?_)));show wpAny _ _ (Builtin.SmallTypes.ownedTupleIsFree (.ref z) >>= _) _ _ _;refine WI ?_;unfold Builtin.SmallTypes.ownedTupleIsFree;refine WI (Yk hz rfl (x:=.none) rfl (WO ?_));rw[WV (by rfl)];refine WI (abp (WI (Yk hz rfl (x:=.ref TO) rfl (WI (Y0 hz @t λhA zA sA=>?_)))));have zA:IsZip hA z TI TO .ellipsis:=zA;refine WI ?_;simp![List.zipIdx_cons,List.zipIdx_nil,abc,List.forIn_nil];refine WI (WI (aaI ?_));show wpAny _ _ (Builtin.SmallTypes.nextOf (.ref i1) >>= _) _ _ _;refine WI (oS (h1.at λo e=>sA.extBut _ _ D.i1z e) (g1.at λo e=>sA.extBut _ _ D.l1z e) hx λhB iB sB=>WO ?_);have tB:IsPair hB TO a b:=sB.extBut _ _ D.TOi1 (sA.extBut _ _ D.TOz NF);refine WI (X7 tB rfl (WI (Z7 tB λhC tC sC=>WI (ZG (WO ?_)))));have tC:IsPair hC TO x b:=tC;refine WI (WI (aaI ?_));show wpAny _ _ (Builtin.SmallTypes.nextOf (.ref i2) >>= _) _ _ _;refine WI (oS (h2.at λo e=>sC.extBut _ _ D.TOi2.symm (sB.extBut _ _ D.i12.symm (sA.extBut _ _ D.i2z e))) (g2.at λo e=>sC.extBut _ _ D.l2TO (sB.extBut _ _ D.l2i1 (sA.extBut _ _ D.l2z e))) hy λhD iD sD=>WO ?_);have tD:IsPair hD TO x b:=sD.extBut _ _ D.TOi2 tC;refine WI (X7 tD rfl (WI (Z7 tD λhE tE sE=>WI (ZG (WO (WO ?_))))));have tE:IsPair hE TO x y:=tE;refine WI (X7 tE rfl (WI (wpAny_newTuple ?_)));have ez:hE.objs.size=s.heap.objs.size:=by rw[sE.1,sD.1,sC.1,sB.1,sA.1]
 have zE:IsZip hE z TI TO .ellipsis:=sE.extBut _ _ D.TOz.symm (sD.extBut _ _ D.i2z.symm (sC.extBut _ _ D.TOz.symm (sB.extBut _ _ D.i1z.symm zA)));have kE:∀c o,c≠z->c≠TO->c≠i1->c≠i2->s.heap.get? c=some o->hE.get? c=some o:=λc o c1 c2 c3 c4 e=>sE.extBut _ _ c2 (sD.extBut _ _ c4 (sC.extBut _ _ c2 (sB.extBut _ _ c3 (sA.extBut _ _ c1 e))))
 have i1E:IsIt k1 hE i1 l1 (i+1):=iB.at λo e=>sE.extBut _ _ D.TOi1.symm (sD.extBut _ _ D.i12 (sC.extBut _ _ D.TOi1.symm e))
 have i2E:IsIt k2 hE i2 l2 (i+1):=iD.at λo e=>sE.extBut _ _ D.TOi2.symm e
 show wpAny _ _ (Builtin.SmallTypes.ownedTupleHandOut (.ref z) (.ref hE.objs.size) >>= _) _ _ _;refine WI ?_;unfold Builtin.SmallTypes.ownedTupleHandOut;have zF:IsZip (hE.push {cls:=.type "tuple",data:=.seq #[x,y]}) z TI TO .ellipsis:=WL _ zE;refine WI (Y0 zF @t λhG zG sG=>?_);have zG:IsZip hG z TI TO (rawInt hE.objs.size):=zG;refine Y0 zG @t λhK zK sK=>?_
 have zK:IsZip hK z TI TO (rawInt hE.objs.size):=zK;have up:∀c o,c≠z->hE.get? c=some o->hK.get? c=some o:=λc o c1 e=>sK.extBut _ _ c1 (sG.extBut _ _ c1 (WL _ e))
 have nz:hE.objs.size≠z:=acd (W4 zE);have tK:IsPair hK hE.objs.size x y:=sK.extBut _ _ nz (sG.extBut _ _ nz (W7 _ rfl));rw[ez]at zK tK;refine WO ⟨_,rfl,?_⟩;show Q (.ref hE.objs.size) _;rw[ez];exact q hK zK (up _ _ D.TOz tE) (i1E.at λo e=>up _ o D.i1z e) (i2E.at λo e=>up _ o D.i2z e) tK λc o c1 c2 c3 c4 e=>up c o c1 (kE c o c1 c2 c3 c4 e)
theorem Eb{TI TO:WP}{Q:Fin->WF->Prop}(hh:A.handled=none)(D:ZipApart z TI TO i1 i2 l1 l2)(hz:IsZip s.heap z TI TO .none)(M8:IsPair s.heap TI (.ref i1) (.ref i2))(NF:IsPair s.heap TO a b)(h1:IsIt k1 s.heap i1 l1 i)(h2:IsIt k2 s.heap i2 l2 i)(g1:IsSq k1 s.heap l1 xs)(g2:IsSq k2 s.heap l2 ys)(he:xs[i]?=none\/ys[i]?=none)(q:∀h' e,(∀c o,c≠z->c≠TO->c≠i1->c≠i2->s.heap.get? c=some o->h'.get? c=some o)->(∃o,h'.get? e=some o/\o.cls=.type "StopIteration")->E (.ref e) {s with heap:=h'}):
  wpAny @i A (Builtin.«zip.__next__» ⟨[.ref z],[]⟩) Q E s:=by
 show wpAny _ _ (field (.ref z) 2 >>= _) _ _ _;refine WI (Yk hz rfl (x:=.bool false) rfl ?_);show wpAny _ _ (field (.ref z) 3 >>= _) _ _ _;refine WI (Yk hz rfl (x:=.ref TI) rfl (WI (X7 M8 rfl ?_)));show wpAny _ _ (Builtin.SmallTypes.ownedTupleIsFree (.ref z) >>= _) _ _ _;refine WI ?_;unfold Builtin.SmallTypes.ownedTupleIsFree;refine WI (Yk hz rfl (x:=.none) rfl (WO ?_));rw[WV (by rfl)];refine WI (abp (WI (Yk hz rfl (x:=.ref TO) rfl (WI (Y0 hz @t λhA zA sA=>?_)))));have zA:IsZip hA z TI TO .ellipsis:=zA;refine WI ?_;simp![List.zipIdx_cons,List.zipIdx_nil,abc,List.forIn_nil];refine WI (WI (aaI ?_));show wpAny _ _ (Builtin.SmallTypes.nextOf (.ref i1) >>= _) _ _ _;cases hx:xs[i]? with
 |none=>
  refine WI (zc hh (h1.at λo e=>sA.extBut _ _ D.i1z e) (g1.at λo e=>sA.extBut _ _ D.l1z e) hx λhB e sB KQ=>?_);obtain⟨oe,ge,ce⟩:=KQ;have zB:IsZip hB z TI TO .ellipsis:=sB _ _ D.i1z.symm zA;have ne:e≠z:=λx=>by subst x;rw[zB]at ge;cases ge;simp at ce
  exact Y0 zB @t λhC _ sC=>q hC e (λc o c1 _ c3 _ x=>sC.extBut _ _ c1 (sB _ _ c3 (sA.extBut _ _ c1 x))) ⟨oe,sC.extBut _ _ ne ge,ce⟩
 |some x=>
  have hy:ys[i]?=none:=by
   rcases he with z|z
   .rw[hx]at z;cases z
   .exact z
  refine WI (oS (h1.at λo e=>sA.extBut _ _ D.i1z e) (g1.at λo e=>sA.extBut _ _ D.l1z e) hx λhB iB sB=>WO ?_);have tB:IsPair hB TO a b:=sB.extBut _ _ D.TOi1 (sA.extBut _ _ D.TOz NF);refine WI (X7 tB rfl (WI (Z7 tB λhC tC sC=>WI (ZG (WO ?_)))));refine WI (WI (aaI ?_));show wpAny _ _ (Builtin.SmallTypes.nextOf (.ref i2) >>= _) _ _ _;refine WI (zc hh (h2.at λo e=>sC.extBut _ _ D.TOi2.symm (sB.extBut _ _ D.i12.symm (sA.extBut _ _ D.i2z e))) (g2.at λo e=>sC.extBut _ _ D.l2TO (sB.extBut _ _ D.l2i1 (sA.extBut _ _ D.l2z e))) hy λhD e sD KQ=>?_);obtain⟨oe,ge,ce⟩:=KQ;have zD:IsZip hD z TI TO .ellipsis:=sD _ _ D.i2z.symm (sC.extBut _ _ D.TOz.symm (sB.extBut _ _ D.i1z.symm zA));have ne:e≠z:=λx=>by subst x;rw[zD]at ge;cases ge;simp at ce
  exact Y0 zD @t λhF _ sF=>q hF e (λc o c1 c2 c3 c4 x=>sF.extBut _ _ c1 (sD _ _ c4 (sC.extBut _ _ c2 (sB.extBut _ _ c3 (sA.extBut _ _ c1 x))))) ⟨oe,sF.extBut _ _ ne ge,ce⟩
end
noncomputable def itObj(k:Bool)(l:WP):Obj:=match k with
 |true=>{cls:=.type "list_iterator",data:=.fields #[.ref l,.int 0 0]}
 |false=>{cls:=.type "tuple_iterator",data:=.fields #[.ref l,.int 0 0]}
theorem pU(k:Bool)(h:UF)(l:WP):IsIt k (h.push (itObj k l)) h.objs.size l 0:=by
 cases k with
 |true=>exact⟨_,W7 _ rfl,rfl,rfl⟩
 |false=>exact⟨_,W7 _ rfl,rfl,rfl⟩
abbrev zA(h:UF)(k1:Bool)(l1:WP):UF:=h.push (itObj k1 l1)
abbrev zB(h:UF)(k1 k2:Bool)(l1 l2:WP):UF:=(zA h k1 l1).push (itObj k2 l2)
abbrev zC(h:UF)(k1 k2:Bool)(l1 l2:WP):UF:=(zB h k1 k2 l1 l2).push {cls:=.type "tuple",data:=.seq #[.ref h.objs.size,.ref (zA h k1 l1).objs.size]}
abbrev zD(h:UF)(k1 k2:Bool)(l1 l2:WP):UF:=(zC h k1 k2 l1 l2).push {cls:=.type "tuple",data:=.seq #[.none,.none]}
abbrev zE(h:UF)(k1 k2:Bool)(l1 l2:WP):UF:=(zD h k1 k2 l1 l2).push {cls:=.type "zip",data:=.fields #[.none,.bool false,.bool false,.ref (zB h k1 k2 l1 l2).objs.size,.ref (zC h k1 k2 l1 l2).objs.size]}
set_option maxHeartbeats 8000000 in
theorem Ec(k1 k2:Bool)(l1 l2:WP)(xs ys:Array Wp):
  Meets (Builtin.«zip.__new__» ⟨[.type "zip",.ref l1,.ref l2],[]⟩) (λ_ R s=>IsSq k1 s.heap l1 xs/\IsSq k2 s.heap l2 ys/\R (.ok (.ret (.ref (zD s.heap k1 k2 l1 l2).objs.size))) {s with heap:=zE s.heap k1 k2 l1 l2}):=
 .of_wp λprog w A R s h=>by
  obtain⟨hp,g,d,tk,os⟩:=s;obtain⟨g1,g2,q⟩:=h;have MU:=sub_zip;cases k1 with
  |true=>
   have e1:Heap.IsList (Shared.heap ⟨hp,g,d,tk,os⟩) l1 xs:=g1;cases k2 with
   |true=>
    have e2:Heap.IsList (Shared.heap ⟨hp.push {cls:=.type "list_iterator",data:=.fields #[.ref l1,.int 0 0]},g,d,tk,os⟩) l2 ys:=Heap.IsList.push g2 _
    wp_walk using YM e1,YM e2
    exact⟨_,rfl,q⟩
   |false=>
    have e2:Heap.IsTuple (Shared.heap ⟨hp.push {cls:=.type "list_iterator",data:=.fields #[.ref l1,.int 0 0]},g,d,tk,os⟩) l2 ys:=Heap.IsTuple.push g2 _
    wp_walk using YM e1,YY e2
    exact⟨_,rfl,q⟩
  |false=>
   have e1:Heap.IsTuple (Shared.heap ⟨hp,g,d,tk,os⟩) l1 xs:=g1;cases k2 with
   |true=>
    have e2:Heap.IsList (Shared.heap ⟨hp.push {cls:=.type "tuple_iterator",data:=.fields #[.ref l1,.int 0 0]},g,d,tk,os⟩) l2 ys:=Heap.IsList.push g2 _
    wp_walk using YY e1,YM e2
    exact⟨_,rfl,q⟩
   |false=>
    have e2:Heap.IsTuple (Shared.heap ⟨hp.push {cls:=.type "tuple_iterator",data:=.fields #[.ref l1,.int 0 0]},g,d,tk,os⟩) l2 ys:=Heap.IsTuple.push g2 _
    wp_walk using YY e1,YY e2
    exact⟨_,rfl,q⟩
def ZS(k1 k2:Bool)(z TI TO i1 i2 l1 l2:WP)(i:Nat)(h:UF):Prop:=IsZip h z TI TO .none/\IsPair h TI (.ref i1) (.ref i2)/\(∃a b,IsPair h TO a b)/\IsIt k1 h i1 l1 i/\IsIt k2 h i2 l2 i
theorem A3{prog:W1}{w:World}{A:Uf}{E:Wp->WF->Prop}(g1:IsSq k1 s.heap l1 xs)(g2:IsSq k2 s.heap l2 ys)
  (q:∀h',ZS k1 k2 (s.heap.objs.size+4) (s.heap.objs.size+2) (s.heap.objs.size+3) s.heap.objs.size (s.heap.objs.size+1) l1 l2 0 h'->(∀c o,s.heap.get? c=some o->h'.get? c=some o)->Q (.ref (s.heap.objs.size+4)) {s with heap:=h'}):
  wpAny @i A (call (.type "zip") [.ref l1,.ref l2]) Q E s:=by
 refine callType_new F.called_zip @b (F.typeCall_zip_2 _ _) (F.newCall_zip_2 _ _) (λobj=>F.args_object_init_3 obj _ _) F.entry_zip_new (Ec k1 k2 l1 l2 xs ys) ⟨g1,g2,?_⟩;have nA:(zA s.heap k1 l1).objs.size=s.heap.objs.size+1:=Yw ..;have nB:(zB s.heap k1 k2 l1 l2).objs.size=s.heap.objs.size+2:=by rw[Yw,nA]
 have nC:(zC s.heap k1 k2 l1 l2).objs.size=s.heap.objs.size+3:=by rw[Yw,nB]
 have nD:(zD s.heap k1 k2 l1 l2).objs.size=s.heap.objs.size+4:=by rw[Yw,nC]
 have pu:∀{h:UF}{o:Obj}{c:WP}{v:Obj},h.get? c=some v->(h.push o).get? c=some v:=λe=>WL _ e
 have gz:(zE s.heap k1 k2 l1 l2).get? (zD s.heap k1 k2 l1 l2).objs.size=some _:=W7 _ rfl;have go:(zE s.heap k1 k2 l1 l2).get? (zC s.heap k1 k2 l1 l2).objs.size=some _:=pu (W7 _ rfl);have gi:(zE s.heap k1 k2 l1 l2).get? (zB s.heap k1 k2 l1 l2).objs.size=some _:=pu (pu (W7 _ rfl));have j2:IsIt k2 (zE s.heap k1 k2 l1 l2) (zA s.heap k1 l1).objs.size l2 0:=(pU k2 (zA s.heap k1 l1) l2).at λo e=>pu (pu (pu e))
 have j1:IsIt k1 (zE s.heap k1 k2 l1 l2) s.heap.objs.size l1 0:=(pU k1 s.heap l1).at λo e=>pu (pu (pu (pu e)))
 show _/\_;rw[nB,nC,nD]at gz;rw[nA,nB]at gi;rw[nC]at go;rw[nA]at j2;rw[nD];exact⟨⟨_,gz,rfl⟩,q _ ⟨gz,gi,⟨_,_,go⟩,j1,j2⟩ λc o x=>pu (pu (pu (pu (pu x))))⟩
def U2(K:W.Frag)(k1 k2:Bool)(a b:WP):It:=
 ⟨λi H=>∃xs ys x y,(if k1 then SqL K H a xs else SqT K H a xs)/\(if k2 then SqL K H b ys else SqT K H b ys)/\xs[i]?=some x/\ys[i]?=some y,
  λi H v H'=>∃T,H T=none/\v=.ref T/\∀xs ys x y,(if k1 then SqL K H a xs else SqT K H a xs)->(if k2 then SqL K H b ys else SqT K H b ys)->xs[i]?=some x->ys[i]?=some y->H'=upd H T (.tup [x,y]),
  λi H=>∃xs ys,(if k1 then SqL K H a xs else SqT K H a xs)/\(if k2 then SqL K H b ys else SqT K H b ys)/\i=min xs.length ys.length⟩
variable{a:WP}
section
theorem rX(I:Inv X pr σ H s){k:Bool}{xs:List V}(h:if k then SqL X.K H a xs else SqT X.K H a xs):∃us:List Wp,Vals xs us/\IsSq k s.heap a us.toArray:=by
 cases k with
 |true=>
  obtain⟨us,r,p,_⟩:=I.list (show SqL X.K H a xs from h);exact⟨us,r,p.isList⟩
 |false=>
  obtain⟨us,r,p,_⟩:=I.tuple (show SqT X.K H a xs from h);exact⟨us,r,(show s.heap.IsTuple a us.toArray from p)⟩
theorem ze(I:Inv X pr σ H s){k:Bool}{xs ys:List V}(h:if k then SqL X.K H a xs else SqT X.K H a xs)(h':if k then SqL X.K H a ys else SqT X.K H a ys):xs=ys:=by
 cases k with
 |true=>exact I.list_inj (show SqL X.K H a xs from h) (show SqL X.K H a ys from h')
 |false=>exact I.tuple_inj (show SqT X.K H a xs from h) (show SqT X.K H a ys from h')
theorem fY(I:Inv X pr σ H s){k:Bool}{xs:List V}(h:if k then SqL X.K H a xs else SqT X.K H a xs)(f:sY X pr H b):a≠b:=by
 rintro rfl;obtain⟨f0,_,_,f3,_⟩:=f;have nb:∀o,X.K.lookup a=some o->False:=λo hk=>by
  have e:=I.ok.mod.kin a o hk;rcases f3 with z|z
  .exact I.ok.noex a o e z
  .exact absurd (W9 (W4 e) (Xz I.ok.bsz z)) (Yv _)
 cases k with
 |true=>
  rcases(show SqL X.K H a xs from h) with(h|⟨o,h⟩)|⟨o,Kt,n,hk,_⟩
  .rw[f0]at h;cases h
  .rw[f0]at h;cases h
  .exact nb o hk
 |false=>
  rcases(show SqT X.K H a xs from h) with(h|⟨o,h⟩)|⟨o,Kt,n,hk,_⟩
  .rw[f0]at h;cases h
  .rw[f0]at h;cases h
  .exact nb o hk
end
theorem nx_zip_item{prog:W1}{w:World}{A:Uf}{E:Wp->WF->Prop}{TI TO:WP}{x:Wp}{Q:Option Wp->WF->Prop}(D:ZipApart z TI TO i1 i2 l1 l2)(st:ZS k1 k2 z TI TO i1 i2 l1 l2 i s.heap)(g1:IsSq k1 s.heap l1 xs)(g2:IsSq k2 s.heap l2 ys)(hx:xs[i]?=some x)(hy:ys[i]?=some y)(q:∀h',IsZip h' z TI TO (rawInt s.heap.objs.size)->IsPair h' TO x y->IsIt k1 h' i1 l1 (i+1)->IsIt k2 h' i2 l2 (i+1)->IsPair h' s.heap.objs.size x y->
   (∀c o,c≠z->c≠TO->c≠i1->c≠i2->s.heap.get? c=some o->h'.get? c=some o)->Q (some (.ref s.heap.objs.size)) {s with heap:=h'}):wpAny @i A (pyNext (.ref z)) Q E s:=by
 obtain⟨hz,M8,⟨a,b,NF⟩,h1,h2⟩:=st;have ty:s.TypeIs (.ref z) "zip":=⟨_,hz,rfl⟩
 unfold pyNext;exact WI (wpAny_attempt (X9 (name:=Str.ofString "__next__") ty aaj (YH aaj ty F.entry_zip_next (AZ D hz M8 NF h1 h2 g1 g2 hx hy λh' a1 a2 a3 a4 a5 a6=>WO (q h' a1 a2 a3 a4 a5 a6)) (F.args_zip_next_1 _))))
theorem rY{prog:W1}{w:World}{E:Wp->WF->Prop}{TI TO:WP}{Q:Option Wp->WF->Prop}(hh:A.handled=none)(D:ZipApart z TI TO i1 i2 l1 l2)(st:ZS k1 k2 z TI TO i1 i2 l1 l2 i s.heap)(g1:IsSq k1 s.heap l1 xs)(g2:IsSq k2 s.heap l2 ys)(he:xs[i]?=none\/ys[i]?=none)(q:∀h',(∀c o,c≠z->c≠TO->c≠i1->c≠i2->s.heap.get? c=some o->h'.get? c=some o)->Q none {s with heap:=h'}):wpAny @i A (pyNext (.ref z)) Q E s:=by
 obtain⟨hz,M8,⟨a,b,NF⟩,h1,h2⟩:=st;have ty:s.TypeIs (.ref z) "zip":=⟨_,hz,rfl⟩
 unfold pyNext;refine WI (wpAny_attempt (X9 (name:=Str.ofString "__next__") ty aaj (YH aaj ty F.entry_zip_next (Eb hh D hz M8 NF h1 h2 g1 g2 he λh' e kk ⟨o,ho,oc⟩=>?_) (F.args_zip_next_1 _))));exact WI (wpAny_isInstance (T:="StopIteration") (b:=true) ⟨o,ho,oc⟩ isSubtype_stop (WO (q _ kk)))
variable{kt:Nat}
theorem xy{P:W1}{K:W.Frag}{pt:Pos}(k1 k2:Bool)(a b z TI TO i1 i2:WP)(ne:z≠TI/\z≠TO/\z≠i1/\z≠i2/\TI≠TO/\TI≠i1/\TI≠i2/\TO≠i1/\TO≠i2/\i1≠i2):
  Turn P w K (.Tuple es kt pt) (U2 K k1 k2 a b) [z,TI,TO,i1,i2] z (ZS k1 k2 z TI TO i1 i2 a b) where
 mem:=by simp
 obj:=λi h st c hc=>by
  obtain⟨hz,M8,⟨x,y,NF⟩,h1,h2⟩:=st;simp![WY,XU,acD]at hc;rcases hc with rfl|rfl|rfl|rfl|rfl
  .exact⟨_,hz,λv q=>by cases q⟩
  .exact⟨_,M8,λv q=>by cases q⟩
  .exact⟨_,NF,λv q=>by cases q⟩
  .exact h1.obj
  .exact h2.obj
 keep:=λi h h' st k=>by
  obtain⟨hz,M8,⟨x,y,NF⟩,h1,h2⟩:=st;exact⟨k z @t _ hz,k TI @t _ M8,⟨x,y,k TO @t _ NF⟩,h1.at λo e=>k i1 @t o e,h2.at λo e=>k i2 @t o e⟩
 item:=by
  intro X hP hw hK hc i pr s σ H E I hf st hg;subst hP hw hK;obtain⟨xs,ys,x,y,s1,s2,hx,hy⟩:=hg;obtain⟨us,r1,q1⟩:=rX I s1;obtain⟨ws,r2,q2⟩:=rX I s2;obtain⟨u,hu,ru⟩:=r1.get hx;obtain⟨v,hv,rv⟩:=r2.get hy;obtain⟨n1,n2,n3,n4,n5,n6,n7,n8,n9,U3⟩:=ne;have f:=λc hc=>hf c hc
  have D:ZipApart z TI TO i1 i2 a b:=⟨n1.symm,n2.symm,n3.symm,n4.symm,n5,n6,n7,n8,n9,U3,fY I s1 (f z @t),fY I s1 (f TO @t),fY I s1 (f i1 @t),fY I s1 (f i2 @t),
   fY I s2 (f z @t),fY I s2 (f TO @t),fY I s2 (f i1 @t),fY I s2 (f i2 @t)⟩
  have M8:=st.2.1;refine nx_zip_item D st q1 q2 (by simpa using hu) (by simpa using hv) λh' z1 t1 j1 j2 tp kk=>⟨_,rfl,?_⟩
  refine wpAny_letOwnedTupleGo_zip z1 λh2 z2 sb=>?_
  have nT:H s.heap.objs.size=none:=I.hok.fresh (WU _);have tT:s.heap.objs.size≠z:=acd (W4 st.1);have all:∀c o,c≠z->c≠TO->c≠i1->c≠i2->s.heap.get? c=some o->h2.get? c=some o:=λc o c1 c2 c3 c4 e=>(sb.2 c c1).trans (kk c o c1 c2 c3 c4 e)
  have fz:=f z @t;have fo:=f TO @t;have f1:=f i1 @t;have f2:=f i2 @t;have QQ:∀c ob,H c=some ob->c≠z/\c≠TO/\c≠i1/\c≠i2:=λc ob e=>⟨(λq=>by rw[q,fz.1]at e;cases e),(λq=>by rw[q,fo.1]at e;cases e),(λq=>by rw[q,f1.1]at e;cases e),(λq=>by rw[q,f2.1]at e;cases e)⟩
  refine⟨.ref s.heap.objs.size,upd H s.heap.objs.size (.tup [x,y]),?_,rfl,⟨_,nT,rfl,λLN ys' x' y' a1 a2 a3 a4=>?_⟩,⟨z2,?_,⟨u,v,(sb.2 TO n2.symm).trans t1⟩,j1.at λo e=>(sb.2 i1 n3.symm).trans e,j2.at λo e=>(sb.2 i2 n4.symm).trans e⟩,λc hc=>?_⟩
  .have tup2:h2.get? s.heap.objs.size=some {cls:=.type "tuple",data:=.seq #[u,v]}:=(sb.2 _ tT).trans tp;have S0:Inv X pr σ (upd H s.heap.objs.size (.tup [x,y])) {s with heap:=h2,gens:=s.gens,drawn:=s.drawn,toks:=s.toks}:=by
    refine I.step (ch:=[z,TO,i1,i2]) (λc hc=>?_) (λc o _ _ nc e _=>all c o @q @q @q @q e)
     (λc o _ _ nc e _=>⟨o.slots,all c o @q @q @q @q e⟩) (λc o _ e n=>by rw[au (Xh (W4 e))];exact n)
     (λc o nc e=>⟨o,all c o @q @q @q @q e⟩) (λc l e=>by rw[au (aN e nT)];exact e) (λc o u' e=>by rw[au (aN e nT)];exact e)
     (λc ps e=>⟨#[],by rw[au (aN e nT),e];simp⟩) (λm hm=>?_) (λc ob e=>?_) I.bare
    .simp![WY,XU,acD]at hc;rcases hc with rfl|rfl|rfl|rfl
     .exact⟨fz.2.2.2.1,fz.2.1,fz.2.2.2.2.1,fz.2.2.2.2.2⟩
     .exact⟨fo.2.2.2.1,fo.2.1,fo.2.2.2.2.1,fo.2.2.2.2.2⟩
     .exact⟨f1.2.2.2.1,f1.2.1,f1.2.2.2.2.1,f1.2.2.2.2.2⟩
     .exact⟨f2.2.2.2.1,f2.2.1,f2.2.2.2.2.1,f2.2.2.2.2.2⟩
    .obtain⟨o,es,ep,ho,r⟩:=hm;exact⟨o,es,ep,all _ o (Yj fz.2.1) (Yj fo.2.1) (Yj f1.2.1) (Yj f2.2.1) ho,r⟩
    .by_cases ec:c=s.heap.objs.size
     .subst ec;rw[aG]at e;cases e;exact⟨by simp![WX,X2];rw[XR];decide,[u,v],.cons ru (.cons rv .nil),⟨_,tup2,rfl,⟨0,rfl⟩,rfl⟩⟩
     .rw[au ec]at e;refine(I.hok c ob e).stay (λd w' hd q=>?_) (λd q=>by rw[au (aN q nT)];exact q) λd l q=>by rw[au (aN q nT)];exact q
      have OR:∃oo,H d=some oo:=by
       rcases hd with rfl|hd
       .exact⟨_,e⟩
       .exact⟨_,hd⟩
      obtain⟨oo,U4⟩:=OR;obtain⟨m1,m2,m3,m4⟩:=QQ d oo U4;exact all d w' m1 m2 m3 m4 q
   exact S0
  .have e1:=ze I a1 s1;have e2:=ze I a2 s2;subst e1 e2;rw[hx]at a3;rw[hy]at a4;cases a3;cases a4;rfl
  .exact(sb.2 TI n1.symm).trans (kk TI _ n1.symm n5 n6 n7 M8)
  .have hc0:=(f c hc).1;have cs:c≠s.heap.objs.size:=by
    have:=(λi h st=>by
     exact(by
      obtain⟨hz,M8,⟨x,y,NF⟩,h1,h2⟩:=st;simp![WY,XU,acD]at hc;rcases hc with rfl|rfl|rfl|rfl|rfl
      .exact⟨_,hz⟩
      .exact⟨_,M8⟩
      .exact⟨_,NF⟩
      .obtain⟨o,e,_⟩:=h1.obj;exact⟨o,e⟩
      .obtain⟨o,e,_⟩:=h2.obj;exact⟨o,e⟩:∃o,h.get? c=some o):∀i h,ZS k1 k2 z TI TO i1 i2 a b i h->∃o,h.get? c=some o) i s.heap st
    obtain⟨o,e⟩:=this;exact Xh (W4 e)
   rw[au cs];exact hc0
 done:=by
  intro X hP hw hK hc i pr s σ H E I hf st hg;subst hP hw hK;obtain⟨xs,ys,s1,s2,hi⟩:=hg;obtain⟨us,r1,q1⟩:=rX I s1;obtain⟨ws,r2,q2⟩:=rX I s2;have l1:=r1.length;have l2:=r2.length;obtain⟨n1,n2,n3,n4,n5,n6,n7,n8,n9,U3⟩:=ne;have f:=λc hc=>hf c hc
  have D:ZipApart z TI TO i1 i2 a b:=⟨n1.symm,n2.symm,n3.symm,n4.symm,n5,n6,n7,n8,n9,U3,fY I s1 (f z @t),fY I s1 (f TO @t),fY I s1 (f i1 @t),fY I s1 (f i2 @t),
   fY I s2 (f z @t),fY I s2 (f TO @t),fY I s2 (f i1 @t),fY I s2 (f i2 @t)⟩
  have fz:=f z @t;have fo:=f TO @t;have f1:=f i1 @t;have f2:=f i2 @t;refine rY (I.ok.hd hc) D st q1 q2 (by
   rcases Nat.le_total us.length ws.length with q|q
   .exact .inl (by simp;lia)
   .exact .inr (by simp;lia)) λh' kk=>⟨rfl,?_⟩
  have QQ:∀c ob,H c=some ob->c≠z/\c≠TO/\c≠i1/\c≠i2:=λc ob e=>⟨(λq=>by rw[q,fz.1]at e;cases e),(λq=>by rw[q,fo.1]at e;cases e),(λq=>by rw[q,f1.1]at e;cases e),(λq=>by rw[q,f2.1]at e;cases e)⟩
  have S0:Inv X pr σ H {s with heap:=h',gens:=s.gens,drawn:=s.drawn,toks:=s.toks}:=by
   refine I.step (ch:=[z,TO,i1,i2]) (λc hc=>?_) (λc o _ _ nc e _=>kk c o @q @q @q @q e)
    (λc o _ _ nc e _=>⟨o.slots,kk c o @q @q @q @q e⟩) (λc o _ e n=>n)
    (λc o nc e=>⟨o,kk c o @q @q @q @q e⟩) (λc l e=>e) (λc o u' e=>e)
    (λc ps e=>⟨#[],by rw[e];simp⟩) (λm hm=>?_) (λc ob e=>?_) I.bare
   .simp![WY,XU,acD]at hc;rcases hc with rfl|rfl|rfl|rfl
    .exact⟨fz.2.2.2.1,fz.2.1,fz.2.2.2.2.1,fz.2.2.2.2.2⟩
    .exact⟨fo.2.2.2.1,fo.2.1,fo.2.2.2.2.1,fo.2.2.2.2.2⟩
    .exact⟨f1.2.2.2.1,f1.2.1,f1.2.2.2.2.1,f1.2.2.2.2.2⟩
    .exact⟨f2.2.2.2.1,f2.2.1,f2.2.2.2.2.1,f2.2.2.2.2.2⟩
   .obtain⟨o,es,ep,ho,r⟩:=hm;exact⟨o,es,ep,kk _ o (Yj fz.2.1) (Yj fo.2.1) (Yj f1.2.1) (Yj f2.2.1) ho,r⟩
   .refine(I.hok c ob e).stay (λd w' hd q=>?_) (λd q=>q) λd l q=>q
    have OR:∃oo,H d=some oo:=by
     rcases hd with rfl|hd
     .exact⟨_,e⟩
     .exact⟨_,hd⟩
    obtain⟨oo,U4⟩:=OR;obtain⟨m1,m2,m3,m4⟩:=QQ d oo U4;exact kk d w' m1 m2 m3 m4 q
  exact S0
 self:=λ_ _ _ _ _ st h=>wpAny_pyIter_zip st.1 h
section
variable{pt:Pos}
def JT(K:W.Frag)(k1 k2:Bool)(ta:TA):TI:=λσ H R=>ta σ H λvs H1=>∃a b xs ys,vs=[.ref a,.ref b]/\(if k1 then SqL K H1 a xs else SqT K H1 a xs)/\(if k2 then SqL K H1 b ys else SqT K H1 b ys)/\R (U2 K k1 k2 a b) H1
theorem Ed(k1 k2:Bool){pos:Pos}(hg:Gl X "zip")(hm:X.mg "zip" = none)(ha:PA X [e1,e2] ta)(he:starEach [e1,e2] X.env=(false,eval e1 X.env)::starEach [e2] X.env:=by rfl)(Lj:(backTo pos (starEach [e2] X.env)).any (·.1)=false:=by rfl):
  PI X (.Tuple es kt pt) (.Call (.Name "zip" p) [e1,e2] [] pos) (JT X.K k1 k2 ta):=by
 intro pr s σ H R I h;refine Yd (eQ I hg hm (by decide +kernel:bootBuiltins "zip" = some (.type "zip")) ?_ @b @b);refine X1 (KN (ha pos pr s σ H _ I h) λus s1 ⟨vs,H1,I1,r1,a,b,xs,ys,e,s1',s2',q⟩=>?_) he Lj;subst e;obtain⟨u,w',rfl,ra,rb⟩:=rS r1;cases ra;cases rb;obtain⟨us,v1,q1⟩:=rX I1 s1';obtain⟨ws,v2,q2⟩:=rX I1 s2';refine A3 q1 q2 λh' st kk=>?_
 refine wpAny_pyIter_zip st.1 ?_;have fr:∀j,sY X pr H1 (s1.heap.objs.size+j):=λj=>I1.fpOk (aaW _ _) (I1.hok.fresh (aaW _ _))
 have nn:∀i j:Nat,i≠j->s1.heap.objs.size+i≠s1.heap.objs.size+j:=λi j h z=>h (Nat.add_left_cancel z)
 refine⟨_,_,_,_,H1,rfl,I1.kept (t':=s1.toks) kk,xy k1 k2 a b (s1.heap.objs.size+4) (s1.heap.objs.size+2) (s1.heap.objs.size+3) (s1.heap.objs.size+0) (s1.heap.objs.size+1)
  ⟨nn 4 2 @b,nn 4 3 @b,nn 4 0 @b,nn 4 1 @b,nn 2 3 @b,nn 2 0 @b,nn 2 1 @b,nn 3 0 @b,nn 3 1 @b,nn 0 1 @b⟩,st,λc hc=>?_,q⟩
 simp![WY,XU,acD]at hc;rcases hc with rfl|rfl|rfl|rfl|rfl
 .exact fr 4
 .exact fr 2
 .exact fr 3
 .exact fr 0
 .exact fr 1
end
end NX
namespace NX
open PySem PySem.W PyProof.Rows
variable{p:Array Nat}{Le i:Nat}{Q:Nat×Array Nat->WF->Prop}{s:WF}
section
variable{n:Nat}{O:KeyOrd}{κ:Nat->O.α}{cmp:Nat->Nat->(Bool->WF->Prop)->WF->Prop}{Good:WF->Prop}
noncomputable def kk(κ:Nat->O.α)(p:Array Nat)(i:Nat):O.α:=κ (p.getD i 0)
structure POk(n:Nat)(p:Array Nat):Prop where
 perm:p.toList.Perm (List.range n)
theorem POk.size{p:Array Nat}(h:POk n p):p.size=n:=by
 have:=h.perm.length_eq;simpa using this
theorem POk.lt(h:POk n p)(hi:i<n):p.getD i 0<n:=by
 have hs:=h.size;have M1:i<p.size:=by lia
 have e:p.getD i 0=p[i]:=by simp[Array.getD,M1]
 rw[e];exact Xp.mp (h.perm.mem_iff.mp (Array.getElem_mem_toList M1))
theorem POk.of(h:POk n p)(hq:q.Perm p):POk n q:=⟨(Array.perm_iff_toList_perm.mp hq).trans h.perm⟩
def aT(κ:Nat->O.α)(p:Array Nat)(m:Nat):Prop:=∀i j,i<=j->j<m->O.kle (kk κ p i) (kk κ p j)
def dP(κ:Nat->O.α)(p:Array Nat)(m:Nat):Prop:=∀i j,i<=j->j<m->O.kle (kk κ p j) (kk κ p i)
theorem dw{q:Array Nat}{j:Nat}(h:p[i]?=q[j]?):p.getD i 0=q.getD j 0:=by
 rw[Xy,Xy,h]
theorem pV(hj:j<=p.size)(k:Nat):kk κ (kas_rev p i j) k=if i<=k/\k<j then kk κ p (i+j-1-k) else kk κ p k:=by
 have e:=getElem?_mirror_all (i:=i) hj k;unfold kk kas_rev;split
 .rename_i h;rw[WV h]at e;rw[dw e]
 .rename_i h;rw[W6 h]at e;rw[dw e]
theorem zf(hs:src<p.size)(hd:d<=src)(k:Nat):kk κ (bubble p src d) k=if k=src-d then kk κ p src else if src-d<k/\k<=src then kk κ p (k-1) else kk κ p k:=by
 have e:=getElem?_bubble hs d hd k;by_cases h:k=src-d
 .rw[WV h]at e |-;exact Yp κ (dw e)
 .rw[W6 h]at e |-;by_cases h2:src-d<k/\k<=src
  .rw[WV h2]at e |-;exact Yp κ (dw e)
  .rw[W6 h2]at e |-;exact Yp κ (dw e)
theorem POk.rev(h:POk n p)(i j:Nat):POk n (kas_rev p i j):=h.of (mirror_perm _ _ _ _)
theorem POk.bub(h:POk n p)(i j:Nat):POk n (bubble p i j):=h.of (bubble_perm _ _ _)
theorem rZ(p:Array Nat):aT κ p 1:=λi j a b=>by
 have e:i=j:=by lia
 rw[e];exact YR _
theorem oU{m:Nat}(h1:1<=m)(h:aT κ p m)(hm:O.kle (kk κ p (m-1)) (kk κ p m)):aT κ p (m+1):=by
 intro i j MV hj;by_cases e:j=m
 .subst e;by_cases e2:i=j
  .subst e2;exact YR _
  .exact Z5 (h i (j-1) @a @a) hm
 .exact h i j MV @a
theorem dy{m:Nat}(h1:1<=m)(h:dP κ p m)(hm:O.kle (kk κ p m) (kk κ p (m-1))):dP κ p (m+1):=by
 intro i j MV hj;by_cases e:j=m
 .subst e;by_cases e2:i=j
  .subst e2;exact YR _
  .exact Z5 hm (h i (j-1) @a @a)
 .exact h i j MV @a
variable(hc:∀i j,i<n->j<n->∀(Q:Bool->WF->Prop) s,Good s->(∀s',Good s'->Q (O.blt (κ i) (κ j)) s')->cmp i j Q s)
include hc
theorem uC{p:Array Nat}(hp:POk n p){Le:Nat}(hn:Le<=n){Q:Nat->WF->Prop}:∀(f m:Nat) (s:WF),Good s->1<=m->m+f=Le->aT κ p m->
  (∀r s',Good s'->m<=r->r<=Le->aT κ p r->(r<Le->O.klt (kk κ p r) (kk κ p (r-1)))->Q r s')->(kas_asc p f m).kasWp cmp Q s
 | 0,m,s,g,h1,hf,hs,k=>k m s g (WU _) @a hs (λz=>by lia)
 |f+1,m,s,g,h1,hf,hs,k=>by
  show cmp (p.getD m 0) (p.getD (m-1) 0) _ s;refine hc _ _ (hp.lt @a) (hp.lt @a) _ s g λs' g'=>?_
  cases e:O.blt (κ (p.getD m 0)) (κ (p.getD (m-1) 0)) with
  |true=>
   (try dsimp only)
   rw[WV rfl];exact k m s' g' (WU _) @a hs λ_=>e
  |false=>
   (try dsimp only)
   rw[W6 WT];exact uC hp hn f (m+1) s' g' @a @a (oU h1 hs e) λr s2 g2 a b c d=>k r s2 g2 @a b c d
def A4(κ:Nat->O.α)(p:Array Nat)(m q:Nat):Prop:=∀k,m-(q+1)<=k->k<m->kk κ p k=kk κ p (m-1)
omit hc in
theorem mV{m:Nat}(hm:m<=p.size)(h:A4 κ p m q)(k:Nat):kk κ (kas_rev p (m-(q+1)) m) k=kk κ p k:=by
 rw[pV hm];split
 .rename_i hk;rw[h _ @a @a,h k hk.1 hk.2]
 .rfl
omit hc in
theorem iz{m:Nat}(e:∀k,kk κ p' k=kk κ p k)(h:dP κ p m):dP κ p' m:=λi j a b=>by rw[e,e];exact h i j a b
theorem lh{Le:Nat}(hn:Le<=n){Q:Array Nat×Nat×Nat->WF->Prop}:∀(f:Nat) (p:Array Nat) (m q:Nat) (s:WF),POk n p->Good s->1<=m->q+1<=m->m+f=Le->dP κ p m->A4 κ p m q->
  (∀p' m' q' s',POk n p'->Good s'->m<=m'->m'<=Le->q'+1<=m'->dP κ p' m'->A4 κ p' m' q'->Q (p',m',q') s')->(kas_desc f p m q).kasWp cmp Q s
 | 0,p,m,q,s,hp,g,h1,hq,hf,hs,ha,k=>k p m q s hp g (WU _) @a hq hs ha
 |f+1,p,m,q,s,hp,g,h1,hq,hf,hs,ha,k=>by
  show cmp (p.getD m 0) (p.getD (m-1) 0) _ s;refine hc _ _ (hp.lt @a) (hp.lt @a) _ s g λs' g'=>?_
  have hsz:=hp.size;cases e:O.blt (κ (p.getD m 0)) (κ (p.getD (m-1) 0)) with
  |true=>
   (try dsimp only)
   rw[WV rfl];have le:O.kle (kk κ p m) (kk κ p (m-1)):=ZY e;by_cases h0:q>0
   .rw[WV h0];have same:=mV (κ:=κ) (p:=p) (m:=m) (q:=q) @a ha;refine lh hn f _ (m+1) 0 s' (hp.rev _ _) g' @a @a @a (dy h1 (iz same hs) (by rw[same,same];exact le)) ?_ λp' m' q' s2 a b c d e' f' g2=>k p' m' q' s2 a b @a d e' f' g2
    intro k' a b;have:k'=m:=by lia
    rw[this];rfl
   .rw[W6 h0];refine lh hn f p (m+1) 0 s' hp g' @a @a @a (dy h1 hs le) ?_ λp' m' q' s2 a b c d e' f' g2=>k p' m' q' s2 a b @a d e' f' g2
    intro k' a b;have:k'=m:=by lia
    rw[this];rfl
  |false=>
   (try dsimp only)
   rw[W6 WT];show cmp (p.getD (m-1) 0) (p.getD m 0) _ s';refine hc _ _ (hp.lt @a) (hp.lt @a) _ s' g' λs2 g2=>?_
   cases e2:O.blt (κ (p.getD (m-1) 0)) (κ (p.getD m 0)) with
   |true=>
    (try dsimp only)
    rw[WV rfl];exact k p m q s2 hp g2 (WU _) @a hq hs ha
   |false=>
    (try dsimp only)
    rw[W6 WT];have eq:kk κ p (m-1)=kk κ p m:=KeyOrd.kle_antisymm (O:=O) e e2;refine lh hn f p (m+1) (q+1) s2 hp g2 @a @a @a (dy h1 hs (by rw[eq];exact YR _)) ?_ λp' m' q' s3 a b c d e' f' g3=>k p' m' q' s3 a b @a d e' f' g3
    intro k' a b;show kk κ p k'=kk κ p m;by_cases z:k'=m
    .rw[z]
    .rw[ha k' @a @a,eq]
omit hc in
theorem r6{m:Nat}(hm:m<=p.size)(h:dP κ p m):aT κ (kas_rev p 0 m) m:=by
 intro i j a b;rw[pV hm,pV hm,WV @a,WV @a];exact h _ _ @a @a
theorem uD(hp:POk n p){m:Nat}(hn:Le<=n)(h1:1<=m)(hm:m<=Le)(hs:dP κ p m)(g:Good s)
  (k:∀r p' s',POk n p'->Good s'->1<=r->r<=Le->aT κ p' r->Q (r,p') s'):(kas_tail3 m Le p).kasWp cmp Q s:=by
 unfold kas_tail3;rw[KasT.kasWp_bind];have hsz:=hp.size;refine uC hc (hp.rev 0 m) hn (Le-m) m s g h1 @a (r6 @a hs) λr s' g' a b c _=>?_
 exact k r _ s' (hp.rev 0 m) g' @a b c
theorem jw(hp:POk n p){m:Nat}(hn:Le<=n)(h1:1<=m)(hm:m+1<=Le)(hs:dP κ p (m+1))(g:Good s)
  (k:∀r p' s',POk n p'->Good s'->1<=r->r<=Le->aT κ p' r->Q (r,p') s'):(kas_descPart m Le p).kasWp cmp Q s:=by
 unfold kas_descPart;rw[KasT.kasWp_bind];refine lh hc hn (Le-(m+1)) p (m+1) 0 s hp g @a @a @a hs ?_ λp' m' q' s' a b c d e f g2=>?_
 .intro k' a b;have:k'=m:=by lia
  rw[this];rfl
 .have hsz:=a.size;dsimp only;split
  .have same:=mV (κ:=κ) (p:=p') (m:=m') (q:=q') @a g2;exact uD hc (a.rev _ _) hn @a d (iz same f) b k
  .exact uD hc a hn @a d f b k
theorem xA(hp:POk n p)(hn:Le<=n)(h1:1<=Le)(g:Good s)
  (k:∀r p' s',POk n p'->Good s'->1<=r->r<=Le->aT κ p' r->Q (r,p') s'):(kas_count Le p).kasWp cmp Q s:=by
 unfold kas_count;rw[KasT.kasWp_bind];have hsz:=hp.size;refine uC hc hp hn (Le-1) 1 s g (WU _) @a (rZ p) λm s' g' a b c d=>?_
 by_cases e:m=Le
 .rw[WV (by simpa using e)];exact k m p s' hp g' @a @a c
 .rw[W6 (by simpa using e)];have dd:=d @a;by_cases h2:m>1
  .rw[WV h2];show cmp (p.getD 0 0) (p.getD (m-1) 0) _ s';refine hc _ _ (hp.lt @a) (hp.lt @a) _ s' g' λs2 g2=>?_
   cases e2:O.blt (κ (p.getD 0 0)) (κ (p.getD (m-1) 0)) with
   |true=>
    (try dsimp only)
    rw[WV rfl];exact k m p s2 hp g2 @a b c
   |false=>
    (try dsimp only)
    rw[W6 WT];have eq:∀i,i<m->kk κ p i=kk κ p 0:=λi hi=>by
     have x1:=c 0 i @a hi;have x2:=c i (m-1) @a @a;exact KeyOrd.kle_antisymm (O:=O) (Z5 x2 e2) x1
    have same:∀i,kk κ (kas_rev p 0 m) i=kk κ p i:=λi=>by
     rw[pV @a];split
     .rw[eq _ @a,eq i @a]
     .rfl
    refine jw hc (hp.rev 0 m) hn @a @a ?_ g2 k;refine iz same (dy @a (λi j x y=>?_) (ZY dd));rw[eq i @a,eq j y];exact YR _
  .rw[W6 h2];refine jw hc hp hn @a @a (dy @a (λi j x y=>?_) (ZY dd)) g' k;have:i=j:=by lia
   rw[this];exact YR _
theorem lj{p:Array Nat}(hp:POk n p){t:Nat}(ht:t<n)(hs:aT κ p t){Q:Nat->WF->Prop}:∀(f l r:Nat) (s:WF),Good s->l<=r->r<=t->r-l<=f->(∀i,i<l->O.kle (kk κ p i) (kk κ p t))->(∀i,r<=i->i<t->O.klt (kk κ p t) (kk κ p i))->
  (∀x s',Good s'->x<=t->(∀i,i<x->O.kle (kk κ p i) (kk κ p t))->(∀i,x<=i->i<t->O.klt (kk κ p t) (kk κ p i))->Q x s')->(kas_place p t f l r).kasWp cmp Q s
 | 0,l,r,s,g,h1,h2,h3,lo,hi,k=>k l s g @a lo λi a b=>hi i @a b
 |f+1,l,r,s,g,h1,h2,h3,lo,hi,k=>by
  unfold kas_place;by_cases e:l>=r
  .rw[WV e];exact k l s g @a lo λi a b=>hi i @a b
  .rw[W6 e];show cmp (p.getD t 0) (p.getD ((l+r) / 2) 0) _ s;refine hc _ _ (hp.lt ht) (hp.lt @a) _ s g λs' g'=>?_
   cases e2:O.blt (κ (p.getD t 0)) (κ (p.getD ((l+r) / 2) 0)) with
   |true=>
    (try dsimp only)
    rw[WV rfl];refine lj hp ht hs f l ((l+r) / 2) s' g' @a @a @a lo (λi a b=>?_) k;exact KeyOrd.klt_of_klt_of_kle (O:=O) e2 (hs _ i a b)
   |false=>
    (try dsimp only)
    rw[W6 WT];refine lj hp ht hs f ((l+r) / 2+1) r s' g' @a @a @a (λi a=>?_) hi k;exact Z5 (O:=O) (hs i ((l+r) / 2) @a @a) e2
theorem zg{Q:Array Nat->WF->Prop}:∀(f:Nat) (p:Array Nat) (t:Nat) (s:WF),POk n p->Good s->t+f=n->aT κ p t->(∀p' s',POk n p'->Good s'->aT κ p' n->Q p' s')->(kas_bin f p t).kasWp cmp Q s
 | 0,p,t,s,hp,g,hf,hs,k=>k p s hp g (by rw[show n=t by lia];exact hs)
 |f+1,p,t,s,hp,g,hf,hs,k=>by
  unfold kas_bin;rw[KasT.kasWp_bind];have hsz:=hp.size;refine lj hc hp @a hs t 0 t s g (Xw _) (WU _) @a (λi a=>by lia) (λi a b=>by lia) λx s' g' hx lo hi=>?_
  refine zg f _ (t+1) s' (hp.bub _ _) g' @a ?_ k;have ex:t-(t-x)=x:=by lia
  intro i j a b;rw[zf @a @a,zf @a @a,ex];have lo':=lo;by_cases i1:i=x
  .by_cases j1:j=x
   .rw[WV i1,WV j1];exact YR _
   .rw[WV i1,W6 j1,WV @a];exact ZY (hi (j-1) @a @a)
  .rw[W6 i1];by_cases i2:x<i/\i<=t
   .rw[WV i2,W6 @a,WV @a];exact hs (i-1) (j-1) @a @a
   .rw[W6 i2];by_cases j1:j=x
    .rw[WV j1];exact lo i @a
    .rw[W6 j1];by_cases j2:x<j/\j<=t
     .rw[WV j2];exact hs i (j-1) @a @a
     .rw[W6 j2];exact hs i j a @a
theorem A5(h1:1<=n){Q:Array Nat->WF->Prop}(g:Good s)(k:∀p s',POk n p->Good s'->aT κ p n->Q p s'):(kas_sort n).kasWp cmp Q s:=by
 unfold kas_sort;rw[KasT.kasWp_bind];refine xA hc (p:=List.toArray (List.range n)) ⟨by simp⟩ (WU _) h1 g λr p' s' hp g' a b c=>?_
 dsimp only;split
 .have e:max r 1=r:=by lia
  rw[e];exact zg hc (n-r) p' r s' hp g' @a c k
 .exact k p' s' hp g' (by rw[show n=r by lia];exact c)
end
end NX
namespace NX
open PySem PySem.W PySem.Spec PyProof.Rows L2
variable{prog:W1}{w:World}{A:Uf}{s:WF}{a:WP}{vs:List Wp}
section
variable{E:Wp->WF->Prop}
theorem pW(n:Nat):POk n (List.toArray (List.range n)):=⟨by simp⟩
theorem gQ{O:KeyOrd}{key:Nat->O.α}{kd:SortKind}{n:Nat}{P:PySem.Fin->WF->Prop}(ho:s.heap.get? a=some (seqObj "list" vs.toArray n))(Ob:vs.length<64)
  (Ml:2<=vs.length->∀(h':UF),(∀b o,b≠a->s.heap.get? b=some o->h'.get? b=some o)->∀Q:SortKind->WF->Prop,Q kd {s with heap:=h'}->wpAny @i A (keyKind' vs.toArray) Q E {s with heap:=h'})
  (Oc:∀i j,i<vs.length->j<vs.length->∀(h':UF),(∀b o,b≠a->s.heap.get? b=some o->h'.get? b=some o)->∀C:Bool->WF->Prop,C (O.blt (key i) (key j)) {s with heap:=h'}->kas_ask prog w A kd vs i j C {s with heap:=h'})
  (h:∀p h',POk vs.length p->aT key p vs.length->(∃e,h'.get? a=some (seqObj "list" (List.toArray (p.toList.map λi=>vs.getD i .none)) e))->(∀b o,b≠a->s.heap.get? b=some o->h'.get? b=some o)->P (.done (.ret .none)) {s with heap:=h'}):
  wpAny @i A (Builtin.«list.sort» ⟨[.ref a],[]⟩) P E s:=by
 rw[list_sort_plain];have la:a<s.heap.objs.size:=W4 ho;have zs:vs.toArray.size=vs.length:=by simp
 refine WI (listItems_at ho rfl (WI (listUpdate_at ho rfl ?_ (by rw[zs,XR];lia) (Xw _))));obtain⟨e1,h1⟩:∃e1,(s.heap.update a (Obj.mapSeq λ_=>#[])).get? a=some (seqObj "list" #[] e1):=⟨_,get?_update_seq ho (λ_=>#[])⟩
 refine WI (seqEpoch_at h1 rfl (WI (wpAny_newTuple (WI (aaK (Yl ?_))) (by simp![aag];rw[XR];lia))));generalize e6:((s.heap.update a (Obj.mapSeq λ_=>#[])).push {cls:=.type "tuple",data:=.seq vs.toArray.toList.toArray}).push {cls:=.type "list",data:=.seq ([]:List Wp).toArray}=h6;have k6:∀b o,b≠a->s.heap.get? b=some o->h6.get? b=some o:=λb o nb e=>by
  rw[<-e6];exact WL _ (WL _ ((XC _ _ (Yj nb)).trans e))
 have SA:h6.get? a=some (seqObj "list" #[] e1):=by
  rw[<-e6];exact WL _ (WL _ h1)
 dsimp only;have fin:∀(p:Array Nat),POk vs.length p->aT key p vs.length->∀out:Array Wp,out=List.toArray (p.toList.map λi=>vs.getD i .none)->
   P (.done (.ret .none)) {s with heap:=h6.update a (Obj.mapSeq λ_=>out)}:=λp hp hs out eo=>by
  subst eo;exact h p _ hp hs ⟨_,get?_update_seq SA _⟩ λb o nb e=>(XC _ _ (Yj nb)).trans (k6 b o nb e)
 have fits:∀{out:Array Wp}{p:Array Nat},POk vs.length p->out=List.toArray (p.toList.map λi=>vs.getD i .none)->out.size<=sizeLine+1:=λ{out p} hp e=>by
  rw[e,WZ,WN,hp.perm.length_eq,Xk,XR];lia
 by_cases h2:vs.toArray.size<2
 .rw[WV h2,WV h2];refine WI (WO ?_);rw[StateT.run_pure];refine WI (WO ?_);dsimp only;have eo:(arrOf (SortSt.mk' general' (vs.toArray.zip vs.toArray) #[] 7 none)).map (·.2)=List.toArray ((List.toArray (List.range vs.length)).toList.map λi=>vs.getD i .none):=by
   show(vs.toArray.zip vs.toArray).map (·.2)=_;apply Array.toList_inj.mp;simp![Array.toList_map,Array.toList_zip,aag];have a1:(vs.zip vs).map (·.2)=vs:=by
    rw[List.map_snd_zip];exact WU _
   rw[a1];apply ZZ;intro i;by_cases hi:i<vs.length
   .simp[hi]
   .simp[hi]
  refine WI (seqEpoch_at SA rfl (WI (listUpdate_at SA rfl ?_ (Xw _) (fits (pW _) eo))));simp![ZX,Xt,YG];refine WO (fin _ (pW _) ?_ _ eo);intro i j x y;have:i=j:=by lia
  rw[this];exact YR _
 .rw[W6 h2,W6 h2];have U5:2<=vs.length:=by lia
  refine WI (Ml U5 h6 k6 _ ?_);refine WI (XO (kat_run (ks:=vs) (vs:=vs) (Q:=λL3 s'=>∃p,POk vs.length p/\aT key p vs.length/\arrOf L3=p.map (kas_item (vs.toArray.zip vs.toArray))/\failedOf L3=none/\s'={s with heap:=h6})
   (G:=λp s'=>POk vs.length p/\aT key p vs.length/\s'={s with heap:=h6}) rfl U5 Ob (λp L3 s' hz QR hf hg=>⟨p,hg.1,hg.2.1,QR,hf,hg.2.2⟩)
   (A5 (n:=vs.length) (O:=O) (κ:=key) (Good:=λs'=>s'={s with heap:=h6}) (λi j hi hj Q s' g k=>?_) @a rfl λp s' hp g hs=>⟨hp,hs,g⟩)) (λr s' hq=>?_) λ_ _ e=>e)
  .subst g;exact Oc i j hi hj h6 k6 Q (k _ rfl)
  .obtain⟨p,hp,hs,QR,hf,rfl⟩:=hq;have eo:=kat_snds (ks:=vs) (vs:=vs) rfl QR;refine WI (seqEpoch_at SA rfl (WI (listUpdate_at SA rfl ?_ (Xw _) (fits hp eo))));rw[hf];simp![ZX,Xt,YG];exact WO (fin p hp hs _ eo)
theorem iA{O:KeyOrd}{key:Nat->O.α}{kd:SortKind}{l:WP}{Q:Wp->WF->Prop}(hl:s.heap.IsList l vs.toArray)(Ob:vs.length<64)
  (Ml:2<=vs.length->∀(A':Uf) (E':Wp->WF->Prop) (h':UF),(∀b o,s.heap.get? b=some o->h'.get? b=some o)->∀Q:SortKind->WF->Prop,Q kd {s with heap:=h'}->wpAny @i A' (keyKind' vs.toArray) Q E' {s with heap:=h'})
  (Oc:∀i j,i<vs.length->j<vs.length->∀(h':UF),(∀b o,s.heap.get? b=some o->h'.get? b=some o)->∀C:Bool->WF->Prop,C (O.blt (key i) (key j)) {s with heap:=h'}->kas_ask prog w A.in1.in1 kd vs i j C {s with heap:=h'})
  (h:∀p h' e,POk vs.length p->aT key p vs.length->h'.get? (s.heap.objs.size+1)=some (seqObj "list" (List.toArray (p.toList.map λi=>vs.getD i .none)) e)->(∀b o,s.heap.get? b=some o->h'.get? b=some o)->Q (.ref (s.heap.objs.size+1)) {s with heap:=h'}):
  wpAny @i A (call (.builtin "sorted") [.ref l]) Q E s:=by
 refine Zz kind_sorted plain_sorted entry_sorted (args_sorted1 _) ?_;unfold Builtin.«sorted»;refine WI (m:=checkCount "sorted" 1 1 _) (WO (WI (collect_list hl (WI (aaK ?_ (by rw[XR];lia))) (by rw[XR];lia))));have zz:((s.heap.push (seqObj "list" #[] 0)).update s.heap.objs.size (Obj.mapSeq (·++vs.toArray))).objs.size=s.heap.objs.size+1:=by rw[Heap.size_update,size_push']
 generalize e5:(s.heap.push (seqObj "list" #[] 0)).update s.heap.objs.size (Obj.mapSeq (·++vs.toArray))=h5 at zz |-;have k5:∀b o,s.heap.get? b=some o->(h5.push (seqObj "list" vs.toArray 0)).get? b=some o:=λb o e=>by
  rw[<-e5];exact WL _ ((XC _ _ (Yj (Xh (W4 e)))).trans (WL _ e))
 have hL:(h5.push (seqObj "list" vs.toArray 0)).get? (s.heap.objs.size+1)=some (seqObj "list" vs.toArray 0):=by
  rw[<-zz];exact W7 _ rfl
 have ne:∀b o,s.heap.get? b=some o->b≠s.heap.objs.size+1:=λb o e=>Xh (aaD (W4 e))
 show wpAny _ _ _ _ _ {s with heap:=h5.push (seqObj "list" vs.toArray 0)};rw[zz];refine WI (Yl (YH slot_list_sort ⟨_,hL,rfl⟩ entry_list_sort (gQ (key:=key) (kd:=kd) hL Ob (λh2 h' kk Q' q=>Ml h2 _ _ h' (λb o e=>kk b o (ne b o e) (k5 b o e)) Q' q)
  (λi j hi hj h' kk C q=>Oc i j hi hj h' (λb o e=>kk b o (ne b o e) (k5 b o e)) C q) λp h' hp hs ⟨e,he⟩ kk=>⟨_,rfl,?_⟩) (args_list_sort _)))
 exact WO ⟨_,rfl,h p h' e hp hs he λb o q=>kk b o (ne b o q) (k5 b o q)⟩
end
noncomputable def intO:KeyOrd where
 α:=Int
 blt a b:=decide (a<b)
 irrefl a:=by simp
 trans a b c h1 h2:=by simp![W3] at *;lia
 negTrans a b c h:=by simp![W3] at *;lia
 total a b h1 h2:=by simp![Ya] at *;lia
abbrev Hh:KeyOrd:=strKind.toKeyOrd
noncomputable def sZ:KeyOrd where
 α:=Key
 blt a b:=match a,b with
  | .inl i,.inl j=>decide (i<j)
  | .inr x,.inr y=>decide (x.cps.toList<y.cps.toList)
  | .inl _,.inr _=>true
  | .inr _,.inl _=>false
 irrefl a:=by
  cases a with
  |inl i=>simp
  |inr x=>simpa using List.lt_irrefl x.cps.toList
 trans a b c h1 h2:=by
  cases a <;> cases b <;> cases c <;> simp_all
  .lia
  .exact List.lt_trans h1 h2
 negTrans a b c h:=by
  cases a <;> cases b <;> cases c <;> simp_all
  .lia
  .rename_i x y z;by_cases q:x.cps.toList<y.cps.toList
   .exact .inl q
   .exact .inr (List.lt_of_le_of_lt (aaL.mp q) h)
 total a b h1 h2:=by
  cases a <;> cases b <;> simp_all
  .lia
  .rename_i x y;have e:x.cps.toList=y.cps.toList:=List.le_antisymm (by first|exact h2|exact aaL.mp h2) (by first|exact h1|exact aaL.mp h1);rw[<-mR x,<-mR y,e]
def iu:List Key->List Key->Bool
 |[],[]=>false
 |[],_::_=>true
 |_::_,[]=>false
 |a::r,b::t=>if a=b then iu r t else sZ.blt a b
theorem gA:∀a:List Key,iu a a=false
 |[]=>rfl
 |a::r=>by
  show(if a=a then iu r r else _)=false;rw[WV rfl];exact gA r
theorem A6{a:Key}(h:sZ.blt a b=true):a≠b:=by
 rintro rfl;have:=sZ.irrefl a;rw[h]at this;cases this
theorem fK:∀a b c:List Key,iu a b=true->iu b c=true->iu a c=true
 |[],[],_,h,_=>by cases h
 |[],_::_,[],_,h=>by cases h
 |[],_::_,_::_,_,_=>rfl
 |_::_,[],_,h,_=>by cases h
 |_::_,_::_,[],_,h=>by cases h
 |a::r,b::t,c::u,h1,h2=>by
  have h1:(if a=b then iu r t else sZ.blt a b)=true:=h1;have h2:(if b=c then iu t u else sZ.blt b c)=true:=h2;show(if a=c then iu r u else sZ.blt a c)=true;by_cases e1:a=b
  .by_cases e2:b=c
   .rw[WV e1]at h1;rw[WV e2]at h2;rw[WV (e1.trans e2)];exact fK r t u h1 h2
   .rw[W6 e2]at h2;rw[e1,W6 e2];exact h2
  .rw[W6 e1]at h1;by_cases e2:b=c
   .rw[<-e2,W6 e1];exact h1
   .rw[W6 e2]at h2;have h3:=sZ.trans a b c h1 h2;rw[W6 (A6 h3)];exact h3
theorem fM:∀a b:List Key,iu a b=false->iu b a=false->a=b
 |[],[],_,_=>rfl
 |[],_::_,h,_=>by cases h
 |_::_,[],_,h=>by cases h
 |a::r,b::t,h1,h2=>by
  have h1:(if a=b then iu r t else sZ.blt a b)=false:=h1;have h2:(if b=a then iu t r else sZ.blt b a)=false:=h2;by_cases e:a=b
  .rw[WV e]at h1;rw[WV e.symm]at h2;rw[e,fM r t h1 h2]
  .rw[W6 e]at h1;rw[W6 (Yj e)]at h2;exact absurd (sZ.total a b h1 h2) e
theorem xB(a b c:List Key)(h:iu a c=true):iu a b=true\/iu b c=true:=by
 cases e:iu a b with
 |true=>exact .inl rfl
 |false=>
  refine .inr ?_;cases e2:iu b a with
  |true=>exact fK b a c e2 h
  |false=>
   rw[<-fM a b e e2];exact h
def Jc:KeyOrd where
 α:=List Key
 blt:=iu
 irrefl:=gA
 trans:=fK
 negTrans:=xB
 total:=fM
variable{α:Type}{p:Array Nat}{xs:List V}{us:List Wp}
section
variable{O:KeyOrd}
noncomputable def r9(p:Array Nat)(xs:List V):List V:=p.toList.map λi=>xs.getD i .non
theorem ki(xs:List α)(d:α):((List.range xs.length).map λi=>xs.getD i d)=xs:=by
 apply ZZ;intro i;by_cases hi:i<xs.length
 .simp[hi]
 .simp[hi]
theorem jg{xs:List α}(d:α)(hp:POk xs.length p):(p.toList.map λi=>xs.getD i d).Perm xs:=by
 have:=hp.perm.map (λi=>xs.getD i d)
 rwa [ki]at this
theorem fN{xs:List α}(d:α)(key:α->O.α)(hp:POk xs.length p)(hs:aT (O:=O) (λi=>key (xs.getD i d)) p xs.length):(p.toList.map λi=>xs.getD i d).Pairwise λa b=>O.kle (key a) (key b):=by
 rw[Y4];intro i j hi hj MV;have hsz:=hp.size;have M1:i<p.size:=by simpa using hi
 have Uc:j<p.size:=by simpa using hj
 have h:=hs i j (aa8 MV) @a;unfold kk at h;simp![List.getElem_map,XW];have e1:p.getD i 0=p[i]:=by simp[Array.getD,M1]
 have e2:p.getD j 0=p[j]:=by simp[Array.getD,Uc]
 rw[e1,e2]at h;exact h
theorem vals_pick{xs:List V}{us:List Wp}(r:Vals xs us):∀l:List Nat,(∀i∈l,i<xs.length)->Vals (l.map λi=>xs.getD i .non) (l.map λi=>us.getD i .none)
 |[],_=>.nil
 |i::l,h=>by
  refine .cons ?_ (vals_pick r l λj hj=>h j (WK _ hj));have hi:=h i WJ;have e1:xs[i]?=some (xs.getD i .non):=by rw[aV _ _ _ hi];exact WM hi
  obtain⟨u,hu,ru⟩:=r.get e1;have e2:us.getD i .none=u:=by rw[W8,hu];rfl
  show L2.RelV (xs.getD i .non) (us.getD i .none);rw[e2];exact ru
theorem jh(r:Vals xs us)(hp:POk xs.length p):Vals (r9 p xs) (p.toList.map λi=>us.getD i .none):=
 vals_pick r _ λi hi=>Xp.mp (hp.perm.mem_iff.mp hi)
end
variable{X:Cx}{pr:List (WP×Obj)}{σ:L2.St}{H:Hp}{h':UF}{i:Nat}
section
theorem gR{D:WP}(I:Inv X pr σ H s)(kk:∀b o,s.heap.get? b=some o->h'.get? b=some o)(hD:s.heap.objs.size<=D)(ho:h'.get? D=some (seqObj "list" (List.toArray us) e))(r:Vals ys us)(hz:ys.length<=sizeLine):Inv X pr σ (upd H D (.lst ys)) {s with heap:=h'}:=
 I.laid (t':=s.toks) kk hD ⟨hz,us,e,r,ho⟩
theorem i5(hc:X.calm=true):cb X (.builtin "sorted") (λvs H Q=>∃(p:WP) (ns:List Int),vs=[.ref p]/\SqL X.K H p (ns.map V.int)/\ns.length<64/\∀(D:WP) (ms:List Int),H D=none->ms.Perm ns->ms.Pairwise (·<=·)->Q (.ref D) (upd H D (.lst (ms.map V.int)))):=by
 intro pr s σ H vs us Q I r h;obtain⟨p,ns,rfl,hp,Ob,q⟩:=h;obtain⟨u,rfl,r1⟩:=dM r;cases r1;obtain⟨ws,rv,pl,hz⟩:=I.list hp;have hl:=rv.length;rw[WN]at hl;have isI:∀v∈ws,∃n t,v=.int n t:=λv hv=>by
  obtain⟨i,hi⟩:=X3.mp hv;obtain⟨t,e⟩:=dt rv hi;exact⟨_,t,e⟩
 refine iA (O:=intO) (key:=λi=>ns.getD i 0) (kd:=oneType') pl.isList @a (λh2 A' E' h' kk Q' q'=>?_) (λi j hi hj h' kk C q'=>?_) λpp h' e L9 hs he kk=>?_
 .refine kas_kind h2 (T:=.type "int") (λv hv=>?_) @b @b q';obtain⟨n,t,rfl⟩:=isI v hv;exact λA Q E s _ q=>YZ (typeIs_int s n t) q
 .unfold kas_ask;have e1:ws[i]?=some (ws.getD i .none):=by rw[aV _ _ _ hi];exact WM hi
  have e2:ws[j]?=some (ws.getD j .none):=by rw[aV _ _ _ hj];exact WM hj
  obtain⟨t,OL⟩:=dt rv e1;obtain⟨t',NT⟩:=dt rv e2;rw[OL,NT];exact kat_lt_int q'
 .rw[<-hl]at L9 hs;have QU:POk (ns.map V.int).length pp:=by rw[WN];exact L9
  have eo:r9 pp (ns.map V.int)=(pp.toList.map λi=>ns.getD i 0).map V.int:=by
   unfold r9;rw[Xq];refine Yg λi hi=>?_
   have hi:=Xp.mp (L9.perm.mem_iff.mp hi);show(ns.map V.int).getD i .non=V.int (ns.getD i 0);rw[aV _ _ _ (by rw[WN];exact hi),aV _ _ _ hi];simp
  have hn:H (s.heap.objs.size+1)=none:=I.hok.fresh (Zg _);refine⟨.ref (s.heap.objs.size+1),_,gR I kk (Zg _) he (jh rv QU) ?_,rfl,?_⟩
  .show(r9 pp (ns.map V.int)).length<=sizeLine;rw[eo,WN,WN,L9.perm.length_eq,Xk,XR];lia
  .rw[eo];refine q _ _ hn (jg 0 L9) ?_;have:=fN (O:=intO) 0 (λi:Int=>i) L9 hs;refine this.imp λ{a b} Np=>?_
   have Np:decide (b<a)=false:=Np;have:=aaq Np;lia
theorem iC{ls:List (List Nat)}(r:Vals (ls.map λl=>V.str (S l)) us){v:Wp}(h:us[i]?=some v):∃t,v=.str (S (ls.getD i [])) t:=by
 have hl:=r.length;rw[WN]at hl;obtain⟨hi,_⟩:=WS.mp h;have e1:(ls.map λl=>V.str (S l))[i]?=some (.str (S (ls.getD i []))):=by
  rw[W2,WM @a,aV _ _ _ @a];rfl
 obtain⟨u,hu,t,rfl⟩:=r.get e1;rw[h]at hu;exact⟨t,Xj hu⟩
theorem i6(hc:X.calm=true):cb X (.builtin "sorted") (λvs H Q=>∃(p:WP) (ls:List (List Nat)),vs=[.ref p]/\SqL X.K H p (ls.map λl=>V.str (S l))/\ls.length<64/\∀(D:WP) (ms:List (List Nat)),H D=none->ms.Perm ls->ms.Pairwise (λa b=>¬ b<a)->Q (.ref D) (upd H D (.lst (ms.map λl=>V.str (S l))))):=by
 intro pr s σ H vs us Q I r h;obtain⟨p,ls,rfl,hp,Ob,q⟩:=h;obtain⟨u,rfl,r1⟩:=dM r;cases r1;obtain⟨ws,rv,pl,hz⟩:=I.list hp;have hl:=rv.length;rw[WN]at hl;refine iA (O:=Hh) (key:=λi=>ls.getD i []) (kd:=oneType') pl.isList @a (λh2 A' E' h' kk Q' q'=>?_) (λi j hi hj h' kk C q'=>?_) λpp h' e L9 hs he kk=>?_
 .refine kas_kind h2 (T:=.type "str") (λv hv=>?_) @b @b q';obtain⟨i,hi⟩:=X3.mp hv;obtain⟨t,rfl⟩:=iC rv hi;exact λA Q E s _ q=>YZ (aaA s _ t) q
 .unfold kas_ask;have e1:ws[i]?=some (ws.getD i .none):=by rw[aV _ _ _ hi];exact WM hi
  have e2:ws[j]?=some (ws.getD j .none):=by rw[aV _ _ _ hj];exact WM hj
  obtain⟨t,OL⟩:=iC rv e1;obtain⟨t',NT⟩:=iC rv e2;rw[OL,NT];refine kas_lt_str ?_;rw[cJ,cJ];exact q'
 .rw[<-hl]at L9 hs;have QU:POk (ls.map λl=>V.str (S l)).length pp:=by rw[WN];exact L9
  have eo:r9 pp (ls.map λl=>V.str (S l))=(pp.toList.map λi=>ls.getD i []).map λl=>V.str (S l):=by
   unfold r9;rw[Xq];refine Yg λi hi=>?_
   have hi:=Xp.mp (L9.perm.mem_iff.mp hi);show(ls.map λl=>V.str (S l)).getD i .non=V.str (S (ls.getD i []));rw[aV _ _ _ (by rw[WN];exact hi),aV _ _ _ hi];simp
  have hn:H (s.heap.objs.size+1)=none:=I.hok.fresh (Zg _);refine⟨.ref (s.heap.objs.size+1),_,gR I kk (Zg _) he (jh rv QU) ?_,rfl,?_⟩
  .show(r9 pp (ls.map λl=>V.str (S l))).length<=sizeLine;rw[eo,WN,WN,L9.perm.length_eq,Xk,XR];lia
  .rw[eo];refine q _ _ hn (jg [] L9) ?_;have:=fN (O:=Hh) [] (λl:List Nat=>l) L9 hs;refine this.imp λ{a b} Np=>?_
   have Np:decide (b<a)=false:=Np;exact aaq Np
end
noncomputable def kinds(k:List Key):List Bool:=k.map λx=>x.isLeft
section
theorem A7(a b:Key):UU (kV a) (kV b)=decide (a=b):=by
 cases a <;> cases b <;> (rw[Xo];simp[kV,UU])
theorem pX(a:Key):xp (kV a)=true:=by cases a <;> rfl
theorem Ee{a:Key}{top:Bool}(ra:L2.RelV (kV a) u)(rb:L2.RelV (kV b) v)(hk:a.isLeft=b.isLeft)(q:Q (sZ.blt a b) s):wpAny @i A (oneLt' top u v) Q (λ_ _=>False) s:=by
 cases a with
 |inl i=>
  cases b with
  |inr _=>cases hk
  |inl j=>
   obtain⟨t,rfl⟩:=ra;obtain⟨t',rfl⟩:=rb;cases top with
   |true=>exact kat_lt_int (E:=λ_ _=>False) q
   |false=>exact kat_one _ _ (lt_int q)
 |inr x=>
  cases b with
  |inl _=>cases hk
  |inr y=>
   obtain⟨t,rfl⟩:=ra;obtain⟨t',rfl⟩:=rb;cases top with
   |true=>exact oneLt_str q
   |false=>exact kat_one _ _ (lt_str q)
theorem mW:∀(k1 k2:List Key) (us ws:List Wp) (i:Nat),Vals (k1.map kV) us->Vals (k2.map kV) ws->kinds k1=kinds k2->Q (iu k1 k2) s->KatLex prog w A true false Q (us.zip ws) i s
 |[],[],_,_,_,.nil,.nil,_,q=>q
 |[],_::_,_,_,_,_,_,h,_=>by cases h
 |_::_,[],_,_,_,_,_,h,_=>by cases h
 |a::r,b::t,u::us,v::ws,i,.cons ru rus,.cons rv rvs,h,q=>by
  have h1:a.isLeft=b.isLeft:=(aaM h).1;have h2:kinds r=kinds t:=(aaM h).2;have q:Q (if a=b then iu r t else sZ.blt a b) s:=q;refine kat_cons (D6 (A:=A) (s:=s) ru rv (pX a) (pX b) prog w _ _ ?_);rw[A7];by_cases e:a=b
  .rw[WV e]at q;rw[Xc e];exact kat_yes (mW r t us ws (i+1) rus rvs h2 q)
  .rw[W6 e]at q;rw[Xn e];exact kat_no (Ee ru rv h1 q)
end
variable{al:List (WP×List Key)}
section
theorem uE(I:Inv X pr σ H s)(h:SqT X.K H a xs):∃(us:List Wp) (o:Obj) (n:Nat),Vals xs us/\s.heap.get? a=some o/\o.cls=.type "tuple"/\o.data=.seq us.toArray n:=by
 obtain⟨us,r,pl,_⟩:=I.tuple h;obtain⟨o,ho,oc,n,od⟩:=pl;exact⟨us,o,n,r,ho,oc,od⟩
theorem uF(r:Vals (al.map λa=>V.ref a.1) us)(h:i<al.length):us.getD i .none=.ref (al.getD i (0,[])).1:=by
 have e1:(al.map λa=>V.ref a.1)[i]?=some (.ref (al.getD i (0,[])).1):=by
  rw[W2,WM h,aV _ _ _ h];rfl
 obtain⟨u,hu,ru⟩:=r.get e1;rw[W8,hu];exact ru
theorem xC(I:Inv X pr σ H s)(kk:∀b o,s.heap.get? b=some o->h'.get? b=some o)(top:Bool):
  (r:Vals (al.map λa=>V.ref a.1) us)->(∀a∈al,SqT X.K H a.1 (a.2.map kV)/\∃t,kinds a.2=top::t)->∃fs:List Wp,KatTups h' us fs/\fs.length=al.length/\∀v∈fs,∀M:Model,Looks M h' (typeOf v) (.type (if top then "int" else "str")):=by
 induction al generalizing us with
 |nil=>
  intro r _;cases r;exact⟨[],trivial,rfl,λv hv=>by cases hv⟩
 |cons a al ih=>
  intro r h;cases r with
  |cons ra rs=>
   cases ra;obtain⟨fs,t1,t2,t3⟩:=ih rs λb hb=>h b (WK _ hb)
   obtain⟨ha,kt,hk⟩:=h a WJ;obtain⟨ws,o,n,rv,ho,oc,od⟩:=uE I ha;cases e2:a.2 with
   |nil=>rw[e2]at hk;cases hk
   |cons k ks=>
    rw[e2]at rv hk;have V0:k.isLeft=top:=(aaM hk).1;cases rv with
    | @cons _ f _ fr rf rfs=>
     refine⟨f::fs,KatTups.cons (kk _ _ ho) oc od @t t1,by simp[t2],λv hv M=>?_⟩;rcases WY.mp hv with rfl|hv
     .cases k with
      |inl i=>
       obtain⟨t,rfl⟩:=rf;have:top=true:=V0.symm;subst this;exact λA Q E s _ q=>YZ (typeIs_int s _ t) q
      |inr x=>
       obtain⟨t,rfl⟩:=rf;have:top=false:=V0.symm;subst this;exact λA Q E s _ q=>YZ (aaA s _ t) q
     .exact t3 v hv M
end
section
theorem i7(hc:X.calm=true):cb X (.builtin "sorted") (λvs H Q=>∃(p:WP) (al:List (WP×List Key)) (top:Bool) (t:List Bool),vs=[.ref p]/\SqL X.K H p (al.map λa=>V.ref a.1)/\(∀a∈al,SqT X.K H a.1 (a.2.map kV)/\kinds a.2=top::t)/\al.length<64/\
  ∀(D:WP) (ms:List (WP×List Key)),H D=none->ms.Perm al->ms.Pairwise (λa b=>iu b.2 a.2=false)->Q (.ref D) (upd H D (.lst (ms.map λa=>V.ref a.1)))):=by
 intro pr s σ H vs us Q I r h;obtain⟨p,al,top,kt,rfl,hp,OM,Ob,q⟩:=h;obtain⟨u,rfl,r1⟩:=dM r;cases r1;obtain⟨ws,rv,pl,hz⟩:=I.list hp;have hl:=rv.length;rw[WN]at hl;refine iA (O:=Jc) (key:=λi=>(al.getD i (0,[])).2) (kd:=tuples' true) pl.isList @a (λh2 A' E' h' kk Q' q'=>?_) (λi j hi hj h' kk C q'=>?_) λpp h' e L9 hs he kk=>?_
 .obtain⟨fs,t1,t2,t3⟩:=xC I kk top rv λa ha=>⟨(OM a ha).1,kt,(OM a ha).2⟩
  refine kat_kind (T:=.type (if top then "int" else "str")) t1 @a (λv hv=>t3 v hv _) @t ?_;have:((Value.type (if top then "int" else "str")) != Value.type "tuple")=true:=by cases top <;> decide
  rw[this];exact q'
 .unfold kas_ask;have M1:i<al.length:=by lia
  have Uc:j<al.length:=by lia
  rw[uF rv M1,uF rv Uc];have mi:al.getD i (0,[])∈al:=by rw[aV _ _ _ M1];exact X6 _
  have mj:al.getD j (0,[])∈al:=by rw[aV _ _ _ Uc];exact X6 _
  obtain⟨u1,o1,n1,r1,g1,_,d1⟩:=uE I (OM _ mi).1;obtain⟨u2,o2,n2,r2,g2,_,d2⟩:=uE I (OM _ mj).1;have ek:kinds (al.getD i (0,[])).2=kinds (al.getD j (0,[])).2:=by rw[(OM _ mi).2,(OM _ mj).2]
  have el:u1.length=u2.length:=by
   have a1:=r1.length;have a2:=r2.length;have a3:=Yp List.length ek;simp![kinds,WN]at a1 a2 a3;lia
  refine kat_lt (kk _ _ g1) d1 (kk _ _ g2) d2 ?_;have ef:decide (u1.toArray.size<u2.toArray.size)=false:=by simp[el]
  rw[ef];exact mW _ _ _ _ 0 r1 r2 ek q'
 .rw[<-hl]at L9 hs;have QU:POk (al.map λa=>V.ref a.1).length pp:=by rw[WN];exact L9
  have eo:r9 pp (al.map λa=>V.ref a.1)=(pp.toList.map λi=>al.getD i (0,[])).map λa=>V.ref a.1:=by
   unfold r9;rw[Xq];refine Yg λi hi=>?_
   have hi:=Xp.mp (L9.perm.mem_iff.mp hi);show(al.map λa=>V.ref a.1).getD i .non=V.ref (al.getD i (0,[])).1;rw[aV _ _ _ (by rw[WN];exact hi),aV _ _ _ hi];simp
  have hn:H (s.heap.objs.size+1)=none:=I.hok.fresh (Zg _);refine⟨.ref (s.heap.objs.size+1),_,gR I kk (Zg _) he (jh rv QU) ?_,rfl,?_⟩
  .show(r9 pp (al.map λa=>V.ref a.1)).length<=sizeLine;rw[eo,WN,WN,L9.perm.length_eq,Xk,XR];lia
  .rw[eo];refine q _ _ hn (jg (0,[]) L9) ?_;exact fN (O:=Jc) (0,[]) (λa:WP×List Key=>a.2) L9 hs
end
end NX
namespace L2
open PySem PySem.Spec PyProof.Rows
variable{κ:Type}{o:Option V}{y:V}{u:Wp}
section
variable[DecidableEq κ]
noncomputable def jx(kvs:List (κ×V))(k:κ):Option V:=(kvs.find? λkv=>decide (kv.1=k)).map (·.2)
noncomputable def gI(kvs:List (κ×V))(k:κ)(v:V):List (κ×V):=
 if(kvs.any λkv=>decide (kv.1=k))=true then kvs.map (λkv=>if kv.1=k then(kv.1,v) else kv) else kvs++[(k,v)]
theorem ll{k:κ}(e:p.1=k):jx (p::r) k=some p.2:=by simp[jx,Zh,e]
theorem lq{k:κ}(e:¬ p.1=k):jx (p::r) k=jx r k:=by simp[jx,Zh,e]
theorem pY(k:κ):∀kvs:List (κ×V),(kvs.any λkv=>decide (kv.1=k))=(jx kvs k).isSome
 |[]=>rfl
 |p::r=>by
  rw[abS];by_cases e:p.1=k
  .simp![ll e,Xc e,aci,Option.isSome_some]
  .rw[lq e,Xn e,abP];exact pY k r
theorem dQ(kvs:List (κ×V))(k:κ)(v:V):(gI kvs k v).length<=kvs.length+1:=by
 unfold gI;split
 .rw[WN];lia
 .rw[Xs,WX,X2];lia
theorem RelO.isSome_eq{u:Option Wp}(r:RelO o u):o.isSome=u.isSome:=by
 cases o with
 |none=>cases u with
  |none=>rfl
  |some _=>exact(show False from r).elim
 |some _=>cases u with
  |none=>exact(show False from r).elim
  |some _=>rfl
theorem KV.val(r:KV kvs vs)(k:κ):RelO (jx kvs k) (valueAt vs k):=by
 unfold KV at r;induction r with
 |nil=>exact True.intro
 | @cons p q ps qs h t ih=>
  obtain⟨h1,h2⟩:=h;by_cases e:p.1=k
  .have e':q.1=k:=h1.symm.trans e;have b:valueAt (q::qs) k=some q.2:=by simp[valueAt,Zh,e']
   rw[ll e,b];exact h2
  .have e':¬ q.1=k:=λz=>e (h1.trans z)
   have b:valueAt (q::qs) k=valueAt qs k:=by simp[valueAt,Zh,e']
   rw[lq e,b];exact ih
theorem KV.any(r:KV kvs vs)(k:κ):(kvs.any λkv=>decide (kv.1=k))=vs.any λkv=>decide (kv.1=k):=by
 unfold KV at r;induction r with
 |nil=>rfl
 |cons h t ih=>rw[abS,abS,ih,h.1]
theorem KV.repl(r:KV kvs vs)(k:κ)(ry:RelV y u):
  KV (kvs.map λkv=>if kv.1=k then(kv.1,y) else kv) (vs.map λkv=>if kv.1=k then(kv.1,u) else kv):=by
 unfold KV at r |-;induction r with
 |nil=>exact .nil
 | @cons p q ps qs h t ih=>
  rw[Xa,Xa];refine .cons ?_ ih;obtain⟨h1,h2⟩:=h;by_cases e:p.1=k
  .rw[WV e,WV (h1.symm.trans e)];exact⟨h1,ry⟩
  .rw[W6 e,W6 (λz=>e (h1.trans z))];exact⟨h1,h2⟩
theorem KV.put(r:KV kvs vs)(k:κ)(ry:RelV y u):KV (gI kvs k y) (stored vs k u):=by
 unfold gI stored;rw[r.any k];by_cases e:(vs.any λkv=>decide (kv.1=k))=true
 .rw[WV e,WV e];exact r.repl k ry
 .rw[W6 e,W6 e];exact Paired.snoc r ⟨rfl,ry⟩
theorem KV.length{kvs:List (κ×V)}{vs:List (κ×Wp)}(r:KV kvs vs):kvs.length=vs.length:=aab r
end
variable{P:W1}{w:World}
theorem kV_is{k:Key}(r:RelV (kV k) u):(mixKind P w).is k u=true:=by
 cases k with
 |inl i=>obtain⟨t,e⟩:=(show ∃t,u=Value.int i t from r);subst e;exact oP P w i t
 |inr x=>obtain⟨t,e⟩:=(show ∃t,u=Value.str x t from r);subst e;exact oQ P w x t
theorem mX{P:W1}{w:World}:∀{ks:List Key}{us:List Wp},Vals (ks.map kV) us->ItemsAre (mixKind P w) ks us
 |[],_,r=>by rw[XD]at r;cases r;exact .nil
 |k::ks,_,r=>by
  rw[Xa]at r;cases r with
  |cons h t=>exact .cons (kV_is h) (mX t)
abbrev KT(H:Hp):List (List Key×V)->List (List Key×WP×Wp)->Prop:=Paired λp q=>p.1=q.1/\H q.2.1=some (.tup (p.1.map kV))/\RelV p.2 q.2.2
variable{H:Hp}{kvs:List (List Key×V)}{xs:List (List Key×WP×Wp)}
theorem KT.val(r:KT H kvs xs)(k:List Key):RelO (jx kvs k) ((atKey xs k).map (·.2)):=by
 induction r with
 |nil=>exact True.intro
 | @cons p q ps qs h t ih=>
  obtain⟨h1,_,h2⟩:=h;by_cases e:p.1=k
  .have e':q.1=k:=h1.symm.trans e;have b:atKey (q::qs) k=some q.2:=by simp[atKey,Zh,e']
   rw[ll e,b];exact h2
  .have e':¬ q.1=k:=λz=>e (h1.trans z)
   have b:atKey (q::qs) k=atKey qs k:=by simp[atKey,Zh,e']
   rw[lq e,b];exact ih
theorem KT.repl(r:KT H kvs xs)(k:List Key)(ry:RelV y u):
  KT H (kvs.map λkv=>if kv.1=k then(kv.1,y) else kv) (xs.map (putAt k u)):=by
 induction r with
 |nil=>exact .nil
 | @cons p q ps qs h t ih=>
  rw[Xa,Xa];refine .cons ?_ ih;obtain⟨h1,h2,h3⟩:=h;unfold putAt;by_cases e:p.1=k
  .rw[WV e,WV (h1.symm.trans e)];exact⟨h1,h2,ry⟩
  .rw[W6 e,W6 (λz=>e (h1.trans z))];exact⟨h1,h2,h3⟩
variable{b:WP}
theorem KT.put(r:KT H kvs xs)(k:List Key)(hb:H b=some (.tup (k.map kV)))(ry:RelV y u):
  KT H (gI kvs k y) (storedH xs k b u):=by
 have e:(kvs.any λkv=>decide (kv.1=k))=(atKey xs k).isSome:=by
  rw[pY,(r.val k).isSome_eq,aaE]
 unfold gI storedH;rw[e];by_cases q:(atKey xs k).isSome=true
 .rw[WV q,WV q];exact r.repl k ry
 .rw[W6 q,W6 q];exact Paired.snoc r ⟨rfl,hb,ry⟩
variable{H':Hp}
theorem KT.keeps(r:KT H kvs xs)(ht:∀b ys,H b=some (.tup ys)->H' b=some (.tup ys)):KT H' kvs xs:=
 Paired.mapP r λ_ _ z=>⟨z.1,ht _ _ z.2.1,z.2.2⟩
variable{a:WP}
section
variable{h:UF}
theorem Ef{u:HO}(ok:HOk P w H h)(e:Rd H a u):ObjOk P w H h a u:=e.ok ok
theorem oV{kvs:List (Key×V)}(ok:HOk P w H h)(e:Rd H a (.dK kvs)):kvs.length<=sizeLine/\(a==sysModules)=false/\∃vs,KV kvs vs/\h.DictOf (mixKind P w) a vs:=
 show ObjOk P w H h a (.dK kvs) from Ef ok e
theorem A8{kvs:List (Key×V)}(ok:HOk P w H h)(e:H a=some (.dK kvs)):kvs.length<=sizeLine/\(a==sysModules)=false/\∃vs,KV kvs vs/\h.DictOf (mixKind P w) a vs:=oV ok (.inl e)
theorem kz(ok:HOk P w H h)(e:H a=some (.tup (ks.map kV))):(tupleKind (mixKind P w)).is h ks a:=by
 obtain⟨_,Kt,r,o,h1,h2,⟨n,h3⟩,_⟩:=(show ObjOk P w H h a (.tup (ks.map kV)) from ok a _ e)
 exact⟨o,Kt.toArray,n,h1,h2,h3,by simpa using mX r⟩
theorem sf(ok:HOk P w H h)(e:Rd H a (.dT kvs)):kvs.length<=sizeLine/\(a==sysModules)=false/\
  ∃xs,KT H kvs xs/\h.DictOfH (tupleKind (mixKind P w)) a xs:=by
 obtain⟨z,y,xs,r,o,es,ep,h1,h2,h3,h4,h5⟩:=(show ObjOk P w H h a (.dT kvs) from Ef ok e)
 refine⟨z,y,xs,r,o,es,ep,h1,h2,h3,h4,λx hx=>?_,h5⟩;have all:∀{l:List (List Key×V)}{m:List (List Key×WP×Wp)},KT H l m->∀x∈m,(tupleKind (mixKind P w)).is h x.1 x.2.1:=by
  intro l m q;induction q with
  |nil=>intro x hx;exact nomatch hx
  | @cons p q ps qs hq t ih=>
   intro x hx;rcases WY.mp hx with e|hx
   .subst e;exact kz ok (by rw[<-hq.1];exact hq.2.1)
   .exact ih x hx
 exact all r x hx
theorem HU(ok:HOk P w H h)(e:H a=some (.dT kvs)):kvs.length<=sizeLine/\(a==sysModules)=false/\
  ∃xs,KT H kvs xs/\h.DictOfH (tupleKind (mixKind P w)) a xs:=sf ok (.inl e)
end
def DGet(H:Hp)(a:WP)(y:V)(r:Option V):Prop:=
 (∃kvs k,Rd H a (.dK kvs)/\y=kV k/\r=jx kvs k)\/∃kvs k b,Rd H a (.dT kvs)/\y=.ref b/\H b=some (.tup (k.map kV))/\r=jx kvs k
def DPut(H:Hp)(a:WP)(y v:V)(H':Hp):Prop:=
 (∃kvs k,H a=some (.dK kvs)/\y=kV k/\kvs.length<sizeLine/\H'=upd H a (.dK (gI kvs k v)))\/
 ∃kvs k b,H a=some (.dT kvs)/\y=.ref b/\H b=some (.tup (k.map kV))/\kvs.length<sizeLine/\H'=upd H a (.dT (gI kvs k v))
theorem DGet.k{H:Hp}{a:WP}{kvs:List (Key×V)}{k:Key}(e:H a=some (.dK kvs)):DGet H a (kV k) (jx kvs k):=.inl ⟨kvs,k,.inl e,rfl,rfl⟩
theorem DGet.t{k:List Key}(e:H a=some (.dT kvs))(eb:H b=some (.tup (k.map kV))):DGet H a (.ref b) (jx kvs k):=.inr ⟨kvs,k,b,.inl e,rfl,eb,rfl⟩
theorem DPut.k{H:Hp}{a:WP}{kvs:List (Key×V)}{k:Key}(e:H a=some (.dK kvs))(hl:kvs.length<sizeLine):DPut H a (kV k) v (upd H a (.dK (gI kvs k v))):=.inl ⟨kvs,k,e,rfl,hl,rfl⟩
theorem DPut.t{k:List Key}(e:H a=some (.dT kvs))(eb:H b=some (.tup (k.map kV)))(hl:kvs.length<sizeLine):
  DPut H a (.ref b) v (upd H a (.dT (gI kvs k v))):=.inr ⟨kvs,k,b,e,rfl,eb,hl,rfl⟩
variable{X:Cx}{pr:List (WP×Obj)}{σ:St}{s:WF}{A:Uf}{E Q:Wp->WF->Prop}{h':UF}
section
variable{v:V}{r:Wp}
theorem Inv.big(I:Inv X pr σ H s):sysModules<s.heap.objs.size:=by
 have h:mainGlobals<s.heap.objs.size:=(I.mod.glob.keeps I.bk).lt;exact Nat.lt_trans @b h
theorem uG(hu:A.units+1<cLine)(I:Inv X pr σ H s)(g:DGet H a y (some v))(ry:RelV y u)(h:∀w' s',Inv X pr σ H s'->RelV v w'->Q w' s'):
  wpAny @c A (getItem (.ref a) u) Q E s:=by
 rcases g with⟨kvs,k,e,ey,l⟩|⟨kvs,k,b,e,ey,eb,l⟩
 .subst ey;obtain⟨z,hd,vs,rel,dd⟩:=oV I.hok e;obtain⟨w',hw,M0⟩:=RelO.some_of (v:=v) (o:=valueAt vs k) (by rw[l];exact rel.val k);exact wpAny_getItem_of (kV_is ry) dd.mapOf hw (h w' _ (I.tok _) M0)
 .subst ey;cases(show u=Value.ref b from ry);obtain⟨z,hd,xs,rel,dd⟩:=sf I.hok e;obtain⟨w',hw,M0⟩:=RelO.some_of (v:=v) (o:=(atKey xs k).map (·.2)) (by rw[l];exact rel.val k);obtain⟨p,hp,SE⟩:=Xi.mp hw;refine wpAny_getItem_heap (ZP hu) (kz I.hok eb) dd hp ?_;rw[SE];exact h w' _ (I.tok _) M0
theorem JU(hu:A.units+1<cLine)(I:Inv X pr σ H s)(g:DGet H a y o)(ry:RelV y u)(h:∀s',Inv X pr σ H s'->Q (.bool o.isSome) s'):
  wpAny @c A (compareOp .In u (.ref a)) Q E s:=by
 rcases g with⟨kvs,k,e,ey,l⟩|⟨kvs,k,b,e,ey,eb,l⟩
 .subst ey;obtain⟨z,hd,vs,rel,dd⟩:=oV I.hok e;refine wpAny_in_of (kV_is ry) hd dd.mapOf ?_;rw[<-(rel.val k).isSome_eq,<-l];exact h _ (I.tok _)
 .subst ey;cases(show u=Value.ref b from ry);obtain⟨z,hd,xs,rel,dd⟩:=sf I.hok e;refine wpAny_in_heap (ZP hu) (kz I.hok eb) hd dd ?_;have q:=(rel.val k).isSome_eq;rw[aaE]at q;rw[<-q,<-l];exact h _ (I.tok _)
theorem A9(hu:A.units+1<cLine)(I:Inv X pr σ H s)(g:DGet H a y o)(ry:RelV y u)(h:∀s',Inv X pr σ H s'->Q (.bool (!o.isSome)) s'):
  wpAny @c A (compareOp .NotIn u (.ref a)) Q E s:=by
 rcases g with⟨kvs,k,e,ey,l⟩|⟨kvs,k,b,e,ey,eb,l⟩
 .subst ey;obtain⟨z,hd,vs,rel,dd⟩:=oV I.hok e;refine wpAny_notIn_of (kV_is ry) hd dd.mapOf ?_;rw[<-(rel.val k).isSome_eq,<-l];exact h _ (I.tok _)
 .subst ey;cases(show u=Value.ref b from ry);obtain⟨z,hd,xs,rel,dd⟩:=sf I.hok e;refine wpAny_notIn_heap (ZP hu) (kz I.hok eb) hd dd ?_;have q:=(rel.val k).isSome_eq;rw[aaE]at q;rw[<-q,<-l];exact h _ (I.tok _)
theorem lr(I:Inv X pr σ H s)(mu:Sb (H a))(hs:Heap.SameBut a s.heap h')(he:∃q,h'.get? a=some q)(new:ObjOk X.prog X.w (upd H a ob) h' a ob):
  Inv X pr σ (upd H a ob) {s with heap:=h',toks:=t'}:=
 I.write (x:=a) (e:=a) mu (.inl rfl) (λb q hb z=>(hs.2 b hb).trans z) he new
theorem uH{kvs:List (Key×V)}(z:kvs.length<=sizeLine)(hd:(a==sysModules)=false)(rel:KV kvs vs)(dd:h'.DictOf (mixKind P w) a vs):
  ObjOk P w H' h' a (.dK kvs):=⟨z,hd,vs,rel,dd⟩
theorem uI{Q:Unit->WF->Prop}(hu:A.units+1<cLine)(I:Inv X pr σ H s)(g:DPut H a y v H')(ry:RelV y u)(rv:RelV v r)(h:∀s',Inv X pr σ H' s'->Q () s'):
  wpAny @c A (setItem (.ref a) u r) Q E s:=by
 rcases g with⟨kvs,k,e,ey,l,eH⟩|⟨kvs,k,b,e,ey,eb,l,eH⟩
 .subst ey eH;obtain⟨z,hd,vs,rel,dd⟩:=A8 I.hok e;have hz:vs.length<=sizeLine:=by rw[<-rel.length];exact z
  have hl:(gI kvs k v).length<=sizeLine:=by have:=dQ kvs k v;lia
  refine wpAny_setItem_pairs (hsz:=hz) (kV_is ry) dd λh' NU hs=>h _ ?_
  have he:∃q,h'.get? a=some q:=let⟨q,_,_,hq,_⟩:=NU;⟨q,hq⟩
  exact lr I (by rw[e];exact True.intro) hs he (uH hl hd (rel.put k rv) NU)
 .subst ey eH;cases(show u=Value.ref b from ry);obtain⟨z,hd,xs,rel,dd⟩:=HU I.hok e;have hz:xs.length<=sizeLine:=by rw[<-aab rel];exact z
  have hl:(gI kvs k v).length<=sizeLine:=by have:=dQ kvs k v;lia
  refine wpAny_setItem_heap (hsz:=hz) (ZP hu) (kz I.hok eb) dd λh' NU hs=>h _ ?_
  obtain⟨q,es,ep,hq,h2,h3,h4,_,h5⟩:=NU;refine lr I (by rw[e];exact True.intro) hs ⟨q,hq⟩ ⟨hl,hd,_,(rel.put k eb rv).keeps λc ys ec=>?_,q,es,ep,hq,h2,h3,h4,h5⟩;rw[au (Hn ec e (λz=>nomatch z))];exact ec
end
section
variable{kvs:List (Key×V)}{k:Key}
end
def NoSl(i:Expr):Prop:=∀ov iv,subscripted i false ov iv=operate [ov,iv] (getItem ov iv)
theorem Ba{prog:W1}{env:Env}{value slice:Expr}{pos:Pos}{T id:String}
  (hl:typeLookup (.type T) "__getitem__" = pure (some (.builtin id))) (hs:NoSl slice)
  (h:wpAny @i A (eval value env) (λo s₁=>wpAny @i A (eval slice env) (λi s₂=>s₂.TypeIs o T/\wpAny @i A (getItem o i) Q E s₂) E s₁) E s):
  wpAny @i A (eval (.Subscript value slice pos) env) Q E s:=by
 refine Subscript_ (XO h (λo s₁ h₁=>XO h₁ (λi s₂ h₂=>?_) λ_ _ x=>x) λ_ _ x=>x);obtain⟨hT,h₂⟩:=h₂;unfold subscriptTail;refine WI ?_;rw[getitemInPython_of_ne hT.not_modules];refine WI (wpAny_specialOf hT hl ?_);have fin:wpAny @i A (subscripted slice false o i) (λr s₃=>wpAny @i A (letTemporaryGo value o r >>= λ_=>pure r) Q E s₃) E s₂:=by
  rw[hs o i];exact wpAny_operating (XO h₂ (λr s₃ h₃=>WI (wpAny_letTemporaryGo (WO h₃))) λ_ _ x=>x)
 first
  |exact WO (WI fin)
  |exact WI (WO (WI fin))
  |exact WI fin
theorem oW(I:Inv X pr σ H s)(g:DGet H a y o):s.TypeIs (.ref a) "dict":=by
 rcases g with⟨kvs,k,e,_,_⟩|⟨kvs,k,b,e,_,_,_⟩
 .obtain⟨_,_,vs,_,dd⟩:=oV I.hok e;exact dd.typeIs
 .obtain⟨_,_,xs,_,dd⟩:=sf I.hok e;exact dd.typeIs
noncomputable def HV(td ty:TE):TE:=λσ H Q=>td σ H λx H1=>ty σ H1 λy H2=>∃a v,x=.ref a/\DGet H2 a y (some v)/\Q v H2
noncomputable def HW(td ty tv:TE):TS:=λD σ H=>tv σ H λv H1=>td σ H1 λx H2=>ty σ H2 λy H3=>∃a H4,x=.ref a/\DPut H3 a y v H4/\D.nx σ H4
section
variable{o i e value:Expr}{pos pos' Mx:Pos}{td ty tv:TE}
theorem Bb(hu:X.A.units+1<cLine)(ho:PE X o td)(hi:PE X i ty)(hs:NoSl i):PE X (.Subscript o i pos) (HV td ty):=by
 intro pr s σ H Q I h;refine Ba PySem.F.slot_dict_getitem.lookup hs (KN (ho pr s σ H _ I h) λu s1 ⟨x,H1,I1,rx,q1⟩=>KN (hi pr s1 σ H1 _ I1 q1) λiv s2 KQ=>?_);obtain⟨y,H2,I2,ry,a,v,ex,g,q2⟩:=KQ;subst ex;obtain rfl:u=Value.ref a:=rx;exact⟨oW I2 g,uG hu I2 g ry λw' s3 I3 M0=>⟨v,H2,I3,M0,q2⟩⟩
theorem Bc(hu:X.A.units+1<cLine)(ho:PE X o td)(hi:PE X i ty)(hv:PE X value tv)(hs:swapsWith value (some (.Subscript o i pos')) pos.line X.env=pure false):
  PS X (.Assign [.Subscript o i pos'] value pos) (HW td ty tv):=by
 intro pr s σ H D I h;refine wpAny_Assign_Subscript (KN (hv pr s σ H _ I h) λr s1 ⟨v,H1,I1,rv,q1⟩=>KN (ho pr s1 σ H1 _ I1 q1) λu s2 ⟨x,H2,I2,rx,q2⟩=>KN (hi pr s2 σ H2 _ I2 q2) λiv s3 ⟨y,H3,I3,ry,a,H4,ex,g,q3⟩=>?_) hs;subst ex;obtain rfl:u=Value.ref a:=rx;exact uI hu I3 g ry rv λs4 I4=>⟨σ,H4,I4,q3⟩
end
theorem dk_empty(h:UF)(hb:sysModules<h.objs.size):ObjOk P w H (h.push {cls:=.type "dict",data:=.dict #[]}) h.objs.size (.dK []):=
 ⟨Xw _,XQ.mpr (Yj (Xh hb)),[],.nil,Heap.DictOf.new h⟩
section
variable{pos:Pos}
end
noncomputable def tPairs:List (TE×TE)->St->Hp->(List (V×V)->Hp->Prop)->Prop
 |[],_,H,Q=>Q [] H
 |(tk,tv)::r,σ,H,Q=>tk σ H λx H1=>tv σ H1 λy H2=>tPairs r σ H2 λps H3=>Q ((x,y)::ps) H3
abbrev VV:List (V×V)->List (Wp×Wp)->Prop:=Paired λp q=>RelV p.1 q.1/\RelV p.2 q.2
def Ud(X:Cx)(pos:Pos)(keys:List (Option Expr))(values:List Expr)(OY:List (TE×TE)):Prop:=
 ∀(pr:List (WP×Obj)) (s:WF) (σ:St) (H:Hp) (Q:List (V×V)->Hp->Prop),Inv X pr σ H s->tPairs OY σ H Q->
  wpAny @c X.A (evalPairs (pairTrees keys values X.env pos)) (λvs s'=>∃ps H',Inv X pr σ H' s'/\VV ps vs/\Q ps H') X.xe s
theorem Be{pos:Pos}:Ud X pos [] [] []:=λpr s σ H Q I h=>pairTrees_nil_walk ⟨[],H,I,.nil,h⟩
variable{OY:List (TE×TE)}
theorem xD{pos:Pos}{k:Expr}(hk:PE X k tk)(hv:PE X v tv)(hr:Ud X pos ks vs OY):
  Ud X pos (some k::ks) (v::vs) ((tk,tv)::OY):=λpr s σ H Q I h=>
 pairTrees_cons_walk (KN (hk pr s σ H _ I h) λu s1 ⟨x,H1,I1,rx,q1⟩=>KN (hv pr s1 σ H1 _ I1 q1) λw2 s2 ⟨y,H2,I2,ry,q2⟩=>
  KN (hr pr s2 σ H2 _ I2 q2) λws s3 ⟨ps,H3,I3,rel,q3⟩=>⟨(x,y)::ps,H3,I3,.cons ⟨rx,ry⟩ rel,q3⟩)
def mY(kvs more:List (Key×V)):List (Key×V):=more.foldl (λacc kv=>gI acc kv.1 kv.2) kvs
theorem KV.merge:∀{more:List (Key×V)}{rs:List (Key×Wp)}{kvs:List (Key×V)}{vs:List (Key×Wp)},KV more rs->KV kvs vs->KV (mY kvs more) (merged vs rs):=by
 intro more rs kvs vs r;unfold KV at r;induction r generalizing kvs vs with
 |nil=>intro q;exact q
 | @cons p q ps qs h t ih=>
  intro r0;have e:KV (gI kvs p.1 p.2) (stored vs q.1 q.2):=by
   have:=r0.put p.1 h.2;rw[<-h.1];exact this
  exact ih e
theorem gT:∀(more kvs:List (Key×V)),(mY kvs more).length<=kvs.length+more.length
 |[],kvs=>by show kvs.length<=kvs.length+0;lia
 |p::r,kvs=>by
  have h1:=gT r (gI kvs p.1 p.2);have h2:=dQ kvs p.1 p.2;show(mY (gI kvs p.1 p.2) r).length<=_;rw[WX];lia
theorem kA{P:W1}{w:World}:∀{kvs:List (Key×V)}{ws:List (Wp×Wp)},VV (kvs.map λkv=>(kV kv.1,kv.2)) ws->∃rs,Carries (mixKind P w) ws rs/\KV kvs rs
 |[],_,r=>by rw[XD]at r;cases r;exact⟨[],True.intro,.nil⟩
 |p::kvs,_,r=>by
  rw[Xa]at r;cases r with
  | @cons a b as bs h t=>
   obtain⟨rs,c,q⟩:=kA (P:=P) (w:=w) t;obtain⟨b1,b2⟩:=b;exact⟨(p.1,b2)::rs,⟨kV_is h.1,rfl,c⟩,.cons ⟨rfl,h.2⟩ q⟩
def HX(OY:List (TE×TE)):TE:=λσ H Q=>∀p,H p=none->tPairs OY σ (upd H p (.dK [])) λps H2=>H2 p=some (.dK [])/\∃kvs:List (Key×V),ps=kvs.map (λkv=>(kV kv.1,kv.2))/\kvs.length<=15/\Q (.ref p) (upd H2 p (.dK (mY [] kvs)))
theorem Bf{pos:Pos}(h:Ud X pos keys values OY)(L4:keys.all (·.isSome)=true)(hl:keys.length=values.length)(h0:keys≠[])(h15:keys.length<=15):PE X (.Dict keys values pos) (HX OY):=by
 intro pr s σ H Q I q;have hn:=I.hok.fresh (WU s.heap.objs.size);have I1:=I.laid (a:=s.heap.objs.size) (o:=.dK []) (h':=s.heap.push {cls:=.type "dict",data:=.dict #[]}) (t':=s.toks) (λ_ _ q=>WL _ q) (WU _) (dk_empty s.heap I.big);refine wpAny_Dict_walk (knd:=mixKind X.prog X.w) L4 hl h0 h15 (KN (h pr _ σ _ _ I1 (q _ hn)) λws s2 KQ=>?_);obtain⟨ps,H2,I2,rel,e,kvs,ep,lk,q2⟩:=KQ;subst ep;obtain⟨rs,c,rk⟩:=kA (P:=X.prog) (w:=X.w) rel;obtain⟨z,hd,vs0,r0,dd⟩:=A8 I2.hok e;cases r0;refine⟨rs,c,dd,λh' NU hs=>⟨.ref s.heap.objs.size,_,?_,rfl,q2⟩⟩;have hz:(mY [] kvs).length<=sizeLine:=by
  have h1:=gT kvs [];rw[X2]at h1;rw[XR];lia
 have he:∃q,h'.get? s.heap.objs.size=some q:=let⟨q,_,_,hq,_⟩:=NU;⟨q,hq⟩
 exact lr I2 (by rw[e];exact True.intro) hs he (uH hz hd (rk.merge .nil) NU)
structure M2(X:Cx)(o:Expr)(m:Str)(apos:Pos)(e f:Expr)(Kx:Pos):Prop where
 base:attributeBase o m X.env (eval o X.env)=eval o X.env
 few:((backTo Kx (starEach [e,f] X.env)).all (λx=>!x.1)&&(backToKw Kx (keywordEach [] X.env)).all (λx=>x.1.isSome)
  && decide (([e,f]:List Expr).length+([]:List Keyword).length+(if([]:List Keyword).isEmpty then 0 else 1)<30))=true
 line:(apos.endLine==Kx.line)=true
 trees:backTo Kx (starEach [e,f] X.env)=[(false,eval e X.env),(false,eval f X.env)]
def IsD(H:Hp)(a:WP):Prop:=(∃kvs,Rd H a (.dK kvs))\/∃kvs,Rd H a (.dT kvs)
theorem Eg(I:Inv X pr σ H s)(d:IsD H a):
  s.TypeIs (.ref a) "dict"/\(∀b,Value.ref a=.ref b->∃ob,s.heap.get? b=some ob/\ob.dict=none)/\(a==sysModules)=false:=by
 rcases d with⟨kvs,e⟩|⟨kvs,e⟩
 .obtain⟨_,hd,vs,_,dd⟩:=oV I.hok e;refine⟨dd.typeIs,λb q=>?_,hd⟩;cases q;obtain⟨ob,_,_,h1,h2,_⟩:=dd;exact⟨ob,h1,h2.2.1⟩
 .obtain⟨_,hd,xs,_,dd⟩:=sf I.hok e;refine⟨dd.typeIs,λb q=>?_,hd⟩;cases q;obtain⟨ob,_,_,h1,h2,_⟩:=dd;exact⟨ob,h1,h2.2.1⟩
section
variable{d:V}{r:Wp}
end
section
variable{o e f:Expr}{apos Kx:Pos}{td ty tx:TE}
end
section
variable{kvs:List (Key×V)}
end
section
end
section
variable[DecidableEq κ]
end
end L2
namespace NX
open PySem PySem.Spec PyProof.Rows L2
def Hi(h:UF)(d:WP)(es:Array DictEntry)(ep:Nat):Prop:=∃o,h.get? d=some o/\o.ExactDict/\o.data=.dict es ep
section
variable{prog:W1}{w:World}{A:Uf}{E:Wp->WF->Prop}{s:WF}{d it:WP}{es:Array DictEntry}{ep i:Nat}
theorem xE(x:Hi s.heap d es ep):s.TypeIs (.ref d) "dict":=by
 obtain⟨o,g,ex,_⟩:=x;exact⟨o,g,ex.1⟩
end
end NX
namespace NX
open PySem PySem.W PySem.Spec PyProof.Rows L2
section
variable{prog:W1}{w:World}{A:Uf}{E:Wp->WF->Prop}{s:WF}
theorem si{O:KeyOrd}{key:Nat->O.α}{kd:SortKind}{l:WP}{vs:List Wp}{Q:Wp->WF->Prop}
  (hcol:∀Q':List Wp->WF->Prop,(∀h' tk,(∀b o,s.heap.get? b=some o->h'.get? b=some o)->Q' vs {s with heap:=h',toks:=tk})->wpAny @i A.in1 (collect (.ref l)) Q' E s) (Ob:vs.length<64)
  (Ml:2<=vs.length->∀(A':Uf) (E':Wp->WF->Prop) (s':WF),(∀b o,s.heap.get? b=some o->s'.heap.get? b=some o)->∀Q:SortKind->WF->Prop,Q kd s'->wpAny @i A' (keyKind' vs.toArray) Q E' s')
  (Oc:∀i j,i<vs.length->j<vs.length->∀s':WF,(∀b o,s.heap.get? b=some o->s'.heap.get? b=some o)->∀C:Bool->WF->Prop,C (O.blt (key i) (key j)) s'->kas_ask prog w A.in1.in1 kd vs i j C s')
  (h:∀(p:Array Nat) (h5 h':UF) (tk e:Nat),POk vs.length p->aT key p vs.length->(∀b o,s.heap.get? b=some o->h5.get? b=some o)->(∀b o,h5.get? b=some o->h'.get? b=some o)->h'.get? h5.objs.size=some (seqObj "list" (List.toArray (p.toList.map λi=>vs.getD i .none)) e)->Q (.ref h5.objs.size) {s with heap:=h',toks:=tk}):
  wpAny @i A (call (.builtin "sorted") [.ref l]) Q E s:=by
 refine Zz kind_sorted plain_sorted entry_sorted (args_sorted1 _) ?_;unfold Builtin.«sorted»;refine WI (m:=checkCount "sorted" 1 1 _) (WO (WI (hcol _ λh5 tk k5=>?_)));refine WI (aaK ?_ (by rw[XR];lia));have k6:∀b o,s.heap.get? b=some o->(h5.push (seqObj "list" vs.toArray 0)).get? b=some o:=λb o e=>WL _ (k5 b o e)
 have hL:(h5.push (seqObj "list" vs.toArray 0)).get? h5.objs.size=some (seqObj "list" vs.toArray 0):=W7 _ rfl;have V1:∀b o,s.heap.get? b=some o->b<h5.objs.size:=λb o e=>W4 (k5 b o e)
 show wpAny _ _ _ _ _ {s with heap:=h5.push (seqObj "list" vs.toArray 0),toks:=tk};refine WI (Yl (YH slot_list_sort ⟨_,hL,rfl⟩ entry_list_sort (gQ (key:=key) (kd:=kd) hL Ob (λh2 h' kk Q' q=>Ml h2 _ _ _ (λb o e=>kk b o (Xh (V1 b o e)) (k6 b o e)) Q' q)
  (λi j hi hj h' kk C q=>Oc i j hi hj _ (λb o e=>kk b o (Xh (V1 b o e)) (k6 b o e)) C q) λp h' hp hs ⟨e,he⟩ kk=>⟨_,rfl,?_⟩) (args_list_sort _)))
 exact WO ⟨_,rfl,h p h5 h' tk e hp hs k5 (λb o q=>kk b o (Xh (W4 q)) (WL _ q)) he⟩
end
section
variable{X:Cx}{pr:List (WP×Obj)}{σ:L2.St}{H:Hp}{s:WF}
end
end NX
namespace NX
open PySem PySem.Spec PyProof.Rows L2
section
open PySem.SeqAt
open PySem.AutoSeq1 (wpAny_loadPart')
open PySem.MeetsSeq PySem.MeetsSeq2 PySem.MeetsSeq3
end
variable{X:Cx}
section
end
variable{prog:W1}{w:World}{A:Uf}{E:Wp->WF->Prop}{s:WF}
section
end
variable{pr:List (WP×Obj)}{σ:L2.St}{H:Hp}{scope:Scope}{N:List Str}{ix:List (Option Nat)}
section
variable{fp:List WP}
end
variable{tc:TT}
section
variable{tg iter elt:Expr}{ifs:List Expr}{pos:Pos}{wi:TI}{g:TG}{te:TE}
end
variable{P:W1}{h:UF}{a:WP}
theorem ook_get(x:ObjOk P w H h a o):∃u,h.get? a=some u:=by
 cases o with
 |lst xs=>obtain⟨_,_,_,_,e⟩:=x;exact⟨_,e⟩
 |tup xs=>obtain⟨_,_,_,_,e,_⟩:=x;exact⟨_,e⟩
 |dK kvs=>obtain⟨_,_,_,_,_,_,_,e,_⟩:=x;exact⟨_,e⟩
 |dT kvs=>obtain⟨_,_,_,_,_,_,_,e,_⟩:=x;exact⟨_,e⟩
 |set S n=>obtain⟨_,_,_,_,e,_⟩:=x;exact⟨_,e⟩
 |ins C dx fs=>obtain⟨_,_,_,e,_⟩:=x;exact⟨_,e⟩
 |own y=>exact x
 |xd fs=>obtain⟨_,⟨_,_,_,e,_⟩,_⟩:=x;exact⟨_,e⟩
 |rng lo hi=>obtain⟨_,_,_,e⟩:=x;exact⟨_,e⟩
 |frz ob u=>obtain⟨e,_⟩:=x;exact⟨_,e⟩
 |tbl ps=>exact⟨_,x⟩
 |met f y=>exact⟨_,x⟩
 |ext φ=>obtain⟨_,e,_⟩:=x;exact e
def XCl(mg:Str->Option Wp)(base:UF)(x:Str)(C:WP):Prop:=∃B newId initId bm,ExcBaseFacts B newId initId bm/\OwnCls x C bm newId mg base
variable{K:W.Frag}{mg:Str->Option Wp}{x:Str}{C:WP}
theorem uJ(X:K.In h)(G:h.Ns mainGlobals mg)(e:PySem.W.nsIn K mainGlobals x=some (some (.ref C)))(q:PySem.W.excIn K C mB nw=true):OwnCls x C mB nw mg h:=by
 refine⟨Ym X G e,?_⟩;unfold PySem.W.excIn at q;split at q
 .rename_i zd cd sl ho;split at q
  .rename_i C' mro z0 z1 z2 z3 z4 z5 hm hs;rw[WW,WW,WW,WW,WW]at q;obtain⟨⟨⟨⟨⟨q1,q2⟩,q3⟩,q4⟩,q5⟩,q6⟩:=q;have d1:=Xx.mp q1;have d2:=Xx.mp q2;have d6:=Xx.mp q6;have d3:cd.hasDel=false:=by revert q3;cases cd.hasDel <;> decide
   clear q1 q2 q3 q6;subst d1;subst d2;cases cd;dsimp only at hm d3 q5 d6;subst hm;subst d3;have ez:sl = #[z0,z1,z2,z3,some (.builtin z4),z5]:=by
    cases sl;dsimp only at hs;rw[hs]
   subst ez;exact⟨_,_,_,_,_,_,_,_,_,_,_,_,_,_,_,_,_,X _ _ ho,.of_isNs (PySem.W.isNs_of_in X q5),PySem.W.nsMap_none_of_in X q5 d6,PySem.W.tail_of_in X q4⟩
  .cases q
 .cases q
def Qi(P:W1)(w:World)(base:UF)(C:WP):NB:=λouter H s E e s'=>
 ∃(a t:WP) (B:UF) (H':Hp),e=.ref a/\s'.os=s.os/\AllBare s'.gens/\Un (Lv outer) [] H H' s.heap s'.heap/\HOk P w H' s'.heap/\Heap.FlyingW B outer a (.ref C) (.ref t) s'.heap/\
  (∀b u,s'.heap.get? b=some u->(H' b≠none\/∃o,s.heap.get? b=some o)->b∉Lv outer->B.get? b=some u)/\E (.ref C) none H'
def Acc(X:Cx)(C:WP)(Ww:Hp->Prop):Prop:=∀(pr:List (WP×Obj)) (σ:L2.St) (H:Hp) (s:WF) (h':UF) (a:WP) (args:List Wp),Inv X pr σ H s->Ww H->Heap.MadeExcOf s.heap h' a (.ref C) args->X.xe (.ref a) {s with heap:=h'}
variable{base:UF}{qual:Str}
theorem zh{E:XK}:
  Acc (oM (Qi P w base C) P w K mg base N qual scope f cd A outer s H E) C (λH'=>E (.ref C) none H'):=by
 intro pr σ H1 s1 h' a args I hW hm;have U6:∀b,b∈Lv (envOfC qual scope s.heap.objs.size f cd::outer)->b∈s.heap.objs.size::Lv outer:=I.stkSub;have nl:∀b o,s.heap.get? b=some o->b∉Lv outer->b∉Lv (envOfC qual scope s.heap.objs.size f cd::outer):=λb o e n z=>by
  rcases WY.mp (U6 b z) with r|r
  .exact absurd (W4 e) (by rw[r];exact Yv _)
  .exact n r
 have nt:∀b,H1 b≠none->b∉Lv (envOfC qual scope s.heap.objs.size f cd::outer):=λb n z=>n (I.stkFree b z)
 refine wpAny_leaves_madeW (base:=PySem.W.hideAll s1.heap (Lv (envOfC qual scope s.heap.objs.size f cd::outer))) (L:=s.heap.objs.size) I.ok.frames rfl (λb o q=>PySem.W.of_hideAll _ q) (PySem.W.funFrames_hide I.stack λenv he b hb=>YF.mpr ⟨env,he,hb⟩) hm λh2 t Oe _ _ sm=>?_
 have k:∀b u,s1.heap.get? b=some u->b∉Lv (envOfC qual scope s.heap.objs.size f cd::outer)->h2.get? b=some u:=λb u q n=>Oe.1 b u (aaf _ q n)
 have sl:∀b u,s1.heap.get? b=some u->b∈Lv outer->∃z,h2.get? b=some {u with slots:=z}:=λb u q n=>by
  obtain⟨_,o,ho,hd⟩:=I.funs.mem n;rw[q]at ho;cases ho;exact sm b u (hm.keeps b u q) hd
 have there:∀b o,s.heap.get? b=some o->∃o',s1.heap.get? b=some o':=λb o q=>I.base.there b o q (λz=>nomatch z)
 refine⟨a,t,_,H1,rfl,I.os,I.bare,⟨λb o q n hb hx=>k b o (I.base.keep b o q n hb hx) (nl b o q hb),λb o q n hb hx=>?_,I.base.free,λb o q hx=>?_,I.base.tups,I.base.frzs,I.base.tbls⟩,λb o e=>?_,Oe,λb u q hb n=>?_,hW⟩
 .obtain⟨z,e⟩:=I.base.slot b o q n hb hx;obtain⟨z',e'⟩:=sl b _ e hb;exact⟨z',e'⟩
 .obtain⟨o',e⟩:=there b o q;by_cases hb:b∈Lv outer
  .obtain⟨z,e'⟩:=sl b o' e hb;exact⟨_,e'⟩
  .exact⟨o',k b o' e (nl b o q hb)⟩
 .refine(I.hok b o e).stay (λc u hc q=>k c u q (nt c ?_)) (λ_ q=>q) λ_ _ q=>q
  rcases hc with rfl|hc
  .rw[e];exact λz=>nomatch z
  .rw[hc];exact λz=>nomatch z
 .have h1:∃u0,s1.heap.get? b=some u0/\b∉Lv (envOfC qual scope s.heap.objs.size f cd::outer):=by
   rcases hb with hb|⟨o,ho⟩
   .cases hq:H1 b with
    |none=>exact absurd hq hb
    |some ho=>
     obtain⟨u0,e0⟩:=ook_get (I.hok b ho hq);exact⟨u0,e0,nt b hb⟩
   .obtain⟨o',e⟩:=there b o ho;exact⟨o',e,nl b o ho n⟩
  obtain⟨u0,e0,n0⟩:=h1;have:=k b u0 e0 n0;rw[show h2.get? b=some u from q]at this;cases this;exact aaf _ e0 n0
def PX(X:Cx)(st:List Stmt)(t:L2.St->Hp->Prop):Prop:=
 ∀(pr:List (WP×Obj)) (s:WF) (σ:L2.St) (H:Hp),Inv X pr σ H s->t σ H->wpAny @c X.A (execs st X.env) (λ_ _=>False) X.xe s
variable{st:Stmt}{es:List Expr}
section
variable{aZ:List Stmt}{t:TS}{u u':L2.St->Hp->Prop}{e:Expr}{Ww:Hp->Prop}{np Kx pos:Pos}
theorem xF(O:XCl X.mg X.base x C)(acc:Acc X C Ww)(hc:X.calm=true)(hg:Gl X x)(ha:PA X (e::es) ta)(Lw:@o=false:=by decide)(he:starEach (e::es) X.env=(false,eval e X.env)::starEach es X.env:=by rfl)(Lj:(backTo Kx (starEach es X.env)).any (·.1)=false:=by rfl):
  PX X (.Raise (some (.Call (.Name x np) (e::es) [] Kx)) none pos::aZ) (λσ H=>ta σ H λvs H1=>vs.length<=sizeLine/\Ww H1):=by
 intro pr s σ H I h;obtain⟨B,nw,ini,bm,FB,O⟩:=O;obtain⟨tl,N,nm,q,bs,hdct,sn,sub,ab,col,dd,k0,k1,k2,k3,k5,mN,hC,hN,Qj,T⟩:=O.obj;refine YV (wpAny_Raise_call_subT (C:=C) (nm:=nm) (q:=q) (N:=N) (bs:=bs) (bm:=tl) (hdct:=hdct) (sn:=sn) (sub:=sub) (ab:=ab) (col:=col) (dd:=dd) (k0:=k0) (k1:=k1) (k2:=k2) (k3:=k3) (k5:=k5) FB (mN:=mN) (T.hasType FB.hasBase) (I.ok.hd hc) (by rw[he];show(false||(backTo Kx (starEach es X.env)).any (·.1))=false;rw[Lj];rfl) Qj (jr I hg O.bound ⟨rfl,?_⟩ Lw));have z:=ha Kx pr s σ H _ I h;rw[he]at z |-;exact Y6 (XO z (λus s2 ⟨vs,H1,I1,r,hl,hw⟩=>⟨rfl,by rw[<-r.length];exact hl,I1.bk _ _ hC,hN.keeps I1.bk,T.keeps I1.bk,λh' a hm=>acc pr σ H1 s2 h' a us I1 hw hm⟩) λ_ _ y=>y)
theorem HY{a:List Stmt}(hc:PT X c tc)(ha:PX X a u):PX X (.If c a b pos::aZ) (λσ H=>tc σ H λbb H1=>bb=true/\u σ H1):=by
 intro pr s σ H I h;refine YV (wpAny_If (KN (hc pr s σ H _ I h) λd s1 KQ=>?_));obtain⟨H1,I1,e,q⟩:=KQ;subst e;exact XO (ha pr s1 σ H1 I1 q) (λ_ _ z=>z.elim) λ_ _ z=>z
theorem pZ(h:PX X aZ u)(k:∀σ H,u' σ H->u σ H):PX X aZ u':=λpr s σ H I z=>h pr s σ H I (k σ H z)
theorem Eh(h:PX X aZ u):PSs X aZ (λ_ σ H=>u σ H):=λpr s σ H _ I z=>XO (h pr s σ H I z) (λ_ _ z=>z.elim) λ_ _ z=>z
theorem Ei{t:TA}(h:PA X.nox es t):PA X es t:=λp pr s σ H Q I hw=>XO (h p pr s σ H Q (I.wish _) hw) (λ_ _ ⟨v,H',I',r,q⟩=>⟨v,H',I'.unwish,r,q⟩) λ_ _ z=>False.elim z
end
def CtX(P:W1)(w:World)(K:W.Frag)(mg:Str->Option Wp)(base:UF)(x:Str)(k:Nat)(C:WP)(sp:Sp):Prop:=
 ∃f fd ps,FnOk P w K mg base (Qi P w base C) k f fd ps sp/\mg x=some (.ref f)/\PySem.W.keepIn K (.ref f)=true/\Binds K fd ps []
variable{sp:Sp}
theorem Bg{k:Nat}(F:Fun K x qual st f fd)(S:FnScope N ps (defScope st))(len:∀vs H Q E,sp vs H Q E->vs.length=ps.length)(MS:∀(KW:Wp) (A:Uf) (outer:List Env) (s:WF) (H:Hp) (vs:List V) (Q:VK) (E:XK),Room k (A.deeper (envOfC qual (defScope st) s.heap.objs.size f KW))->sp vs H Q E->
   ∃t,PX (oM (Qi P w base C) P w K mg base N qual (defScope st) f KW A outer s H E) (bj st) t/\t (gN N vs) H):FnOk P w K mg base (Qi P w base C) (k+1) f fd ps sp:=by
 obtain⟨oc,od,kV,doc,pm,an,KW,ct,ND,rfl,lk,NA⟩:=F.ex;refine DZ lk NA S len λA outer s H vs Q E hr Mv=>?_
 obtain⟨t,h,q⟩:=MS KW A outer s H vs Q E hr Mv;exact⟨_,Eh h,q⟩
def XP(X:Cx)(pr:List (WP×Obj))(σ:L2.St)(C:WP)(Ww:Hp->Prop)(e:Wp)(s':WF):Prop:=∃(s1:WF) (H1:Hp),Inv X pr σ H1 s1/\Qi X.prog X.w X.base C X.stack H1 s1 (λ_ _ H'=>Ww H') e s'
abbrev TX:=L2.St->Hp->(Hp->Prop)->Prop
def OZ(X:Cx)(e:Expr)(C:WP)(t:TX):Prop:=∀(pr:List (WP×Obj)) (s:WF) (σ:L2.St) (H:Hp) (Ww:Hp->Prop),Inv X pr σ H s->t σ H Ww->wpAny @c X.A (eval e X.env) (λ_ _=>False) (XP X pr σ C Ww) s
def PSX(X:Cx)(st:List Stmt)(C:WP)(t:TX):Prop:=∀(pr:List (WP×Obj)) (s:WF) (σ:L2.St) (H:Hp) (Ww:Hp->Prop),Inv X pr σ H s->t σ H Ww->wpAny @c X.A (execs st X.env) (λ_ _=>False) (XP X pr σ C Ww) s
section
variable{aZ:List Stmt}{tx:TX}{e a b:Expr}{k:Nat}{p pos:Pos}
theorem xG{t:TA}(c:CtX X.prog X.w X.K X.mg X.base x k C sp)(hr:Room k X.A)(hg:Gl X x)(ha:PA X.nox (e::es) t)(Lw:@o=false:=by decide)
  (he:starEach (e::es) X.env=(false,eval e X.env)::starEach es X.env:=by rfl) (Lj:(backTo pos (starEach es X.env)).any (·.1)=false:=by rfl):
  OZ X (.Call (.Name x p) (e::es) [] pos) C (λσ H Ww=>t σ H λvs H1=>sp vs H1 (λ_ _=>False) λ_ _ H'=>Ww H'):=by
 intro pr s σ H Ww I h;obtain⟨f,fd,ps,F,m,kp,b⟩:=c;refine Yd (jr I hg m ?_ Lw);refine PySem.W.callWith_K (h₀:=X.base) I.ok.mod.kin kp (XO (ha pos pr s σ H _ (I.wish _) h) (λus s1 ⟨vs,H1,I1,r,q⟩=>⟨I1.kIn,?_⟩) λ_ _ z=>z.elim) he Lj;have I1:=I1.unwish;have hl:us.length=ps.length:=by rw[<-r.length];exact F.len _ _ _ _ q
 have hb:BindsTo s1 fd ⟨us,[]⟩ (ps.zip us):=by
  have:=b s1 us I1.kIn (by rw[Xe];exact hl);rw[Xe]at this;exact this
 refine wpAny_call (Z3 (F.run X.A X.stack s1 H1 ⟨us,[]⟩ us vs _ _ hr I1.env0 hb r q) λr s' hq=>?_);cases r with
 |error e=>exact⟨s1,H1,I1,hq⟩
 |ok fl=>
  cases fl with
  |ret u=>obtain⟨_,_,_,_,_,_,_,z⟩:=hq;exact z.elim
  |next=>exact False.elim hq
  |brk=>exact False.elim hq
  |cont=>exact False.elim hq
theorem Ej(h:OZ X a C tx):OZ X (.Subscript a b pos) C tx:=λpr s σ H Ww I z=>Subscript_ (XO (h pr s σ H Ww I z) (λ_ _ z=>z.elim) λ_ _ z=>z)
theorem xH(h:OZ X e C tx)(hs:swapsWith e none pos.line X.env=pure false:=by rfl):PSX X (.Expr e pos::aZ) C tx:=λpr s σ H Ww I z=>
 YV (wpAny_Expr_any (XO (h pr s σ H Ww I z) (λ_ _ z=>z.elim) λ_ _ z=>z) I.quiet hs)
end
abbrev handX(X:Cx)(a:WP):Cx:={X with A:=X.A.mark (some (.ref a)),calm:=false,xe:=λ_ _=>False}
theorem xI(I:Inv X pr σ H s)(a:WP):Inv (handX X a) pr σ H s:=
 ⟨⟨I.ok.mod,I.ok.kind,I.ok.glob,I.ok.blt,I.ok.above,I.ok.inj,I.ok.has,I.ok.cab,(λz=>nomatch z),I.ok.frames,I.ok.stk,I.ok.exf,I.ok.bs,I.ok.bsz,I.ok.noex,I.ok.exfs,I.ok.funs,I.ok.frf⟩,I.os,I.bare,I.base,I.loc,I.cell,I.free,I.freeC,I.pin,I.hok,I.len⟩
open PySem.Builtin.ObjectAttr PySem.Builtin.Getset_descriptor
def ExAt(x D:WP)(h:UF):Prop:=∃o vs,h.get? x=some o/\o.cls=.ref D/\o.data=.fields vs
structure Asks(K:W.Frag)(D:WP):Prop where
 ga:PySem.W.findIn K (.ref D) "__getattribute__" = some (some (.builtin "BaseException.__getattribute__"))
 gn:PySem.W.findIn K (.ref D) "__getattr__" = some none
 hc:PySem.W.hasDictIn K D=true
 fi:PySem.W.findIn K (.ref D) "__class__" = some (some (.builtin "object.__class__"))
 sp:PySem.W.specialIn K (.builtin "object.__class__") "__get__" = some (some (.builtin "getset_descriptor.__get__"))
 tk:PySem.W.takesIn K (.builtin "object.__class__")=some true
 mo:PySem.W.mroIn K D (.type "object")=some true
 mb:PySem.W.mroIn K D (.type "BaseException")=some true
theorem Asks.cls{D:WP}(k:Asks K D):∃cd,PySem.W.clsIn K D=some cd:=by
 obtain⟨cd,e,_⟩:=PySem.W.any_some k.hc;exact⟨cd,e⟩
variable{M:Model}{tk:Tok}
section
variable{x D:WP}
theorem ExAt.ty(I:ExAt x D h):PySem.W.Looks M h (typeOf (.ref x)) (.ref D):=by
 obtain⟨o,vs,e,c,_⟩:=I;exact c▸(PySem.W.Looks.ld e).andThen .now
theorem xJ(k:Asks K D)(X:K.In h):PySem.W.Looks M h (find (.ref x) (.ref D) "__class__") (.bind (.builtin "getset_descriptor.__get__") (.builtin "object.__class__")):=by
 have T:=PySem.W.looks_takesIn (M:=M) X k.tk;have T':PySem.W.Looks M h (dataDescriptor? (some (.builtin "object.__class__")) (some (.builtin "getset_descriptor.__get__"))) (some (.builtin "getset_descriptor.__get__",.builtin "object.__class__")):=T.andThen .now;exact(Z8 X k.fi).andThen ((show PySem.W.Looks M h (getOf (some (.builtin "object.__class__"))) (some (.builtin "getset_descriptor.__get__")) from PySem.W.looks_specialIn X k.sp).andThen (T'.andThen (PySem.W.Looks.tag .now)))
theorem Bh{R:Result->WF->Prop}(k:Asks K D)(X:K.In s.heap)(I:ExAt x D s.heap)(h:R (.ok (.ret (.ref D))) s):
  codeAny @i A (.call (.builtin "getset_descriptor.__get__") ⟨[.builtin "object.__class__",.ref x,tp],[]⟩) R s:=by
 obtain⟨hp,gs,dr,tt,oo⟩:=s;have Ty:=I.ty (M:=model prog w);have Mo:=aak (M:=model prog w) X k.mo;refine Zt PySem.W.KF.slot_gs.plain PySem.W.KF.entry_gs (PySem.W.KF.slot_gs.check _ _ _ _ _ _ _ _ PySem.W.KF.type_class (PySem.W.KF.args_gs _ _ _) ?_);unfold Builtin.«getset_descriptor.__get__» descrGet;rw[PySem.W.dga_obj];refine WI (WO ?_);unfold descrGetter descrCheckInstance descrNameAndClass isInstance;simp![PySem.W.KF.owner_class];repeat lk
 refine⟨aar _ (by decide +kernel),YA PySem.W.KF.entry_class ?_⟩;unfold Builtin.«object.__class__» shownTypeOf;repeat lk
 exact h
theorem uK(k:Asks K D)(X:K.In s.heap)(I:ExAt x D s.heap)(h:Q (.done (.ret (.ref D))) s):
  wpAny @i A (Builtin.«object.__getattribute__» ⟨[.ref x,.str "__class__" tk],[]⟩) Q E s:=by
 obtain⟨hp,gs,dr,tt,oo⟩:=s;have Ty:=I.ty (M:=model prog w);have Fd:=xJ (M:=model prog w) (x:=x) k X;unfold Builtin.«object.__getattribute__»;repeat (any_goals (first|assumption|with_reducible refine Ty.at ?_|with_reducible refine Fd.at ?_|wp_step))
 refine Bh k X I ?_;repeat (any_goals (first|assumption|wp_step))
theorem uL(k:Asks K D)(X:K.In s.heap)(I:ExAt x D s.heap)(h:Q () s):wpAny M A (checkBuiltinCall "BaseException.__getattribute__" ⟨[.ref x,nv],[]⟩) Q E s:=by
 obtain⟨hp,gs,dr,tt,oo⟩:=s;have z1:builtinKind "BaseException.__getattribute__" = some .slot:=by decide +kernel
 have z2:splitId "BaseException.__getattribute__" = some ("BaseException","__getattribute__"):=by decide +kernel
 have z3:=F.args_bexc_ga (.ref x) nv;have Ty:=I.ty (M:=M);have Mb:=aak (M:=M) X k.mb;simp![checkBuiltinCall,z1,z2];refine WI ?_;unfold isInstance;repeat (any_goals (first|assumption|with_reducible refine Ty.at ?_|with_reducible refine Mb.at ?_|wp_step))
theorem Ek{fill ex:Bool}{Q:Wp->WF->Prop}(k:Asks K D)(X:K.In s.heap)(I:ExAt x D s.heap)(h:Q (.ref D) s):wpAny @i A (getAttrBy (.ref x) (.str "__class__" tk) fill ex) Q E s:=by
 obtain⟨hp,gs,dr,tt,oo⟩:=s;have Ty:=I.ty (M:=model prog w);have G1:=Z8 (M:=model prog w) X k.ga;have G2:=Z8 (M:=model prog w) X k.gn;have z0:(ex&&onTheHeap (Value.builtin "BaseException.__getattribute__"))=false:=by cases ex <;> rfl
 have z2:(Value.builtin "BaseException.__getattribute__" == Value.builtin "object.__getattribute__")=false:=by decide +kernel
 have z1:(onTheHeap (Value.ref D)&&Value.builtin "BaseException.__getattribute__" == Value.builtin "object.__getattribute__")=false:=by rw[z2];rfl
 have z3:=F.attr_ValueError.ga.bind (.ref x);repeat (any_goals (first|assumption|with_reducible refine Ty.at ?_|with_reducible refine G1.at ?_|with_reducible refine G2.at ?_|wp_step))
 refine Zt F.attr_ValueError.ga.plain F.entry_bexc_ga (uL k X I (uK k X I ?_));repeat (any_goals (first|assumption|wp_step))
theorem uM(k:Asks K D)(X:K.In s.heap)(I:ExAt x D s.heap)(h:Q (some (.ref D)) {s with toks:=s.toks+1}):wpAny @i A (getAttr? (.ref x) "__class__") Q E s:=by
 unfold getAttr? getAttrBy?;refine WI (wpAny_mkText (WI (wpAny_attempt (Ek (s:={s with toks:=s.toks+1}) k X I (WO h)))))
theorem oX(k:Asks K D):PySem.W.KitX K (.ref x) (.ref D) (ExAt x D) where
 ty:=λ_ _ _ I=>I.ty
 it:=λM h X _=>by
  obtain⟨cd,e⟩:=k.cls;unfold PySem.W.clsIn at e;split at e
  .rename_i ho;intro A' Q' E' s' kk q;unfold isType loadHead;exact WI (wpAny_loadPart (kk _ _ (X _ _ ho)) (WO q))
  .cases e
 ne:=λh tp dd Kt n sl X U7=>by
  obtain⟨cd,e⟩:=k.cls;refine YO.mpr λq=>?_
  cases Value.ref.inj (Xx.mp q);unfold PySem.W.clsIn at e;split at e
  .rename_i ho;cases(X _ _ ho).symm.trans U7
  .cases e
 ca:=λX I h=>uM k X I h
end
abbrev asX(X:Cx)(a:WP)(o:Obj):Cx:={X with A:=X.A.mark (some (.ref a)),calm:=false,xe:=λ_ _=>False,pn:=(a,o)::X.pn}
section
variable{o:Obj}
theorem El(I:Inv X pr σ H s)(h1:s.heap.get? a=some o)(h2:H a=none)(h3:a≠X.env.locals)(h4:a∉X.fs)(h5:∀v,o.data≠.cell v):Inv (asX X a o) pr σ H s:=
 ⟨⟨I.ok.mod,I.ok.kind,I.ok.glob,I.ok.blt,I.ok.above,I.ok.inj,I.ok.has,I.ok.cab,(λz=>nomatch z),I.ok.frames,I.ok.stk,I.ok.exf,I.ok.bs,I.ok.bsz,I.ok.noex,I.ok.exfs,I.ok.funs,I.ok.frf⟩,I.os,I.bare,I.base,I.loc,I.cell,I.free,I.freeC,λp hp=>by
  rcases WY.mp (show p∈(a,o)::(X.pn++pr) from hp) with rfl|hp
  .exact⟨h1,h2,h3,h4,h5⟩
  .exact I.pin p hp,I.hok,I.len⟩
theorem xK(ok:X.Ok)(I:Inv (asX X a o) pr σ H s):Inv X pr σ H s:=⟨ok,I.os,I.bare,I.base,I.loc,I.cell,I.free,I.freeC,λp hp=>I.pin p (WK _ hp),I.hok,I.len⟩
theorem xM{m:Str->Option Wp}(I:Inv X pr σ H s)(hN:X.N.Nodup)(hi:X.N[i]?=some x)(hm:s.heap.Ns X.env.locals m)(hn:h'.Ns X.env.locals (λy=>if y=x then v else m y))(hs:Heap.SameBut X.env.locals s.heap h'):Inv X pr (σ.set i none) H {s with heap:=h',toks:=t'}:=by
 have U8:∀b o,X.s₀.heap.get? b=some o->b≠X.env.locals:=λb o e=>Xh (W9 (W4 e) I.ok.above)
 have hl:i<σ.length:=by rw[I.len];exact(WS.mp hi).1
 refine⟨I.ok,I.os,I.bare,⟨λb o e n hb hx=>?_,λb o e n hb hx=>?_,I.base.free,λb o e hx=>?_,I.base.tups,I.base.frzs,I.base.tbls⟩,⟨_,hn,λj y v' e1 e2 e3=>?_⟩,λy c e=>?_,I.free,I.freeC,λp hp=>?_,λb ob e=>?_,by rw[XB];exact I.len⟩
 .rw[hs.2 b (U8 b o e)];exact I.base.keep b o e n hb hx
 .rw[hs.2 b (U8 b o e)];exact I.base.slot b o e n hb hx
 .rw[hs.2 b (U8 b o e)];exact I.base.there b o e hx
 .have hj:j≠i:=λz=>by
   subst z;rw[XF hl]at e2;cases e2
  rw[Yc (Yj hj)]at e2;obtain⟨m',R3,QV⟩:=I.loc;obtain⟨u',r',q⟩:=QV j y v' e1 e2 e3;refine⟨u',r',?_⟩;rcases q with⟨kk,e⟩|⟨kk,c,e,z⟩
  .refine .inl ⟨kk,?_⟩;have ne:y≠x:=λe=>hj (kY hN e1 (e▸hi))
   dsimp only;rw[W6 ne];obtain⟨o1,Mi,V2,a1,b1,c1,d1⟩:=hm;obtain⟨o2,R4,V3,a2,b2,c2,d2⟩:=R3;rw[a1]at a2;cases a2;rw[b1]at b2;cases b2;rw[<-d1 y,d2 y];exact e
  .exact .inr ⟨kk,c,e,z.sameBut hs (I.cne y c e)⟩
 .obtain⟨w',z⟩:=I.cell y c e;exact⟨w',z.sameBut hs (I.cne y c e)⟩
 .obtain⟨e,n,ne,nf,d⟩:=I.pin p hp;exact⟨(hs.2 p.1 ne).trans e,n,ne,nf,d⟩
 .refine(I.hok b ob e).stay (λc w' hc q=>(hs.2 c ?_).trans q) (λ_ q=>q) λ_ _ q=>q
  rintro rfl;rcases hc with rfl|hc
  .rw[I.free]at e;cases e
  .rw[I.free]at hc;cases hc
end
noncomputable def goneE(i:Nat)(D:Ends):Ends:={nx:=λσ H=>D.nx (σ.set i none) H,rt:=D.rt,bk:=λσ H=>D.bk (σ.set i none) H,ct:=λσ H=>D.ct (σ.set i none) H}
end NX
namespace NX
open PySem PySem.W PySem.Spec PyProof.Rows L2
section
variable{prog:W1}{w:World}{A:Uf}{E:Wp->WF->Prop}{s:WF}
theorem oY(pl:IsTup s.heap l vs.toArray)(go:∀h' tk,(∀b o,s.heap.get? b=some o->h'.get? b=some o)->Q vs {s with heap:=h',toks:=tk})(hz:vs.length<=sizeLine):wpAny @i A (collect (.ref l)) Q E s:=by
 obtain⟨ob,eo,ec,nn,ed⟩:=pl;have e1:(s.heap.push (seqObj "list" #[] 0)).get? l=some ob:=WL _ eo;have e2:=W7 s.heap (o:=seqObj "list" #[] 0) rfl;unfold collect;refine WI (wpAny_runValue (YA entry_proto_collect' ?_));show wpAny _ _ (do again (.builtin "list.__iadd__" ⟨[<-newList [],.ref l],[]⟩)) _ _ s;refine WI (aaK (WO ⟨aar _ (by decide +kernel),YA entry_list_iadd' ?_⟩));show wpAny _ _ (Builtin.List.listExtendWith (.ref s.heap.objs.size) (.ref l) (.ref s.heap.objs.size)) _ _ {s with heap:=s.heap.push (seqObj "list" #[] 0)};unfold Builtin.List.listExtendWith;refine WI (YZ (T:="tuple") ⟨ob,e1,ec⟩ ?_);rw[WV (by rw[ZO];exact .inr @b)];refine WI (listItems_at e1 ed (WI (listItems_at (xs:=#[]) (n:=0) e2 rfl ?_)));rw[W6 @t];refine WI (listUpdate_at (xs:=#[]) (n:=0) e2 rfl (WO ?_) (Xw _) (by rw[Array.size_append,WZ];simp![WZ,X2];lia));refine WI (wpAny_load (get?_update_seq e2 _) ?_);show wpAny _ _ (pure ((#[]:Array Wp)++vs.toArray).toList) Q E _;rw[show((#[]:Array Wp)++vs.toArray).toList=vs by simp];exact WO (go _ s.toks λb o e=>(XC _ _ (Yj (Xh (W4 e)))).trans (WL _ e))
end
section
variable{X:Cx}
theorem m6(hc:X.calm=true):cb X (.builtin "sorted") (λvs H Q=>∃(p:WP) (ls:List (List Nat)),vs=[.ref p]/\SqT X.K H p (ls.map λl=>V.str (S l))/\ls.length<64/\∀(D:WP) (ms:List (List Nat)),H D=none->ms.Perm ls->ms.Pairwise (λa b=>¬ b<a)->Q (.ref D) (upd H D (.lst (ms.map λl=>V.str (S l))))):=by
 intro pr s σ H vs us Q I r h;obtain⟨p,ls,rfl,hp,Ob,q⟩:=h;obtain⟨u,rfl,r1⟩:=dM r;cases r1;obtain⟨ws,rv,pl,hz⟩:=I.tuple hp;have hl:=rv.length;rw[WN]at hl;refine si (O:=Hh) (key:=λi=>ls.getD i []) (kd:=oneType') (vs:=ws) (λQ' hq=>oY pl hq (by rw[XR];lia)) @a (λh2 A' E' s' kk Q' q'=>?_) (λi j hi hj s' kk C q'=>?_) λpp h5 h' tk e L9 hs k5 k' he=>?_
 .refine kas_kind h2 (T:=.type "str") (λv hv=>?_) @b @b q';obtain⟨i,hi⟩:=X3.mp hv;obtain⟨t,rfl⟩:=iC rv hi;exact λA Q E s _ q=>YZ (aaA s _ t) q
 .unfold kas_ask;have e1:ws[i]?=some (ws.getD i .none):=by rw[aV _ _ _ hi];exact WM hi
  have e2:ws[j]?=some (ws.getD j .none):=by rw[aV _ _ _ hj];exact WM hj
  obtain⟨t,OL⟩:=iC rv e1;obtain⟨t',NT⟩:=iC rv e2;rw[OL,NT];refine kas_lt_str ?_;rw[cJ,cJ];exact q'
 .rw[<-hl]at L9 hs;have QU:POk (ls.map λl=>V.str (S l)).length pp:=by rw[WN];exact L9
  have eo:r9 pp (ls.map λl=>V.str (S l))=(pp.toList.map λi=>ls.getD i []).map λl=>V.str (S l):=by
   unfold r9;rw[Xq];refine Yg λi hi=>?_
   have hi:=Xp.mp (L9.perm.mem_iff.mp hi);show(ls.map λl=>V.str (S l)).getD i .non=V.str (S (ls.getD i []));rw[aV _ _ _ (by rw[WN];exact hi),aV _ _ _ hi];simp
  have I5:Inv X pr σ H {s with heap:=h5,toks:=tk}:=I.kept k5;have hn:H h5.objs.size=none:=I5.hok.fresh (WU _);refine⟨.ref h5.objs.size,_,gR (s:={s with heap:=h5,toks:=tk}) I5 k' (WU _) he (jh rv QU) ?_,rfl,?_⟩
  .show(r9 pp (ls.map λl=>V.str (S l))).length<=sizeLine;rw[eo,WN,WN,L9.perm.length_eq,Xk,XR];lia
  .rw[eo];refine q _ _ hn (jg [] L9) ?_;refine(fN (O:=Hh) [] (λl:List Nat=>l) L9 hs).imp λ{a b} Np=>?_
   have Np:decide (b<a)=false:=Np;exact aaq Np
end
end NX
namespace NX
open PySem PySem.Spec PyProof.Rows L2
section
variable{X:Cx}{es:List Expr}{kt:Nat}{pt:Pos}
end
end NX
namespace NX
open PySem
namespace ST
noncomputable def NV(m:Nat)(p:SetTable.Probe):SetTable.Probe:=if p.more>0 then{p with j:=p.j+1,more:=p.more-1} else
 {p with j:=(SetTable.leap m p.i p.perturb).1,more:=SetTable.runEnd m (SetTable.leap m p.i p.perturb).1-(SetTable.leap m p.i p.perturb).1,i:=(SetTable.leap m p.i p.perturb).1,perturb:=(SetTable.leap m p.i p.perturb).2}
def sj(t:SetTable)(p:SetTable.Probe):t.advance p=NV t.mask p:=rfl
def K7(m:Nat):Nat->SetTable.Probe->SetTable.Probe
 | 0,p=>p
 |k+1,p=>K7 m k (NV m p)
theorem jy(m:Nat):∀(a b:Nat) (p:SetTable.Probe),K7 m (a+b) p=K7 m b (K7 m a p)
 | 0,b,p=>by rw[Zi];rfl
 |a+1,b,p=>by
  rw[show a+1+b=(a+b)+1 by lia,K7,jy m a b];rfl
noncomputable def fr(m:Nat)(x:Nat×Nat)(d:Option Nat):SetTable.Probe:={j:=x.1,more:=SetTable.runEnd m x.1-x.1,i:=x.1,perturb:=x.2,dummy:=d}
def xN(t:SetTable)(h:Int):t.probeStart h=fr t.mask (SetTable.bits h%(t.mask+1),SetTable.bits h) none:=rfl
theorem oZ(m:Nat):∀(r:Nat) (q:SetTable.Probe),q.more=r->K7 m (r+1) q=fr m (SetTable.leap m q.i q.perturb) q.dummy
 | 0,q,h=>by
  show NV m q=_;unfold NV;rw[W6 @a];rfl
 |r+1,q,h=>by
  rw[K7];have e:NV m q={q with j:=q.j+1,more:=q.more-1}:=by
   unfold NV;rw[WV @a]
  rw[e,oZ m r _ (by show q.more-1=r;lia)]
theorem zi(m:Nat):∀(k:Nat) (q:SetTable.Probe),k<=q.more->K7 m k q={q with j:=q.j+k,more:=q.more-k}
 | 0,q,h=>rfl
 |k+1,q,h=>by
  rw[K7];have e:NV m q={q with j:=q.j+1,more:=q.more-1}:=by
   unfold NV;rw[WV @a]
  rw[e,zi m k _ (by show k<=q.more-1;lia)];show({q with j:=q.j+1+k,more:=q.more-1-k}:SetTable.Probe)=_;rw[show q.j+1+k=q.j+(k+1) by lia,show q.more-1-k=q.more-(k+1) by lia]
noncomputable def lp(m:Nat):Nat->Nat×Nat->Nat×Nat
 | 0,x=>x
 |l+1,x=>lp m l (SetTable.leap m x.1 x.2)
theorem zj(m:Nat):∀(a b:Nat) (x:Nat×Nat),lp m (a+b) x=lp m b (lp m a x)
 | 0,b,x=>by rw[Zi];rfl
 |a+1,b,x=>by
  rw[show a+1+b=(a+b)+1 by lia,lp,zj m a b];rfl
def Bi(m i:Nat):SetTable.runEnd m i-i<=9:=by
 unfold SetTable.runEnd;split <;> lia
theorem uN(m:Nat):∀(l:Nat) (x:Nat×Nat) (d:Option Nat),∃k,k<=10*l/\K7 m k (fr m x d)=fr m (lp m l x) d
 | 0,x,d=>⟨0,WU _,rfl⟩
 |l+1,x,d=>by
  obtain⟨k,hk,e⟩:=uN m l (SetTable.leap m x.1 x.2) d;have h1:=oZ m (SetTable.runEnd m x.1-x.1) (fr m x d) rfl;have h2:=Bi m x.1;refine⟨(SetTable.runEnd m x.1-x.1+1)+k,by lia,?_⟩;rw[jy,h1];exact e
theorem zk(m:Nat):∀(l:Nat) (x:Nat×Nat),(lp m l x).2=x.2 / 32 ^ l
 | 0,x=>(Nat.div_one _).symm
 |l+1,x=>by
  rw[lp,zk m l];show x.2 / 32 / 32 ^ l=_;rw[Nat.div_div_eq_div_mul,Nat.pow_succ,Nat.mul_comm]
noncomputable def cy(m:Nat):Nat->Nat->Nat
 | 0,i=>i
 |l+1,i=>cy m l ((i*5+1)%(m+1))
theorem p6(m:Nat):∀(a b i:Nat),cy m (a+b) i=cy m b (cy m a i)
 | 0,b,i=>by rw[Zi];rfl
 |a+1,b,i=>by
  rw[show a+1+b=(a+b)+1 by lia,cy,p6 m a b];rfl
theorem Em(m:Nat):∀(l i:Nat),lp m l (i,0)=(cy m l i,0)
 | 0,i=>rfl
 |l+1,i=>by
  show lp m l ((i*5+1+0 / 32)%(m+1),0 / 32)=_;rw[Nat.zero_div,acj,Em m l];rfl
def NW(m:Nat):Prop:=m=7\/m=31\/m=127
def En(m:Nat):Bool:=(List.range (m+1)).all λs=>(List.range (m+1)).any λa=>cy m a 0==s
def uO{m:Nat}(h:NW m):∀s,s<=m->∃a,a<=m/\cy m a 0=s:=by
 have key:En m=true:=by
  rcases h with rfl|rfl|rfl <;> decide +kernel
 intro s hs;unfold En at key;rw[Xr]at key;obtain⟨a,ha,e⟩:=XM.mp (key s (Xp.mpr @a));exact⟨a,by have:=Xp.mp ha;lia,Xx.mp e⟩
def Bj{m:Nat}(h:NW m):cy m (m+1) 0=0:=by
 rcases h with rfl|rfl|rfl <;> decide +kernel
def Eo{m:Nat}(h:NW m)(hi:i<=m)(hs:s<=m):∃l,l<=m/\cy m l i=s:=by
 obtain⟨a,ha,rfl⟩:=uO h i hi;obtain⟨b,hb,rfl⟩:=uO h s hs;by_cases Np:a<=b
 .refine⟨b-a,by lia,?_⟩;rw[<-p6,show a+(b-a)=b by lia]
 .refine⟨m+1-a+b,by lia,?_⟩;rw[<-p6,show a+(m+1-a+b)=(m+1)+b by lia,p6,Bj h]
theorem zl(m:Nat):∀(l:Nat) (x:Nat×Nat),0<l->(lp m l x).1<=m
 | 1,x,_=>by
  show(x.1*5+1+x.2 / 32)%(m+1)<=m;have:=Nat.mod_lt (x.1*5+1+x.2 / 32) (show 0<m+1 by lia);lia
 |l+2,x,_=>zl m (l+1) _ @a
def Ep{m:Nat}(h:NW m)(hx:x.2<2 ^ 64)(hs:s<=m):∃l,l<=13+m/\(lp m l x).1=s:=by
 have h0:(lp m 13 x).2=0:=by
  rw[zk];exact Nat.div_eq_of_lt (W9 hx @b)
 obtain⟨l,hl,e⟩:=Eo h (zl m 13 x @b) hs;refine⟨13+l,by lia,?_⟩;rw[zj,show lp m 13 x=((lp m 13 x).1,0) by rw[<-h0],Em];exact e
def xO{m:Nat}(h:NW m)(hx:x.2<2 ^ 64)(d:Option Nat)(hs:s<=m):∃k,k<10*(m+15)/\(K7 m k (fr m x d)).j=s:=by
 obtain⟨l,hl,e⟩:=Ep h hx hs;obtain⟨k,hk,e2⟩:=uN m l x d;exact⟨k,by lia,by rw[e2];exact e⟩
def uP(h:Int):SetTable.bits h<2 ^ 64:=by
 unfold SetTable.bits;have h1:=Int.emod_nonneg h (show((2:Int) ^ 64)≠0 by decide);have h2:=Int.emod_lt_of_pos h (show(0:Int)<2 ^ 64 by decide);have:(2:Int) ^ 64=((2 ^ 64:Nat):Int):=by decide
 lia
theorem p7{P:Nat->Bool}:∀(k:Nat),P k=true->∃n,n<=k/\P n=true/\∀i<n,P i=false
 |k,h=>by
  cases e:(List.range k).find? P with
  |none=>
   refine⟨k,WU _,h,λi hi=>?_⟩;have:=Ye.mp e i (Xp.mpr hi);simpa using this
  |some a=>
   have ha:=Xp.mp (Yx e);have hp:=ZQ e;obtain⟨n,hn,h1,h2⟩:=p7 a hp;exact⟨n,by lia,h1,h2⟩
termination_by k=>k
def m7{m:Nat}{L:List Nat}(hL:L.length<=m):∃s,s<=m/\s∉L:=by
 have:∀(l k:List Nat),l.Nodup->(∀x∈l,x∈k)->l.length<=k.length:=by
  intro l;induction l with
  |nil=>exact λk _ _=>Xw _
  |cons a l ih=>
   intro k nd h;rw[Xf]at nd;have ha:=h a WJ;have:=ih (k.erase a) nd.2 λx hx=>(List.mem_erase_of_ne (λe=>nd.1 (by rw[<-e];exact hx))).mpr (h x (WK _ hx))
   have h2:=ZJ ha;have h3:=Ze ha;rw[WX];lia
 refine Yy λhn=>?_
 have:=this (List.range (m+1)) L List.nodup_range λx hx=>Yy λR5=>hn ⟨x,by have:=Xp.mp hx;lia,R5⟩
 rw[Xk]at this;lia
def uQ{m:Nat}(h:NW m){L:List Nat}(hL:L.length<=m){x:Nat×Nat}(hx:x.2<2 ^ 64)(d:Option Nat):∃n,n<10*(m+15)/\(K7 m n (fr m x d)).j∉L/\∀i<n,(K7 m i (fr m x d)).j∈L:=by
 obtain⟨s,hs,hn⟩:=m7 hL;obtain⟨k,hk,e⟩:=xO h hx d hs;obtain⟨n,h1,h2,h3⟩:=p7 (P:=λk=>!decide ((K7 m k (fr m x d)).j∈L)) k (by rw[e,Xn hn];rfl);refine⟨n,by lia,by simpa using h2,λi hi=>by simpa using h3 i hi⟩
end ST
end NX
namespace NX
open PySem
namespace ST
def Up(l:List Nat):Prop:=l.Pairwise (·< ·)
def Up.lt{xs:Array Nat}(h:Up xs.toList){a b u v:Nat}(Np:a<b)(hu:xs[a]?=some u)(hv:xs[b]?=some v):u<v:=by
 unfold Up at h;rw[Y4]at h;obtain⟨h1,e1⟩:=Yq.mp hu;obtain⟨h2,e2⟩:=Yq.mp hv;have:=h a b (by rw[W0];exact h1) (by rw[W0];exact h2) Np;rw[XW,XW,e1,e2]at this;exact this
structure Bel(xs:Array Nat)(j r:Nat):Prop where
 le:r<=xs.size
 lo:∀k<r,∀v,xs[k]?=some v->v<j
 hi:∀k,r<=k->∀v,xs[k]?=some v->j<=v
theorem o4(hs:Up xs.toList)(j:Nat):∀(eL lo hi:Nat),lo<=hi->hi<=xs.size->hi-lo<=eL->(∀k<lo,∀v,xs[k]?=some v->v<j)->(∀k,hi<=k->∀v,xs[k]?=some v->j<=v)->Bel xs j (SetTable.below.go xs j eL lo hi)
 | 0,lo,hi,h1,h2,h3,h4,h5=>by
  unfold SetTable.below.go;exact⟨by lia,h4,λk hk=>h5 k @a⟩
 |eL+1,lo,hi,h1,h2,h3,h4,h5=>by
  unfold SetTable.below.go;split
  .rename_i K4;have hm:(lo+hi) / 2<xs.size:=by lia
   have hg:xs[(lo+hi) / 2]?=some xs[(lo+hi) / 2]:=XE hm;have hd:xs.getD ((lo+hi) / 2) j=xs[(lo+hi) / 2]:=by
    rw[Xy,hg];rfl
   dsimp only;rw[hd];split
   .rename_i hw;refine o4 hs j eL _ _ @a h2 @a (λk hk v hv=>?_) h5;by_cases NG:k=(lo+hi) / 2
    .rw[NG,hg]at hv;cases hv;exact hw
    .have:=hs.lt (show k<(lo+hi) / 2 by lia) hv hg;lia
   .rename_i hw;refine o4 hs j eL _ _ @a @a @a h4 (λk hk v hv=>?_);by_cases NG:k=(lo+hi) / 2
    .rw[NG,hg]at hv;cases hv;lia
    .have:=hs.lt (show(lo+hi) / 2<k by lia) hg hv;lia
  .exact⟨by lia,h4,λk hk=>h5 k @a⟩
def kB(hs:Up xs.toList)(j:Nat):Bel xs j (SetTable.below xs j):=
 o4 hs j xs.size 0 xs.size (Xw _) (WU _) @a (λk hk=>absurd hk @a) (λk hk v hv=>by
  have:=(Yq.mp hv).1;lia)
def xP(hs:Up xs.toList)(h:j∈xs.toList):xs[SetTable.below xs j]?=some j:=by
 have B:=kB hs j;obtain⟨k,hk,e⟩:=Y8.mp h;rw[W0]at hk;rw[XW]at e;have hg:xs[k]?=some j:=by rw[XE hk,e]
 have h1:SetTable.below xs j<=k:=Yy λhn=>by
  have:=B.lo k @a j hg;lia
 by_cases h2:SetTable.below xs j=k
 .rw[h2,hg]
 .have K4:SetTable.below xs j<xs.size:=by lia
  have ON:xs[SetTable.below xs j]?=some xs[SetTable.below xs j]:=XE K4;have h3:=hs.lt (show SetTable.below xs j<k by lia) ON hg;have h4:=B.hi _ (WU _) _ ON;lia
def uR(j:Nat):SetTable.has #[] j=false:=rfl
def uS{t:SetTable}(hs:Up t.place.toList)(h:j∈t.place.toList):∃i,t.slot j=.live i/\t.place[i]?=some j:=by
 have e:=xP hs h;refine⟨_,?_,e⟩;unfold SetTable.slot;dsimp only;rw[e,WV @t]
def xQ{t:SetTable}(hd:t.dummies = #[])(h:j∉t.place.toList):t.slot j=.empty:=by
 unfold SetTable.slot;dsimp only;rw[W6,hd,uR,W6 WT];intro e;have e:t.place[SetTable.below t.place j]?=some j:=by simpa using e
 exact h (by rw[Zu];exact abf e)
def ji{xs:Array Nat}(hs:Up xs.toList){a b j:Nat}(ha:xs[a]?=some j)(hb:xs[b]?=some j):a=b:=by
 rcases aaF a b with h|h|h
 .have:=hs.lt h ha hb;lia
 .exact h
 .have:=hs.lt h hb ha;lia
theorem jz(m:Nat):∀(k:Nat) (p:SetTable.Probe),(K7 m k p).dummy=p.dummy
 | 0,p=>rfl
 |k+1,p=>by
  rw[K7,jz m k];unfold NV;split <;> rfl
theorem p8{t:SetTable}{m:Nat}(hm:t.mask=m)(hs:Up t.place.toList)(hd:t.dummies = #[])(hashAt:Nat->Int)(h:Int):∀(n eL:Nat) (p:SetTable.Probe),p.dummy=none->n<eL->(∀i<n,(K7 m i p).j∈t.place.toList)->(K7 m n p).j∉t.place.toList->
  (SetTable.probe.go t hashAt h eL p=some (.empty (K7 m n p).j none)/\∀i<n,∀c,t.place[c]?=some (K7 m i p).j->hashAt c≠h)\/
  ∃i c,i<n/\t.place[c]?=some (K7 m i p).j/\hashAt c=h/\SetTable.probe.go t hashAt h eL p=some (.candidate (K7 m i p).j c (K7 m (i+1) p))/\∀i'<i,∀c',t.place[c']?=some (K7 m i' p).j->hashAt c'≠h
 | 0,eL+1,p,hp,_,_,hn=>by
  left;unfold SetTable.probe.go;have e:t.slot p.j=.empty:=xQ hd hn;rw[e];dsimp only;rw[hp];exact⟨rfl,λi hi=>absurd hi @a⟩
 |n+1,eL+1,p,hp,hf,hi,hn=>by
  obtain⟨c,e,hc⟩:=uS hs (hi 0 @a);have e:t.slot p.j=.live c:=e;have ea:t.advance p=NV m p:=by rw[sj,hm]
  unfold SetTable.probe.go;rw[e];dsimp only;by_cases hh:hashAt c=h
  .right;refine⟨0,c,by lia,hc,hh,?_,λi' M1=>absurd M1 @a⟩;rw[WV (Xx.mpr hh),ea];rfl
  .rw[W6 (λz=>hh (Xx.mp z)),ea];rcases p8 hm hs hd hashAt h n eL (NV m p) (by have:=jz m 1 p;exact this.trans hp) @a (λi Ue=>hi (i+1) @a) hn with⟨h1,h2⟩|⟨i,c',h1,h2,h3,h4,h5⟩
   .left;refine⟨h1,λi Ue c' OS=>?_⟩;cases i with
    |zero=>
     rw[ji hs OS hc];exact hh
    |succ i=>exact h2 i @a c' OS
   .right;refine⟨i+1,c',by lia,h2,h3,h4,λi' M1 c'' SF=>?_⟩;cases i' with
    |zero=>
     rw[ji hs SF hc];exact hh
    |succ i'=>exact h5 i' @a c'' SF
def LO(m:Nat)(h:Int):SetTable.Probe:=fr m (SetTable.bits h%(m+1),SetTable.bits h) none
structure Tb(t:SetTable)(es:List (Int×Wp))(m:Nat):Prop where
 ms:t.mask=m
 msk:NW m
 dm:t.dummies = #[]
 sz:t.place.size=es.length
 le:es.length<=m
 up:Up t.place.toList
 bd:∀j∈t.place.toList,j<=m
 rc:∀z∈t.place.toList.zip es,∃k,(K7 m k (LO m z.2.1)).j=z.1/\∀i<k,(K7 m i (LO m z.2.1)).j∈t.place.toList
def xR(m:Nat)(h:Int):(SetTable.bits h%(m+1),SetTable.bits h).2<2 ^ 64:=uP h
def Tb.free{t:SetTable}{m:Nat}(T:Tb t es m)(h:Int):∃n,n<10*(m+15)/\(K7 m n (LO m h)).j∉t.place.toList/\∀i<n,(K7 m i (LO m h)).j∈t.place.toList:=
 uQ T.msk (by rw[W0,T.sz];exact T.le) (xR m h) none
def uT(he:xs.toList=l)(hs:Up l)(hj:j∉l):Up (l.take (SetTable.below xs j)++j::l.drop (SetTable.below xs j)):=by
 subst he;have B:=kB hs j;have h1:∀a∈xs.toList.take (SetTable.below xs j),a<j:=λa ha=>by
  obtain⟨k,hk,e⟩:=Y8.mp ha;rw[XA,W0]at hk;rw[List.getElem_take,XW]at e;exact B.lo k @a a (by rw[XE @a,e])
 have h2:∀a∈xs.toList.drop (SetTable.below xs j),j<a:=λa ha=>by
  obtain⟨k,hk,e⟩:=Y8.mp ha;rw[Yo,W0]at hk;rw[List.getElem_drop,XW]at e;have h3:=B.hi (SetTable.below xs j+k) @a a (by rw[XE @a,e]);have h4:a≠j:=λz=>hj (by rw[<-z];exact Z9 ha)
  lia
 have hp:(xs.toList.take (SetTable.below xs j)++xs.toList.drop (SetTable.below xs j)).Pairwise (·< ·):=by
  rw[abg];exact hs
 rw[List.pairwise_append]at hp;unfold Up;rw[List.pairwise_append,Y1];refine⟨hp.1,⟨h2,hp.2.1⟩,λa ha b hb=>?_⟩;rcases WY.mp hb with rfl|hb
 .exact h1 a ha
 .exact hp.2.2 a ha b hb
def sk{α β:Type}{a:List α}{b:List β}(h:a.length=b.length)(p:Nat)(x:α)(y:β):(a.take p++x::a.drop p).zip (b.take p++y::b.drop p)=(a.zip b).take p++(x,y)::(a.zip b).drop p:=by
 rw[List.zip_append (by rw[XA,XA,h]),Y2,show(a.zip b).take p=(a.take p).zip (b.take p) from List.take_zipWith,show(a.zip b).drop p=(a.drop p).zip (b.drop p) from List.drop_zipWith]
def fO{α:Type}{l:List α}{p:Nat}{x z:α}:z∈l.take p++x::l.drop p<->z=x\/z∈l:=by
 rw[Xv,WY];constructor
 .rintro(h|h|h)
  .exact .inr (Zv h)
  .exact .inl h
  .exact .inr (Z9 h)
 .rintro(h|h)
  .exact .inr (.inl h)
  .rw[<-abg p l,Xv]at h;rcases h with h|h
   .exact .inl h
   .exact .inr (.inr h)
theorem Tb.put{t:SetTable}{m:Nat}(T:Tb t es.toList m)(h:Int)(x:Wp)(hn:(K7 m n (LO m h)).j∉t.place.toList)(hi:∀i<n,(K7 m i (LO m h)).j∈t.place.toList)(hj:(K7 m n (LO m h)).j<=m)(hle:es.size+1<=m):
  Tb (t.put (K7 m n (LO m h)).j).1 (SetTable.insertAt es (t.put (K7 m n (LO m h)).j).2 (h,x)).toList m:=by
 have sz:=T.sz;rw[W0]at sz;generalize hjj:(K7 m n (LO m h)).j=j at hn hj;have Lj:(t.put j).1.place.toList=t.place.toList.take (SetTable.below t.place j)++j::t.place.toList.drop (SetTable.below t.place j):=SetTable.toList_insertAt _ _ _;have QY:(SetTable.insertAt es (t.put j).2 (h,x)).toList=es.toList.take (SetTable.below t.place j)++(h,x)::es.toList.drop (SetTable.below t.place j):=SetTable.toList_insertAt _ _ _;have hl:∀{α:Type}(l:List α) (p:Nat) (y:α),(l.take p++y::l.drop p).length=l.length+1:=λl p y=>by
  rw[Xs,WX,XA,Yo];lia
 refine⟨T.ms,T.msk,?_,?_,?_,?_,?_,?_⟩
 .show(if SetTable.has t.dummies j then _ else t.dummies) = #[];rw[T.dm,uR,W6 WT]
 .rw[<-W0,Lj,QY,hl,hl,W0,W0,sz]
 .rw[QY,hl,W0];exact hle
 .rw[Lj];exact uT rfl T.up hn
 .intro a ha;rw[Lj,fO]at ha;rcases ha with rfl|ha
  .exact hj
  .exact T.bd a ha
 .intro z hz;rw[Lj,QY,sk (by rw[W0,W0,sz]),fO]at hz;rcases hz with rfl|hz
  .exact⟨n,hjj,λi My=>by rw[Lj,fO];exact .inr (hi i My)⟩
  .obtain⟨k,h1,h2⟩:=T.rc z hz;exact⟨k,h1,λi hik=>by rw[Lj,fO];exact .inr (h2 i hik)⟩
end ST
end NX
namespace NX
open PySem
namespace ST
def m9{m:Nat}(h:i<=m):SetTable.runEnd m i<=m:=by
 unfold SetTable.runEnd;split <;> lia
theorem zm(m:Nat):∀(k:Nat) (p:SetTable.Probe),p.j+p.more<=m->(K7 m k p).j<=m
 | 0,p,h=>Xz (aaW _ _) h
 |k+1,p,h=>by
  rw[K7];refine zm m k _ ?_;unfold NV;split
  .show p.j+1+(p.more-1)<=m;lia
  .have h1:(SetTable.leap m p.i p.perturb).1<=m:=by
    show(p.i*5+1+p.perturb / 32)%(m+1)<=m;have:=Nat.mod_lt (p.i*5+1+p.perturb / 32) (show 0<m+1 by lia);lia
   have h2:=m9 h1;show(SetTable.leap m p.i p.perturb).1+(SetTable.runEnd m (SetTable.leap m p.i p.perturb).1-(SetTable.leap m p.i p.perturb).1)<=m;lia
def o5(m k:Nat)(h:Int):(K7 m k (LO m h)).j<=m:=by
 have h1:SetTable.bits h%(m+1)<=m:=by
  have:=Nat.mod_lt (SetTable.bits h) (show 0<m+1 by lia);lia
 have h2:=m9 h1;refine zm m k _ ?_;show SetTable.bits h%(m+1)+(SetTable.runEnd m (SetTable.bits h%(m+1))-SetTable.bits h%(m+1))<=m;lia
noncomputable def eB(o:Array (Option Nat))(j:Nat):Bool:=(o.getD j (some 0)).isNone
theorem ng(m:Nat)(o:Array (Option Nat)):∀(eL i q:Nat),(∃l,l<eL/\eB o (lp m l (i,q)).1=true)->∃j,SetTable.layClean.free m o eL i q=some j/\eB o j=true/\∃k,(K7 m k (fr m (i,q) none)).j=j/\∀k'<k,eB o (K7 m k' (fr m (i,q) none)).j=false
 | 0,i,q,⟨l,hl,_⟩=>absurd hl @a
 |eL+1,i,q,⟨l,hl,hf⟩=>by
  unfold SetTable.layClean.free;have hre:i<=SetTable.runEnd m i:=by
   unfold SetTable.runEnd;split <;> lia
  have My:∀k,k<=SetTable.runEnd m i-i->(K7 m k (fr m (i,q) none)).j=i+k:=λk hk=>by
   rw[zi m k (fr m (i,q) none) hk];rfl
  cases e:(List.range (SetTable.runEnd m i+1-i)).find? λk=>(o.getD (i+k) (some 0)).isNone with
  |some k=>
   obtain⟨h1,h2,h3⟩:=List.find?_range_eq_some.mp e;have h2:=Xp.mp h2;refine⟨i+k,rfl,h1,k,My k @a,λk' MB=>?_⟩;rw[My k' @a];have:=h3 k' MB;simpa[eB] using this
  |none=>
   have hn:∀k,k<=SetTable.runEnd m i-i->eB o (i+k)=false:=λk hk=>by
    have:=Ye.mp e k (Xp.mpr @a);exact YO.mpr this
   have Ug:l≠0:=λz=>by
    subst z;have:=hn 0 @a;rw[acj]at this;have hf:eB o i=true:=hf;rw[this]at hf;cases hf
   obtain⟨l',rfl⟩:∃l',l=l'+1:=⟨l-1,by lia⟩
   obtain⟨j,h1,h2,k,h3,h4⟩:=ng m o eL (SetTable.leap m i q).1 (SetTable.leap m i q).2 ⟨l',by lia,hf⟩;have SG:=oZ m (SetTable.runEnd m i-i) (fr m (i,q) none) rfl;refine⟨j,h1,h2,(SetTable.runEnd m i-i+1)+k,?_,λk' MB=>?_⟩
   .rw[jy,SG];exact h3
   .by_cases NG:k'<=SetTable.runEnd m i-i
    .rw[My k' NG];exact hn k' NG
    .rw[show k'=(SetTable.runEnd m i-i+1)+(k'-(SetTable.runEnd m i-i+1)) by lia,jy,SG];exact h4 _ @a
noncomputable def own(o:Array (Option Nat))(l:List Nat):List (Nat×Nat):=l.filterMap λj=>(o.getD j none).map (j,·)
theorem lu(o:Array (Option Nat)):∀l:List Nat,(own o l).map (·.1)=l.filter λj=>(o.getD j none).isSome
 |[]=>rfl
 |j::l=>by
  have ih:=lu o l;unfold own at ih |-;cases e:o.getD j none with
  |none=>
   rw[Yi (by rw[e];rfl),ih,aaN (by rw[e];exact WT)]
  |some c=>
   rw[XZ (b:=(j,c)) (by rw[e];rfl),Xa,ih,aaO (by rw[e];rfl)]
def uU:(j,c)∈own o l<->j∈l/\o.getD j none=some c:=by
 unfold own;rw[YF];constructor
 .rintro⟨a,ha,e⟩;obtain⟨c',hc,e2⟩:=Xi.mp e;cases e2;exact⟨ha,hc⟩
 .rintro⟨h1,h2⟩;exact⟨j,h1,by rw[h2];rfl⟩
theorem lx:∀{l:List Nat},(∀j∈l,o'.getD j none=o.getD j none)->own o' l=own o l
 |[],_=>rfl
 |j::l,h=>by
  have ih:=lx λx hx=>h x (WK j hx)
  unfold own at ih |-;rw[Yr,Yr,ih,h j WJ]
def Bk(nd:l.Nodup){k:Nat}(hj:j∈l)(h0:o.getD j none=none)(h1:o'.getD j none=some k)(h2:∀i,i≠j->o'.getD i none=o.getD i none):(own o' l).Perm ((j,k)::own o l):=by
 obtain⟨a,b,rfl⟩:=List.append_of_mem hj;rw[Xl,Xf]at nd;obtain⟨_,⟨nb,_⟩,nab⟩:=nd;have ea:own o' a=own o a:=lx λi hi=>h2 i λz=>nab i hi j WJ z
 have eb:own o' b=own o b:=lx λi hi=>h2 i λz=>nb (by rw[<-z];exact hi)
 have e1:own o' (a++j::b)=own o' a++(j,k)::own o' b:=by
  unfold own;rw[Z4,XZ (b:=(j,k)) (by rw[h1];rfl)]
 have e2:own o (a++j::b)=own o a++own o b:=by
  unfold own;rw[Z4,Yi (by rw[h0];rfl)]
 rw[e1,e2,ea,eb];exact List.perm_middle
structure Ly(m:Nat)(P:List Int)(o:Array (Option Nat)):Prop where
 sz:o.size=m+1
 pm:((own o (List.range (m+1))).map (·.2)).Perm (List.range P.length)
 rc:∀j c,o.getD j none=some c->∃h,P[c]?=some h/\∃k,(K7 m k (LO m h)).j=j/\∀i<k,∃c',o.getD (K7 m i (LO m h)).j none=some c'
def ly(hs:j<o.size):eB o j = !(o.getD j none).isSome:=by
 unfold eB;rw[Xy,Xy,XE hs];cases o[j] <;> rfl
def Bl(h:eB o j=true):j<o.size:=Yy λhn=>by
 unfold eB at h;rw[Xy,Array.getElem?_eq_none @a]at h;cases h
def Ly.len{m:Nat}(L:Ly m P o):(own o (List.range (m+1))).length=P.length:=by
 have:=L.pm.length_eq;rw[WN,Xk]at this;exact this
def Bm{m:Nat}(hm:NW m)(L:Ly m P o)(hl:P.length<=m)(h:Int):∃j,SetTable.layClean.free m o (SetTable.turns m) (SetTable.bits h%(m+1)) (SetTable.bits h)=some j/\Ly m (P++[h]) (o.setIfInBounds j (some P.length)):=by
 obtain⟨s,hs,hn⟩:=m7 (m:=m) (L:=(own o (List.range (m+1))).map (·.1)) (by rw[WN,L.len];exact hl);have hsf:eB o s=true:=by
  rw[ly (by rw[L.sz];lia)];rw[lu,X0]at hn;cases e:(o.getD s none).isSome with
  |false=>rfl
  |true=>exact absurd ⟨Xp.mpr @a,e⟩ hn
 obtain⟨l,Qk,el⟩:=Ep hm (x:=(SetTable.bits h%(m+1),SetTable.bits h)) (uP h) hs;obtain⟨j,h1,h2,k,h3,h4⟩:=ng m o (SetTable.turns m) (SetTable.bits h%(m+1)) (SetTable.bits h) ⟨l,by unfold SetTable.turns;lia,by rw[el];exact hsf⟩;have U9:=Bl h2;have hjm:j<m+1:=by rw[<-L.sz];exact U9
 have h0:o.getD j none=none:=by
  rw[ly U9]at h2;cases e:o.getD j none with
  |none=>rfl
  |some c=>rw[e]at h2;cases h2
 have g1:(o.setIfInBounds j (some P.length)).getD j none=some P.length:=by
  rw[Xy,Array.getElem?_setIfInBounds_self_of_lt U9];rfl
 have g2:∀i,i≠j->(o.setIfInBounds j (some P.length)).getD i none=o.getD i none:=λi hi=>by
  rw[Xy,Xy,Array.getElem?_setIfInBounds_ne (Yj hi)]
 have mono:∀i,(∃c',o.getD i none=some c')->∃c',(o.setIfInBounds j (some P.length)).getD i none=some c':=λi Kz=>by
  obtain⟨c',hc⟩:=Kz;by_cases e:i=j
  .exact⟨_,by rw[e];exact g1⟩
  .exact⟨c',by rw[g2 i e];exact hc⟩
 refine⟨j,h1,by rw[Array.size_setIfInBounds];exact L.sz,?_,λi c hc=>?_⟩
 .have p:=(Bk List.nodup_range (Xp.mpr hjm) h0 g1 g2).map (·.2);rw[Xa]at p;refine p.trans ((L.pm.cons _).trans ?_);rw[Xs,Xb,abb];exact(aap _ _).symm
 .by_cases e:i=j
  .subst e;rw[g1]at hc;cases hc;refine⟨h,by rw[XH (WU _),aas];rfl,k,h3,λi' M1=>mono _ ?_⟩;have QZ:=h4 i' M1;have K4:(K7 m i' (LO m h)).j<o.size:=by
    have:=o5 m i' h;rw[L.sz];lia
   have QZ:eB o (K7 m i' (LO m h)).j=false:=QZ;rw[ly K4]at QZ;cases e2:o.getD (K7 m i' (LO m h)).j none with
   |none=>rw[e2]at QZ;cases QZ
   |some c=>exact⟨c,rfl⟩
  .rw[g2 i e]at hc;obtain⟨h',hp,k',SH,NG⟩:=L.rc i c hc;have Ma:=(WS.mp hp).1;exact⟨h',by rw[Xu Ma];exact hp,k',SH,λi' M1=>mono _ (NG i' M1)⟩
theorem qe{m:Nat}(hm:NW m):∀(r P:List Int) (o:Array (Option Nat)),Ly m P o->P.length+r.length<=m+1->∃o',Ly m (P++r) o'/\r.foldl (λacc h=>do
  let(owner,k) <-acc;let j <-SetTable.layClean.free m owner (SetTable.turns m) (SetTable.bits h%(m+1)) (SetTable.bits h)
  pure (owner.setIfInBounds j (some k),k+1)) (some (o,P.length))=some (o',(P++r).length)
 |[],P,o,L,_=>⟨o,by rw[Xe];exact L,by rw[Xe];rfl⟩
 |h::r,P,o,L,hl=>by
  rw[WX]at hl;obtain⟨j,h1,h2⟩:=Bm hm L @a h;obtain⟨o',h3,h4⟩:=qe hm r (P++[h]) _ h2 (by rw[Xs,Xb];lia);rw[XI]at h3 h4;refine⟨o',h3,?_⟩;rw[ZN];rw[Xs,Xb]at h4;have e:(do
   let(owner,k) <-some (o,P.length);let j <-SetTable.layClean.free m owner (SetTable.turns m) (SetTable.bits h%(m+1)) (SetTable.bits h)
   pure (owner.setIfInBounds j (some k),k+1))=some (o.setIfInBounds j (some P.length),P.length+1):=by
   show(SetTable.layClean.free m o (SetTable.turns m) (SetTable.bits h%(m+1)) (SetTable.bits h)).bind _=_;rw[h1];rfl
  rw[e];exact h4
def Bn(m:Nat):Ly m [] (Array.replicate (m+1) none):=by
 have h:∀j:Nat,(Array.replicate (m+1) (none:Option Nat)).getD j none=none:=λj=>by
  rw[Xy];cases e:(Array.replicate (m+1) (none:Option Nat))[j]? with
  |none=>rfl
  |some x=>
   obtain⟨h1,h2⟩:=Yq.mp e;rw[Array.getElem_replicate]at h2;rw[<-h2];rfl
 refine⟨Array.size_replicate,?_,λj c hc=>by rw[h j]at hc;cases hc⟩;have:own (Array.replicate (m+1) none) (List.range (m+1))=[]:=by
  unfold own;refine List.filterMap_eq_nil_iff.mpr λa _=>?_
  rw[h a];rfl
 rw[this];exact .refl _
def Bo{m:Nat}(hm:NW m)(fg mv:Nat)(led pl:Bool)(es:Array (Int×Wp))(hl:es.size<=m):∃t order,SetTable.laid m fg mv led pl (es.map (·.1))=some (t,order)/\Tb t (order.filterMap (es[·]?)).toList m/\(order.filterMap (es[·]?)).toList.Perm es.toList/\t.led=led/\t.moves=mv:=by
 have Va:(es.map (·.1)).toList.length=es.size:=by rw[W0,Array.size_map]
 obtain⟨o,L,e⟩:=qe hm (es.map (·.1)).toList [] _ (Bn m) (by
  rw[Va];show 0+_<=_;lia)
 rw[Zj]at L e;have Uh:(es.map (·.1)).toList=es.toList.map (·.1):=Array.toList_map;have Ss:SetTable.layClean m (es.map (·.1))=some o:=by
  unfold SetTable.layClean;rw[<-Array.foldl_toList];have e:List.foldl _ (some (Array.replicate (m+1) none,0)) (es.map (·.1)).toList=some (o,_):=e;exact Yp (Option.map (·.1)) e
 have hlen:=L.len;rw[Va]at hlen;have hc:∀z∈own o (List.range (m+1)),∃y,es[z.2]?=some y/\∃k,(K7 m k (LO m y.1)).j=z.1/\∀i<k,(K7 m i (LO m y.1)).j∈(own o (List.range (m+1))).map (·.1):=by
  rintro⟨j,c⟩ hz;obtain⟨h1,h2⟩:=uU.mp hz;obtain⟨h,hp,k,SH,NG⟩:=L.rc j c h2;rw[Uh,W2,Xi]at hp;obtain⟨y,hy,rfl⟩:=hp;refine⟨y,by rw[<-Zk];exact hy,k,SH,λi hi=>?_⟩;obtain⟨c',OS⟩:=NG i hi;exact YJ.mpr ⟨(_,c'),uU.mpr ⟨Xp.mpr (by have:=o5 m i y.1;lia),OS⟩,rfl⟩
 have hzip:∀(F:List (Nat×Nat)),(∀z∈F,∃y,es[z.2]?=some y)->((F.map (·.2)).filterMap (es[·]?)).length=F.length/\∀w∈(F.map (·.1)).zip ((F.map (·.2)).filterMap (es[·]?)),∃z∈F,w.1=z.1/\es[z.2]?=some w.2:=by
  intro F;induction F with
  |nil=>exact λ_=>⟨rfl,λw hw=>nomatch hw⟩
  |cons z F ih=>
   intro h;obtain⟨h1,h2⟩:=ih λx hx=>h x (WK _ hx)
   obtain⟨y,hy⟩:=h z WJ;have e:((z::F).map (·.2)).filterMap (es[·]?)=y::(F.map (·.2)).filterMap (es[·]?):=by
    rw[Xa,XZ (b:=y) hy]
   rw[e,WX,h1,WX,Xa,Y2];refine⟨rfl,λw hw=>?_⟩;rcases WY.mp hw with rfl|hw
   .exact⟨z,WJ,rfl,hy⟩
   .obtain⟨x,hx,g1,g2⟩:=h2 w hw;exact⟨x,WK _ hx,g1,g2⟩
 obtain⟨Ui,O0⟩:=hzip (own o (List.range (m+1))) λz hz=>by
  obtain⟨y,hy,_⟩:=hc z hz;exact⟨y,hy⟩
 have V4:((((own o (List.range (m+1))).map (·.2)).toArray).filterMap (es[·]?)).toList=((own o (List.range (m+1))).map (·.2)).filterMap (es[·]?):=by
  rw[Array.toList_filterMap]
 refine⟨{mask:=m,place:=((own o (List.range (m+1))).map (·.1)).toArray,dummies:=#[],finger:=fg,led:=led,moves:=mv,plain:=pl},((own o (List.range (m+1))).map (·.2)).toArray,?_,?_,?_,rfl,rfl⟩
 .unfold SetTable.laid;rw[Ss];rfl
 .rw[V4];refine⟨rfl,hm,rfl,?_,?_,?_,?_,?_⟩
  .show((own o (List.range (m+1))).map (·.1)).toArray.size=_;rw[WZ,WN,Ui]
  .rw[Ui,hlen];exact hl
  .show Up ((own o (List.range (m+1))).map (·.1));rw[lu];exact List.Pairwise.filter _ List.pairwise_lt_range
  .intro j hj;have hj:j∈(own o (List.range (m+1))).map (·.1):=hj;rw[lu]at hj;have:=Xp.mp (X0.mp hj).1;lia
  .intro w hw;obtain⟨z,hz,g1,g2⟩:=O0 w hw;obtain⟨y,hy,k,SH,NG⟩:=hc z hz;rw[g2]at hy;cases hy;exact⟨k,by rw[SH,g1],NG⟩
 .rw[V4];refine(L.pm.filterMap _).trans ?_;rw[Va,filterMap_getElem?_range]
end ST
end NX
namespace NX
open PySem
namespace ST
section
variable{prog:W1}{w:World}{K:Type}[DecidableEq K]{knd:KeyKind prog w K}{A:Uf}{E:Wp->WF->Prop}{s:WF}
theorem gU(hk:IsTupleKey knd s.heap ks a)(h:Q false s):wpAny @i A (ofAClassStatement 8 (.ref a)) Q E s:=by
 have hT:=hk.typeIs;obtain⟨o,items,n,ho,hc,hd,hi⟩:=hk;have hv:=hi.byValue;unfold ofAClassStatement;refine WI (YZ hT ?_);dsimp only;refine WI ?_;refine WO ?_;simp![Yb,Xt,YG];refine WI (X7 ho hd ?_);refine WI ?_;show wpAny _ _ (forIn items _ _) _ _ s;rw[<-Array.forIn_toList];refine Z6 _ (λaZ r s'=>r.1=none/\s'=s/\∀v∈aZ,carriedByValue v=true) _ ?_ ?_ _ _ ⟨rfl,rfl,hv⟩
 .rintro v aZ r s' ⟨hr,rfl,L4⟩;have e:ofAClassStatement 7 v=pure false:=by
   have:=L4 v WJ;cases v with
   |ref b=>cases this
   |_=>first|rfl|(unfold ofAClassStatement;rfl)
  rw[e];refine WI (WO ?_);simp![Xt,YG];exact WO ⟨rfl,rfl,λu O3=>L4 u (WK _ O3)⟩
 .rintro⟨r1,r2⟩ s' ⟨hr,rfl,_⟩;simp only at hr;subst hr;exact WO h
theorem nh(hk:IsTupleKey knd s.heap ks a)(h:∀b,Q b s):wpAny @i A (hashByValue 8 (.ref a)) Q E s:=by
 have hT:=hk.typeIs;obtain⟨o,items,n,ho,hc,hd,hi⟩:=hk;have hv:=hi.byValue;unfold hashByValue;refine WI (wpAny_specialOf hT F.slot_tuple_hash.lookup ?_);dsimp only;refine WI (X7 ho hd ?_);refine WI ?_;show wpAny _ _ (forIn items _ _) _ _ s;rw[<-Array.forIn_toList];refine Z6 _ (λaZ r s'=>s'=s/\∀v∈aZ,carriedByValue v=true) _ ?_ ?_ _ _ ⟨rfl,hv⟩
 .rintro v aZ r s' ⟨rfl,L4⟩;obtain⟨b,e⟩:∃b,hashByValue 7 v=pure b:=by
   have:=L4 v WJ;cases v with
   |ref b=>cases this
   |_=>exact⟨_,rfl⟩
  rw[e];refine WI (WO ?_);cases b with
  |false=>
   simp![X8,Zb];exact WO (WO (h _))
  |true=>
   simp![Yb,Xt,YG];exact WO ⟨rfl,λu O3=>L4 u (WK _ O3)⟩
 .rintro⟨r1,r2⟩ s' ⟨rfl,_⟩;cases r1 <;> exact WO (h _)
end
end ST
end NX
namespace NX
open PySem
namespace ST
section
variable{prog:W1}{w:World}{K:Type}[DecidableEq K]{knd:KeyKind prog w K}{A:Uf}{E:Wp->WF->Prop}{s:WF}
def Ent(knd:KeyKind prog w K)(h:UF)(e:Int×Wp)(k:List K):Prop:=∃b,e.2=.ref b/\IsTupleKey knd h k b/\e.1=tupleKeyHash knd k
theorem Bp{k:List K}(hk:IsTupleKey knd s.heap k b)(hl:∀y∈l,∃c k',y=.ref c/\IsTupleKey knd s.heap k' c)(h:Q false s):wpAny @i A (searchCouldBeSeen (.ref b) l) Q E s:=by
 unfold searchCouldBeSeen;refine WI ?_;refine Z6 _ (λaZ r s'=>r.1=none/\s'=s/\∀y∈aZ,∃c k',y=.ref c/\IsTupleKey knd s.heap k' c) _ ?_ ?_ _ _ ⟨rfl,rfl,hl⟩
 .rintro v aZ r s' ⟨hr,rfl,L4⟩;obtain⟨c,k',rfl,MB⟩:=L4 v WJ;have Ql:∀y∈aZ,∃c k',y=.ref c/\IsTupleKey knd s'.heap k' c:=λu O3=>L4 u (WK _ O3)
  dsimp only;split
  .exact WO ⟨rfl,rfl,Ql⟩
  .refine WI (wpAny_eqIsQuiet_tuple hk ?_);simp![Yb,Xt,YG];refine WI (wpAny_eqIsQuiet_tuple MB ?_);simp![Yb,Xt,YG];refine WI (gU hk ?_);simp![Xt,YG];refine WI (gU MB ?_);simp![Xt,YG];exact WO ⟨rfl,rfl,Ql⟩
 .rintro⟨r1,r2⟩ s' ⟨hr,rfl,_⟩;simp only at hr;subst hr;exact WO h
theorem Tb.fits{t:SetTable}{es:Array (Int×Wp)}{m:Nat}(T:Tb t es.toList m):t.fits es.size=true:=by
 have h1:=T.sz;have h2:=T.le;rw[W0]at h1 h2;unfold SetTable.fits SetTable.fill;rw[T.dm,T.ms,h1,WW];exact⟨X4 _,Xc (by show es.size+0<=m;lia)⟩
theorem Tb.stands{t:SetTable}{es:Array (Int×Wp)}{m:Nat}(T:Tb t es.toList m):t.gaveWay=false:=by
 unfold SetTable.gaveWay;rw[T.ms];rcases T.msk with rfl|rfl|rfl <;> rfl
theorem uV(hu:A.units<cLine){t:SetTable}{m:Nat}{k:List K}(ho:s.heap.get? a=some o)(hd:o.data=.set es ep t)(T:Tb t es.toList m)(Q0:∀e∈es.toList,∃k',Ent knd s.heap e k')(hk:IsTupleKey knd s.heap k b)(hN:N<10*(m+15))(OX:(K7 m N (LO m (tupleKeyHash knd k))).j∉t.place.toList)(My:∀i<N,(K7 m i (LO m (tupleKeyHash knd k))).j∈t.place.toList):
  ∀(r st F:Nat) (sd:Option SetTable.Probe),st+r=N->r<F->sd.getD (t.probeStart (tupleKeyHash knd k))=K7 m st (LO m (tupleKeyHash knd k))->
  (∀(i c:Nat) (e:Int×Wp),st<=i->i<N->t.place[c]?=some (K7 m i (LO m (tupleKeyHash knd k))).j->es[c]?=some e->Ent knd s.heap e k->Q (.there none) s)->
  ((∀(i c:Nat) (e:Int×Wp),st<=i->i<N->t.place[c]?=some (K7 m i (LO m (tupleKeyHash knd k))).j->es[c]?=some e->¬ Ent knd s.heap e k)->Q (.free (K7 m N (LO m (tupleKeyHash knd k))).j false) s)->
  wpAny @i A (setSearchFrom a (.ref b) (tupleKeyHash knd k) true F sd) Q E s:=by
 intro r;induction r using Nat.strongRecOn with
 |ind r ih=>
  intro st F sd Mf hF Of h1 h2;obtain⟨F,rfl⟩:∃F',F=F'+1:=⟨F-1,by lia⟩
  have Vb:t.place.size=es.size:=by have:=T.sz;rwa [W0]at this
  have M9:∀i,K7 m i (K7 m st (LO m (tupleKeyHash knd k)))=K7 m (st+i) (LO m (tupleKeyHash knd k)):=λi=>(jy m st i _).symm
  unfold setSearchFrom;refine WI (Zn ho hd T.fits ?_);dsimp only;rw[T.stands];simp![Xt,YG];rw[Of];have hent':∀e∈es.toList,e.1=tupleKeyHash knd k->∃k',Ent knd s.heap e k':=λe he _=>Q0 e he
  have SI:∀{Q':Bool->WF->Prop},Q' false s->wpAny @i A (searchCouldBeSeen (.ref b) (List.map (λx=>x.2) (Array.filter (λx=>x.1==tupleKeyHash knd k) es).toList)) Q' E s:=λ{Q'} hq=>Bp hk (λy hy=>by
   obtain⟨e,he,rfl⟩:=YJ.mp hy;rw[Array.toList_filter]at he;obtain⟨k',c,e1,e2,_⟩:=Q0 e (X0.mp he).1;exact⟨c,k',e1,e2⟩) hq
  have V5:∀e,Ent knd s.heap e k->e.1=tupleKeyHash knd k:=λe ⟨_,_,_,h⟩=>h
  generalize hgH:tupleKeyHash knd k=H at *;have hP:SetTable.probe t (λi=>(es[i]?.map (·.1)).getD 0) H (K7 m st (LO m H))=SetTable.probe.go t (λi=>(es[i]?.map (·.1)).getD 0) H (10*SetTable.turns m) (K7 m st (LO m H)):=by
   unfold SetTable.probe;rw[T.ms]
  have QY:∀{c j:Nat},t.place[c]?=some j->∃e,es[c]?=some e/\e∈es.toList:=λ{c j} hc=>by
   have K4:=(Yq.mp hc).1;rw[Vb]at K4;exact⟨es[c],XE K4,by rw[Zu];exact Array.getElem_mem K4⟩
  rcases p8 T.ms T.up T.dm (λi=>(es[i]?.map (·.1)).getD 0) H r (10*SetTable.turns m) (K7 m st (LO m H)) (by rw[jz];rfl) (by unfold SetTable.turns;lia) (λi hi=>by rw[M9];exact My _ @a) (by rw[M9,Mf];exact OX) with⟨p1,p2⟩|⟨i,c,p1,p2,p3,p4,p5⟩
  .rw[M9,Mf]at p1;rw[p1]at hP;erw [hP];dsimp only;refine WO (h2 λi c e hi1 Ue hc he hE=>?_);have:=p2 (i-st) @a c (by rw[M9,show st+(i-st)=i by lia];exact hc);rw[he]at this;exact this (V5 e hE)
  .rw[M9]at p2 p4;rw[M9]at p4;rw[p4]at hP;erw [hP];dsimp only;obtain⟨e,he,hem⟩:=QY p2;rw[he]at p3;have p3:e.1=H:=p3;obtain⟨k',y,ey,MB,eh⟩:=Q0 e hem;have tail:wpAny @i A (do
     let equal <-holding [.ref y] (eqBool (.ref y) (.ref b));let __x <-setState a
     if(true&&equal)=true then pure (SetFound.there none)
      else
       match __x.2.2.sameMemory t.moves t.mask with
       |some same=>
        match if same=true then __x.2.2.slot (K7 m (st+i) (LO m H)).j else SetTable.Slot.empty with
        |SetTable.Slot.live i'=>
         match __x.1[i']? with
         |some (_,y')=>do
          let same <-isSame y' (.ref y);let still <-pure (if same=true then some i' else none);match still with
           |none=>do
            rule "set.search.anew"
            setSearchFrom a (Value.ref b) H true F none
           |some i'=>
            if equal=true then pure (SetFound.there (some i'))
            else setSearchFrom a (Value.ref b) H true F (some (K7 m (st+(i+1)) (LO m H)))
         |none=>do
          let still <-pure none;match still with
           |none=>do
            rule "set.search.anew"
            setSearchFrom a (Value.ref b) H true F none
           |some i'=>
            if equal=true then pure (SetFound.there (some i'))
            else setSearchFrom a (Value.ref b) H true F (some (K7 m (st+(i+1)) (LO m H)))
        |x=>do
         let still <-pure none;match still with
          |none=>do
           rule "set.search.anew"
           setSearchFrom a (Value.ref b) H true F none
          |some i'=>
           if equal=true then pure (SetFound.there (some i'))
           else setSearchFrom a (Value.ref b) H true F (some (K7 m (st+(i+1)) (LO m H)))
       |x=>unsupported "set.changed-during-lookup:is-the-new-block-at-the-old-address") Q E s:=by
    refine WI (Yl (wpAny_eqBool_tuple hu MB hk ?_));refine WI (Zn ho hd T.fits ?_);by_cases Og:k'=k
    .subst Og;rw[Xc rfl];simp![Yf,Zb];exact WO (h1 (st+i) c e @a @a p2 he ⟨y,ey,MB,by rw[p3,<-hgH]⟩)
    .rw[Xn Og];have e1:t.sameMemory t.moves t.mask=some true:=by
      unfold SetTable.sameMemory;rw[WV (by exact X4 _)]
     obtain⟨c',e2,e3⟩:=uS T.up (My (st+i) @a);have ec:c'=c:=ji T.up e3 p2;subst ec;simp![ZA,Xt,YG,e1,Zb,e2,he];obtain⟨V6,ev⟩:=e;have ey:ev=.ref y:=ey;subst ey;dsimp only;have Mi:isSame (.ref y) (.ref y)=pure true:=by
      unfold isSame;dsimp only;rw[WV (by exact X4 _)]
     rw[Mi];refine WI (WO (WI (WO ?_)));simp![Zb];refine ih (r-(i+1)) @a (st+(i+1)) F _ @a @a rfl (λi' c' e' a1 a2=>h1 i' c' e' @a a2) (λQe=>h2 λi' c' e' a1 a2 a3 a4=>?_);by_cases M1:st+(i+1)<=i'
     .exact Qe i' c' e' M1 a2 a3 a4
     .intro hE;by_cases Ue:i'=st+i
      .subst Ue;rw[ji T.up a3 p2,he]at a4;cases a4;obtain⟨y2,g1,g2,_⟩:=hE;cases g1;exact Og (MB.inj g2)
      .have:=p5 (i'-st) @a c' (by rw[M9,show st+(i'-st)=i' by lia];exact a3);rw[a4]at this;exact this (V5 e' hE)
   cases hld:t.led with
   |true=>
    simp![Yb,Xt,YG,he];obtain⟨V6,ev⟩:=e;have ey:ev=.ref y:=ey;subst ey;exact tail
   |false=>
    simp![X8,Zb];refine WI (SI ?_);simp![Xt,YG,he];obtain⟨V6,ev⟩:=e;have ey:ev=.ref y:=ey;subst ey;exact tail
end
end ST
end NX
namespace NX
open PySem
namespace ST
section
variable{prog:W1}{w:World}{K:Type}[DecidableEq K]{knd:KeyKind prog w K}{A:Uf}{E:Wp->WF->Prop}{s:WF}
structure SetT(knd:KeyKind prog w K)(h:UF)(a:WP)(L:List (List K))(o:Obj)(es:Array (Int×Wp))(ep:Nat)(t:SetTable)(m:Nat):Prop where
 ho:h.get? a=some o
 ex:o.ExactSet
 hd:o.data=.set es ep t
 T:Tb t es.toList m
 few:es.size*5<m*3
 e1:∀e∈es.toList,∃k∈L,Ent knd h e k
 e2:∀k∈L,∃e∈es.toList,Ent knd h e k
 sz:es.size=L.length
 nd:L.Nodup
def eC(knd:KeyKind prog w K)(h:UF)(a:WP)(L:List (List K)):Prop:=∃o es ep t m,SetT knd h a L o es ep t m
theorem ni{t:SetTable}{k:List K}(x:IsTupleKey knd h k b)(ho:h.get? a=some o)(hd:o.data=.set es ep t)(hs:Heap.SameBut a h h'):IsTupleKey knd h' k b:=by
 obtain⟨o',items,n,NQ,hc,OR,hi⟩:=x;have LB:b≠a:=by
  rintro rfl;obtain rfl:o'=o:=Xj (NQ.symm.trans ho);rw[hd]at OR;exact nomatch OR
 exact⟨o',items,n,(hs.2 b LB).trans NQ,hc,OR,hi⟩
theorem Ent.keeps{t:SetTable}{k:List K}(x:Ent knd h e k)(ho:h.get? a=some o)(hd:o.data=.set es ep t)(hs:Heap.SameBut a h h'):Ent knd h' e k:=by
 obtain⟨b,h1,h2,h3⟩:=x;exact⟨b,h1,ni h2 ho hd hs,h3⟩
theorem Ent.inj{h:UF}{e:Int×Wp}{k k':List K}(x:Ent knd h e k)(y:Ent knd h e k'):k=k':=by
 obtain⟨b,h1,h2,_⟩:=x;obtain⟨c,g1,g2,_⟩:=y;rw[h1]at g1;cases g1;exact h2.inj g2
theorem Tb.plain{t:SetTable}{m:Nat}(T:Tb t es m)(p:Bool):Tb {t with plain:=p} es m:=⟨T.ms,T.msk,T.dm,T.sz,T.le,T.up,T.bd,T.rc⟩
theorem xS{t:SetTable}{m:Nat}(ho:s.heap.get? a=some o)(ex:o.ExactSet)(hd:o.data=.set es ep t)(T:Tb t es.toList m)(e1:∀e∈es.toList,∃k∈L,Ent knd s.heap e k)(e2:∀k∈L,∃e∈es.toList,Ent knd s.heap e k)(sz:es.size=L.length)(nd:L.Nodup)(hw:SetTable.sizeAbove wanted=m'+1)(R3:NW m')(few:es.size*5<m'*3)(h:∀h',Heap.SameBut a s.heap h'->eC knd h' a L->Q () {s with heap:=h'}):wpAny @i A (setRelay a wanted) Q E s:=by
 obtain⟨t',order,l1,l2,l3,_,_⟩:=Bo R3 t.finger (t.movedTo m') t.led t.plain es @a;have hsz:(order.filterMap (es[·]?)).size=es.size:=by rw[<-W0,l3.length_eq,W0]
 have Vc:t.relaid (es.map (·.1)) wanted=some (t',order):=by
  unfold SetTable.relaid;rw[hw,show m'+1-1=m' by lia];exact l1
 have SJ:m'<=127:=by rcases R3 with rfl|rfl|rfl <;> lia
 have Vd:¬ SetTable.sizeAbove wanted>sizeLine:=by
  rw[hw,XR];lia
 unfold setRelay;refine WI (Zn ho hd T.fits ?_);dsimp only;rw[W6 Vd,Vc];refine WI ?_;show wpAny @i A (if(order.filterMap (es[·]?)).size != es.size then(unsupported "internal:set-table-lost-an-element" >>= λ_=>pure (order.filterMap (es[·]?),t')) else pure (order.filterMap (es[·]?),t')) _ E s;rw[W6 (by rw[hsz,ZX];exact WT)];refine WO ?_;dsimp only;have S:∀m0,es.size*5<m0*3->True:=λ_ _=>trivial
 refine wpAny_storeSet_of ho hd ?_ (by rw[hsz,XR];lia);have hg:(s.heap.update a (Obj.putSet (order.filterMap (es[·]?)) t')).get? a=some {o with data:=.set (order.filterMap (es[·]?)) (ep+1) t'}:=by
  have:=Yz (Obj.putSet (order.filterMap (es[·]?)) t') ho (by rw[putSet_of _ t' hd];rfl);rw[putSet_of _ t' hd]at this;exact this
 have NY:=ZH s.heap a (Obj.putSet (order.filterMap (es[·]?)) t');refine h _ NY ⟨_,_,_,t',m',hg,ex,rfl,l2,by rw[hsz];exact few,λe he=>?_,λk hk=>?_,by rw[hsz];exact sz,nd⟩
 .obtain⟨k,hk,hE⟩:=e1 e (l3.mem_iff.mp he);exact⟨k,hk,hE.keeps ho hd NY⟩
 .obtain⟨e,he,hE⟩:=e2 k hk;exact⟨e,l3.mem_iff.mpr he,hE.keeps ho hd NY⟩
theorem Bq{t:SetTable}{m:Nat}(S:SetT knd s.heap a L o es ep t m)(T2:Tb t2 Mi.toList m)(Qm:Mi.size=es.size+1)(hL:L.length<76)(e1:∀e∈Mi.toList,∃k∈L',Ent knd s.heap e k)(e2:∀k∈L',∃e∈Mi.toList,Ent knd s.heap e k)(sz:Mi.size=L'.length)(nd:L'.Nodup)(h:∀h',Heap.SameBut a s.heap h'->eC knd h' a L'->Q true {s with heap:=h'}):
  wpAny @i A (storeSet a Mi t2 >>= λ_=>if(!false&&t2.tooFull)=true then(setRelay a (SetTable.grown (es.size+1)) >>= λ_=>pure true) else pure true) Q E s:=by
 have Mg:=S.few;have V7:=S.T.msk;have hsz:=S.sz;have Qn:t2.fill=es.size+1:=by
  have:=T2.sz;rw[W0]at this;unfold SetTable.fill;rw[T2.dm,this,Qm];rfl
 have SJ:m<=127:=by rcases V7 with rfl|rfl|rfl <;> lia
 refine WI (wpAny_storeSet_of S.ho S.hd ?_ (by rw[Qm,XR];lia));have hg:(s.heap.update a (Obj.putSet Mi t2)).get? a=some {o with data:=.set Mi (ep+1) t2}:=by
  have:=Yz (Obj.putSet Mi t2) S.ho (by rw[putSet_of _ t2 S.hd];rfl);rw[putSet_of _ t2 S.hd]at this;exact this
 have NY:=ZH s.heap a (Obj.putSet Mi t2);have OL:∀e∈Mi.toList,∃k∈L',Ent knd (s.heap.update a (Obj.putSet Mi t2)) e k:=λe he=>let⟨k,hk,hE⟩:=e1 e he;⟨k,hk,hE.keeps S.ho S.hd NY⟩
 have NT:∀k∈L',∃e∈Mi.toList,Ent knd (s.heap.update a (Obj.putSet Mi t2)) e k:=λk hk=>let⟨e,he,hE⟩:=e2 k hk;⟨e,he,hE.keeps S.ho S.hd NY⟩
 by_cases hf:t2.tooFull=true
 .rw[hf];simp![X8,Yf,Zb];unfold SetTable.tooFull at hf;rw[W3,Qn,T2.ms]at hf;obtain⟨m',R3,hw,SK⟩:∃m',NW m'/\SetTable.sizeAbove (SetTable.grown (es.size+1))=m'+1/\(es.size+1)*5<m'*3:=by
   rcases V7 with rfl|rfl|rfl
   .have:es.size=4:=by lia
    rw[this];exact⟨31,.inr (.inl rfl),by decide,by decide⟩
   .have:es.size=18:=by lia
    rw[this];exact⟨127,.inr (.inr rfl),by decide,by decide⟩
   .lia
  refine WI (xS hg S.ex rfl T2 OL NT sz nd hw R3 (by rw[Qm];exact SK) λh' hsb' Qo=>WO (h h' (NY.trans hsb') Qo))
 .rw[YO.mpr hf];simp![X8,ZA,Xt,YG];unfold SetTable.tooFull at hf;rw[W3,Qn,T2.ms]at hf;exact WO (h _ NY ⟨_,_,_,t2,m,hg,S.ex,rfl,T2,by rw[Qm];lia,OL,NT,sz,nd⟩)
theorem Er(hu:A.units<cLine){k:List K}(hS:eC knd s.heap a L)(hk:IsTupleKey knd s.heap k b)(hL:L.length<76)(h:∀h',Heap.SameBut a s.heap h'->eC knd h' a (if k∈L then L else k::L)->Q (!decide (k∈L)) {s with heap:=h'}):wpAny @i A (setAddHashed a (.ref b) (tupleKeyHash knd k)) Q E s:=by
 obtain⟨o,es,ep,t,m,S⟩:=hS;obtain⟨N,hN,OX,My⟩:=S.T.free (tupleKeyHash knd k);unfold setAddHashed setAddHashedIn;refine Yl (WI (Zn S.ho S.hd S.T.fits ?_));dsimp only;have hbs:byScan (.ref b) es=false:=rfl;rw[hbs];simp![Xt,YG];unfold setSearch;refine WI (uV hu S.ho S.hd S.T (λe he=>let⟨k',_,hE⟩:=S.e1 e he;⟨k',hE⟩) hk hN OX My N 0 100000 none @a ?_ ?_ ?_ ?_)
 .rcases S.T.msk with rfl|rfl|rfl <;> lia
 .show t.probeStart _=_;rw[xN,S.T.ms];rfl
 .intro i c e _ hi hc he hE;have hm:e∈es.toList:=by rw[Zu];exact abf he
  obtain⟨k',MB,hE'⟩:=S.e1 e hm;have Qp:k∈L:=by rw[hE.inj hE'];exact MB
  dsimp only;have:=h s.heap (Heap.SameBut.refl a s.heap) (by rw[WV Qp];exact⟨o,es,ep,t,m,S⟩);rw[Xc Qp]at this;exact WO this
 .intro Qe;have Vb:t.place.size=es.size:=by have:=S.T.sz;rwa [W0]at this
  have Qp:k∉L:=λQp=>by
   obtain⟨e,he,hE⟩:=S.e2 k Qp;obtain⟨c,hc,ec⟩:=Y8.mp he;rw[W0]at hc;rw[XW]at ec;have Nl:c<t.place.size:=by rw[Vb];exact hc
   have hz:(t.place[c],e)∈t.place.toList.zip es.toList:=by
    rw[Y8];refine⟨c,by rw[Zl,W0,W0];lia,?_⟩;rw[List.getElem_zip,XW,XW,ec]
   obtain⟨kk,h1,h2⟩:=S.T.rc _ hz;have hh:e.1=tupleKeyHash knd k:=by
    obtain⟨_,_,_,hh⟩:=hE;exact hh
   dsimp only at h1 h2;rw[hh]at h1 h2;have hkN:kk<N:=Yy λhn=>by
    by_cases hq:kk=N
    .rw[hq]at h1;exact OX (by rw[h1,Zu];exact Array.getElem_mem Nl)
    .exact OX (h2 N @a)
   exact Qe kk c e @a hkN (by rw[h1];exact XE Nl) (by rw[XE hc,ec]) hE
  rw[W6 Qp,Xn Qp]at h;dsimp only;refine WI (Zn S.ho S.hd S.T.fits ?_);dsimp only;have hle:es.size+1<=m:=by
   have:=S.few;have:=S.T.msk;rcases this with rfl|rfl|rfl <;> lia
  have hp:=S.T.put (tupleKeyHash knd k) (.ref b) OX My (o5 m N _) hle;have O4:(SetTable.insertAt es (t.put (K7 m N (LO m (tupleKeyHash knd k))).j).2 (tupleKeyHash knd k,Value.ref b)).toList.Perm ((tupleKeyHash knd k,Value.ref b)::es.toList):=by
   refine(SetTable.insertAt_perm _ _ _).trans ?_;rw[Array.toList_push];exact aap _ _
  generalize hj:(K7 m N (LO m (tupleKeyHash knd k))).j=j at *;generalize SetTable.insertAt es (t.put j).2 (tupleKeyHash knd k,Value.ref b)=Mi at *;generalize (t.put j).1=t1 at *;have Qm:Mi.size=es.size+1:=by rw[<-W0,O4.length_eq,WX,W0]
  have V8:Ent knd s.heap (tupleKeyHash knd k,Value.ref b) k:=⟨b,rfl,hk,rfl⟩
  have fin:∀t2,Tb t2 Mi.toList m->wpAny @i A (storeSet a Mi t2 >>= λ_=>if(!false&&t2.tooFull)=true then(setRelay a (SetTable.grown (es.size+1)) >>= λ_=>pure true) else pure true) Q E s:=λt2 T2=>Bq (L':=k::L) S T2 Qm hL (λe he=>by
   rcases WY.mp (O4.mem_iff.mp he) with rfl|he
   .exact⟨k,WJ,V8⟩
   .obtain⟨k',MB,hE⟩:=S.e1 e he;exact⟨k',WK _ MB,hE⟩) (λk' MB=>by
   rcases WY.mp MB with rfl|MB
   .exact⟨_,O4.mem_iff.mpr WJ,V8⟩
   .obtain⟨e,he,hE⟩:=S.e2 k' MB;exact⟨e,O4.mem_iff.mpr (WK _ he),hE⟩) (by rw[Qm,WX,S.sz]) (Xf.mpr ⟨Qp,S.nd⟩) h
  split
  .refine WI (nh hk λbv=>?_);cases bv with
   |true=>exact fin t1 hp
   |false=>exact fin _ (hp.plain false)
  .refine WI (WO ?_);exact fin t1 hp
end
end ST
end NX
namespace NX
open PySem
namespace ST
section
variable{prog:W1}{w:World}{K:Type}[DecidableEq K]{knd:KeyKind prog w K}{A:Uf}
noncomputable def met(kf:Nat->List K):Nat->List (List K)
 | 0=>[]
 |i+1=>if kf i∈met kf i then met kf i else kf i::met kf i
theorem o6(kf:Nat->List K):∀i,(met kf i).length<=i
 | 0=>WU _
 |i+1=>by
  have:=o6 kf i;rw[met];split
  .lia
  .rw[WX];lia
theorem nj(x:eC knd h a L)(e:∀o,h.get? a=some o->h'.get? a=some o)(ek:∀k b,IsTupleKey knd h k b->IsTupleKey knd h' k b):eC knd h' a L:=by
 obtain⟨o,es,ep,t,m,S⟩:=x;have up:∀{z k},Ent knd h z k->Ent knd h' z k:=λ⟨b,h1,h2,h3⟩=>⟨b,h1,ek _ b h2,h3⟩
 exact⟨o,es,ep,t,m,e o S.ho,S.ex,S.hd,S.T,S.few,λz hz=>let⟨k,hk,hE⟩:=S.e1 z hz;⟨k,hk,up hE⟩,λk hk=>let⟨z,hz,hE⟩:=S.e2 k hk;⟨z,hz,up hE⟩,S.sz,S.nd⟩
theorem gf{h h':UF}{fp:List WP}(hm:∀b o,b∉fp->h.get? b=some o->h'.get? b=some o)(Qe:∀b∈fp,∀k,¬ IsTupleKey knd h k b){k:List K}{b:WP}(x:IsTupleKey knd h k b):IsTupleKey knd h' k b:=by
 have hb:b∉fp:=λhb=>Qe b hb k x
 obtain⟨o,items,n,ho,aZ⟩:=x;exact⟨o,items,n,hm b o hb ho,aZ⟩
variable{R:Result->WF->Prop}{I:WP}{fp wr:List WP}{G:Array GenState->Array GenState->Prop}{n:Nat}{P:Nat->Wp->Prop}{St:Nat->WF->Prop}
theorem HZ(W:WalksS prog w A.in1 I fp wr G n P St)(hu:A.in1.units<cLine){S:WP}(V9:S∉fp)(hw:∀i s,St i s->∀b∈wr,∀k,¬ IsTupleKey knd s.heap k b)(kf:Nat->List K)(hn:n<=76):
  ∀(left i:Nat) (s:WF),n-i=left->i<=n->St i s->eC knd s.heap S (met kf i)->(∀j v,P j v->∃b,v=.ref b/\IsTupleKey knd s.heap (kf j) b)->
  (∀s',Moved (S::wr) G s s'->eC knd s'.heap S (met kf n)->R (.ok (.ret .none)) s')->codeAny @i A (.builtin "set.update.loop" ⟨[.ref S,.ref I],[]⟩) R s:=by
 have sw:S∉wr:=λz=>V9 (W.sub _ z)
 have more:∀b∈wr,b∈S::wr:=λb z=>.tail _ z
 intro left;induction left with
 |zero=>
  intro i s e0 e1 st hS hP hR;obtain rfl:i=n:=by lia
  refine YA ZC (Y7 YK _▸?_);refine WI (m:=pyNext (.ref I)) (W.done s _ _ st λs' hm=>?_);refine WO (hR s' (hm.mono more) (nj hS (λo e=>hm.heap S o sw e) λk b x=>gf hm.heap (hw i s st) x))
 |succ left ih=>
  intro i s e0 e1 st hS hP hR;refine YA ZC (Y7 YK _▸?_);refine WI (m:=pyNext (.ref I)) (W.item i s _ _ @a st λv s' pv L3 hm=>?_);obtain⟨b,rfl,hb⟩:=hP i v pv;have kp:∀k b,IsTupleKey knd s.heap k b->IsTupleKey knd s'.heap k b:=λk b x=>gf hm.heap (hw i s st) x
  have Qo:=nj hS (λo e=>hm.heap S o sw e) kp;have Wa:=kp _ _ hb;refine WI (m:=holding [Value.ref b] (setAdd S (.ref b))) (Yl ?_);unfold setAdd;refine Yl (WI (wpAny_pyHash_tuple hu Wa ?_));have hlen:=o6 kf i;refine Er (s:={s' with toks:=s'.toks+((kf i).length+1)}) hu Qo Wa @a λh' NY Ve=>?_
  have Ve:eC knd h' S (met kf (i+1)):=by rw[met];exact Ve
  obtain⟨o,es,ep,t,m,SS⟩:=Qo;have kp2:∀k b,IsTupleKey knd s'.heap k b->IsTupleKey knd h' k b:=λk b x=>ni x SS.ho SS.hd NY
  refine WO ⟨aac YK _,ih (i+1) _ @a @a (W.frame _ s' _ _ L3 @a λb hb o e=>?_) Ve (λj v pj=>?_) λs2 O5 hS3=>?_⟩
  .exact(NY.2 b λz=>V9 (z▸hb)).trans e
  .obtain⟨b,e,x⟩:=hP j v pj;exact⟨b,e,kp2 _ _ (kp _ _ x)⟩
  .refine hR s2 (Moved.trans W.gtrans ((hm.mono more).then_heap @a λb o hb e=>?_) O5) hS3;exact(NY.2 b λz=>hb (z▸.head _)).trans e
end
end ST
end NX
namespace NX
open PySem
namespace ST
section
variable{prog:W1}{w:World}{K:Type}[DecidableEq K]{knd:KeyKind prog w K}{A:Uf}{E:Wp->WF->Prop}{s:WF}
abbrev xT(led:Bool):Obj:={cls:=.type "set",dict:=none,data:=.set #[] 0 (.fresh 0 0 led)}
theorem so(led:Bool)(e:h.get? a=some (xT led)):eC knd h a []:=
 ⟨_,#[],0,.fresh 0 0 led,7,e,⟨rfl,rfl,rfl⟩,rfl,⟨rfl,.inl rfl,rfl,rfl,Xw _,List.Pairwise.nil,(λ_ h=>nomatch h),(λ_ h=>nomatch h)⟩,by decide,(λ_ h=>nomatch h),(λ_ h=>nomatch h),rfl,.nil⟩
set_option maxRecDepth 100000 in
set_option maxHeartbeats 8000000 in
theorem Ia(hh:A.handled=none)(hu:A.units+8<cLine)(hl:s.heap.IsList l items)(hi:∀i v,items[i]?=some v->∃b,v=.ref b/\IsTupleKey knd s.heap (kf i) b)(hb:items.size<=76)(h:∀(h':UF) (tk:Nat),eC knd h' s.heap.objs.size (met kf items.size)->(∀b o,s.heap.get? b=some o->h'.get? b=some o)->Q (.ref s.heap.objs.size) {s with heap:=h',toks:=tk}):wpAny @i A (call (.type "set") [.ref l]) Q E s:=by
 have ft:=F.called_set;obtain⟨c,tl,hmro⟩:=ft.mro;have g1:=ft.made;have g2:=ft.sub;have g3:=ft.notType;have g4:=ft.canCreate;have g5:=F.typeCall_set_1 (.ref l);refine wpAny_call (codeAny_of_tree ?_);show wpAny _ _ (callAny (.type "set") _) _ _ _;refine WO ⟨aar _ (by decide +kernel),YA F.entry_type_call ?_⟩;rw[Around.under_plain (weight_type_call_type "set" [.ref l] []) rfl];repeat (any_goals (first|assumption|wp_step))
 refine Z3 (code_set_new_1 (.ref l) (E:=E) (Q₁:=λv s1=>∃led:Bool,v=.ref s.heap.objs.size/\s1={s with heap:=s.heap.push (xT led)}) λled=>⟨led,rfl,rfl⟩) λr s1 hr=>?_
 match r,hr with
 | .error e,hr=>exact hr
 | .ok (.ret v),hr=>
  obtain⟨led,rfl,rfl⟩:=hr;have gS:(s.heap.push (xT led)).get? s.heap.objs.size=some (xT led):=W7 _ rfl;have tS:Shared.TypeIs {s with heap:=s.heap.push (xT led)} (.ref s.heap.objs.size) "set":=⟨_,gS,rfl⟩
  have g6:=ft.init.lookup;have g7:=ft.init.bind (.ref s.heap.objs.size);repeat (any_goals (first|assumption|wp_step))
  refine Z3 (Zt (R:=wants (λr s2=>r=.none/\∃h' tk,s2={s with heap:=h',toks:=tk}/\eC knd h' s.heap.objs.size (met kf items.size)/\∀b o,s.heap.get? b=some o->h'.get? b=some o) E) ft.init.plain F.entry_set_init (check_set_init_1 tS ?_)) λr2 s2 SM=>?_
  .have Ug:=hl;obtain⟨⟨oc,od,odt,ND⟩,ho,hc,nl,hd⟩:=hl;dsimp only at hc hd;subst hc hd;have go:(s.heap.push (xT led)).get? l=some {cls:=.type "list",dict:=od,data:=.seq items nl,slots:=ND}:=WL _ ho;have b1:=F.sub_list_set;have b2:=F.sub_list_frozenset;have b3:(Value.type "list" == Value.type "dict")=false:=by decide
   have Uj:(s.heap.push (xT led)).IsList l items:=⟨_,go,rfl,nl,rfl⟩
   have llt:=W4 ho;unfold Builtin.«set.__init__» noKeywords Builtin.Frozenset.updateFrom;generalize hPI:pyIter=PI
   wp_walk
   subst hPI;refine YM Uj (WI (wpAny_runValue ?_));have nI:l≠(s.heap.push (xT led)).objs.size:=by rw[Yw];lia
   have nS:s.heap.objs.size∉[(s.heap.push (xT led)).objs.size,l]:=by
    rw[Yw];intro z;rcases WY.mp z with z|z
    .lia
    .have:=W5.mp z;lia
   refine HZ (knd:=knd) ((Walks.list (A:=A.in1.in1.in1) (by exact hh) _ l nI items).toS) (by show A.units+1+1+1<cLine;lia) nS (λi s st b hb k x=>?_) kf hb (items.size-0) 0 _ rfl (Xw _) ⟨⟨_,W7 _ rfl,rfl,rfl⟩,Uj.push _⟩ (so led (WL _ gS)) (λj v pj=>?_) λs' hm Qo=>?_
   .obtain rfl:=W5.mp hb;obtain⟨o1,_,_,q1,q2,_⟩:=x;obtain⟨⟨o2,r1,r2,_⟩,_⟩:=st;rw[r1]at q1;cases q1;rw[r2]at q2;exact absurd q2 @b
   .obtain⟨b,e,o1,Kt,n1,q1,q2⟩:=hi j v pj;exact⟨b,e,o1,Kt,n1,WL _ (WL _ q1),q2⟩
   .obtain⟨h',g',d',U1,T6⟩:=s';obtain rfl:g'=s.gens:=hm.gens;obtain rfl:d'=s.drawn:=hm.drawn;obtain rfl:T6=s.os:=hm.os;refine WO (WO ⟨rfl,h',U1,rfl,Qo,λb o e=>hm.heap b o (λz=>?_) (WL _ (WL _ e))⟩);have blt:=W4 e;rcases WY.mp z with z|z
    .lia
    .have:=W5.mp z;rw[Yw]at this;lia
  .match r2,SM with
   | .error e,SM=>exact SM
   | .ok (.ret r),SM=>
    obtain⟨rfl,h',tk,rfl,Qo,MB⟩:=SM;repeat (any_goals (first|assumption|wp_step))
    exact h _ _ Qo MB
end
end ST
end NX
namespace NX
open PySem PySem.Spec PyProof.Rows L2
namespace ST
section
variable{X:Cx}{e:Expr}{ta:TA}{p p2 pos LY:Pos}
def Ib(K:W.Frag)(ta:TA):TE:=λσ H Q=>ta σ H λvs H1=>∃(a:WP) (xs:List V) (kf:Nat->List Key),vs=[.ref a]/\SqL K H1 a xs/\xs.length<=76/\(∀i x,xs[i]?=some x->∃b,x=.ref b/\H1 b=some (.tup ((kf i).map kV)))/\Q (.int ((met kf xs.length).length:Nat)) H1
theorem pe_lenS(hc:X.calm=true)(hu:X.A.units+8<cLine)(hg:Gl X "len")(hm:X.mg "len" = none)(ON:Gl X "set")(O5:X.mg "set" = none)(ha:PA X [e] ta)
  (he:backTo pos (starEach [.Call (.Name "set" p2) [e] [] LY] X.env)=[(false,eval (.Call (.Name "set" p2) [e] [] LY) X.env)]:=by rfl)
  (SN:starEach [e] X.env=(false,eval e X.env)::starEach [] X.env:=by rfl) (Q1:(backTo LY (starEach [] X.env)).any (·.1)=false:=by rfl):
  PE X (.Call (.Name "len" p) [.Call (.Name "set" p2) [e] [] LY] [] pos) (Ib X.K ta):=by
 intro pr s σ H Q I h;refine Yd (eQ I hg hm (by decide +kernel:bootBuiltins "len" = some (.builtin "len")) ?_ @b @b);rw[he];refine YS rfl (Y6 (ZL ?_));refine Yd (eQ I ON O5 (by decide +kernel:bootBuiltins "set" = some (.type "set")) ?_ @b @b);refine X1 (KN (ha LY pr s σ H _ I h) λus s1 ⟨vs,H1,I1,r1,a,xs,kf,ev,sq,Wb,hk,q⟩=>?_) SN Q1;subst ev;obtain⟨u,rfl,ra⟩:=dM r1;cases ra;obtain⟨Kt,r',pl,hz⟩:=I1.list sq;have hl:=pl.isList;have hlen:=r'.length;have hsz:Kt.toArray.size=xs.length:=by rw[WZ];exact hlen.symm
 refine Ia (knd:=mixKind X.prog X.w) (kf:=kf) (I1.ok.hd hc) hu hl (λi v hv=>?_) (by rw[hsz];exact Wb) λh' tk hS kp=>?_
 .rw[abj]at hv;have hi:i<xs.length:=by
   have:=(WS.mp hv).1;lia
  obtain⟨b,hb,gb⟩:=hk i xs[i] (WM hi);obtain⟨u,Oh,ru⟩:=r'.get (WM hi);rw[hv]at Oh;cases Oh;rw[hb]at ru;cases ru;exact⟨b,rfl,kz I1.hok gb⟩
 .refine aax ?_;obtain⟨o,es,ep,t,m,S⟩:=hS;have hn:=S.sz;rw[hsz]at hn;refine call_len_set (s:={s1 with heap:=h',toks:=tk}) S.ho S.ex S.hd S.T.fits (by have:=o6 kf xs.length;lia) ?_;refine⟨.int ((met kf xs.length).length:Nat),H1,(I1.kept (t':=tk) kp).tok _,⟨_,by rw[hn]⟩,q⟩
end
end ST
end NX
namespace NX
open PySem PySem.Spec PyProof.Rows L2
namespace ST
section
variable{X:Cx}{e:Expr}{ta:TA}{p p2 pos LY:Pos}
end
end ST
end NX
namespace NX
open PySem PySem.Spec PyProof.Rows L2
variable{X:Cx}{tx:TX}{C:WP}
section
variable{aZ:List Stmt}{e a b:Expr}{pos p:Pos}{Ww:Hp->Prop}
theorem Br{op:CmpOp}(h:OZ X a C tx)(hm:behindInMarks op b=false:=by with_unfolding_all rfl):OZ X (.Compare a [op] [b] pos) C tx:=λpr s σ H Ww I z=>
 wpAny_Compare1 (XO (h pr s σ H Ww I z) (λ_ _ z=>z.elim) λ_ _ z=>z) hm
theorem Es(acc:∀pr σ e s',XP X pr σ C Ww e s'->X.xe e s')(h:OZ X e C tx):PX X (.Return (some e) pos::aZ) (λσ H=>tx σ H Ww):=λpr s σ H I z=>
 YV (wpAny_Return_some (XO (h pr s σ H Ww I z) (λ_ _ z=>z.elim) λv s' z=>acc pr σ v s' z))
theorem Et(acc:∀pr σ e s',XP X pr σ C Ww e s'->X.xe e s')(h:OZ X e C tx)(he:∀whole,isTrue e X.env whole=(do let v <-whole;standAt e.pos;holding [v] (truthy v)):=by intro _;rfl):
  PX X (.If (.UnaryOp .Not e p) c d pos::aZ) (λσ H=>tx σ H Ww):=λpr s σ H I z=>
 YV (wpAny_If (isTrue_not (isTrue_plain (XO (h pr s σ H Ww I z) (λ_ _ z=>z.elim) λv s' z=>acc pr σ v s' z) (he _))))
end
open PySem.Builtin.ObjectAttr PySem.Builtin.Getset_descriptor
variable{A:Uf}{E:Wp->WF->Prop}{s:WF}
section
variable{M:Model}{K:W.Frag}{P N ab:WP}
theorem xU{nm q bs bm hdct sn sub ab col dd k0 k1 k2 k3 k5 newId}(X:K.In s.heap)(up:PySem.W.mroIn K C (.ref P)=some true)(hP:s.heap.get? P=some (excClassObj nm q P N bs bm hdct sn sub ab col dd k0 k1 k2 k3 k5 newId))(he:s.heap.get? e=some oe)(QC:oe.cls=.ref C)(Li:bm.contains (.type "BaseException")=true)(hq:Q true s):wpAny M A (excMatches (.ref e) (.ref P)) Q E s:=by
 obtain⟨h,g,d,t,os⟩:=s;have Mp:=aak (M:=M) X up;have hcB:(Value.ref P::bm).contains (.type "BaseException")=true:=by rw[aat,Li,Bool.or_true]
 have f:=tc_notTuple;unfold excMatches;repeat (first|(with_reducible refine wpAny_loadPart_at he ?_;rw[QC])|with_reducible refine wpAny_loadPart_at hP ?_|(with_reducible refine wpAny_isSubtype_exc hP ?_;rw[hcB])|with_reducible refine Mp.at ?_|wp_step)
 exact hq
end
theorem ps_tryUp{body MW:List Stmt}{b0:Stmt}{x n:Str}{i:Nat}{P:WP}{np Oi pos:Pos}{t:TS}{th:WP->TS}(O:XCl X.mg X.base x P)(up:PySem.W.mroIn X.K C (.ref P)=some true)(hg:Gl X x)(hn:PSs X.nox body t)(hx:PSX X body C tx)
  (hh:∀a o vs,o.cls=.ref C->o.data=.fields vs->PSs (asX X a o) (b0::MW) (th a)) (hN:X.N.Nodup) (hi:X.N[i]?=some n) (hl:X.env.kindOf n=some .local) (R5:X.env.scope.names.lookup n=some .local)
  (hs:X.stack=X.env::X.outer:=by rfl) (hf:X.env.frame=some X.env.locals:=by rfl) (Lw:@o=false:=by decide):
  PS X (.Try body [.ExceptHandler (some (.Name x np)) (some n) (b0::MW) Oi] [] [] pos) (λD σ H=>t D σ H\/tx σ H λH'=>∀a,th a (goneE i D) (σ.set i (some (.ref a))) H'):=by
 intro pr s σ H D I h;rcases h with h|h
 .refine wpAny_Try_except (XO (hn pr s σ H D (I.wish _) h) (λf s1 q=>?_) λ_ _ z=>z.elim);have q:=q.unwish;cases f with
  |next=>exact ZK q
  |ret v=>exact q
  |brk=>exact q
  |cont=>exact q
 refine wpAny_Try_except (XO (hx pr s σ H _ I h) (λ_ _ z=>z.elim) λe s1 z=>?_);obtain⟨s0,H1,I1,a,tt,B,H',rfl,N5,hgen,un,hok,Oe,Uk,hW⟩:=z;have nt:∀b,H' b≠none->b∉Lv X.stack:=λb n z=>by
  obtain⟨_,o,ho,_⟩:=I1.stack.mem z;exact n (un.free b o ho (I1.stkFree b z) λz=>nomatch z)
 have key:∀h6:UF,Heap.FlyingW B X.stack a (.ref C) (.ref tt) h6->s1.heap.UpToSlots h6->Inv X pr σ H' {s1 with heap:=h6}:=λh6 f6 sm=>by
  have sl:∀b u,s1.heap.get? b=some u->b∈Lv X.stack->∃z,h6.get? b=some {u with slots:=z}:=λb u q n=>by
   obtain⟨_,o,ho,hd⟩:=Oe.2.2.1.mem n;rw[q]at ho;cases ho;exact sm b u q hd
  refine I1.call' (ch:=[]) N5 ⟨λb o q n hb hx=>?_,λb o q n hb hx=>?_,un.free,λb o q hx=>?_,un.tups,un.frzs,un.tbls⟩ (λb o e=>?_) hgen λb z=>nomatch z
  .have:=un.keep b o q n hb hx;exact f6.1 b o (Uk b o this (.inr ⟨o,q⟩) hb)
  .obtain⟨z,e⟩:=un.slot b o q n hb hx;obtain⟨z',e'⟩:=sl b _ e hb;exact⟨z',e'⟩
  .obtain⟨o',e⟩:=un.there b o q hx;by_cases hb:b∈Lv X.stack
   .obtain⟨z,e'⟩:=sl b o' e hb;exact⟨_,e'⟩
   .exact⟨o',f6.1 b o' (Uk b o' e (.inr ⟨o,q⟩) hb)⟩
  .refine(hok b o e).stay (λc u hc q=>?_) (λ_ q=>q) λ_ _ q=>q
   have hc:H' c≠none:=by
    rcases hc with rfl|hc
    .rw[e];exact λz=>nomatch z
    .rw[hc];exact λz=>nomatch z
   exact f6.1 c u (Uk c u q (.inl hc) (nt c hc))
 have Vf:a∉Lv X.stack:=λz=>by
  obtain⟨_,o,ho,hd⟩:=Oe.2.2.1.mem z;obtain⟨_,_,_,oe,vs,T,oT,ts,he,_,hv,_⟩:=Oe;rw[he]at ho;cases ho;exact hd vs hv
 have naH:H' a=none:=by
  cases hq:H' a with
  |none=>rfl
  |some u=>
   exfalso;obtain⟨ob,e⟩:=ook_get (hok a u hq);have:=Uk a ob e (.inl (by rw[hq];exact λz=>nomatch z)) Vf;rw[Oe.2.1]at this;cases this
 have naL:a≠X.env.locals:=λz=>Vf (by
  unfold Lv;rw[hs,Yr,hf,z];exact WJ)
 have naF:a∉X.fs:=λz=>Vf (by
  have z:a∈X.outer.filterMap (·.frame):=z;unfold Lv;rw[hs,Yr,hf];exact WK _ z)
 have fl:Heap.FlyingW B (X.env::X.outer) a (.ref C) (.ref tt) s1.heap:=by rw[<-hs];exact Oe
 refine wpAny_looks_onW (by rw[<-hs];exact I1.ok.frames) hf fl λh4 SO sm4=>?_
 refine wpAny_landsW SO λh5 Q2 sm5=>?_
 have SQ:=sm4.trans sm5;have I5:=xI (key h5 (by rw[hs];exact Q2) SQ) a;obtain⟨ob,SR,hobc⟩:=Q2.there;refine wpAny_handleBy_cons (codeAny_handlers_test (jr I5 hg (show(handX X a).mg x=some (.ref P) from by obtain⟨_,_,_,_,_,O⟩:=O;exact O.bound) ?_ Lw)) (by intro q;cases q);obtain⟨_,_,_,bm,FB,O⟩:=O;obtain⟨tl,N,nm,q,bs,hdct,sn,sub,ab,col,dd,k0,k1,k2,k3,k5,mN,hC,hNN,Qj,T⟩:=O.obj;refine xU I5.kIn up (I5.bk _ _ hC) SR hobc (T.hasType FB.hasBase) (codeAny_handlers_suite_as ?_);refine lands_againW Q2 λh6 SU sm6=>?_
 have I6:=key h6 (by rw[hs];exact SU) (SQ.trans sm6);obtain⟨_,_,_,oe,vs,_,_,_,he,Ma,hv,_⟩:=id SU;have I7:=El (a:=a) (o:=oe) I6 he naH naL naF λv z=>by rw[hv]at z;cases z
 refine kZ (X:=asX X a oe) (x:=n) (i:=i) (v:=.ref a) I7 hN hi (.inl R5) rfl (λs2 I2=>?_) (.inr R5);refine XO (hh a oe vs Ma.1 hv pr s2 _ H' (goneE i D) I2 (hW a)) (λf s3 q=>?_) λ_ _ z=>z.elim
 have go:∀{σ':L2.St}{Q3:Hp},Inv (asX X a oe) pr σ' Q3 s3->∀{Q:Unit->WF->Prop}{A':Uf}{E':Wp->WF->Prop},(∀s4,Inv X pr (σ'.set i none) Q3 s4->Q () s4)->wpAny @c A' (do bindName X.env n .none;unbindBehindTheSuite X.env n Oi) Q E' s3:=λ{σ' Q3} I8 {Q A' E'} kk=>by
  have I9:=xK I6.ok I8;obtain⟨m,hm,_⟩:=id I9.loc;exact wpAny_nameGoes_keeps hl hm (by rw[I9.ok.kind];rfl) λh' v Mw sb=>kk _ (xM I9 hN hi hm Mw sb)
 cases f with
 |next=>obtain⟨σ',Q3,I8,q⟩:=q;exact go I8 λs4 I9=>⟨_,_,I9,q⟩
 |brk=>obtain⟨σ',Q3,I8,q⟩:=q;exact go I8 λs4 I9=>⟨_,_,I9,q⟩
 |cont=>obtain⟨σ',Q3,I8,q⟩:=q;exact go I8 λs4 I9=>⟨_,_,I9,q⟩
 |ret u=>obtain⟨v,σ',Q3,I8,r,q⟩:=q;exact go I8 λs4 I9=>⟨v,_,_,I9,r,q⟩
section
variable{pr:List (WP×Obj)}{σ:L2.St}{H:Hp}{a:WP}{kvs:List (Key×V)}{k:Key}{u r:Wp}
theorem Eu(I:Inv X pr σ H s)(e:H a=some (.dK kvs))(K4:kvs.length<sizeLine)(ry:RelV (kV k) u)(rv:RelV v r)(h1:∀v' w' s',jx kvs k=some v'->Inv X pr σ H s'->RelV v' w'->Q w' s')(h2:∀s',jx kvs k=none->Inv X pr σ (upd H a (.dK (gI kvs k v))) s'->Q r s'):
  wpAny @c A (call (.builtin "dict.setdefault") [.ref a,u,r]) Q E s:=by
 obtain⟨z,hd,vs,rel,dd⟩:=A8 I.hok e;have hl:(gI kvs k v).length<=sizeLine:=by have:=dQ kvs k v;lia
 refine call_meetsIn aae dd.typeIs PySem.F.entry_dict_setdefault (PySem.F.args_dict_setdefault_3 _ _ _) (kt_meets_setdefault (mixKind X.prog X.w) a (kV_is ry) hd r) ⟨vs,dd,by rw[<-rel.length];exact z,λw' hw=>?_,λhn h' NU hs=>?_⟩
 .cases l:jx kvs k with
  |none=>
   have hn:valueAt vs k=none:=RelO.none_of (by rw[<-l];exact rel.val k);rw[hn]at hw;cases hw
  |some v'=>
   obtain⟨w2,Oj,M0⟩:=RelO.some_of (v:=v') (o:=valueAt vs k) (by rw[<-l];exact rel.val k);rw[hw]at Oj;cases Oj;exact h1 v' w' _ l (I.tok _) M0
 .cases l:jx kvs k with
  |some v'=>
   obtain⟨w2,Oj,M0⟩:=RelO.some_of (v:=v') (o:=valueAt vs k) (by rw[<-l];exact rel.val k);rw[hn]at Oj;cases Oj
  |none=>
   have he:∃q,h'.get? a=some q:=let⟨q,_,_,hq,_⟩:=NU;⟨q,hq⟩
   exact h2 _ l (lr I (by rw[e];exact True.intro) hs he (uH hl hd (rel.put k rv) NU))
end
def tSDef(td ty tx:TE):TE:=λσ H Q=>td σ H λx H1=>∃a,x=.ref a/\IsD H1 a/\ty σ H1 λy H2=>tx σ H2 λz H3=>∃kvs k,H3 a=some (.dK kvs)/\kvs.length<sizeLine/\y=kV k/\
 (∀v,jx kvs k=some v->Q v H3)/\(jx kvs k=none->Q z (upd H3 a (.dK (gI kvs k z))))
section
variable{o e f:Expr}{apos Kx:Pos}{td ty tx:TE}
theorem Bs(ho:PE X o td)(he:PE X e ty)(hf:PE X f tx)(m:M2 X o "setdefault" apos e f Kx):PE X (.Call (.Attribute o "setdefault" apos) [e,f] [] Kx) (tSDef td ty tx):=by
 intro pr s σ H Q I h;refine wpAny_Call_method m.base m.few m.line PySem.F.plainAttrs_dict aae PySem.F.type_dict_setdefault (KN (ho pr s σ H _ I h) λu s1 KQ=>?_);obtain⟨x,H1,I1,rx,a,ex,d,q1⟩:=KQ;subst ex;obtain rfl:u=Value.ref a:=rx;obtain⟨t1,t2,_⟩:=Eg I1 d;refine⟨t1,t2,?_⟩;rw[m.trees];refine YS rfl (Y6 (ZL (KN (he pr s1 σ H1 _ I1 q1) λiv s2 ⟨y,H2,I2,ry,q2⟩=>
  ZL (KN (hf pr s2 σ H2 _ I2 q2) λfv s3 ⟨z,H3,I3,rz,kvs,k,ea,K4,ey,q3,q4⟩=>aax ?_))))
 subst ey;exact Eu I3 ea K4 ry rz (λv' w' s' l I4 r4=>⟨v',H3,I4,r4,q3 v' l⟩) λs' l I4=>⟨z,_,I4,rz,q4 l⟩
end
end NX
namespace PV
open PySem L2 NX
inductive D where
 |non|bl (b:Bool)|int (i:Int)|str (l:List Nat)|tup (ds:List D)|lst (ds:List D)|dct (tk:Bool) (ks vs:List D)
inductive O where
 |f|l (c:O)|t (cs:List O)|d|pin (p:WP) (c:O)
abbrev R:=O×D
abbrev Env:=List (Option R)
inductive Res(α:Type) where
 |ok (a:α)|exc (c:List Nat)|bad
noncomputable def kD:Key->D
 | .inl i=>.int i
 | .inr x=>.str x.cps.toList
noncomputable def isM:HO->Bool
 | .lst _=>true
 | .dK _=>true
 | .dT _=>true
 |_=>false
noncomputable def isT:HO->Bool
 | .tup _=>true
 | .frz _ (.tup _)=>true
 |_=>false
noncomputable def qf:Key->Prop
 | .inl _=>True
 | .inr x=>x.cps.toList.length<=sizeLine
def DictO(o:HO)(tk:Bool)(ks:List D)(xs:List V):Prop:=match tk with
 |true=>∃kvs:List (List Key×V),o=.dT kvs/\ks=kvs.map (λkv=>D.tup (kv.1.map kD))/\xs=kvs.map (·.2)/\∀kv∈kvs,∀k∈kv.1,qf k
 |false=>∃kvs:List (Key×V),o=.dK kvs/\ks=kvs.map (λkv=>kD kv.1)/\xs=kvs.map (·.2)/\∀kv∈kvs,qf kv.1
mutual
noncomputable def Rep(K:W.Frag)(G:Hp):D->V->Prop
 | .non,v=>v=.non
 | .bl b,v=>v=.bl b
 | .int i,v=>v=.int i
 | .str l,v=>v=.str (S l)/\l.length<=sizeLine
 | .tup ds,v=>∃p xs,v=.ref p/\G p=some (.tup xs)/\Reps K G ds xs
 | .lst ds,v=>∃p xs,v=.ref p/\SqL K G p xs/\Reps K G ds xs
 | .dct tk ks vs,v=>∃p xs o,v=.ref p/\Rd G p o/\DictO o tk ks xs/\Reps K G vs xs
noncomputable def Reps(K:W.Frag)(G:Hp):List D->List V->Prop
 |[],xs=>xs=[]
 |d::ds,xs=>∃y ys,xs=y::ys/\Rep K G d y/\Reps K G ds ys
end
noncomputable def AllO(P:D->V->List WP->Prop):List D->List V->List WP->Prop
 |[],xs,fp=>xs=[]/\fp=[]
 |d::ds,xs,fp=>∃y ys a b,xs=y::ys/\fp=a++b/\P d y a/\AllO P ds ys b
mutual
noncomputable def RepO(K:W.Frag)(G H:Hp):O->D->V->List WP->Prop
 | .f,d,v,fp=>Rep K G d v/\fp=[]
 | .l c,.lst ds,v,fp=>∃p xs Ks,v=.ref p/\H p=some (.lst xs)/\fp=p::Ks/\AllO (RepO K G H c) ds xs Ks
 | .t cs,.tup ds,v,fp=>∃p xs,v=.ref p/\G p=some (.tup xs)/\RepT K G H cs ds xs fp
 | .d,.dct tk ks vs,v,fp=>∃p xs o,v=.ref p/\H p=some o/\DictO o tk ks xs/\fp=[p]/\Reps K G vs xs
 | .pin p c,d,v,fp=>v=.ref p/\RepO K G H c d v fp
 |_,_,_,_=>False
noncomputable def RepT(K:W.Frag)(G H:Hp):List O->List D->List V->List WP->Prop
 |[],[],xs,fp=>xs=[]/\fp=[]
 |c::cs,d::ds,xs,fp=>∃y ys a b,xs=y::ys/\fp=a++b/\RepO K G H c d y a/\RepT K G H cs ds ys b
 |_,_,_,_=>False
end
variable{K:W.Frag}{p:WP}{u:HO}{xs:List V}{fp:List WP}{es:Env}{vs:List (Option V)}{r:R}{v:V}
section
variable{G G' H H':Hp}
theorem Rd.mono(h:Same G G')(r:Rd G p u):Rd G' p u:=by
 rcases r with r|⟨o,r⟩
 .exact .inl (h _ _ r)
 .exact .inr ⟨o,h _ _ r⟩
theorem fP(h:Same G G')(r:SqL K G p xs):SqL K G' p xs:=r.elim (λr=>.inl (Rd.mono h r)) .inr
theorem bh(h:Same G G')(r:SqT K G p xs):SqT K G' p xs:=r.elim (λr=>.inl (Rd.mono h r)) .inr
mutual
theorem Rep.mono(h:Same G G'):∀{d:D}{v:V},Rep K G d v->Rep K G' d v
 | .non,_,r=>by simpa only[Rep] using r
 | .bl _,_,r=>by simpa only[Rep] using r
 | .int _,_,r=>by simpa only[Rep] using r
 | .str _,_,r=>by simpa only[Rep] using r
 | .tup ds,_,r=>by
  simp![Rep]at r |-;obtain⟨p,xs,e,q,rs⟩:=r;exact⟨p,xs,e,h _ _ q,Reps.mono h rs⟩
 | .lst ds,_,r=>by
  simp![Rep]at r |-;obtain⟨p,xs,e,q,rs⟩:=r;exact⟨p,xs,e,fP h q,Reps.mono h rs⟩
 | .dct tk ks vs,_,r=>by
  simp![Rep]at r |-;obtain⟨p,xs,o,e,q,dd,rs⟩:=r;exact⟨p,xs,o,e,Rd.mono h q,dd,Reps.mono h rs⟩
theorem Reps.mono(h:Same G G'):∀{ds:List D}{xs:List V},Reps K G ds xs->Reps K G' ds xs
 |[],_,r=>by simpa only[Reps] using r
 |d::ds,_,r=>by
  simp![Reps]at r |-;obtain⟨y,ys,e,r1,r2⟩:=r;exact⟨y,ys,e,Rep.mono h r1,Reps.mono h r2⟩
end
theorem AllO.imp:∀{ds:List D}{xs:List V}{fp:List WP},(∀d v a,(∀p∈a,p∈fp)->P d v a->P' d v a)->AllO P ds xs fp->AllO P' ds xs fp
 |[],_,_,_,r=>r
 |d::ds,xs,fp,h,r=>by
  obtain⟨y,ys,a,b,e1,e2,p,q⟩:=r;subst e2;exact⟨y,ys,a,b,e1,rfl,h _ _ _ (λp hp=>WR _ hp) p,AllO.imp (λd v c hc=>h d v c λp hp=>WQ _ (hc p hp)) q⟩
mutual
theorem RepO.step(h:Same G G'):∀{o:O}{d:D}{v:V}{fp:List WP},(∀p∈fp,H' p=H p)->RepO K G H o d v fp->RepO K G' H' o d v fp
 | .f,d,v,fp,hk,r=>by
  simp![RepO]at r |-;exact⟨Rep.mono h r.1,r.2⟩
 | .pin p c,d,v,fp,hk,r=>by
  simp![RepO]at r |-;exact⟨r.1,RepO.step h hk r.2⟩
 | .l c,.lst ds,v,fp,hk,r=>by
  simp![RepO]at r |-;obtain⟨p,xs,Ks,e,q,e2,a⟩:=r;subst e2;exact⟨p,xs,Ks,e,(hk p WJ).trans q,rfl,AllO.imp (λd v c hc=>RepO.step h λz hz=>hk z (WK _ (hc z hz))) a⟩
 | .t cs,.tup ds,v,fp,hk,r=>by
  simp![RepO]at r |-;obtain⟨p,xs,e,q,a⟩:=r;exact⟨p,xs,e,h _ _ q,RepT.step h hk a⟩
 | .d,.dct tk ks vs,v,fp,hk,r=>by
  simp![RepO]at r |-;obtain⟨p,xs,o,e,q,dd,e2,rs⟩:=r;subst e2;exact⟨p,xs,o,e,(hk p WJ).trans q,dd,rfl,Reps.mono h rs⟩
 | .l _,.non,_,_,_,r | .l _,.bl _,_,_,_,r | .l _,.int _,_,_,_,r | .l _,.str _,_,_,_,r | .l _,.tup _,_,_,_,r | .l _,.dct _ _ _,_,_,_,r=>by simp![RepO]at r
 | .t _,.non,_,_,_,r | .t _,.bl _,_,_,_,r | .t _,.int _,_,_,_,r | .t _,.str _,_,_,_,r | .t _,.lst _,_,_,_,r | .t _,.dct _ _ _,_,_,_,r=>by simp![RepO]at r
 | .d,.non,_,_,_,r | .d,.bl _,_,_,_,r | .d,.int _,_,_,_,r | .d,.str _,_,_,_,r | .d,.tup _,_,_,_,r | .d,.lst _,_,_,_,r=>by simp![RepO]at r
theorem RepT.step(h:Same G G'):∀{cs:List O}{ds:List D}{xs:List V}{fp:List WP},(∀p∈fp,H' p=H p)->RepT K G H cs ds xs fp->RepT K G' H' cs ds xs fp
 |[],[],_,_,_,r=>by simpa only[RepT] using r
 |c::cs,d::ds,xs,fp,hk,r=>by
  simp![RepT]at r |-;obtain⟨y,ys,a,b,e1,e2,r1,r2⟩:=r;subst e2;exact⟨y,ys,a,b,e1,rfl,RepO.step h (λp hp=>hk p (WR _ hp)) r1,RepT.step h (λp hp=>hk p (WQ _ hp)) r2⟩
 |[],_::_,_,_,_,r=>by simp![RepT]at r
 |_::_,[],_,_,_,r=>by simp![RepT]at r
end
theorem AllO.frozen:∀{ds:List D}{xs:List V}{fp:List WP},(∀d v a,(∀p∈a,p∈fp)->P d v a->Rep K G' d v)->AllO P ds xs fp->Reps K G' ds xs
 |[],_,_,_,r=>by simp![Reps];exact r.1
 |d::ds,xs,fp,h,r=>by
  obtain⟨y,ys,a,b,e1,e2,p,q⟩:=r;subst e2;simp![Reps];exact⟨y,ys,e1,h _ _ _ (λp hp=>WR _ hp) p,AllO.frozen (λd v c hc=>h d v c λp hp=>WQ _ (hc p hp)) q⟩
mutual
theorem RepO.frozen(h:Same G G'):∀{o:O}{d:D}{v:V}{fp:List WP},(∀p∈fp,∀u,H p=some u->G' p=some u)->RepO K G H o d v fp->Rep K G' d v
 | .f,d,v,fp,hk,r=>by
  simp![RepO]at r;exact Rep.mono h r.1
 | .pin p c,d,v,fp,hk,r=>by
  simp![RepO]at r;exact RepO.frozen h hk r.2
 | .l c,.lst ds,v,fp,hk,r=>by
  simp![RepO]at r;simp![Rep];obtain⟨p,xs,Ks,e,q,e2,a⟩:=r;subst e2;exact⟨p,xs,e,SqL.of (hk p WJ _ q),AllO.frozen (λd v c hc=>RepO.frozen h λz hz=>hk z (WK _ (hc z hz))) a⟩
 | .t cs,.tup ds,v,fp,hk,r=>by
  simp![RepO]at r;simp![Rep];obtain⟨p,xs,e,q,a⟩:=r;exact⟨p,xs,e,h _ _ q,RepT.frozen h hk a⟩
 | .d,.dct tk ks vs,v,fp,hk,r=>by
  simp![RepO]at r;simp![Rep];obtain⟨p,xs,o,e,q,dd,e2,rs⟩:=r;subst e2;exact⟨p,xs,o,e,.inl (hk p WJ _ q),dd,Reps.mono h rs⟩
 | .l _,.non,_,_,_,r | .l _,.bl _,_,_,_,r | .l _,.int _,_,_,_,r | .l _,.str _,_,_,_,r | .l _,.tup _,_,_,_,r | .l _,.dct _ _ _,_,_,_,r=>by simp![RepO]at r
 | .t _,.non,_,_,_,r | .t _,.bl _,_,_,_,r | .t _,.int _,_,_,_,r | .t _,.str _,_,_,_,r | .t _,.lst _,_,_,_,r | .t _,.dct _ _ _,_,_,_,r=>by simp![RepO]at r
 | .d,.non,_,_,_,r | .d,.bl _,_,_,_,r | .d,.int _,_,_,_,r | .d,.str _,_,_,_,r | .d,.tup _,_,_,_,r | .d,.lst _,_,_,_,r=>by simp![RepO]at r
theorem RepT.frozen(h:Same G G'):∀{cs:List O}{ds:List D}{xs:List V}{fp:List WP},(∀p∈fp,∀u,H p=some u->G' p=some u)->RepT K G H cs ds xs fp->Reps K G' ds xs
 |[],[],_,_,_,r=>by simp![RepT]at r;simp![Reps];exact r.1
 |c::cs,d::ds,xs,fp,hk,r=>by
  simp![RepT]at r;simp![Reps];obtain⟨y,ys,a,b,e1,e2,r1,r2⟩:=r;subst e2;exact⟨y,ys,e1,RepO.frozen h (λp hp=>hk p (WR _ hp)) r1,RepT.frozen h (λp hp=>hk p (WQ _ hp)) r2⟩
 |[],_::_,_,_,_,r=>by simp![RepT]at r
 |_::_,[],_,_,_,r=>by simp![RepT]at r
end
theorem AllO.live:∀{ds:List D}{xs:List V}{fp:List WP},(∀d v a,P d v a->∀p∈a,∃u,H p=some u)->AllO P ds xs fp->∀p∈fp,∃u,H p=some u
 |[],_,_,_,r=>by rw[r.2];intro p hp;cases hp
 |d::ds,xs,fp,h,r=>by
  obtain⟨y,ys,a,b,e1,e2,p,q⟩:=r;subst e2;intro z hz;rcases Xv.mp hz with hz|hz
  .exact h _ _ _ p z hz
  .exact AllO.live h q z hz
mutual
theorem RepO.live:∀{o:O}{d:D}{v:V}{fp:List WP},RepO K G H o d v fp->∀p∈fp,∃u,H p=some u
 | .f,d,v,fp,r=>by
  simp![RepO]at r;rw[r.2];intro p hp;cases hp
 | .pin p c,d,v,fp,r=>by
  simp![RepO]at r;exact RepO.live r.2
 | .l c,.lst ds,v,fp,r=>by
  simp![RepO]at r;obtain⟨p,xs,Ks,e,q,e2,a⟩:=r;subst e2;intro z hz;rcases WY.mp hz with rfl|hz
  .exact⟨_,q⟩
  .exact AllO.live (λd v a=>RepO.live) a z hz
 | .t cs,.tup ds,v,fp,r=>by
  simp![RepO]at r;obtain⟨p,xs,e,q,a⟩:=r;exact RepT.live a
 | .d,.dct tk ks vs,v,fp,r=>by
  simp![RepO]at r;obtain⟨p,xs,o,e,q,dd,e2,rs⟩:=r;subst e2;intro z hz;rw[W5]at hz;exact⟨_,hz▸q⟩
 | .l _,.non,_,_,r | .l _,.bl _,_,_,r | .l _,.int _,_,_,r | .l _,.str _,_,_,r | .l _,.tup _,_,_,r | .l _,.dct _ _ _,_,_,r=>by simp![RepO]at r
 | .t _,.non,_,_,r | .t _,.bl _,_,_,r | .t _,.int _,_,_,r | .t _,.str _,_,_,r | .t _,.lst _,_,_,r | .t _,.dct _ _ _,_,_,r=>by simp![RepO]at r
 | .d,.non,_,_,r | .d,.bl _,_,_,r | .d,.int _,_,_,r | .d,.str _,_,_,r | .d,.tup _,_,_,r | .d,.lst _,_,_,r=>by simp![RepO]at r
theorem RepT.live:∀{cs:List O}{ds:List D}{xs:List V}{fp:List WP},RepT K G H cs ds xs fp->∀p∈fp,∃u,H p=some u
 |[],[],_,_,r=>by
  simp![RepT]at r;rw[r.2];intro p hp;cases hp
 |c::cs,d::ds,xs,fp,r=>by
  simp![RepT]at r;obtain⟨y,ys,a,b,e1,e2,r1,r2⟩:=r;subst e2;intro z hz;rcases Xv.mp hz with hz|hz
  .exact RepO.live r1 z hz
  .exact RepT.live r2 z hz
 |[],_::_,_,_,r=>by simp![RepT]at r
 |_::_,[],_,_,r=>by simp![RepT]at r
end
theorem DictO.isM{xs:List V}(h:DictO o tk ks xs):PV.isM o=true:=by
 cases tk with
 |true=>
  obtain⟨kvs,e,_⟩:=h;rw[e];rfl
 |false=>
  obtain⟨kvs,e,_⟩:=h;rw[e];rfl
theorem AllO.mut:∀{ds:List D}{xs:List V}{fp:List WP},(∀d v a,P d v a->∀p∈a,∃u,H p=some u/\isM u=true)->AllO P ds xs fp->∀p∈fp,∃u,H p=some u/\isM u=true
 |[],_,_,_,r=>by rw[r.2];intro p hp;cases hp
 |d::ds,xs,fp,h,r=>by
  obtain⟨y,ys,a,b,e1,e2,p,q⟩:=r;subst e2;intro z hz;rcases Xv.mp hz with hz|hz
  .exact h _ _ _ p z hz
  .exact AllO.mut h q z hz
mutual
theorem RepO.mut:∀{o:O}{d:D}{v:V}{fp:List WP},RepO K G H o d v fp->∀p∈fp,∃u,H p=some u/\isM u=true
 | .f,d,v,fp,r=>by
  simp![RepO]at r;rw[r.2];intro p hp;cases hp
 | .pin p c,d,v,fp,r=>by
  simp![RepO]at r;exact RepO.mut r.2
 | .l c,.lst ds,v,fp,r=>by
  simp![RepO]at r;obtain⟨p,xs,Ks,e,q,e2,a⟩:=r;subst e2;intro z hz;rcases WY.mp hz with rfl|hz
  .exact⟨_,q,rfl⟩
  .exact AllO.mut (λd v a=>RepO.mut) a z hz
 | .t cs,.tup ds,v,fp,r=>by
  simp![RepO]at r;obtain⟨p,xs,e,q,a⟩:=r;exact RepT.mut a
 | .d,.dct tk ks vs,v,fp,r=>by
  simp![RepO]at r;obtain⟨p,xs,o,e,q,dd,e2,rs⟩:=r;subst e2;intro z hz;rw[W5]at hz;exact⟨_,hz▸q,dd.isM⟩
 | .l _,.non,_,_,r | .l _,.bl _,_,_,r | .l _,.int _,_,_,r | .l _,.str _,_,_,r | .l _,.tup _,_,_,r | .l _,.dct _ _ _,_,_,r=>by simp![RepO]at r
 | .t _,.non,_,_,r | .t _,.bl _,_,_,r | .t _,.int _,_,_,r | .t _,.str _,_,_,r | .t _,.lst _,_,_,r | .t _,.dct _ _ _,_,_,r=>by simp![RepO]at r
 | .d,.non,_,_,r | .d,.bl _,_,_,r | .d,.int _,_,_,r | .d,.str _,_,_,r | .d,.tup _,_,_,r | .d,.lst _,_,_,r=>by simp![RepO]at r
theorem RepT.mut:∀{cs:List O}{ds:List D}{xs:List V}{fp:List WP},RepT K G H cs ds xs fp->∀p∈fp,∃u,H p=some u/\isM u=true
 |[],[],_,_,r=>by
  simp![RepT]at r;rw[r.2];intro p hp;cases hp
 |c::cs,d::ds,xs,fp,r=>by
  simp![RepT]at r;obtain⟨y,ys,a,b,e1,e2,r1,r2⟩:=r;subst e2;intro z hz;rcases Xv.mp hz with hz|hz
  .exact RepO.mut r1 z hz
  .exact RepT.mut r2 z hz
 |[],_::_,_,_,r=>by simp![RepT]at r
 |_::_,[],_,_,r=>by simp![RepT]at r
end
def RepE(K:W.Frag)(G H:Hp):Env->List (Option V)->List WP->Prop
 |[],vs,fp=>vs=[]/\fp=[]
 |e::es,vs,fp=>∃y ys,vs=y::ys/\match e with
  |none=>RepE K G H es ys fp
  |some r=>∃v a b,y=some v/\fp=a++b/\RepO K G H r.1 r.2 v a/\RepE K G H es ys b
theorem RepE.step(h:Same G G'):∀{es:Env}{vs:List (Option V)}{fp:List WP},(∀p∈fp,H' p=H p)->RepE K G H es vs fp->RepE K G' H' es vs fp
 |[],_,_,_,r=>r
 |none::es,vs,fp,hk,r=>by
  obtain⟨y,ys,e,r⟩:=r;exact⟨y,ys,e,RepE.step h hk r⟩
 |some r::es,vs,fp,hk,q=>by
  obtain⟨y,ys,e,v,a,b,e1,e2,r1,r2⟩:=q;subst e2;exact⟨y,ys,e,v,a,b,e1,rfl,RepO.step h (λp hp=>hk p (WR _ hp)) r1,RepE.step h (λp hp=>hk p (WQ _ hp)) r2⟩
theorem RepE.live:∀{es:Env}{vs:List (Option V)}{fp:List WP},RepE K G H es vs fp->∀p∈fp,∃u,H p=some u
 |[],_,_,r=>by
  rw[r.2];intro p hp;cases hp
 |none::es,vs,fp,r=>by
  obtain⟨y,ys,e,r⟩:=r;exact RepE.live r
 |some r::es,vs,fp,q=>by
  obtain⟨y,ys,e,v,a,b,e1,e2,r1,r2⟩:=q;subst e2;intro z hz;rcases Xv.mp hz with hz|hz
  .exact r1.live z hz
  .exact RepE.live r2 z hz
theorem RepE.mut:∀{es:Env}{vs:List (Option V)}{fp:List WP},RepE K G H es vs fp->∀p∈fp,∃u,H p=some u/\isM u=true
 |[],_,_,r=>by
  rw[r.2];intro p hp;cases hp
 |none::es,vs,fp,r=>by
  obtain⟨y,ys,e,r⟩:=r;exact RepE.mut r
 |some r::es,vs,fp,q=>by
  obtain⟨y,ys,e,v,a,b,e1,e2,r1,r2⟩:=q;subst e2;intro z hz;rcases Xv.mp hz with hz|hz
  .exact r1.mut z hz
  .exact RepE.mut r2 z hz
theorem RepE.length:∀{es:Env}{vs:List (Option V)}{fp:List WP},RepE K G H es vs fp->vs.length=es.length
 |[],_,_,r=>by rw[r.1];rfl
 |none::es,vs,fp,r=>by
  obtain⟨y,ys,e,r⟩:=r;rw[e,WX,WX,RepE.length r]
 |some r::es,vs,fp,q=>by
  obtain⟨y,ys,e,v,a,b,e1,e2,r1,r2⟩:=q;rw[e,WX,WX,RepE.length r2]
theorem RepE.take:∀{es:Env}{vs:List (Option V)}{fp:List WP}{i:Nat}{r:R},RepE K G H es vs fp->es[i]?=some (some r)->
  ∃v a b,vs[i]?=some (some v)/\RepO K G H r.1 r.2 v a/\RepE K G H (es.set i none) vs b/\fp.Perm (a++b)
 |[],_,_,_,_,_,e=>by simp at e
 |none::es,vs,fp,0,r,q,e=>by simp at e
 |some r'::es,vs,fp,0,r,q,e=>by
  obtain⟨y,ys,e0,v,a,b,e1,e2,r1,r2⟩:=q;simp at e;subst e;subst e0;subst e1;exact⟨v,a,b,rfl,r1,⟨some v,ys,rfl,r2⟩,by rw[e2]⟩
 |none::es,vs,fp,i+1,r,q,e=>by
  obtain⟨y,ys,e0,q⟩:=q;obtain⟨v,a,b,g1,g2,g3,g4⟩:=RepE.take q (i:=i) (r:=r) (by simpa using e);subst e0;exact⟨v,a,b,by simpa using g1,g2,⟨y,ys,rfl,g3⟩,g4⟩
 |some r'::es,vs,fp,i+1,r,q,e=>by
  obtain⟨y,ys,e0,v',a',b',e1,e2,r1,r2⟩:=q;obtain⟨v,a,b,g1,g2,g3,g4⟩:=RepE.take r2 (i:=i) (r:=r) (by simpa using e);subst e0;refine⟨v,a,a'++b,by simpa using g1,g2,⟨y,ys,rfl,v',a',b,e1,rfl,r1,g3⟩,?_⟩;rw[e2];refine(abk a' g4).trans ?_;rw[<-XI,<-XI];exact aa5 b abl
theorem RepE.put:∀{es:Env}{vs:List (Option V)}{b:List WP}{i:Nat}{r:R}{v:V}{a:List WP},RepE K G H es vs b->es[i]?=some none->RepO K G H r.1 r.2 v a->
  ∃fp,RepE K G H (es.set i (some r)) (vs.set i (some v)) fp/\fp.Perm (a++b)
 |[],_,_,_,_,_,_,_,e,_=>by simp at e
 |none::es,vs,b,0,r,v,a,q,e,ro=>by
  obtain⟨y,ys,e0,q⟩:=q;subst e0;exact⟨a++b,⟨some v,ys,rfl,v,a,b,rfl,rfl,ro,q⟩,.refl _⟩
 |some r'::es,vs,b,0,r,v,a,q,e,ro=>by simp at e
 |none::es,vs,b,i+1,r,v,a,q,e,ro=>by
  obtain⟨y,ys,e0,q⟩:=q;obtain⟨fp,g1,g2⟩:=RepE.put q (i:=i) (r:=r) (by simpa using e) ro;subst e0;exact⟨fp,⟨y,_,rfl,g1⟩,g2⟩
 |some r'::es,vs,b,i+1,r,v,a,q,e,ro=>by
  obtain⟨y,ys,e0,v',a',b',e1,e2,r1,r2⟩:=q;obtain⟨fp,g1,g2⟩:=RepE.put r2 (i:=i) (r:=r) (by simpa using e) ro;subst e0;refine⟨a'++fp,⟨y,_,rfl,v',a',fp,e1,rfl,r1,g1⟩,?_⟩;rw[e2];refine(abk a' g2).trans ?_;rw[<-XI,<-XI];exact aa5 b' abl
theorem RepE.any:∀{es:Env}{vs:List (Option V)}{fp:List WP}{i:Nat}{y:Option V},RepE K G H es vs fp->(es[i]?=some none\/es.length<=i)->RepE K G H es (vs.set i y) fp
 |[],_,_,_,_,q,_=>by
  rw[q.1,q.2];exact⟨rfl,rfl⟩
 |none::es,vs,fp,0,y,q,e=>by
  obtain⟨y',ys,e0,q⟩:=q;subst e0;exact⟨y,ys,rfl,q⟩
 |some r'::es,vs,fp,0,y,q,e=>by simp at e
 |none::es,vs,fp,i+1,y,q,e=>by
  obtain⟨y',ys,e0,q⟩:=q;subst e0;exact⟨y',ys.set i y,rfl,RepE.any q (by simpa using e)⟩
 |some r'::es,vs,fp,i+1,y,q,e=>by
  obtain⟨y',ys,e0,v',a',b',e1,e2,r1,r2⟩:=q;subst e0;exact⟨y',ys.set i y,rfl,v',a',b',e1,e2,r1,RepE.any r2 (by simpa using e)⟩
structure Rel(K:W.Frag)(G H:Hp)(es:Env)(vs:List (Option V))(fp:List WP):Prop where
 rep:RepE K G H es vs fp
 nd:fp.Nodup
 gn:∀p∈fp,G p=none
 gh:Same G H
structure Step(G H:Hp)(fp:List WP)(G' H':Hp)(Ks:List WP):Prop where
 gg:Same G G'
 keep:∀q u,H q=some u->q∉fp->H' q=some u
 fpn:∀q∈Ks,q∈fp\/H q=none
 gnew:∀q u,G' q=some u->G q=some u\/q∈fp\/H q=none\/isT u=true/\H q=some u
 there:∀q u,H q=some u->∃u',H' q=some u'
theorem Step.refl{fp:List WP}:Step G H fp G H fp:=⟨.refl _,λ_ _ h _=>h,λ_ h=>.inl h,λ_ _ h=>.inl h,λ_ u h=>⟨u,h⟩⟩
theorem Step.trans{fp:List WP}(a:Step G H fp G1 H1 KR)(b:Step G1 H1 KR G2 H2 Lc):Step G H fp G2 H2 Lc:=by
 refine⟨a.gg.trans b.gg,λq u h n=>?_,λq hq=>?_,λq u hq=>?_,λq u h=>?_⟩
 .refine b.keep q u (a.keep q u h n) λhq=>?_
  rcases a.fpn q hq with z|z
  .exact n z
  .rw[z]at h;cases h
 .rcases b.fpn q hq with z|z
  .exact a.fpn q z
  .cases e:H q with
   |none=>exact .inr rfl
   |some u=>
    obtain⟨u',e'⟩:=a.there q u e;rw[z]at e';cases e'
 .rcases b.gnew q u hq with z|z|z|⟨t,z⟩
  .exact a.gnew q u z
  .exact .inr ((a.fpn q z).imp_right .inl)
  .cases e:H q with
   |none=>exact .inr (.inr (.inl rfl))
   |some u=>
    obtain⟨u',e'⟩:=a.there q u e;rw[z]at e';cases e'
  .cases e:H q with
   |none=>exact .inr (.inr (.inl rfl))
   |some u2=>
    by_cases hf:q∈fp
    .exact .inr (.inl hf)
    .rw[a.keep q u2 e hf]at z;cases z;exact .inr (.inr (.inr ⟨t,rfl⟩))
 .obtain⟨u',h'⟩:=a.there q u h;exact b.there q u' h'
theorem Step.perm{fq:List WP}(a:Step G H fp G' H' Ks)(h:∀q,q∈fp<->q∈fq)(h':∀q∈SV,q∈Ks):Step G H fq G' H' SV:=
 ⟨a.gg,λq u e n=>a.keep q u e λz=>n ((h q).mp z),λq hq=>(a.fpn q (h' q hq)).imp_left (h q).mp,λq u e=>(a.gnew q u e).imp_right (Or.imp_left (h q).mp),a.there⟩
theorem Step.wide{fq:List WP}(a:Step G H fp G' H' Ks)(h:∀q∈fp,q∈fq)(h':∀q∈SV,q∈Ks\/q∈fq):Step G H fq G' H' SV:=
 ⟨a.gg,λq u e n=>a.keep q u e λz=>n (h q z),λq hq=>(h' q hq).elim (λz=>(a.fpn q z).imp_left (h q)) .inl,λq u e=>(a.gnew q u e).imp_right (Or.imp_left (h q)),a.there⟩
theorem Rel.perm{fq:List WP}(r:RepE K G H es vs fq)(nd:fp.Nodup)(gn:∀p∈fp,G p=none)(gh:Same G H)(h:fp.Perm fq):Rel K G H es vs fq:=
 ⟨r,h.nodup_iff.mp nd,λp hp=>gn p (h.mem_iff.mpr hp),gh⟩
theorem Rel.frame(q:Rel K G H (some r::es) (some v::vs) fp):
  ∃a b,fp=a++b/\RepO K G H r.1 r.2 v a/\Rel K G H es vs b/\∀(G' H':Hp) (MR:Env) (MF:List (Option V)) (b':List WP),Step G H b G' H' b'->Rel K G' H' MR MF b'->
   Rel K G' H' (some r::MR) (some v::MF) (a++b')/\Step G H (a++b) G' H' (a++b'):=by
 obtain⟨y,ys,e,v',a,b,e1,e2,r1,r2⟩:=q.rep;cases e;cases e1;subst e2;have nd:=Xl.mp q.nd;refine⟨a,b,rfl,r1,⟨r2,nd.2.1,λp hp=>q.gn p (WQ _ hp),q.gh⟩,λG' H' MR MF b' st k=>?_⟩;have nb:∀p∈a,p∉b:=λp hp hb=>nd.2.2 p hp p hb rfl
 have same:∀p∈a,H' p=H p:=λp hp=>by
  obtain⟨u,hu⟩:=r1.live p hp;rw[hu];exact st.keep p u hu (nb p hp)
 refine⟨⟨⟨some v,MF,rfl,v,a,b',rfl,rfl,r1.step st.gg same,k.rep⟩,?_,λp hp=>?_,k.gh⟩,st.wide (λp hp=>WQ _ hp) λp hp=>?_⟩
 .rw[Xl];refine⟨nd.1,k.nd,λp hp z hz e=>?_⟩;subst e;obtain⟨u,hu⟩:=r1.live p hp;rcases st.fpn p hz with z|z
  .exact nb p hp z
  .rw[z]at hu;cases hu
 .rcases Xv.mp hp with hp|hp
  .cases e:G' p with
   |none=>rfl
   |some u=>
    exfalso;obtain⟨u',hu⟩:=r1.live p hp;rcases st.gnew p u e with z|z|z|⟨t,z⟩
    .rw[q.gn p (WR _ hp)]at z;cases z
    .exact nb p hp z
    .rw[z]at hu;cases hu
    .obtain⟨u2,h2,hm⟩:=r1.mut p hp;rw[z]at h2;cases h2;cases u with
     |tup _=>cases hm
     |frz _ _=>cases hm
     |_=>cases t
  .exact k.gn p hp
 .rcases Xv.mp hp with hp|hp
  .exact .inr (WR _ hp)
  .exact .inl hp
theorem Rel.freeze(q:Rel K G H (some r::es) (some v::vs) fp):
  ∃G' b,Rep K G' r.2 v/\Rel K G' H es vs b/\Step G H fp G' H b:=by
 obtain⟨y,ys,e,v',a,b,e1,e2,r1,r2⟩:=q.rep;cases e;cases e1;subst e2;have nd:=Xl.mp q.nd;have nb:∀p∈a,p∉b:=λp hp hb=>nd.2.2 p hp p hb rfl
 have hg:Same G (λp=>if p∈a then H p else G p):=λp u e=>by
  show(if p∈a then H p else G p)=some u;by_cases hp:p∈a
  .rw[WV hp];exact q.gh p u e
  .rw[W6 hp];exact e
 refine⟨λp=>if p∈a then H p else G p,b,r1.frozen hg λp hp u e=>?_,⟨r2.step hg λ_ _=>rfl,nd.2.1,λp hp=>?_,λp u e=>?_⟩,⟨hg,λ_ _ e _=>e,λp hp=>.inl (WQ _ hp),λp u e=>?_,λ_ u e=>⟨u,e⟩⟩⟩
 .show(if p∈a then H p else G p)=some u;rw[WV hp];exact e
 .show(if p∈a then H p else G p)=none;rw[W6 (λz=>nb p z hp)];exact q.gn p (WQ _ hp)
 .have e:(if p∈a then H p else G p)=some u:=e;by_cases hp:p∈a
  .rw[WV hp]at e;exact e
  .rw[W6 hp]at e;exact q.gh p u e
 .have e:(if p∈a then H p else G p)=some u:=e;by_cases hp:p∈a
  .exact .inr (.inl (WR _ hp))
  .rw[W6 hp]at e;exact .inl e
end
variable{d:D}{a:List WP}{ds:List D}{i:Nat}
section
variable{G G' H H':Hp}
theorem qg:∀{ds:List D}{xs:List V}{fp:List WP},AllO (RepO K G H .f) ds xs fp<->Reps K G ds xs/\fp=[]
 |[],xs,fp=>by simp![AllO,Reps]
 |d::ds,xs,fp=>by
  simp![AllO,Reps,RepO];constructor
  .rintro⟨y,ys,a,b,e1,e2,⟨r,e3⟩,q⟩;obtain⟨q1,q2⟩:=qg.mp q;subst e3;subst q2;exact⟨⟨y,ys,e1,r,q1⟩,e2⟩
  .rintro⟨⟨y,ys,e1,r,q1⟩,e⟩;exact⟨y,ys,[],[],e1,e,⟨r,rfl⟩,qg.mpr ⟨q1,rfl⟩⟩
theorem eR:RepO K G H .f d v a<->Rep K G d v/\a=[]:=by simp![RepO]
theorem jA:RepO K G H (.l .f) (.lst ds) v a<->∃p xs,v=.ref p/\H p=some (.lst xs)/\a=[p]/\Reps K G ds xs:=by
 rw[RepO];constructor
 .rintro⟨p,xs,b,e,q,e2,r⟩;obtain⟨r',eb⟩:=qg.mp r;subst eb;exact⟨p,xs,e,q,e2,r'⟩
 .rintro⟨p,xs,e,q,e2,r⟩;exact⟨p,xs,[],e,q,e2,qg.mpr ⟨r,rfl⟩⟩
theorem Reps.length:∀{ds:List D}{xs:List V},Reps K G ds xs->xs.length=ds.length
 |[],xs,r=>by simp![Reps]at r;rw[r];rfl
 |d::ds,xs,r=>by
  simp![Reps]at r;obtain⟨y,ys,e,_,q⟩:=r;rw[e,WX,WX,Reps.length q]
theorem Reps.get:∀{ds:List D}{xs:List V}{i:Nat}{d:D},Reps K G ds xs->ds[i]?=some d->∃v,xs[i]?=some v/\Rep K G d v
 |[],_,_,_,_,e=>by simp at e
 |d'::ds,xs,0,d,r,e=>by
  simp![Reps]at r;obtain⟨y,ys,e1,q,_⟩:=r;simp at e;subst e;exact⟨y,by rw[e1];rfl,q⟩
 |d'::ds,xs,i+1,d,r,e=>by
  simp![Reps]at r;obtain⟨y,ys,e1,_,q⟩:=r;obtain⟨v,a,b⟩:=Reps.get q (i:=i) (d:=d) (by simpa using e);exact⟨v,by rw[e1];simpa using a,b⟩
theorem Reps.getV:∀{ds:List D}{xs:List V}{i:Nat}{v:V},Reps K G ds xs->xs[i]?=some v->∃d,ds[i]?=some d/\Rep K G d v:=λ{ds xs i v} r e=>by
 have hl:=r.length;have hi:i<ds.length:=by have:=(WS.mp e).1;lia
 obtain⟨v',h1,h2⟩:=r.get (WM hi);rw[e]at h1;cases h1;exact⟨_,WM hi,h2⟩
theorem Reps.app:∀{ds es:List D}{xs ys:List V},Reps K G ds xs->Reps K G es ys->Reps K G (ds++es) (xs++ys)
 |[],_,_,_,r,q=>by simp![Reps]at r;rw[r];exact q
 |d::ds,es,xs,ys,r,q=>by
  simp![Reps]at r;obtain⟨z,zs,e,r1,r2⟩:=r;rw[e];simp![YI,Reps];exact⟨z,_,rfl,r1,r2.app q⟩
theorem Reps.one(r:Rep K G d v):Reps K G [d] [v]:=by
 simp![Reps];exact⟨v,[],rfl,r,rfl⟩
theorem Reps.nil:Reps K G [] []:=by simp![Reps]
theorem Reps.cons(r:Rep K G d v)(q:Reps K G ds xs):Reps K G (d::ds) (v::xs):=by
 simp![Reps];exact⟨v,xs,rfl,r,q⟩
theorem Reps.cons_iff:Reps K G (d::ds) (v::xs)<->Rep K G d v/\Reps K G ds xs:=by
 simp![Reps];constructor
 .rintro⟨y,ys,e,r,q⟩;cases e;exact⟨r,q⟩
 .rintro⟨r,q⟩;exact⟨v,xs,rfl,r,q⟩
theorem Reps.take:∀{ds:List D}{xs:List V}(n:Nat),Reps K G ds xs->Reps K G (ds.take n) (xs.take n)
 |_,_,0,_=>by rw[Z2,Z2];exact Reps.nil
 |[],xs,n+1,r=>by simp![Reps]at r;rw[r];exact Reps.nil
 |d::ds,xs,n+1,r=>by
  simp![Reps]at r;obtain⟨y,ys,e,r1,r2⟩:=r;rw[e,List.take_succ_cons,List.take_succ_cons];exact .cons r1 (r2.take n)
theorem Reps.drop:∀{ds:List D}{xs:List V}(n:Nat),Reps K G ds xs->Reps K G (ds.drop n) (xs.drop n)
 |_,_,0,r=>r
 |[],xs,n+1,r=>by simp![Reps]at r;rw[r];exact Reps.nil
 |d::ds,xs,n+1,r=>by
  simp![Reps]at r;obtain⟨y,ys,e,r1,r2⟩:=r;rw[e,List.drop_succ_cons,List.drop_succ_cons];exact r2.drop n
theorem Reps.set:∀{ds:List D}{xs:List V}(n:Nat) {d:D}{v:V},Reps K G ds xs->Rep K G d v->Reps K G (ds.set n d) (xs.set n v)
 |[],xs,n,d,v,r,q=>by simp![Reps]at r;rw[r];exact Reps.nil
 |d'::ds,xs,0,d,v,r,q=>by
  simp![Reps]at r;obtain⟨y,ys,e,r1,r2⟩:=r;rw[e];exact .cons q r2
 |d'::ds,xs,n+1,d,v,r,q=>by
  simp![Reps]at r;obtain⟨y,ys,e,r1,r2⟩:=r;rw[e];exact .cons r1 (r2.set n q)
theorem Reps.ofAll(hl:xs.length=ds.length)(h:∀(i:Nat) (d:D) (v:V),ds[i]?=some d->xs[i]?=some v->Rep K G d v):Reps K G ds xs:=by
 induction ds generalizing xs with
 |nil=>simp![Reps];exact XT hl
 |cons d ds ih=>
  cases xs with
  |nil=>simp at hl
  |cons v xs=>exact .cons (h 0 d v rfl rfl) (ih (by simpa using hl) λi d v a b=>h (i+1) d v (by simpa using a) (by simpa using b))
theorem Step.cut{fq:List WP}(h:∀q∈fq,q∈fp):Step G H fp G H fq:=⟨.refl _,λ_ _ e _=>e,λq hq=>.inl (h q hq),λ_ _ e=>.inl e,λ_ u e=>⟨u,e⟩⟩
theorem Rel.drop(q:Rel K G H (some r::es) (y::vs) fp):∃b,Rel K G H es vs b/\Step G H fp G H b:=by
 obtain⟨y,ys,e,v',a,b,e1,e2,r1,r2⟩:=q.rep;cases e;cases e1;subst e2;have nd:=Xl.mp q.nd;exact⟨b,⟨r2,nd.2.1,λp hp=>q.gn p (WQ _ hp),q.gh⟩,Step.cut λp hp=>WQ _ hp⟩
theorem Rel.top(q:Rel K G H (some r::es) (some v::vs) fp):Rep K H r.2 v:=by
 obtain⟨y,ys,e,v',a,b,e1,e2,r1,r2⟩:=q.rep;cases e;cases e1;exact r1.frozen q.gh λp hp u e=>e
theorem Rel.out(q:Rel K G H es vs fp)(e:es[i]?=some (some r)):∃v fq,vs[i]?=some (some v)/\Rel K G H (some r::es.set i none) (some v::vs) fq/\Step G H fp G H fq/\Step G H fq G H fp:=by
 obtain⟨v,a,b,e1,r1,r2,pm⟩:=q.rep.take e;exact⟨v,a++b,e1,Rel.perm ⟨some v,vs,rfl,v,a,b,rfl,rfl,r1,r2⟩ q.nd q.gn q.gh pm,Step.cut λp hp=>pm.mem_iff.mpr hp,Step.cut λp hp=>pm.mem_iff.mp hp⟩
theorem Rel.view(q:Rel K G H es vs fp)(e:es[i]?=some (some r)):∃v,vs[i]?=some (some v)/\Rep K H r.2 v:=by
 obtain⟨v,fq,e1,r1,_⟩:=q.out e;exact⟨v,e1,r1.top⟩
theorem lz{α:Type}{l:List α}{x:α}(h:l[i]?=some x):l.set i x=l:=by
 apply ZZ;intro j;by_cases e:i=j
 .subst e;rw[XF (WS.mp h).1,h]
 .rw[Yc e]
theorem Rel.store(q:Rel K G H (some r::es) (some v::vs) fp)(hi:i<es.length):∃fq,Rel K G H (es.set i (some r)) (vs.set i (some v)) fq/\Step G H fp G H fq:=by
 obtain⟨y,ys,e,v',a,b,e1,e2,r1,r2⟩:=q.rep;cases e;cases e1;subst e2;obtain⟨c,hc⟩:∃c,es[i]?=some c:=⟨_,WM hi⟩
 have nd:=Xl.mp q.nd;have key:∃b',RepE K G H (es.set i none) vs b'/\(∀p∈b',p∈b)/\b'.Nodup:=by
  cases c with
  |none=>exact⟨b,by rw[lz hc];exact r2,λ_ h=>h,nd.2.1⟩
  |some r'=>
   obtain⟨v2,a2,b2,_,_,g,pm⟩:=r2.take hc;refine⟨b2,g,λp hp=>pm.mem_iff.mpr (WQ _ hp),?_⟩;exact(Xl.mp (pm.nodup_iff.mp nd.2.1)).2.1
 obtain⟨b',g,sub,ndb⟩:=key;obtain⟨fq,g2,pm⟩:=g.put (i:=i) (r:=r) (v:=v) (by rw[XF hi]) r1;rw[Y3]at g2;have Ol:(a++b').Nodup:=by
  rw[Xl];exact⟨nd.1,ndb,λp hp z hz=>nd.2.2 p hp z (sub z hz)⟩
 refine⟨fq,Rel.perm g2 Ol (λp hp=>?_) q.gh pm.symm,Step.cut λp hp=>?_⟩
 .refine q.gn p ?_;rcases Xv.mp hp with hp|hp
  .exact WR _ hp
  .exact WQ _ (sub p hp)
 .rcases Xv.mp (pm.mem_iff.mp hp) with hp|hp
  .exact WR _ hp
  .exact WQ _ (sub p hp)
theorem Rel.back(q:Rel K G H (some r::es) (some v::vs) fp)(hi:i<es.length)(hv:vs[i]?=some (some v)):∃fq,Rel K G H (es.set i (some r)) vs fq/\Step G H fp G H fq:=by
 obtain⟨fq,g,st⟩:=q.store hi;rw[lz hv]at g;exact⟨fq,g,st⟩
theorem Rel.any{i:Nat}(q:Rel K G H es vs fp)(h:es[i]?=some none\/es.length<=i):Rel K G H es (vs.set i y) fp:=⟨q.rep.any h,q.nd,q.gn,q.gh⟩
theorem Rel.freezeAt(q:Rel K G H es vs fp)(e:es[i]?=some (some r)):∃v G' fq,vs[i]?=some (some v)/\Rep K G' r.2 v/\Rel K G' H (es.set i (some (.f,r.2))) vs fq/\Step G H fp G' H fq:=by
 obtain⟨v,fq,ev,g,st,_⟩:=q.out e;obtain⟨G',b,rv,g2,Kw⟩:=g.freeze;have g3:Rel K G' H (some (.f,r.2)::es.set i none) (some v::vs) b:=by
  refine⟨⟨some v,vs,rfl,v,[],b,rfl,rfl,?_,g2.rep⟩,g2.nd,g2.gn,g2.gh⟩;exact eR.mpr ⟨rv,rfl⟩
 obtain⟨fz,g4,Lr⟩:=g3.back (i:=i) (by rw[XB];exact(WS.mp e).1) ev;rw[Y3]at g4;exact⟨v,G',fz,ev,rv,g4,st.trans (Kw.trans Lr)⟩
theorem Rel.push(q:Rel K G H es vs fp)(r:Rep K G d v):Rel K G H (some (.f,d)::es) (some v::vs) fp:=by
 refine⟨⟨some v,vs,rfl,v,[],fp,rfl,rfl,?_,q.rep⟩,q.nd,q.gn,q.gh⟩;exact eR.mpr ⟨r,rfl⟩
theorem Rel.newF(q:Rel K G H es vs fp)(hp:H p=none):Rel K (upd G p u) (upd H p u) es vs fp/\Step G H fp (upd G p u) (upd H p u) fp:=by
 have gp:G p=none:=by
  cases e:G p with
  |none=>rfl
  |some o=>rw[q.gh p o e]at hp;cases hp
 have np:p∉fp:=λz=>by
  obtain⟨u,e⟩:=q.rep.live p z;rw[hp]at e;cases e
 have sg:Same G (upd G p u):=λb o e=>by rw[au (aN e gp)];exact e
 have sh:Same H (upd H p u):=λb o e=>by rw[au (aN e hp)];exact e
 refine⟨⟨q.rep.step sg λz hz=>au λe=>np (e▸hz),q.nd,λz hz=>?_,λb o e=>?_⟩,⟨sg,λb o e _=>sh b o e,λ_ h=>.inl h,λb o e=>?_,λb o e=>⟨o,sh b o e⟩⟩⟩
 .have:z≠p:=λe=>np (e▸hz)
  rw[au this];exact q.gn z hz
 .by_cases hb:b=p
  .subst hb;rw[aG]at e |-;exact e
  .rw[au hb]at e |-;exact q.gh b o e
 .by_cases hb:b=p
  .subst hb;exact .inr (.inr (.inl hp))
  .rw[au hb]at e;exact .inl e
theorem Rel.newL(q:Rel K G H es vs fp)(hp:H p=none)(r:Reps K G ds xs):
  Rel K G (upd H p (.lst xs)) (some (.l .f,.lst ds)::es) (some (.ref p)::vs) (p::fp)/\Step G H fp G (upd H p (.lst xs)) (p::fp):=by
 have gp:G p=none:=by
  cases e:G p with
  |none=>rfl
  |some o=>rw[q.gh p o e]at hp;cases hp
 have np:p∉fp:=λz=>by
  obtain⟨u,e⟩:=q.rep.live p z;rw[hp]at e;cases e
 have sh:Same H (upd H p (.lst xs)):=λb o e=>by rw[au (aN e hp)];exact e
 refine⟨⟨⟨some (.ref p),vs,rfl,.ref p,[p],fp,rfl,rfl,jA.mpr ⟨p,xs,rfl,aG,rfl,r⟩,q.rep.step (.refl _) λz hz=>au λe=>np (e▸hz)⟩,Xf.mpr ⟨np,q.nd⟩,λz hz=>?_,λb o e=>?_⟩,
  ⟨.refl _,λb o e _=>sh b o e,λb hb=>?_,λb o e=>.inl e,λb o e=>⟨o,sh b o e⟩⟩⟩
 .rcases WY.mp hz with rfl|hz
  .exact gp
  .exact q.gn z hz
 .exact sh b o (q.gh b o e)
 .rcases WY.mp hb with rfl|hb
  .exact .inr hp
  .exact .inl hb
theorem Rel.chg(q:Rel K G H es vs fp)(e:es[i]?=some (some (.l .f,.lst ds))):∃p xs,vs[i]?=some (some (.ref p))/\H p=some (.lst xs)/\Reps K G ds xs/\
  ∀LN,Reps K G ds' LN->∃fq,Rel K G (upd H p (.lst LN)) (es.set i (some (.l .f,.lst ds'))) vs fq/\Step G H fp G (upd H p (.lst LN)) fq:=by
 obtain⟨v,fq,ev,g,st,L3⟩:=q.out e;obtain⟨y,ys,e0,v',a,b,e1,e2,r1,r2⟩:=g.rep;cases e0;cases e1;obtain⟨p,xs,e3,hp,e4,rs⟩:=jA.mp r1;subst e3;subst e4;subst e2;have nd:=Xf.mp (show(p::b).Nodup from g.nd);refine⟨p,xs,ev,hp,rs,λLN LU=>?_⟩;have g2:Rel K G (upd H p (.lst LN)) (some (.l .f,.lst ds')::es.set i none) (some (.ref p)::vs) (p::b):=by
  refine⟨⟨some (.ref p),vs,rfl,.ref p,[p],b,rfl,rfl,jA.mpr ⟨p,LN,rfl,aG,rfl,LU⟩,r2.step (.refl _) λz hz=>au λe=>nd.1 (e▸hz)⟩,g.nd,g.gn,λz o ez=>?_⟩;have:z≠p:=λw=>by
   subst w;rw[g.gn z WJ]at ez;cases ez
  rw[au this];exact g.gh z o ez
 have Vg:Step G H (p::b) G (upd H p (.lst LN)) (p::b):=by
  refine⟨.refl _,λz o ez nz=>?_,λz hz=>.inl hz,λz o ez=>.inl ez,λz o ez=>?_⟩
  .have:z≠p:=λw=>nz (by rw[w];exact WJ)
   rw[au this];exact ez
  .by_cases w:z=p
   .subst w;exact⟨_,aG⟩
   .exact⟨o,by rw[au w];exact ez⟩
 obtain⟨fz,g3,K3⟩:=g2.back (i:=i) (by rw[XB];exact(WS.mp e).1) ev;rw[Y3]at g3;exact⟨fz,g3,st.trans (Vg.trans K3)⟩
end
mutual
noncomputable def flatD:D->Bool
 | .tup ds=>flatDs ds
 | .lst _=>false
 | .dct _ _ _=>false
 |_=>true
noncomputable def flatDs:List D->Bool
 |[]=>true
 |d::ds=>flatD d&&flatDs ds
end
mutual
noncomputable def ay:O->D->Bool
 | .f,d=>flatD d
 | .l c,.lst ds=>ds.all (ay c)
 | .t cs,.tup ds=>nq cs ds
 | .d,.dct _ _ vs=>flatDs vs
 | .pin _ c,d=>ay c d
 |_,_=>false
noncomputable def nq:List O->List D->Bool
 |[],[]=>true
 |c::cs,d::ds=>ay c d&&nq cs ds
 |_,_=>false
end
noncomputable def frz:Option R->Option R:=Option.map λr=>(.f,r.2)
theorem bL:∀ds,flatDs ds=ds.all flatD
 |[]=>rfl
 |d::ds=>by rw[flatDs,Zo,bL ds]
section
variable{G G' G2 G3 H H' H2:Hp}
mutual
theorem Rep.flat(h:∀p u,isT u=true->G2 p=some u->G3 p=some u):∀{d:D}{v:V},flatD d=true->Rep K G2 d v->Rep K G3 d v
 | .non,_,_,r=>by simpa only[Rep] using r
 | .bl _,_,_,r=>by simpa only[Rep] using r
 | .int _,_,_,r=>by simpa only[Rep] using r
 | .str _,_,_,r=>by simpa only[Rep] using r
 | .tup ds,_,e,r=>by
  simp![Rep]at r |-;simp![flatD]at e;obtain⟨p,xs,ev,q,rs⟩:=r;exact⟨p,xs,ev,h _ _ rfl q,Reps.flat h e rs⟩
 | .lst ds,_,e,r=>by simp![flatD]at e;cases e
 | .dct _ _ _,_,e,r=>by simp![flatD]at e;cases e
theorem Reps.flat(h:∀p u,isT u=true->G2 p=some u->G3 p=some u):∀{ds:List D}{xs:List V},flatDs ds=true->Reps K G2 ds xs->Reps K G3 ds xs
 |[],_,_,r=>by simpa only[Reps] using r
 |d::ds,_,e,r=>by
  simp![Reps]at r |-;simp![flatDs,WW]at e;obtain⟨y,ys,ev,r1,r2⟩:=r;exact⟨y,ys,ev,Rep.flat h e.1 r1,Reps.flat h e.2 r2⟩
end
theorem AllO.clean:∀{ds:List D}{xs:List V}{fp:List WP},(∀d v a,c d=true->P d v a->P' d v a)->ds.all c=true->AllO P ds xs fp->AllO P' ds xs fp
 |[],_,_,_,_,r=>r
 |d::ds,xs,fp,h,e,r=>by
  obtain⟨y,ys,a,b,e1,e2,p,q⟩:=r;rw[Zo,WW]at e;exact⟨y,ys,a,b,e1,e2,h _ _ _ e.1 p,AllO.clean h e.2 q⟩
mutual
theorem RepO.clean(h:∀p u,isT u=true->G2 p=some u->G3 p=some u):∀{o:O}{d:D}{v:V}{fp:List WP},ay o d=true->RepO K G2 H o d v fp->RepO K G3 H o d v fp
 | .f,d,v,fp,e,r=>by
  simp![RepO]at r |-;simp![ay]at e;exact⟨r.1.flat h e,r.2⟩
 | .pin p c,d,v,fp,e,r=>by
  simp![RepO]at r |-;simp![ay]at e;exact⟨r.1,RepO.clean h e r.2⟩
 | .l c,.lst ds,v,fp,e,r=>by
  rw[RepO]at r |-;rw[ay]at e;obtain⟨p,xs,Ks,ev,q,e2,a⟩:=r;exact⟨p,xs,Ks,ev,q,e2,AllO.clean (λd v a=>RepO.clean h) e a⟩
 | .t cs,.tup ds,v,fp,e,r=>by
  rw[RepO]at r |-;rw[ay]at e;obtain⟨p,xs,ev,q,a⟩:=r;exact⟨p,xs,ev,h _ _ rfl q,RepT.clean h e a⟩
 | .d,.dct tk ks vs,v,fp,e,r=>by
  rw[RepO]at r |-;rw[ay]at e;obtain⟨p,xs,o,ev,q,dd,e2,rs⟩:=r;exact⟨p,xs,o,ev,q,dd,e2,rs.flat h e⟩
 | .l _,.non,_,_,_,r | .l _,.bl _,_,_,_,r | .l _,.int _,_,_,_,r | .l _,.str _,_,_,_,r | .l _,.tup _,_,_,_,r | .l _,.dct _ _ _,_,_,_,r=>by simp![RepO]at r
 | .t _,.non,_,_,_,r | .t _,.bl _,_,_,_,r | .t _,.int _,_,_,_,r | .t _,.str _,_,_,_,r | .t _,.lst _,_,_,_,r | .t _,.dct _ _ _,_,_,_,r=>by simp![RepO]at r
 | .d,.non,_,_,_,r | .d,.bl _,_,_,_,r | .d,.int _,_,_,_,r | .d,.str _,_,_,_,r | .d,.tup _,_,_,_,r | .d,.lst _,_,_,_,r=>by simp![RepO]at r
theorem RepT.clean(h:∀p u,isT u=true->G2 p=some u->G3 p=some u):∀{cs:List O}{ds:List D}{xs:List V}{fp:List WP},nq cs ds=true->RepT K G2 H cs ds xs fp->RepT K G3 H cs ds xs fp
 |[],[],_,_,_,r=>by simpa only[RepT] using r
 |c::cs,d::ds,xs,fp,e,r=>by
  rw[RepT]at r |-;rw[nq,WW]at e;obtain⟨y,ys,a,b,e1,e2,r1,r2⟩:=r;exact⟨y,ys,a,b,e1,e2,RepO.clean h e.1 r1,RepT.clean h e.2 r2⟩
 |[],_::_,_,_,_,r=>by simp![RepT]at r
 |_::_,[],_,_,_,r=>by simp![RepT]at r
end
theorem RepE.frz(h:Same G G'):∀{es:Env}{vs:List (Option V)}{fp:List WP},(∀p∈fp,∀u,H p=some u->G' p=some u)->RepE K G H es vs fp->RepE K G' H' (es.map PV.frz) vs []
 |[],_,_,_,r=>⟨r.1,rfl⟩
 |none::es,vs,fp,hk,r=>by
  obtain⟨y,ys,e,r⟩:=r;exact⟨y,ys,e,RepE.frz h hk r⟩
 |some r::es,vs,fp,hk,q=>by
  obtain⟨y,ys,e,v,a,b,e1,e2,r1,r2⟩:=q;subst e2;exact⟨y,ys,e,v,[],[],e1,rfl,eR.mpr ⟨r1.frozen h (λp hp=>hk p (WR _ hp)),rfl⟩,RepE.frz h (λp hp=>hk p (WQ _ hp)) r2⟩
theorem RepE.rep(h:Same G G'):∀{es:Env}{vs:List (Option V)}{fp:List WP}{i:Nat}{r:R}{v:V},(∀p∈fp,∀u,H p=some u->G' p=some u)->RepE K G H es vs fp->es[i]?=some (some r)->vs[i]?=some (some v)->Rep K G' r.2 v:=λ{es vs fp i r v} hk q e ev=>by
 obtain⟨v',a,b,e1,r1,_,pm⟩:=q.take e;rw[ev]at e1;cases e1;exact r1.frozen h λp hp=>hk p (pm.mem_iff.mpr (WR _ hp))
theorem Rel.lend(q:Rel K G H es vs fp):∃G1,Same G G1/\Same G1 H/\(∀(i:Nat) (r:R) (v:V),es[i]?=some (some r)->vs[i]?=some (some v)->Rep K G1 r.2 v)/\
  RepE K G1 H (es.map PV.frz) vs []/\
  ∀(H2 G2:Hp) (Lc:List WP) (r:R) (v:V),Step G1 H [] G2 H2 Lc->Rel K G2 H2 [some r] [some v] Lc->
   (ay r.1 r.2=true->∃G3 LJ,Step G H fp G3 H2 LJ/\Rel K G3 H2 (some r::es) (some v::vs) LJ)/\
   ∃G3 LJ,Step G H fp G3 H2 LJ/\Rel K G3 H2 (some r::es.map PV.frz) (some v::vs) LJ:=by
 have hg:Same G (λp=>if p∈fp then H p else G p):=λp u e=>by
  show(if p∈fp then H p else G p)=some u;by_cases hp:p∈fp
  .rw[WV hp];exact q.gh p u e
  .rw[W6 hp];exact e
 have hh:Same (λp=>if p∈fp then H p else G p) H:=λp u e=>by
  have e:(if p∈fp then H p else G p)=some u:=e;by_cases hp:p∈fp
  .rw[WV hp]at e;exact e
  .rw[W6 hp]at e;exact q.gh p u e
 have hk:∀p∈fp,∀u,H p=some u->(λp=>if p∈fp then H p else G p) p=some u:=λp hp u e=>by
  show(if p∈fp then H p else G p)=some u;rw[WV hp];exact e
 refine⟨λp=>if p∈fp then H p else G p,hg,hh,λi r v e ev=>q.rep.rep hg hk e ev,q.rep.frz hg hk,λH2 G2 Lc r v st k=>?_⟩;obtain⟨y,ys,e0,v',a,b,e1,e2,r1,r2⟩:=k.rep;cases e0;cases e1;obtain⟨_,e3⟩:=r2;subst e3;rw[Xe]at e2;subst e2;have fresh:∀p∈Lc,H p=none:=λp hp=>by
  rcases st.fpn p hp with z|z
  .cases z
  .exact z
 have kept:∀p∈fp,H2 p=H p:=λp hp=>by
  obtain⟨u,hu⟩:=q.rep.live p hp;rw[hu];exact st.keep p u hu @t
 refine⟨λcl=>?_,⟨G2,Lc,⟨hg.trans st.gg,λp u e n=>st.keep p u e @t,λp hp=>.inr (fresh p hp),λp u e=>?_,st.there⟩,?_⟩⟩
 .have apart:∀p∈Lc,p∉fp:=λp hp hf=>by
   obtain⟨u,hu⟩:=q.rep.live p hf;rw[fresh p hp]at hu;cases hu
  have g3:Same G (λp=>if p∈fp then none else G2 p):=λp u e=>by
   show(if p∈fp then none else G2 p)=some u;rw[W6 (λz=>by rw[q.gn p z]at e;cases e)];exact st.gg p u (hg p u e)
  refine⟨λp=>if p∈fp then none else G2 p,Lc++fp,⟨g3,λp u e n=>st.keep p u e @t,λp hp=>?_,λp u e=>?_,st.there⟩,⟨⟨some v,vs,rfl,v,Lc,fp,rfl,rfl,r1.clean (λp u t e=>?_) cl,q.rep.step g3 kept⟩,?_,λp hp=>?_,λp u e=>?_⟩⟩
  .rcases Xv.mp hp with hp|hp
   .exact .inr (fresh p hp)
   .exact .inl hp
  .have e:(if p∈fp then none else G2 p)=some u:=e;by_cases hp:p∈fp
   .rw[WV hp]at e;cases e
   .rw[W6 hp]at e;rcases st.gnew p u e with z|z|z
    .have z:(if p∈fp then H p else G p)=some u:=z;rw[W6 hp]at z;exact .inl z
    .cases z
    .exact .inr (.inr z)
  .show(if p∈fp then none else G2 p)=some u;by_cases hp:p∈fp
   .exfalso;obtain⟨u',hu,hm⟩:=q.rep.mut p hp;have:=st.gg p u' (hk p hp u' hu);rw[e]at this;cases this;cases u with
    |lst _=>cases t
    |dK _=>cases t
    |dT _=>cases t
    |_=>cases hm
   .rw[W6 hp];exact e
  .rw[Xl];exact⟨k.nd,q.nd,λp hp z hz e=>apart p hp (e▸hz)⟩
  .show(if p∈fp then none else G2 p)=none;by_cases hf:p∈fp
   .rw[WV hf]
   .rw[W6 hf];rcases Xv.mp hp with hp|hp
    .exact k.gn p hp
    .exact absurd hp hf
  .have e:(if p∈fp then none else G2 p)=some u:=e;by_cases hp:p∈fp
   .rw[WV hp]at e;cases e
   .rw[W6 hp]at e;exact k.gh p u e
 .rcases st.gnew p u e with z|z|z
  .have z:(if p∈fp then H p else G p)=some u:=z;by_cases hp:p∈fp
   .exact .inr (.inl hp)
   .rw[W6 hp]at z;exact .inl z
  .cases z
  .exact .inr (.inr z)
 .refine⟨⟨some v,vs,rfl,v,Lc,[],rfl,(Xe _).symm,r1,q.rep.frz (hg.trans st.gg) λp hp u e=>st.gg p u (hk p hp u e)⟩,k.nd,k.gn,k.gh⟩
end
end PV
open PySem PySem.Spec PyProof.Rows L2 NX
namespace PV
noncomputable def Res.bind{α β:Type}:Res α->(α->Res β)->Res β
 | .ok a,f=>f a
 | .exc c,_=>.exc c
 | .bad,_=>.bad
inductive BindOk{α β:Type}(x:Res α)(f:α->Res β)(b:β):Prop
 |mk (a:α) (h:x=.ok a) (k:f a=.ok b):BindOk x f b
variable{α:Type}
theorem ag(h:x.bind f=.ok b):BindOk x f b:=by
 cases x with
 |ok a=>exact⟨a,rfl,h⟩
 |exc c=>cases h
 |bad=>cases h
inductive Opd where
 |val (d:D)|var (i:Nat)
def OpdOk(K:W.Frag)(G:Hp)(σ:L2.St):Opd->V->Prop
 | .val d,v=>Rep K G d v
 | .var i,v=>σ[i]?=some (some v)
theorem OpdOk.mono{K:W.Frag}{G G':Hp}{σ:L2.St}{o:Opd}{v:V}(h:Same G G')(r:OpdOk K G σ o v):OpdOk K G' σ o v:=by
 cases o with
 |val d=>exact Rep.mono h r
 |var i=>exact r
def jB(K:W.Frag)(G:Hp)(σ:L2.St):List Opd->List V->Prop
 |[],vs=>vs=[]
 |o::os,vs=>∃y ys,vs=y::ys/\OpdOk K G σ o y/\jB K G σ os ys
noncomputable def qh:O->Bool
 | .f=>true
 | .l .f=>true
 | .d=>true
 | .pin _ .f=>true
 | .pin _ (.l .f)=>true
 | .pin _ .d=>true
 |_=>false
def LK(env:PV.Env):Opd->Res D
 | .val d=>.ok d
 | .var i=>match env[i]? with
  |some (some r)=>if qh r.1 then .ok r.2 else .bad
  |_=>.bad
noncomputable def tf(env:PV.Env):Opd->Res D
 | .val d=>.ok d
 | .var i=>match env[i]? with
  |some (some r)=>.ok r.2
  |_=>.bad
def mC(env:PV.Env):List Opd->Res (List D)
 |[]=>.ok []
 |o::os=>(LK env o).bind λd=>(mC env os).bind λds=>.ok (d::ds)
def fZ(env:PV.Env):List Opd->Res (List D)
 |[]=>.ok []
 |o::os=>(tf env o).bind λd=>(fZ env os).bind λds=>.ok (d::ds)
def Vw(K:W.Frag)(G H:Hp):D->V->Prop
 | .lst ds,v=>∃p xs,v=.ref p/\SqL K H p xs/\Reps K G ds xs
 | .dct tk ks vs,v=>∃p xs o,v=.ref p/\Rd H p o/\DictO o tk ks xs/\Reps K G vs xs
 |d,v=>Rep K G d v
def Qq(K:W.Frag)(G H:Hp):List D->List V->Prop
 |[],vs=>vs=[]
 |d::ds,vs=>∃y ys,vs=y::ys/\Vw K G H d y/\Qq K G H ds ys
variable{K:W.Frag}{G H:Hp}{σ:L2.St}{a fp:List WP}{d:D}{v:V}
section
variable{G' H':Hp}{es:PV.Env}
theorem Vw.of(gh:Same G H)(r:Rep K G d v):Vw K G H d v:=by
 cases d with
 |lst ds=>
  rw[Rep]at r;obtain⟨p,xs,e,q,rs⟩:=r;exact⟨p,xs,e,fP gh q,rs⟩
 |dct tk ks vs=>
  rw[Rep]at r;obtain⟨p,xs,o,e,q,dd,rs⟩:=r;exact⟨p,xs,o,e,PV.Rd.mono gh q,dd,rs⟩
 |_=>exact r
theorem Vw.rep(gh:Same G H)(r:Vw K G H d v):Rep K H d v:=by
 cases d with
 |lst ds=>
  obtain⟨p,xs,e,q,rs⟩:=r;rw[Rep];exact⟨p,xs,e,q,rs.mono gh⟩
 |dct tk ks vs=>
  obtain⟨p,xs,o,e,q,dd,rs⟩:=r;rw[Rep];exact⟨p,xs,o,e,q,dd,rs.mono gh⟩
 |non=>exact Rep.mono gh r
 |bl b=>exact Rep.mono gh r
 |int i=>exact Rep.mono gh r
 |str l=>exact Rep.mono gh r
 |tup ds=>exact Rep.mono gh r
theorem RepO.vw0(gh:Same G H)(hs:o=.f\/o=.l .f\/o=.d)(r:RepO K G H o d v a):Vw K G H d v:=by
 rcases hs with rfl|rfl|rfl
 .exact Vw.of gh (eR.mp r).1
 .cases d with
  |lst ds=>
   obtain⟨p,xs,e,q,_,rs⟩:=jA.mp r;exact⟨p,xs,e,SqL.of q,rs⟩
  |_=>simp![RepO]at r
 .cases d with
  |dct tk ks vs=>
   rw[RepO]at r;obtain⟨p,xs,o,e,q,dd,_,rs⟩:=r;exact⟨p,xs,o,e,.inl q,dd,rs⟩
  |_=>simp![RepO]at r
theorem RepO.vw(gh:Same G H)(hs:qh o=true)(r:RepO K G H o d v a):Vw K G H d v:=by
 unfold qh at hs;split at hs
 .exact r.vw0 gh (.inl rfl)
 .exact r.vw0 gh (.inr (.inl rfl))
 .exact r.vw0 gh (.inr (.inr rfl))
 .rw[RepO]at r;exact r.2.vw0 gh (.inl rfl)
 .rw[RepO]at r;exact r.2.vw0 gh (.inr (.inl rfl))
 .rw[RepO]at r;exact r.2.vw0 gh (.inr (.inr rfl))
 .cases hs
theorem Rel.vw{v:V}{d:D}(q:Rel K G H es σ fp)(k:OpdOk K G σ o v)(e:LK es o=.ok d):Vw K G H d v:=by
 cases o with
 |val d'=>
  cases e;exact Vw.of q.gh k
 |var i=>
  unfold LK at e;dsimp only at e;split at e
  .rename_i r hr;split at e
   .rename_i hs;cases e;obtain⟨v',a,b,ev,r1,_⟩:=q.rep.take hr;have k:σ[i]?=some (some v):=k;rw[k]at ev;cases ev;exact r1.vw q.gh hs
   .cases e
  .cases e
theorem Rel.vwA(q:Rel K G H es σ fp)(k:OpdOk K G σ o v)(e:tf es o=.ok d):Rep K H d v:=by
 cases o with
 |val d'=>
  cases e;exact Rep.mono q.gh k
 |var i=>
  unfold tf at e;dsimp only at e;split at e
  .rename_i r hr;cases e;obtain⟨v',ev,r1⟩:=q.view hr;have k:σ[i]?=some (some v):=k;rw[k]at ev;cases ev;exact r1
  .cases e
theorem Rel.vws(q:Rel K G H es σ fp):∀{os:List Opd}{vs:List V}{ds:List D},jB K G σ os vs->mC es os=.ok ds->Qq K G H ds vs
 |[],_,_,k,e=>by
  cases e;exact k
 |o::os,_,_,⟨y,ys,e0,k1,k2⟩,e=>by
  unfold mC at e;obtain⟨d,e1,e⟩:=ag e;obtain⟨ds,e2,e⟩:=ag e;cases e;exact⟨y,ys,e0,q.vw k1 e1,Rel.vws q k2 e2⟩
theorem eS(gg:Same G G1)(ht:∀(i:Nat) (r:R) (v:V),es[i]?=some (some r)->σ[i]?=some (some v)->Rep K G1 r.2 v):∀{os:List Opd}{vs:List V}{ds:List D},jB K G σ os vs->fZ es os=.ok ds->Reps K G1 ds vs
 |[],_,_,k,e=>by
  cases e;have k:_=_:=k;rw[k];exact Reps.nil
 |o::os,_,_,⟨y,ys,e0,k1,k2⟩,e=>by
  unfold fZ at e;obtain⟨d,e1,e⟩:=ag e;obtain⟨ds,e2,e⟩:=ag e;cases e;rw[e0];refine .cons ?_ (eS gg ht k2 e2);cases o with
  |val d'=>
   cases e1;exact Rep.mono gg k1
  |var i=>
   unfold tf at e1;dsimp only at e1;split at e1
   .rename_i r hr;cases e1;exact ht i r y hr k1
   .cases e1
end
abbrev FX:=PV.Env->Res (R×PV.Env)
abbrev FO:=PV.Env->Res (Opd×PV.Env)
abbrev FOs:=PV.Env->Res (List Opd×PV.Env)
abbrev FT:=PV.Env->Res (Bool×PV.Env)
inductive Out where
 |nx (env:PV.Env)|rt (r:R)|bk (env:PV.Env)|ct (env:PV.Env)
abbrev FS:=PV.Env->Res Out
inductive tQ(K:W.Frag)(f:FX)(σ:L2.St)(H:Hp)(Q:VK):Prop
 |mk:∀G env fp r env',Rel K G H env σ fp->f env=.ok (r,env')->(∀v H' G' Ks,Step G H fp G' H' Ks->Rel K G' H' (some r::env') (some v::σ) Ks->Q v H')->tQ K f σ H Q
inductive tO(K:W.Frag)(f:FO)(σ:L2.St)(H:Hp)(Q:VK):Prop
 |mk:∀G env fp o env',Rel K G H env σ fp->f env=.ok (o,env')->(∀v H' G' Ks,Step G H fp G' H' Ks->Rel K G' H' env' σ Ks->OpdOk K G' σ o v->Q v H')->tO K f σ H Q
inductive tOs(K:W.Frag)(f:FOs)(σ:L2.St)(H:Hp)(Q:List V->Hp->Prop):Prop
 |mk:∀G env fp o env',Rel K G H env σ fp->f env=.ok (o,env')->(∀v H' G' Ks,Step G H fp G' H' Ks->Rel K G' H' env' σ Ks->jB K G' σ o v->Q v H')->tOs K f σ H Q
inductive tQT(K:W.Frag)(f:FT)(σ:L2.St)(H:Hp)(Q:Bool->Hp->Prop):Prop
 |mk:∀G env fp b env',Rel K G H env σ fp->f env=.ok (b,env')->(∀H' G' Ks,Step G H fp G' H' Ks->Rel K G' H' env' σ Ks->Q b H')->tQT K f σ H Q
inductive Mode where
 |plain|mut
def Jd(md:Mode)(K:W.Frag)(G H:Hp)(r:R)(v:V)(fp:List WP):Prop:=match md with
 | .plain=>Rel K G H [some r] [some v] fp
 | .mut=>∃o d p c d0,r=(.t [o,.pin p c],.tup [d,d0])/\Rel K G H [some (o,d),some (.pin p c,d0)] [some v,some (.ref p)] fp
noncomputable def OutOk{md:Mode}(K:W.Frag)(G H:Hp)(fp:List WP)(Dd:Ends):Res Out->Prop
 | .ok (.nx env')=>∀σ' H' G' Ks,Step G H fp G' H' Ks->Rel K G' H' env' σ' Ks->Dd.nx σ' H'
 | .ok (.bk env')=>∀σ' H' G' Ks,Step G H fp G' H' Ks->Rel K G' H' env' σ' Ks->Dd.bk σ' H'
 | .ok (.ct env')=>∀σ' H' G' Ks,Step G H fp G' H' Ks->Rel K G' H' env' σ' Ks->Dd.ct σ' H'
 | .ok (.rt r)=>∀v H' G' Ks,Step G H fp G' H' Ks->Jd md K G' H' r v Ks->Dd.rt v H'
 |_=>False
inductive tQS{md:Mode}(K:W.Frag)(g:FS)(Dd:Ends)(σ:L2.St)(H:Hp):Prop
 |mk:∀G env fp,Rel K G H env σ fp->OutOk (md:=md) K G H fp Dd (g env)->tQS (md:=md) K g Dd σ H
def QE(X:Cx)(e:Expr)(f:FX):Prop:=PE X e (tQ X.K f)
def QO(X:Cx)(e:Expr)(f:FO):Prop:=PE X e (tO X.K f)
def QOs(X:Cx)(es:List Expr)(f:FOs):Prop:=PA X es (tOs X.K f)
def QT(X:Cx)(e:Expr)(f:FT):Prop:=PT X e (tQT X.K f)
def QW(X:Cx)(e:Expr)(f:FT):Prop:=PW X e (tQT X.K f)
def QS{md:Mode}(X:Cx)(st:Stmt)(g:FS):Prop:=PS X st (tQS (md:=md) X.K g)
def QSs{md:Mode}(X:Cx)(st:List Stmt)(g:FS):Prop:=PSs X st (tQS (md:=md) X.K g)
variable{X:Cx}{e:Expr}
theorem aO{t:TE}(h:PE X e t)(k:∀σ H Q,t' σ H Q->t σ H Q):PE X e t':=λpr s σ H Q I w=>h pr s σ H Q I (k σ H Q w)
theorem qi{t:TT}(h:PT X e t)(k:∀σ H Q,t' σ H Q->t σ H Q):PT X e t':=λpr s σ H Q I w=>h pr s σ H Q I (k σ H Q w)
theorem zo{t:TT}(h:PW X e t)(k:∀σ H Q,t' σ H Q->t σ H Q):PW X e t':=λwh pr s σ H Q I w=>h wh pr s σ H Q I (k σ H Q w)
theorem iR{e:List Expr}{t:TA}(h:PA X e t)(k:∀σ H Q,t' σ H Q->t σ H Q):PA X e t':=λpos pr s σ H Q I w=>h pos pr s σ H Q I (k σ H Q w)
theorem de{e:Stmt}{t:TS}(h:PS X e t)(k:∀D σ H,t' D σ H->t D σ H):PS X e t':=λpr s σ H D I w=>h pr s σ H D I (k D σ H w)
theorem lA{e:List Stmt}{t:TS}(h:PSs X e t)(k:∀D σ H,t' D σ H->t D σ H):PSs X e t':=λpr s σ H D I w=>h pr s σ H D I (k D σ H w)
variable{md:Mode}
theorem OutOk.imp{K:W.Frag}(st:Step G H fp G1 H1 KR)(h:OutOk (md:=md) K G H fp Dd r)(n:∀σ H,Dd.nx σ H->SW.nx σ H)(b:∀σ H,Dd.bk σ H->SW.bk σ H)(c:∀σ H,Dd.ct σ H->SW.ct σ H)(t:∀v H,Dd.rt v H->SW.rt v H):OutOk (md:=md) K G1 H1 KR SW r:=by
 match r,h with
 | .ok (.nx env'),h=>exact λσ' H' G' Ks s q=>n _ _ (h σ' H' G' Ks (st.trans s) q)
 | .ok (.bk env'),h=>exact λσ' H' G' Ks s q=>b _ _ (h σ' H' G' Ks (st.trans s) q)
 | .ok (.ct env'),h=>exact λσ' H' G' Ks s q=>c _ _ (h σ' H' G' Ks (st.trans s) q)
 | .ok (.rt r),h=>exact λv H' G' Ks s q=>t _ _ (h v H' G' Ks (st.trans s) q)
theorem OutOk.after{K:W.Frag}(st:Step G H fp G1 H1 KR)(h:OutOk (md:=md) K G H fp Dd r):OutOk (md:=md) K G1 H1 KR Dd r:=h.imp st (λ_ _ z=>z) (λ_ _ z=>z) (λ_ _ z=>z) λ_ _ z=>z
noncomputable def av(d:D):FX:=λenv=>.ok ((.f,d),env)
noncomputable def fz:O->O
 | .pin p .f=>.pin p .f
 |_=>.f
def ax(i:Nat):FX:=λenv=>match env[i]? with
 |some (some r)=>.ok ((.f,r.2),env.set i (some (fz r.1,r.2)))
 |_=>.bad
noncomputable def jC(i:Nat):FX:=λenv=>match env[i]? with
 |some (some r)=>.ok (r,env.set i none)
 |_=>.bad
def af(f:FX):FO:=λenv=>(f env).bind λp=>.ok (.val p.1.2,p.2)
noncomputable def ae(i:Nat):FO:=λenv=>match env[i]? with
 |some (some _)=>.ok (.var i,env)
 |_=>.bad
noncomputable def aj:FOs:=λenv=>.ok ([],env)
def aa(f:FO)(g:FOs):FOs:=λenv=>(f env).bind λp=>(g p.2).bind λq=>.ok (p.1::q.1,q.2)
variable{es:List Expr}{l:List D}{i:Nat}{f:FX}{b:Expr}{fa:FO}{Q:VK}{gg:List D->Res R}{x:Str}
section
theorem qj(h:PE X e (tC v))(r:∀G,Rep X.K G d v):QE X e (av d):=aO h λσ H Q Kz=>by
 obtain⟨G,env,fp,rr,env',rel,e,k⟩:=Kz;cases e;exact k v H G fp .refl (rel.push (r G))
theorem uW{i j pos}:QE X (.Constant (.int i) j pos) (av (.int i)):=qj DB λG=>by rw[Rep]
theorem xV{i j pos}:QE X (.Constant (.bool i) j pos) (av (.bl i)):=qj Ho λG=>by rw[Rep]
theorem Ew{j pos}:QE X (.Constant .none j pos) (av .non):=qj DD λG=>by rw[Rep]
theorem uX{x j pos}{l:List Nat}(h:x=S l)(hl:l.length<=1000):QE X (.Constant (.str x) j pos) (av (.str l)):=qj DE λG=>by
 rw[Rep,h];exact⟨rfl,by rw[line_eq];lia⟩
theorem Bt(h:PE X e (oK i)):QE X e (ax i):=aO h λσ H Q Kz=>by
 obtain⟨G,env,fp,rr,env',rel,e,k⟩:=Kz;unfold ax at e;split at e
 .rename_i r hr;cases e;by_cases hf:fz r.1=.f
  .obtain⟨v,G',fq,ev,rv,K2,st⟩:=rel.freezeAt hr;rw[hf]at k;exact⟨v,ev,k v H G' fq st (K2.push rv)⟩
  .have hp:∃p,r.1=.pin p .f:=by
    unfold fz at hf;split at hf
    .rename_i p hp;exact⟨p,hp⟩
    .exact absurd rfl hf
   obtain⟨p,hp⟩:=hp;obtain⟨v,a,b,ev,r1,_,_⟩:=rel.rep.take hr;rw[hp,RepO]at r1;have es:env.set i (some (fz r.1,r.2))=env:=by
    refine lz ?_;rw[hr,hp];show some (some r)=some (some (.pin p .f,r.2));rw[<-hp]
   rw[es]at k;exact⟨v,ev,k v H G fp .refl (rel.push (eR.mp r1.2).1)⟩
 .cases e
theorem uY(h:PE X e (oK i)):QE X e (jC i):=aO h λσ H Q Kz=>by
 obtain⟨G,env,fp,rr,env',rel,e,k⟩:=Kz;unfold jC at e;split at e
 .rename_i r hr;cases e;obtain⟨v,fq,ev,K2,st,_⟩:=rel.out hr;exact⟨v,ev,k v H G fq st K2⟩
 .cases e
theorem jD(h:QE X e f):QO X e (af f):=aO h λσ H Q Kz=>by
 obtain⟨G,env,fp,o,env',rel,e,k⟩:=Kz;obtain⟨⟨r,Ko⟩,e1,e⟩:=ag e;cases e;refine⟨G,env,fp,r,Ko,rel,e1,λv H' G' Ks st K2=>?_⟩;obtain⟨G2,b,rv,Kq,Kw⟩:=K2.freeze;exact k v H' G2 b (st.trans Kw) Kq rv
theorem cE(h:PE X e (oK i)):QO X e (ae i):=aO h λσ H Q Kz=>by
 obtain⟨G,env,fp,o,env',rel,e,k⟩:=Kz;unfold ae at e;split at e
 .rename_i r hr;cases e;obtain⟨v,ev,_⟩:=rel.view hr;exact⟨v,ev,k v H G fp .refl rel ev⟩
 .cases e
theorem cS:QOs X [] aj:=iR gM λσ H Q Kz=>by
 obtain⟨G,env,fp,o,env',rel,e,k⟩:=Kz;cases e;exact k [] H G fp .refl rel rfl
theorem a8{f:FO}(h:QO X e f)(hs:QOs X es g)(Mf:starEach (e::es) X.env=(false,eval e X.env)::starEach es X.env:=by rfl):QOs X (e::es) (aa f g):=
 iR (cc h hs Mf) λσ H Q Kz=>by
  obtain⟨G,env,fp,o,env',rel,e,k⟩:=Kz;obtain⟨⟨o1,Ko⟩,e1,e⟩:=ag e;obtain⟨⟨os,KA⟩,e2,e⟩:=ag e;cases e;exact⟨G,env,fp,o1,Ko,rel,e1,λv H1 G1 KR KJ Kr Lx=>⟨G1,Ko,KR,os,KA,Kr,e2,λvs H2 G2 Lc Kw Kq NH=>k _ H2 G2 Lc (KJ.trans Kw) Kq ⟨v,vs,rfl,Lx.mono Kw.gg,NH⟩⟩⟩
def aq(g:D->D->Res R)(fa fb:FO):FX:=λenv=>(fa env).bind λp=>(fb p.2).bind λq=>(LK q.2 p.1).bind λa=>(LK q.2 q.1).bind λb=>(g a b).bind λr=>.ok (r,q.2)
def aK(g:D->D->Res R)(fa fb:FO):FX:=λenv=>(fa env).bind λp=>(fb p.2).bind λq=>(tf q.2 p.1).bind λa=>(tf q.2 q.1).bind λb=>(g a b).bind λr=>.ok (r,q.2)
structure Goes(K:W.Frag)(H:Hp)(G:Hp)(fp:List WP)(es:PV.Env)(vs:L2.St)(r:R)(Q:VK):Prop where
 rel:Rel K G H es vs fp
 cG:∀v H' G' Ks,Step G H fp G' H' Ks->Rel K G' H' (some r::es) (some v::vs) Ks->Q v H'
inductive rG(K:W.Frag)(g:D->D->Res R)(x:V)(y:V)(H:Hp)(Q:VK):Prop
 |mk:∀G fp es vs a b r,Goes K H G fp es vs r Q->Vw K G H a x->Vw K G H b y->g a b=.ok r->rG K g x y H Q
inductive rGA(K:W.Frag)(g:D->D->Res R)(x:V)(y:V)(H:Hp)(Q:VK):Prop
 |mk:∀G fp es vs a b r,Goes K H G fp es vs r Q->Rep K H a x->Rep K H b y->g a b=.ok r->rGA K g x y H Q
variable{a c:Expr}{fb fc:FO}{pos:Pos}{g g':D->D->Res R}
theorem ql(h:tQ X.K (aq g fa fb) σ H Q):RV (rG X.K g) (tO X.K fa) (tO X.K fb) σ H Q:=by
 obtain⟨G,env,fp,r,env',rel,e,k⟩:=h;obtain⟨⟨oa,e1⟩,ha,e⟩:=ag e;obtain⟨⟨ob,e2⟩,hb,e⟩:=ag e;obtain⟨da,O6,e⟩:=ag e;obtain⟨db,Lw,e⟩:=ag e;obtain⟨r',hr,e⟩:=ag e;cases e;exact⟨G,env,fp,oa,e1,rel,ha,λx H1 G1 KR KJ Kr Lx=>⟨G1,e1,KR,ob,e2,Kr,hb,λy H2 G2 Lc Kw Kq NH=>
  ⟨G2,Lc,e2,σ,da,db,r,⟨Kq,λv H' G' Ks st K2=>k v H' G' Ks (KJ.trans (Kw.trans st)) K2⟩,Kq.vw (Lx.mono Kw.gg) O6,Kq.vw NH Lw,hr⟩⟩⟩
theorem uZ(h:tQ X.K (aK g fa fb) σ H Q):RV (rGA X.K g) (tO X.K fa) (tO X.K fb) σ H Q:=by
 obtain⟨G,env,fp,r,env',rel,e,k⟩:=h;obtain⟨⟨oa,e1⟩,ha,e⟩:=ag e;obtain⟨⟨ob,e2⟩,hb,e⟩:=ag e;obtain⟨da,O6,e⟩:=ag e;obtain⟨db,Lw,e⟩:=ag e;obtain⟨r',hr,e⟩:=ag e;cases e;exact⟨G,env,fp,oa,e1,rel,ha,λx H1 G1 KR KJ Kr Lx=>⟨G1,e1,KR,ob,e2,Kr,hb,λy H2 G2 Lc Kw Kq NH=>
  ⟨G2,Lc,e2,σ,da,db,r,⟨Kq,λv H' G' Ks st K2=>k v H' G' Ks (KJ.trans (Kw.trans st)) K2⟩,Kq.vwA (Lx.mono Kw.gg) O6,Kq.vwA NH Lw,hr⟩⟩⟩
theorem sr{op:Operator}(ho:Lk X (binaryOp op) (rG X.K g))(ha:QO X a fa)(hb:QO X b fb):QE X (.BinOp a op b pos) (aq g fa fb):=aO (HB ho ha hb) λ_ _ _=>ql
theorem Ex{op:CmpOp}(ho:Lk X (compareOp op) (rG X.K g))(ha:QO X a fa)(hb:QO X b fb)(hm:behindInMarks op b=false):QE X (.Compare a [op] [b] pos) (aq g fa fb):=aO (tY ho ha hb hm) λ_ _ _=>ql
theorem vf{op:CmpOp}(ho:Lk X (compareOp op) (rGA X.K g))(ha:QO X a fa)(hb:QO X b fb)(hm:behindInMarks op b=false):QE X (.Compare a [op] [b] pos) (aK g fa fb):=aO (tY ho ha hb hm) λ_ _ _=>uZ
def eBl(f:FX):FT:=λenv=>(f env).bind λp=>match p.1.2 with
 | .bl k=>.ok (k,p.2)
 |_=>.bad
theorem Bu{Q:Bool->Hp->Prop}(h:tQT X.K (eBl f) σ H Q):tQ X.K f σ H λx H'=>∃k,x=.bl k/\Q k H':=by
 obtain⟨G,env,fp,k,env',rel,e,q⟩:=h;obtain⟨⟨⟨o,d⟩,Ko⟩,e1,e⟩:=ag e;dsimp only at e;split at e
 .cases e;refine⟨G,env,fp,_,_,rel,e1,λv H' G' Ks st K2=>?_⟩;have hv:=K2.top;rw[show((o,D.bl k):R).2=D.bl k from rfl,Rep]at hv;obtain⟨b,Kq,Kw⟩:=K2.drop;exact⟨k,hv,q H' G' b (st.trans Kw) Kq⟩
 .cases e
theorem zp(h:QE X e f)(he:∀whole,isTrue e X.env whole=(do let v <-whole;standAt e.pos;holding [v] (truthy v)):=by intro _;rfl):QT X e (eBl f):=qi (DF h he) λ_ _ _=>Bu
theorem zq{op:CmpOp}(ho:Lk X (compareOp op) (rG X.K g))(ha:QO X a fa)(hb:QO X b fb)(hm:behindInMarks op b=false):QT X (.Compare a [op] [b] pos) (eBl (aq g fa fb)):=
 qi (tZ ho ha hb hm) λ_ _ _ h=>ql (Bu h)
theorem gB{op:CmpOp}(ho:Lk X (compareOp op) (rGA X.K g))(ha:QO X a fa)(hb:QO X b fb)(hm:behindInMarks op b=false):QT X (.Compare a [op] [b] pos) (eBl (aK g fa fb)):=
 qi (tZ ho ha hb hm) λ_ _ _ h=>uZ (Bu h)
def vg(f g:FT):FT:=λenv=>(f env).bind λp=>if p.1 then g p.2 else .ok (false,p.2)
def bOr(f g:FT):FT:=λenv=>(f env).bind λp=>if p.1 then .ok (true,p.2) else g p.2
def zr(f:FT):FT:=λenv=>(f env).bind λp=>.ok (!p.1,p.2)
variable{ga gb:FT}{aZ:List Expr}
theorem Bv(h:QT X a ga):QW X (.BoolOp .And [a] pos) ga:=Ar h
theorem Ey(h:QT X a ga):QW X (.BoolOp .Or [a] pos) ga:=DG h
theorem Ez(h:QT X a ga)(h2:QW X (.BoolOp .And (b::aZ) pos) gb):QW X (.BoolOp .And (a::b::aZ) pos) (vg ga gb):=zo (DH h h2) λσ H Q Kz=>by
 obtain⟨G,env,fp,k,env',rel,e,q⟩:=Kz;obtain⟨⟨k1,Ko⟩,e1,e⟩:=ag e;refine⟨G,env,fp,k1,Ko,rel,e1,λH1 G1 KR KJ Kr=>?_⟩;dsimp only at e;cases k1 with
 |true=>exact⟨G1,Ko,KR,k,env',Kr,e,λH2 G2 Lc Kw Kq=>q H2 G2 Lc (KJ.trans Kw) Kq⟩
 |false=>
  cases e;exact q H1 G1 KR KJ Kr
theorem Ic(h:QT X a ga)(h2:QW X (.BoolOp .Or (b::aZ) pos) gb):QW X (.BoolOp .Or (a::b::aZ) pos) (bOr ga gb):=zo (Hq h h2) λσ H Q Kz=>by
 obtain⟨G,env,fp,k,env',rel,e,q⟩:=Kz;obtain⟨⟨k1,Ko⟩,e1,e⟩:=ag e;refine⟨G,env,fp,k1,Ko,rel,e1,λH1 G1 KR KJ Kr=>?_⟩;dsimp only at e;cases k1 with
 |false=>exact⟨G1,Ko,KR,k,env',Kr,e,λH2 G2 Lc Kw Kq=>q H2 G2 Lc (KJ.trans Kw) Kq⟩
 |true=>
  cases e;exact q H1 G1 KR KJ Kr
theorem QW.qt{f:FT}(h:QW X e f):QT X e f:=h.pt
theorem zt(h:QT X a ga):QT X (.UnaryOp .Not a pos) (zr ga):=qi (DI h) λσ H Q Kz=>by
 obtain⟨G,env,fp,k,env',rel,e,q⟩:=Kz;obtain⟨⟨k1,Ko⟩,e1,e⟩:=ag e;cases e;exact⟨G,env,fp,k1,Ko,rel,e1,λH1 G1 KR KJ Kr=>q H1 G1 KR KJ Kr⟩
def Kf(f g:FX):FX:=λenv=>(f env).bind λp=>match p.1.2 with
 | .bl true=>g p.2
 | .bl false=>.ok ((.f,.bl false),p.2)
 |_=>.bad
def eOr(f g:FX):FX:=λenv=>(f env).bind λp=>match p.1.2 with
 | .bl true=>.ok ((.f,.bl true),p.2)
 | .bl false=>g p.2
 |_=>.bad
def Hj(f:FX):FX:=λenv=>(f env).bind λp=>match p.1.2 with
 | .bl k=>.ok ((.f,.bl (!k)),p.2)
 |_=>.bad
def eIf(c:FT)(f g:FX):FX:=λenv=>(c env).bind λp=>if p.1 then f p.2 else g p.2
variable{ea eb:FX}
theorem b7(k:Bool):Rep K G (.bl k) (.bl k):=by rw[Rep]
theorem aW(k:Int):Rep K G (.int k) (.int k):=by rw[Rep]
theorem lB:Rep K G .non .non:=by rw[Rep]
theorem iE{l:List Nat}(h:l.length<=sizeLine):Rep K G (.str l) (.str (S l)):=by
 rw[Rep];exact⟨rfl,h⟩
theorem o7{k:Bool}(h:Rep K G (.bl k) v):v=.bl k:=by rw[Rep]at h;exact h
theorem gW{k:Int}(h:Rep K G (.int k) v):v=.int k:=by rw[Rep]at h;exact h
theorem qm(h:Rep K G .non v):v=.non:=by rw[Rep]at h;exact h
theorem eT{l:List Nat}(h:Rep K G (.str l) v):v=.str (S l)/\l.length<=sizeLine:=by rw[Rep]at h;exact h
inductive OfT(K:W.Frag)(G:Hp)(l:List D)(v:V):Prop
 |mk (p:WP) (xs:List V) (e:v=.ref p) (q:SqT K G p xs) (r:Reps K G l xs):OfT K G l v
inductive OfL(K:W.Frag)(G:Hp)(l:List D)(v:V):Prop
 |mk (p:WP) (xs:List V) (e:v=.ref p) (q:SqL K G p xs) (r:Reps K G l xs):OfL K G l v
theorem eD(h:Rep K G (.tup l) v):OfT K G l v:=by
 rw[Rep]at h;obtain⟨p,xs,e,q,r⟩:=h;exact⟨p,xs,e,SqT.of q,r⟩
theorem vh(h:Rep K G (.tup l) v):∃p xs,v=.ref p/\G p=some (.tup xs)/\Reps K G l xs:=by rw[Rep]at h;exact h
theorem gj(h:Rep K G (.lst l) v):OfL K G l v:=by
 rw[Rep]at h;obtain⟨p,xs,e,q,r⟩:=h;exact⟨p,xs,e,q,r⟩
theorem aX{k:Int}(h:Vw K G H (.int k) v):v=.int k:=gW (K:=K) (G:=G) h
theorem gX{l:List Nat}(h:Vw K G H (.str l) v):v=.str (S l)/\l.length<=sizeLine:=eT (K:=K) (G:=G) h
theorem gk(h:Vw K G H (.tup l) v):OfT K G l v:=eD (K:=K) (G:=G) h
theorem EA(h:QE X a ea):QE X (.UnaryOp .Not a pos) (Hj ea):=aO (y0 h) λσ H Q Kz=>by
 obtain⟨G,env,fp,r,env',rel,e,q⟩:=Kz;obtain⟨⟨⟨o,d⟩,Ko⟩,e1,e⟩:=ag e;refine⟨G,env,fp,_,Ko,rel,e1,λv H1 G1 KR KJ Kr=>?_⟩;have hv:=Kr.top;obtain⟨b',Kq,Kw⟩:=Kr.drop;dsimp only at e hv;split at e
 .cases e;exact⟨_,o7 hv,q _ H1 G1 b' (KJ.trans Kw) (Kq.push (b7 _))⟩
 .cases e
def Je(g g':D->D->Res R)(fa fb fc:FO):FX:=λenv=>(fa env).bind λp=>(fb p.2).bind λq=>(LK q.2 p.1).bind λa=>(LK q.2 q.1).bind λb=>(g a b).bind λr=>match r with
 |(.f,.bl true)=>(fc q.2).bind λt=>(LK t.2 q.1).bind λb=>(LK t.2 t.1).bind λc=>(g' b c).bind λr=>.ok (r,t.2)
 |(.f,.bl false)=>.ok ((.f,.bl false),q.2)
 |_=>.bad
inductive rC(K:W.Frag)(g:List D->Res R)(xs:List V)(H:Hp)(Q:VK):Prop
 |mk:∀G fp es vs ds r,Goes K H G fp es vs r Q->Qq K G H ds xs->g ds=.ok r->rC K g xs H Q
def aH(g:List D->Res R)(fs:FOs):FX:=λenv=>(fs env).bind λp=>(mC p.2 p.1).bind λds=>(g ds).bind λr=>.ok (r,p.2)
theorem o8{fs:FOs}(h:tQ X.K (aH gg fs) σ H Q):US (rC X.K gg) (tOs X.K fs) σ H Q:=by
 obtain⟨G,env,fp,r,env',rel,e,k⟩:=h;obtain⟨⟨os,e1⟩,ha,e⟩:=ag e;obtain⟨ds,hd,e⟩:=ag e;obtain⟨r',hr,e⟩:=ag e;cases e;exact⟨G,env,fp,os,e1,rel,ha,λvs H1 G1 KR KJ Kr Lx=>⟨G1,KR,e1,σ,ds,r,⟨Kr,λv H' G' Ks st K2=>k v H' G' Ks (KJ.trans st) K2⟩,Kr.vws Lx hd,hr⟩⟩
variable{p:Pos}{fs:FOs}{id T:String}
theorem fQ(hc:cb X (.builtin id) (rC X.K gg))(hg:Gl X x)(hm:X.mg x=none)(hv:bootBuiltins x=some (.builtin id))(ha:QOs X (e::es) fs)(hn:x≠"__name__":=by decide)(Lw:@o=false:=by decide)
  (he:starEach (e::es) X.env=(false,eval e X.env)::starEach es X.env:=by rfl) (Lj:(backTo pos (starEach es X.env)).any (·.1)=false:=by rfl):QE X (.Call (.Name x p) (e::es) [] pos) (aH gg fs):=
 aO (jd hc hg hm hv ha hn Lw he Lj) λ_ _ _=>o8
theorem jE(hc:cb X (.type T) (rC X.K gg))(hg:Gl X x)(hm:X.mg x=none)(hv:bootBuiltins x=some (.type T))(ha:QOs X (e::es) fs)(hn:x≠"__name__":=by decide)(Lw:@o=false:=by decide)
  (he:starEach (e::es) X.env=(false,eval e X.env)::starEach es X.env:=by rfl) (Lj:(backTo pos (starEach es X.env)).any (·.1)=false:=by rfl):QE X (.Call (.Name x p) (e::es) [] pos) (aH gg fs):=
 aO (uf hc hg hm hv ha hn Lw he Lj) λ_ _ _=>o8
inductive spF(K:W.Frag)(F:List D->Res R)(vs:List V)(H:Hp)(Q:VK)(zz:XK):Prop
 |mk:∀G ds r,Same G H->Reps K G ds vs->F ds=.ok r->(∀v H' G' Ks,Step G H [] G' H' Ks->Rel K G' H' [some r] [some v] Ks->Q v H')->spF K F vs H Q zz
def cx(F:List D->Res R)(fs:FOs):FX:=λenv=>(fs env).bind λp=>(fZ p.2 p.1).bind λds=>(F ds).bind λr=>.ok (r,if ay r.1 r.2 then p.2 else p.2.map frz)
theorem qo{k:Nat}(C:Ct X.prog X.w X.K X.mg X.base x k (spF X.K F))(hr:Room k X.A)(hg:Gl X x)(ha:QOs X (e::es) fs)(Lw:@o=false:=by decide)(he:starEach (e::es) X.env=(false,eval e X.env)::starEach es X.env:=by rfl)(Lj:(backTo pos (starEach es X.env)).any (·.1)=false:=by rfl):QE X (.Call (.Name x p) (e::es) [] pos) (cx F fs):=
 aO (AO C hr hg ha Lw he Lj) λσ H Q Kz=>by
  obtain⟨G,env,fp,r,env',rel,e,k⟩:=Kz;obtain⟨⟨os,e1⟩,ha,e⟩:=ag e;obtain⟨ds,hd,e⟩:=ag e;obtain⟨r',hr,e⟩:=ag e;refine⟨G,env,fp,os,e1,rel,ha,λvs H1 G1 KR KJ Kr Lx=>?_⟩;show spF X.K F (vs++[]) H1 Q _;rw[Xe];obtain⟨G2,Om,O7,Mh,_,L5⟩:=Kr.lend;refine⟨G2,ds,r',O7,eS Om Mh Lx hd,hr,λv H' G' Ks st K2=>?_⟩;obtain⟨k1,k2⟩:=L5 H' G' Ks r' v st K2;by_cases hc:ay r'.1 r'.2=true
  .rw[WV hc]at e;cases e;obtain⟨G3,LJ,K3,K0⟩:=k1 hc;exact k v H' G3 LJ (KJ.trans K3) K0
  .rw[W6 hc]at e;cases e;obtain⟨G3,LJ,K3,K0⟩:=k2;exact k v H' G3 LJ (KJ.trans K3) K0
end
def sSeq(g1 g2:FS):FS:=λenv=>(g1 env).bind λo=>match o with
 | .nx e=>g2 e
 |o=>.ok o
noncomputable def bD:FS:=λenv=>.ok (.nx env)
noncomputable def qp:FS:=λ_=>.bad
def a9(i:Nat)(f:FX):FS:=λenv=>(f env).bind λp=>if i<p.2.length then .ok (.nx (p.2.set i (some p.1))) else .bad
def f7(f:FX):FS:=λenv=>(f env).bind λp=>.ok (.nx p.2)
def cT(f:FX):FS:=λenv=>(f env).bind λp=>.ok (.rt p.1)
def sIf(c:FT)(g h:FS):FS:=λenv=>(c env).bind λp=>if p.1 then g p.2 else h p.2
variable{st:Stmt}{c:FT}{env:PV.Env}{vs:L2.St}{ct tg:Expr}{NI:List Expr}{n:Nat}{xs:List V}{ds:List D}{p:WP}
section
variable{Oo:List Stmt}{g h:FS}{pos:Pos}
theorem Bw:QSs (md:=md) X [] bD:=lA tH λD σ H ⟨G,env,fp,rel,k⟩=>k σ H G fp .refl rel
theorem lC(a:QS (md:=md) X st g):QSs (md:=md) X [st] g:=As a
theorem lD(a:QS (md:=md) X st g)(b:QSs (md:=md) X Oo h):QSs (md:=md) X (st::Oo) (sSeq g h):=lA (k4 a b) λD σ H Kz=>by
 obtain⟨G,env,fp,rel,k⟩:=Kz;refine⟨G,env,fp,rel,?_⟩;have k:OutOk X.K G H fp D ((g env).bind λo=>match o with | .nx e=>h e|o=>.ok o):=k;match q:g env,k with
 | .ok (.nx Ko),k=>exact λσ1 H1 G1 KR KJ Kr=>⟨G1,Ko,KR,Kr,OutOk.after KJ k⟩
 | .ok (.bk Ko),k=>exact k
 | .ok (.ct Ko),k=>exact k
 | .ok (.rt r),k=>exact k
theorem xW:QS (md:=md) X st qp:=de xi λD σ H ⟨G,env,fp,rel,k⟩=>k
theorem vk{D:Ends}{i:Nat}(rel:Rel K G H env σ fp)(k:OutOk (md:=md) K G H fp D (a9 i f env)):tQ K f σ H λv H'=>D.nx (σ.set i (some v)) H':=by
 unfold a9 at k;match q:f env,k with
 | .ok (r,Ko),k=>
  have k:OutOk K G H fp D (if i<Ko.length then .ok (.nx (Ko.set i (some r))) else .bad):=k;by_cases hi:i<Ko.length
  .rw[WV hi]at k;refine⟨G,env,fp,r,Ko,rel,q,λv H1 G1 KR KJ Kr=>?_⟩;obtain⟨fq,Kq,Kw⟩:=Kr.store hi;exact k _ H1 G1 fq (KJ.trans Kw) Kq
  .rw[W6 hi]at k;exact k.elim
theorem zu(hN:X.N.Nodup)(hi:X.N[i]?=some x)(hx:Loc X.env.scope x)(he:QE X e f)(hs:swapsWith e (some (.Name x pos')) pos.line X.env=pure false:=by rfl)(hf:X.fn x=true\/X.env.scope.names.lookup x=some .local:=by first|exact .inl rfl|exact .inr rfl|assumption):
  QS (md:=md) X (.Assign [.Name x pos'] e pos) (a9 i f):=de (tI (i:=i) hN hi hx he hs hf) λD σ H ⟨G,env,fp,rel,k⟩=>vk rel k
theorem o9(he:QE X e f)(hs:swapsWith e none pos.line X.env=pure false:=by rfl):QS (md:=md) X (.Expr e pos) (f7 f):=de (Au he hs) λD σ H Kz=>by
 obtain⟨G,env,fp,rel,k⟩:=Kz;unfold f7 at k;match q:f env,k with
 | .ok (r,Ko),k=>
  refine⟨G,env,fp,r,Ko,rel,q,λv H1 G1 KR KJ Kr=>?_⟩;obtain⟨b,Kq,Kw⟩:=Kr.drop;exact k _ H1 G1 b (KJ.trans Kw) Kq
theorem Rel.only{es:PV.Env}(q:Rel K G H (some r::es) (some v::vs) fp):∃a,Rel K G H [some r] [some v] a/\Step G H fp G H a:=by
 obtain⟨y,ys,e,v',a,b,e1,e2,r1,r2⟩:=q.rep;cases e;cases e1;subst e2;have nd:=Xl.mp q.nd;exact⟨a,⟨⟨some v,[],rfl,v,a,[],rfl,(Xe _).symm,r1,rfl,rfl⟩,nd.1,λp hp=>q.gn p (WR _ hp),q.gh⟩,Step.cut λp hp=>WR _ hp⟩
theorem zv(he:QE X e f):QS (md:=.plain) X (.Return (some e) pos) (cT f):=de (y1 he) λD σ H Kz=>by
 obtain⟨G,env,fp,rel,k⟩:=Kz;unfold cT at k;match q:f env,k with
 | .ok (r,Ko),k=>
  refine⟨G,env,fp,r,Ko,rel,q,λv H1 G1 KR KJ Kr=>?_⟩;obtain⟨b,Kq,Kw⟩:=Kr.only;exact k _ H1 G1 b (KJ.trans Kw) Kq
theorem Rel.nilF{es:PV.Env}(q:Rel K G H es vs fp):Rel K G H [] [] []:=⟨⟨rfl,rfl⟩,XN,(λ_ h=>nomatch h),q.gh⟩
theorem Ie{a b:List Stmt}(hc:QT X ct c)(ha:QSs (md:=md) X a g)(hb:QSs (md:=md) X b h):QS (md:=md) X (.If ct a b pos) (sIf c g h):=de (Hv hc ha hb) λD σ H Kz=>by
 obtain⟨G,env,fp,rel,k⟩:=Kz;unfold sIf at k;match q:c env,k with
 | .ok (true,Ko),k=>exact⟨G,env,fp,true,Ko,rel,q,λH1 G1 KR KJ Kr=>Hg ⟨G1,Ko,KR,Kr,OutOk.after KJ k⟩⟩
 | .ok (false,Ko),k=>exact⟨G,env,fp,false,Ko,rel,q,λH1 G1 KR KJ Kr=>iteF ⟨G1,Ko,KR,Kr,OutOk.after KJ k⟩⟩
def bE(c:FT)(g:FS):Nat->FS
 | 0,_=>.bad
 |n+1,env=>(c env).bind λp=>if p.1 then(g p.2).bind λo=>match o with
  | .nx e=>bE c g n e
  | .ct e=>bE c g n e
  | .bk e=>.ok (.nx e)
  | .rt r=>.ok (.rt r)
  else .ok (.nx p.2)
theorem xX(n:Nat)(hp:PassesOwn @c X.A X.env X.xe)(hc:QT X ct c)(hb:QSs (md:=md) X body g):QS (md:=md) X (.While ct body [] pos) (bE c g n):=
 de (xk hp hc hb) λD σ H Kz=>by
  obtain⟨G,env,fp,rel,k⟩:=Kz;refine⟨λm σ' H'=>∃G' env' Ks,Rel X.K G' H' env' σ' Ks/\OutOk X.K G' H' Ks D (bE c g m env'),⟨n,G,env,fp,rel,k⟩,?_⟩;rintro m σ1 H1 ⟨G1,Ko,KR,Kr,k1⟩;cases m with
  |zero=>exact k1.elim
  |succ m=>
   unfold bE at k1;match q:c Ko,k1 with
   | .ok (false,KA),k1=>exact⟨G1,Ko,KR,false,KA,Kr,q,λH2 G2 Lc Kw Kq=>iteF (k1 _ H2 G2 Lc Kw Kq)⟩
   | .ok (true,KA),k1=>
    refine⟨G1,Ko,KR,true,KA,Kr,q,λH2 G2 Lc Kw Kq=>Hg ?_⟩;refine⟨λσ' H'=>∃G' env' Ks,Rel X.K G' H' env' σ' Ks/\OutOk X.K G' H' Ks D (bE c g m env'),λσ' H' z=>⟨m,Zd _,z⟩,G2,KA,Lc,Kq,?_⟩;have k2:OutOk X.K G1 H1 KR D ((g KA).bind λo=>match o with | .nx e=>bE c g m e | .ct e=>bE c g m e | .bk e=>.ok (.nx e) | .rt r=>.ok (.rt r)):=k1;match q2:g KA,k2 with
    | .ok (.nx e),k2=>exact λσ' H' G' Ks st rel=>⟨G',e,Ks,rel,OutOk.after (Kw.trans st) k2⟩
    | .ok (.ct e),k2=>exact λσ' H' G' Ks st rel=>⟨G',e,Ks,rel,OutOk.after (Kw.trans st) k2⟩
    | .ok (.bk e),k2=>exact λσ' H' G' Ks st rel=>k2 σ' H' G' Ks (Kw.trans st) rel
    | .ok (.rt r),k2=>exact λv H' G' Ks st rel=>k2 v H' G' Ks (Kw.trans st) rel
def Walk(K:W.Frag)(G:Hp)(J:It)(ds:List D):Prop:=∀G' H' es vs fp,Same G G'->Rel K G' H' es vs fp->∀i:Nat,
 (∀d,ds[i]?=some d->J.go i H'/\∀x H2,J.yld i H' x H2->∃G2,Rep K G2 d x/\Rel K G2 H2 es vs fp/\Step G' H' fp G2 H2 fp)/\(i=ds.length->J.stop i H')
abbrev FI:=PV.Env->Res (List D×PV.Env)
inductive tQI(K:W.Frag)(f:FI)(σ:L2.St)(H:Hp)(R:It->Hp->Prop):Prop
 |mk:∀G env fp ds env',Rel K G H env σ fp->f env=.ok (ds,env')->(∀J H' G' Ks,Step G H fp G' H' Ks->Rel K G' H' env' σ Ks->Walk K G' J ds->R J H')->tQI K f σ H R
def QI(X:Cx)(tg e:Expr)(f:FI):Prop:=PI X tg e (tQI X.K f)
theorem iS{t:TI}(h:PI X tg e t)(k:∀σ H R,t' σ H R->t σ H R):PI X tg e t':=λpr s σ H R I w=>h pr s σ H R I (k σ H R w)
abbrev FG:=D->PV.Env->Res PV.Env
inductive tQG(K:W.Frag)(a:FG)(v:V)(σ:L2.St)(H:Hp)(Q:L2.St->Hp->Prop):Prop
 |mk:∀G env fp d env',Rel K G H env σ fp->Rep K G d v->a d env=.ok env'->(∀σ' G' Ks,Step G H fp G' H Ks->Rel K G' H env' σ' Ks->Q σ' H)->tQG K a v σ H Q
def QG(X:Cx)(tg:Expr)(a:FG):Prop:=PG X tg (tQG X.K a)
noncomputable def ao(i:Nat):FG:=λd env=>if i<env.length then .ok (env.set i (some (.f,d))) else .bad
theorem zw{t:TG}(h:PG X tg t)(k:∀v σ H Q,t' v σ H Q->t v σ H Q):PG X tg t':=λpr s σ H v u Q I r w=>h pr s σ H v u Q I r (k v σ H Q w)
theorem vm{tg:List Expr}{t:Qc}(h:QD X tg t)(k:∀v σ H Q,t' v σ H Q->t v σ H Q):QD X tg t':=λpr s σ H v u Q I r w=>h pr s σ H v u Q I r (k v σ H Q w)
theorem Bx(hN:X.N.Nodup)(hi:X.N[i]?=some x)(hx:Loc X.env.scope x)(hf:X.fn x=true\/X.env.scope.names.lookup x=some .local:=by first|exact .inl rfl|exact .inr rfl|assumption):QG X (.Name x pos) (ao i):=
 zw (Av (i:=i) hN hi hx hf) λv σ H Q Kz=>by
  obtain⟨G,env,fp,d,env',rel,r,e,k⟩:=Kz;unfold ao at e;split at e
  .rename_i hl;cases e;obtain⟨fq,Kq,Kw⟩:=(rel.push r).store hl;exact k _ G fq Kw Kq
  .cases e
abbrev O8:=List D->PV.Env->Res PV.Env
inductive tQGs(K:W.Frag)(a:O8)(vs:List V)(σ:L2.St)(H:Hp)(Q:L2.St->Hp->Prop):Prop
 |mk:∀G env fp ds env',Rel K G H env σ fp->Reps K G ds vs->a ds env=.ok env'->(∀σ' G' Ks,Step G H fp G' H Ks->Rel K G' H env' σ' Ks->Q σ' H)->tQGs K a vs σ H Q
def QGs(X:Cx)(tg:List Expr)(a:O8):Prop:=QD X tg (tQGs X.K a)
noncomputable def b8:O8:=λds env=>match ds with
 |[]=>.ok env
 |_=>.bad
def aw(a:FG)(b:O8):O8:=λds env=>match ds with
 |d::ds=>(a d env).bind λe=>b ds e
 |_=>.bad
theorem By:QGs X [] b8:=vm Aw λvs σ H Q Kz=>by
 obtain⟨G,env,fp,ds,env',rel,r,e,k⟩:=Kz;cases ds with
 |nil=>
  cases e;rw[Reps]at r;exact⟨r,k σ G fp .refl rel⟩
 |cons d ds=>cases e
theorem xY{a:FG}{b:O8}(h1:QG X tg a)(h2:QGs X NI b)(hs:(assignEach (tg::NI) X.env).map (·.2)=assign tg X.env::(assignEach NI X.env).map (·.2):=by rfl):QGs X (tg::NI) (aw a b):=
 vm (xj h1 h2 hs) λvs σ H Q Kz=>by
  obtain⟨G,env,fp,ds,env',rel,r,e,k⟩:=Kz;cases ds with
  |nil=>cases e
  |cons d ds=>
   rw[Reps]at r;obtain⟨y,ys,ev,r1,r2⟩:=r;obtain⟨Ko,e1,e2⟩:=ag e;exact⟨y,ys,ev,G,env,fp,d,Ko,rel,r1,e1,λσ1 G1 KR KJ Kr=>⟨G1,Ko,KR,ds,env',Kr,r2.mono KJ.gg,e2,λσ2 G2 Lc Kw Kq=>k σ2 G2 Lc (KJ.trans Kw) Kq⟩⟩
noncomputable def gC(n:Nat)(a:O8):FG:=λd env=>match d with
 | .tup ds=>if ds.length=n then a ds env else .bad
 |_=>.bad
theorem EB{k:Nat}{a:O8}(hc:X.calm=true)(h:QGs X NI a)(hn:(assignEach NI X.env).length=n:=by rfl)(Mf:(assignEach NI X.env).findIdx? (·.1)=none:=by rfl):QG X (.Tuple NI k pos) (gC n a):=
 zw (DN hc h hn Mf) λv σ H Q Kz=>by
  obtain⟨G,env,fp,d,env',rel,r,e,k⟩:=Kz;unfold gC at e;split at e
  .rename_i ds;split at e
   .rename_i hl;obtain⟨p,xs,ev,sq,rs⟩:=eD r;exact⟨p,xs,ev,bh rel.gh sq,rs.length.trans hl,G,env,fp,ds,env',rel,rs,e,k⟩
   .cases e
  .cases e
def cU(a:FG)(g:FS):List D->FS
 |[],env=>.ok (.nx env)
 |d::ds,env=>(a d env).bind λe=>(g e).bind λo=>match o with
  | .nx e=>cU a g ds e
  | .ct e=>cU a g ds e
  | .bk e=>.ok (.nx e)
  | .rt r=>.ok (.rt r)
def mD(f:FI)(a:FG)(g:FS):FS:=λenv=>(f env).bind λp=>cU a g p.1 p.2
theorem EC{a:FG}(hp:PassesOwn @c X.A X.env X.xe)(hc:X.calm=true)(hi:QI X tg iter fi)(hg:QG X tg a)(hb:QSs (md:=md) X body g)(hs:∀x,foldedSetIterable iter X.env x=pure x:=by intro _;rfl):QS (md:=md) X (.For tg iter body [] pos) (mD fi a g):=
 de (y4 hp hc hi hg hb hs) λD σ H Kz=>by
  obtain⟨G,env,fp,rel,k⟩:=Kz;unfold mD at k;match q:fi env,k with
  | .ok (ds,Ko),k=>
   refine⟨G,env,fp,ds,Ko,rel,q,λJ H1 G1 KR KJ Kr wk=>?_⟩;have k:OutOk X.K G H fp D (cU a g ds Ko):=k;refine⟨λi m σ' H'=>m=ds.length-i/\i<=ds.length/\∃G' env' Ks,Same G1 G'/\Rel X.K G' H' env' σ' Ks/\OutOk X.K G' H' Ks D (cU a g (ds.drop i) env'),⟨_,rfl,Xw _,G1,Ko,KR,.refl _,Kr,OutOk.after KJ k⟩,?_⟩;rintro i m σ2 H2 ⟨rfl,hi,G2,KA,Lc,gg,Kq,k2⟩;obtain⟨w1,w2⟩:=wk G2 H2 _ _ _ gg Kq i;by_cases K4:i<ds.length
   .have hd:ds[i]?=some ds[i]:=WM K4;obtain⟨go,yl⟩:=w1 _ hd;rw[ZD K4]at k2;refine .inr ⟨go,λσ' H'=>∃G' env' Ks,Same G1 G'/\Rel X.K G' H' env' σ' Ks/\OutOk X.K G' H' Ks D (cU a g (ds.drop (i+1)) env'),λσ' H' z=>⟨ds.length-(i+1),by lia,rfl,K4,z⟩,λx H3 y=>?_⟩;obtain⟨G3,rx,K0,K3⟩:=yl x H3 y;unfold cU at k2;match q3:a ds[i] KA,k2 with
    | .ok Lf,k2=>
     refine⟨G3,KA,Lc,ds[i],Lf,K0,rx,q3,λσ4 G4 Q4 Lr Ld=>⟨G4,Lf,Q4,Ld,?_⟩⟩;have k3:OutOk X.K G2 H2 Lc D ((g Lf).bind λo=>match o with | .nx e=>cU a g (ds.drop (i+1)) e | .ct e=>cU a g (ds.drop (i+1)) e | .bk e=>.ok (.nx e) | .rt r=>.ok (.rt r)):=k2;match q4:g Lf,k3 with
     | .ok (.nx e),k3=>exact λσ' H' G' Ks st rel=>⟨G',e,Ks,gg.trans (K3.gg.trans (Lr.gg.trans st.gg)),rel,OutOk.after (K3.trans (Lr.trans st)) k3⟩
     | .ok (.ct e),k3=>exact λσ' H' G' Ks st rel=>⟨G',e,Ks,gg.trans (K3.gg.trans (Lr.gg.trans st.gg)),rel,OutOk.after (K3.trans (Lr.trans st)) k3⟩
     | .ok (.bk e),k3=>exact λσ' H' G' Ks st rel=>k3 σ' H' G' Ks (K3.trans (Lr.trans st)) rel
     | .ok (.rt r),k3=>exact λv H' G' Ks st rel=>k3 v H' G' Ks (K3.trans (Lr.trans st)) rel
   .have e:i=ds.length:=by lia
    subst e;rw[aaX]at k2;exact .inl ⟨w2 rfl,k2 σ2 H2 G2 Lc .refl Kq⟩
def Dr(f:FX):FI:=λenv=>(f env).bind λp=>match p.1.2 with
 | .lst ds=>.ok (ds,p.2)
 |_=>.bad
def eU(f:FX):FI:=λenv=>(f env).bind λp=>match p.1.2 with
 | .tup ds=>.ok (ds,p.2)
 |_=>.bad
variable{l:Expr}
theorem nr{a:WP}(sq:SqL K G a xs)(rs:Reps K G ds xs):Walk K G (RU K a) ds:=by
 intro G' H' es vs fp gg rel i;have L6:SqL K H' a xs:=fP rel.gh (fP gg sq);refine⟨λd hd=>?_,λe=>⟨xs,L6,by rw[rs.length];lia⟩⟩;obtain⟨x,hx,rx⟩:=rs.get hd;refine⟨⟨xs,x,L6,hx⟩,λy H2 ⟨e,hy⟩=>?_⟩;subst e;have:=hy xs L6;rw[hx]at this;cases this;exact⟨G',Rep.mono gg rx,rel,.refl⟩
theorem xZ{a:WP}(sq:SqT K G a xs)(rs:Reps K G ds xs):Walk K G (UN K a) ds:=by
 intro G' H' es vs fp gg rel i;have L6:SqT K H' a xs:=bh rel.gh (bh gg sq);refine⟨λd hd=>?_,λe=>⟨xs,L6,by rw[rs.length];lia⟩⟩;obtain⟨x,hx,rx⟩:=rs.get hd;refine⟨⟨xs,x,L6,hx⟩,λy H2 ⟨e,hy⟩=>?_⟩;subst e;have:=hy xs L6;rw[hx]at this;cases this;exact⟨G',Rep.mono gg rx,rel,.refl⟩
theorem vn(h:QE X l f):QI X tg l (Dr f):=iS (tM h) λσ H R Kz=>by
 obtain⟨G,env,fp,ds,env',rel,e,k⟩:=Kz;obtain⟨⟨⟨o,d⟩,Ko⟩,e1,e⟩:=ag e;dsimp only at e;split at e
 .cases e;refine⟨G,env,fp,_,_,rel,e1,λv H1 G1 KR KJ Kr=>?_⟩;obtain⟨G2,b,rv,Kq,Kw⟩:=Kr.freeze;obtain⟨p,xs,ev,sq,rs⟩:=gj rv;exact⟨p,ev,⟨xs,fP Kq.gh sq⟩,k _ H1 G2 b (KJ.trans Kw) Kq (nr sq rs)⟩
 .cases e
theorem zx(h:QE X l f):QI X tg l (eU f):=iS (DQ h) λσ H R Kz=>by
 obtain⟨G,env,fp,ds,env',rel,e,k⟩:=Kz;obtain⟨⟨⟨o,d⟩,Ko⟩,e1,e⟩:=ag e;dsimp only at e;split at e
 .cases e;refine⟨G,env,fp,_,_,rel,e1,λv H1 G1 KR KJ Kr=>?_⟩;obtain⟨G2,b,rv,Kq,Kw⟩:=Kr.freeze;obtain⟨p,xs,ev,sq,rs⟩:=eD rv;exact⟨p,ev,⟨xs,bh Kq.gh sq⟩,k _ H1 G2 b (KJ.trans Kw) Kq (xZ sq rs)⟩
 .cases e
def cV(f:FO):FI:=λenv=>(f env).bind λp=>(LK p.2 p.1).bind λd=>match d with
 | .int j=>if -4611686018427387904<=j/\j<4611686018427387904 then .ok ((List.range j.toNat).map λ(k:Nat)=>D.int (k:Int),p.2) else .bad
 |_=>.bad
theorem kC(lo:Int)(n:Nat):Walk K G (Si lo n) ((List.range n).map λ(k:Nat)=>D.int (lo+(k:Int))):=by
 intro G' H' es vs fp gg rel i;refine⟨λd hd=>?_,λe=>?_⟩
 .rw[W2]at hd;cases hc:(List.range n)[i]? with
  |none=>rw[hc]at hd;cases hd
  |some c=>
   rw[hc]at hd;cases hd;obtain⟨h1,h2⟩:=WS.mp hc;rw[Xk]at h1;rw[aau]at h2;subst h2;refine⟨h1,λx H2 ⟨e1,e2⟩=>?_⟩;subst e1;exact⟨G',by rw[e2];exact aW _,rel,.refl⟩
 .rw[WN,Xk]at e;exact acg e.symm
theorem vo{a:Expr}{p pos:Pos}(hg:Gl X "range")(hm:X.mg "range" = none)(ha:QO X a fa)(hs:starEach [a] X.env=[(false,eval a X.env)]:=by rfl):QI X tg (.Call (.Name "range" p) [a] [] pos) (cV fa):=
 iS (tN hg hm (a8 ha cS hs) hs) λσ H R Kz=>by
  obtain⟨G,env,fp,ds,env',rel,e,k⟩:=Kz;obtain⟨⟨o,Ko⟩,e1,e⟩:=ag e;obtain⟨d,e2,e⟩:=ag e;dsimp only at e;split at e
  .rename_i j;split at e
   .rename_i hj;cases e;refine⟨G,env,fp,[o],_,rel,by show(fa env).bind _=_;rw[e1];rfl,λvs H1 G1 KR KJ Kr Lx=>?_⟩;obtain⟨y,ys,ev,k1,k2⟩:=Lx;have k2:ys=[]:=k2;subst k2;have hv:=aX (Kr.vw k1 e2);subst hv;refine⟨j,ev,by lia,by lia,k _ H1 G1 KR KJ Kr ?_⟩;have w:=kC (K:=X.K) (G:=G1) 0 j.toNat
    simpa using w
   .cases e
  .cases e
def lE(fs:FOs):FI:=λenv=>(fs env).bind λp=>(mC p.2 p.1).bind λd=>match d with
 |[.int i,.int j]=>if(-4611686018427387904<=i/\i<4611686018427387904)/\-4611686018427387904<=j/\j<4611686018427387904 then .ok ((List.range (j-i).toNat).map λ(k:Nat)=>D.int (i+(k:Int)),p.2) else .bad
 |_=>.bad
theorem vp{a:Expr}{fs:FOs}{p pos:Pos}(hg:Gl X "range")(hm:X.mg "range" = none)(ha:QOs X [a,b] fs)(hs:starEach [a,b] X.env=[(false,eval a X.env),(false,eval b X.env)]:=by rfl)(M3:starEach [b] X.env=[(false,eval b X.env)]:=by rfl):
  QI X tg (.Call (.Name "range" p) [a,b] [] pos) (lE fs):=
 iS (tP hg hm ha hs M3) λσ H R Kz=>by
  obtain⟨G,env,fp,ds,env',rel,e,k⟩:=Kz;obtain⟨⟨o,Ko⟩,e1,e⟩:=ag e;obtain⟨d,e2,e⟩:=ag e;dsimp only at e;split at e
  .rename_i i j;split at e
   .rename_i hj;cases e;refine⟨G,env,fp,o,_,rel,e1,λvs H1 G1 KR KJ Kr Lx=>?_⟩;obtain⟨y,ys,ev,v1,z,zs,SX,v2,e3⟩:=Kr.vws Lx e2;have e3:zs=[]:=e3;subst e3;have h1:=aX v1;have h2:=aX v2;subst h1;subst h2;subst SX;exact⟨i,j,ev,⟨by lia,by lia,by lia,by lia⟩,k _ H1 G1 KR KJ Kr (kC i _)⟩
   .cases e
  .cases e
noncomputable def iF(k:Bool):D->Res (List D)
 | .lst ds=>if k then .ok ds else .bad
 | .tup ds=>if k then .bad else .ok ds
 |_=>.bad
def su(k1 k2:Bool)(fs:FOs):FI:=λenv=>(fs env).bind λp=>match p.1 with
 |[.val d1,.val d2]=>(iF k1 d1).bind λa=>(iF k2 d2).bind λb=>.ok ((a.zip b).map λz=>D.tup [z.1,z.2],p.2)
 |_=>.bad
theorem qq{k:Bool}(e:iF k d=.ok ds)(r:Rep K G d v):∃p xs,v=.ref p/\(if k then SqL K G p xs else SqT K G p xs)/\Reps K G ds xs:=by
 cases d with
 |lst es=>
  cases k with
  |true=>
   cases e;obtain⟨p,xs,e1,q,rs⟩:=gj r;exact⟨p,xs,e1,q,rs⟩
  |false=>cases e
 |tup es=>
  cases k with
  |true=>cases e
  |false=>
   cases e;obtain⟨p,xs,e1,q,rs⟩:=eD r;exact⟨p,xs,e1,q,rs⟩
 |_=>cases e
theorem lF{k:Bool}(h:Same G G')(r:if k then SqL K G p xs else SqT K G p xs):if k then SqL K G' p xs else SqT K G' p xs:=by
 cases k with
 |true=>exact fP h r
 |false=>exact bh h r
theorem x3{bs:List D}(s1:if k1 then SqL K G p1 xs else SqT K G p1 xs)(s2:if k2 then SqL K G p2 ys else SqT K G p2 ys)(r1:Reps K G as xs)(r2:Reps K G bs ys):
  Walk K G (U2 K k1 k2 p1 p2) ((as.zip bs).map λz=>D.tup [z.1,z.2]):=by
 intro G' H' es vs fp gg rel i;have g1:=lF (gg.trans rel.gh) s1;have g2:=lF (gg.trans rel.gh) s2;refine⟨λd hd=>?_,λe=>⟨xs,ys,g1,g2,?_⟩⟩
 .rw[W2]at hd;cases hz:(as.zip bs)[i]? with
  |none=>rw[hz]at hd;cases hd
  |some z=>
   rw[hz]at hd;cases hd;obtain⟨h1,h2⟩:=Zy.mp hz;obtain⟨x,hx,rx⟩:=r1.get h1;obtain⟨y,hy,ry⟩:=r2.get h2;refine⟨⟨xs,ys,x,y,g1,g2,hx,hy⟩,λv H2 ⟨T,hT,ev,hh⟩=>?_⟩;have e2:=hh xs ys x y g1 g2 hx hy;subst e2;obtain⟨Kq,Kw⟩:=rel.newF (u:=.tup [x,y]) hT;refine⟨_,?_,Kq,Kw⟩;rw[Rep];exact⟨T,[x,y],ev,aG,.cons (Rep.mono (gg.trans Kw.gg) rx) (.one (Rep.mono (gg.trans Kw.gg) ry))⟩
 .rw[WN,Zl]at e;rw[r1.length,r2.length];exact e
theorem qr(k1 k2:Bool){NI:List Expr}{pt:Pos}{fs:FOs}{p pos:Pos}(hg:Gl X "zip")(hm:X.mg "zip" = none)(ha:QOs X [e1,e2] fs)(he:starEach [e1,e2] X.env=(false,eval e1 X.env)::starEach [e2] X.env:=by rfl)(Lj:(backTo pos (starEach [e2] X.env)).any (·.1)=false:=by rfl):
  QI X (.Tuple NI kt pt) (.Call (.Name "zip" p) [e1,e2] [] pos) (su k1 k2 fs):=
 iS (Ed k1 k2 hg hm ha he Lj) λσ H R Kz=>by
  obtain⟨G,env,fp,ds,env',rel,e,k⟩:=Kz;obtain⟨⟨o,Ko⟩,e1,e⟩:=ag e;dsimp only at e;split at e
  .rename_i d1 d2;obtain⟨a,ea,e⟩:=ag e;obtain⟨b,eb,e⟩:=ag e;cases e;refine⟨G,env,fp,_,_,rel,e1,λvs H1 G1 KR KJ Kr Lx=>?_⟩;obtain⟨y,ys,ev,v1,z,zs,SX,v2,e3⟩:=Lx;have e3:zs=[]:=e3;subst e3;obtain⟨p1,xs1,V2,q1,r1⟩:=qq ea v1;obtain⟨p2,R6,V3,q2,r2⟩:=qq eb v2;subst V2;subst V3;subst SX;exact⟨p1,p2,xs1,R6,ev,lF Kr.gh q1,lF Kr.gh q2,k _ H1 G1 KR KJ Kr (x3 q1 q2 r1 r2)⟩
  .cases e
end
def fBody(np nn:Nat)(g:FS):List D->Res R:=λds=>if ds.length=np then(g (ds.map (λd=>some (O.f,d))++List.replicate nn none)).bind λo=>match o with
 | .rt r=>.ok r
 | .nx _=>.ok (.f,.non)
 |_=>.bad
 else .bad
theorem dA{K:W.Frag}{G H:Hp}(n:Nat):∀{ds:List D}{vs:List V},Reps K G ds vs->RepE K G H (ds.map (λd=>some (O.f,d))++List.replicate n none) (vs.map some++List.replicate n none) []
 |[],vs,r=>by
  rw[Reps]at r;subst r;show RepE K G H (List.replicate n none) (List.replicate n none) [];induction n with
  |zero=>exact⟨rfl,rfl⟩
  |succ n ih=>exact⟨none,_,rfl,ih⟩
 |d::ds,vs,r=>by
  rw[Reps]at r;obtain⟨y,ys,e,r1,r2⟩:=r;subst e;exact⟨some y,_,rfl,y,[],[],rfl,rfl,eR.mpr ⟨r1,rfl⟩,dA n r2⟩
variable{N:List Str}
theorem x4{k:Nat}(Df:Def K mg x st)(sc:FnScope N ps (defScope st))(hb:∀(kV doc pm:Wp) (an:Option WP) (KW ct:Wp) (us:List Wp),us.length=ps.length->bindArgs @w ⟨us,[]⟩=pure (ps.zip us))(body:∀(f:WP) (KW:Wp) (A:Uf) (outer:List PySem.Env) (s:WF) (H:Hp) (E:XK),Room k (A.deeper (envOfC x (defScope st) s.heap.objs.size f KW))->QSs (md:=.plain) (oM M5 P w K mg base N x (defScope st) f KW A outer s H E).nox (bj st) g):
  Ct P w K mg base x (k+1) (spF K (fBody ps.length (N.length-ps.length) g)):=by
 obtain⟨f,fd,F,m⟩:=Df;refine⟨f,fd,ps,F.ok sc (λvs H Q E h=>?_) (λKW A outer s H vs Q E hr h=>?_),m,F.kp,F.binds hb⟩
 .obtain⟨G,ds,r,_,rs,e,_⟩:=h;unfold fBody at e;split at e
  .rename_i hl;rw[rs.length,hl]
  .cases e
 .obtain⟨G,ds,r,gh,rs,e,q⟩:=h;unfold fBody at e;split at e
  .rename_i hl;refine⟨_,body f KW A outer s H E hr,G,ds.map (λd=>some (O.f,d))++List.replicate (N.length-ps.length) none,[],⟨?_,XN,(λ_ h=>nomatch h),gh⟩,?_⟩
   .have:=dA (K:=K) (G:=G) (H:=H) (N.length-ps.length) rs;unfold L2.gN;rw[rs.length,hl];exact this
   .obtain⟨o,eo,e⟩:=ag e;rw[eo];cases o with
    |rt r'=>
     cases e;exact λv H' G' Ks st rel=>q v H' G' Ks st rel
    |nx env'=>
     cases e;exact λσ' H' G' Ks st rel=>q .non H' G' [] (st.trans (Step.cut λ_ h=>nomatch h)) (rel.nilF.push lB)
    |bk env'=>cases e
    |ct env'=>cases e
  .cases e
def cW(ix:List (Option Nat))(env:PV.Env):PV.Env:=ix.map λj=>j.bind λj=>match env[j]? with
 |some (some r)=>some (O.f,r.2)
 |_=>none
noncomputable def dR:FT:=λenv=>.ok (true,env)
def b5(a:FG)(c:FT)(f:FX):List D->PV.Env->Res (List D)
 |[],_=>.ok []
 |d::ds,env=>(a d env).bind λe=>(c e).bind λp=>if p.1 then(f p.2).bind λq=>(b5 a c f ds q.2).bind λrs=>.ok (q.1.2::rs) else b5 a c f ds p.2
def cA(fi:FI)(ix:List (Option Nat))(a:FG)(c:FT)(f:FX):FX:=λenv=>(fi env).bind λp=>(b5 a c f p.1 (cW ix p.2)).bind λds=>if ds.length<=sizeLine then .ok ((.l .f,.lst ds),if flatDs ds then p.2 else p.2.map frz) else .bad
theorem lG:∀ds,ds.all (ay .f)=flatDs ds
 |[]=>rfl
 |d::ds=>by rw[Zo,flatDs,lG ds,ay]
theorem eV{K:W.Frag}{H:Hp}{es:PV.Env}{σ:L2.St}(ht:∀(i:Nat) (r:R) (v:V),es[i]?=some (some r)->σ[i]?=some (some v)->Rep K G1 r.2 v)(hv:∀(i:Nat) (r:R),es[i]?=some (some r)->∃v,σ[i]?=some (some v)):
  ∀ix:List (Option Nat),RepE K G1 H (cW ix es) (kx ix σ) []
 |[]=>⟨rfl,rfl⟩
 |none::ix=>⟨none,_,rfl,eV ht hv ix⟩
 |some j::ix=>by
  show RepE K G1 H ((match es[j]? with|some (some r)=>some (O.f,r.2)|_=>none)::cW ix es) ((σ[j]?).bind id::kx ix σ) [];cases e:es[j]? with
  |none=>exact⟨_,_,rfl,eV ht hv ix⟩
  |some r=>
   cases r with
   |none=>exact⟨_,_,rfl,eV ht hv ix⟩
   |some r=>
    obtain⟨v,ev⟩:=hv j r e;refine⟨_,_,rfl,v,[],[],?_,rfl,eR.mpr ⟨ht j r v e ev,rfl⟩,eV ht hv ix⟩;rw[ev];rfl
variable{fi:FI}
section
variable{scope:Scope}{iter elt:Expr}{ifs:List Expr}{pos:Pos}{a:FG}
def QTs(X:Cx)(ifs:List Expr)(c:FT):Prop:=R0 X ifs (tQT X.K c)
theorem Bz:QTs X [] dR:=λpr s σ H Q I Kz=>by
 obtain⟨G,env,fp,b,env',rel,e,k⟩:=Kz;cases e;exact AR pr s σ H Q I (k H G fp .refl rel)
theorem BA{t:Expr}(h:QT X t c):QTs X [t] c:=AS h
end
section
inductive rCatS(K:W.Frag)(x:V)(y:V)(H:Hp)(Q:VK):Prop
 |mk:∀l b xs zs,x=.ref l->y=.ref b->SqL K H l xs->SqL K H b zs->xs.length+zs.length<=sizeLine->(∀p,H p=none->Q (.ref p) (upd H p (.lst (xs++zs))))->rCatS K x y H Q
theorem BC:Lk X (binaryOp .Add) (rCatS X.K):=by
 intro pr s σ H x y v u Q I rx ry h;obtain⟨l,b,xs,zs,rfl,rfl,hH,hB,hz,q⟩:=h;cases rx;cases ry;obtain⟨Kt,r1,p1,_⟩:=I.list hH;obtain⟨N7,r2,p2,_⟩:=I.list hB;have l1:=r1.length;have l2:=r2.length;obtain⟨⟨cls,dd,data,sl⟩,ho,hc,n,hd⟩:=id p1.isList;obtain⟨⟨Sm,RW,data2,RX⟩,OK,Nl,n2,hd2⟩:=id p2.isList;simp only at hc hd Nl hd2;subst hc hd Nl hd2;have e:Kt.toArray++N7.toArray=(Kt++N7).toArray:=by simp
 refine aba ⟨_,ho,rfl⟩ ⟨_,OK,rfl⟩ noFill_list_add seq_list_add PySem.F.slot_list_add PySem.F.entry_list_add (PySem.F.args_list_add_2 _ _) (list_addW l b Kt.toArray N7.toArray n n2 dd RW sl RX (by rw[WZ,WZ];lia)) ⟨ho,OK,?_⟩;rw[e];exact⟨.ref _,_,I.lnew (t':=s.toks) (r1.append r2) (by rw[Xs];lia),rfl,q _ I.fresh⟩
end
noncomputable def addD:D->D->Res R
 | .int i,.int j=>.ok (.f,.int (i+j))
 | .str a,.str b=>if a.length+b.length<=sizeLine then .ok (.f,.str (a++b)) else .bad
 | .lst a,.lst b=>if a.length+b.length<=sizeLine then .ok (.l .f,.lst (a++b)) else .bad
 | .tup a,.tup b=>if a≠[]/\a.length+b.length<=sizeLine then .ok (.f,.tup (a++b)) else .bad
 |_,_=>.bad
section
theorem lH{es:PV.Env}(rel:Rel K G H es vs fp)(hp:H p=none)(r:Reps K G ds xs):
  ∃G',Rel K G' (upd H p (.tup xs)) (some (.f,.tup ds)::es) (some (.ref p)::vs) fp/\Step G H fp G' (upd H p (.tup xs)) fp:=by
 obtain⟨Kq,Kw⟩:=rel.newF (u:=.tup xs) hp;refine⟨_,Kq.push ?_,Kw⟩;rw[Rep];exact⟨p,xs,rfl,aG,r.mono Kw.gg⟩
theorem ED:Lk X (binaryOp .Add) (rG X.K addD):=by
 rintro pr s σ H x y v u Q I rx ry ⟨G,fp,es,vs,a,b,r,⟨rel,k⟩,va,vb,e⟩;unfold addD at e;split at e
 .rename_i i j;cases e;cases aX va;cases aX vb;exact DR pr s σ H _ _ v u Q I rx ry ⟨i,j,rfl,rfl,k _ H G fp .refl (rel.push (aW _))⟩
 .rename_i i j;split at e
  .rename_i hl;cases e;obtain⟨e1,h1⟩:=gX va;obtain⟨e2,h2⟩:=gX vb;subst e1;subst e2;refine rR pr s σ H _ _ v u Q I rx ry ⟨_,_,rfl,rfl,by rw[mS,mS];exact hl,?_⟩;rw[HP];exact k _ H G fp .refl (rel.push (iE (by rw[Xs];exact hl)))
  .cases e
 .rename_i i j;split at e
  .rename_i hl;cases e;obtain⟨p,xs,e1,h1,r1⟩:=va;obtain⟨p2,R6,e2,h2,r2⟩:=vb;subst e1;subst e2;refine BC pr s σ H _ _ v u Q I rx ry ⟨p,p2,xs,R6,rfl,rfl,h1,h2,by rw[r1.length,r2.length];exact hl,λq hq=>?_⟩;obtain⟨Kq,Kw⟩:=rel.newL hq (r1.app r2);exact k _ _ G _ Kw Kq
  .cases e
 .rename_i i j;split at e
  .rename_i hl;cases e;obtain⟨p,xs,e1,h1,r1⟩:=gk va;obtain⟨p2,R6,e2,h2,r2⟩:=gk vb;subst e1;subst e2;have hx:xs≠[]:=λz=>hl.1 (XT (by rw[<-r1.length,z];rfl))
   refine AH pr s σ H _ _ v u Q I rx ry ⟨p,p2,xs,R6,rfl,rfl,bh rel.gh h1,bh rel.gh h2,hx,by rw[r1.length,r2.length];exact hl.2,λz=>?_,λz q hq=>?_⟩
   .have:j=[]:=XT (by rw[<-r2.length,z];rfl);subst this;rw[Xe]at k;exact k _ H G fp .refl (rel.push va)
   .obtain⟨G',Kq,Kw⟩:=lH rel hq (r1.app r2);exact k _ _ G' _ Kw Kq
  .cases e
 .cases e
noncomputable def ti:D->D->Res R
 | .int i,.int j=>.ok (.f,.int (i-j))
 |_,_=>.bad
theorem EE:Lk X (binaryOp .Sub) (rG X.K ti):=by
 rintro pr s σ H x y v u Q I rx ry ⟨G,fp,es,vs,a,b,r,⟨rel,k⟩,va,vb,e⟩;unfold ti at e;split at e
 .rename_i i j;cases e;cases aX va;cases aX vb;exact DS pr s σ H _ _ v u Q I rx ry ⟨i,j,rfl,rfl,k _ H G fp .refl (rel.push (aW _))⟩
 .cases e
noncomputable def eE(i:Int):Bool:=decide (-(2 ^ 64)<i/\i<2 ^ 64)
def Ig:D->D->Res R
 | .int i,.int j=>if eE i||eE j then .ok (.f,.int (i*j)) else .bad
 |_,_=>.bad
theorem EF:Lk X (binaryOp .Mult) (rG X.K Ig):=by
 rintro pr s σ H x y v u Q I rx ry ⟨G,fp,es,vs,a,b,r,⟨rel,k⟩,va,vb,e⟩;unfold Ig at e;split at e
 .rename_i i j;split at e
  .rename_i hc;cases e;cases aX va;cases aX vb;have hc:CMul i j:=by
    rw[ZO]at hc;exact hc.imp Yu Yu
   exact DT pr s σ H _ _ v u Q I rx ry ⟨i,j,rfl,rfl,hc,k _ H G fp .refl (rel.push (aW _))⟩
  .cases e
 .cases e
noncomputable def cN:D->D->Res R
 | .int i,.int j=>if 0<j/\j<1073741824 then .ok (.f,.int (i / j)) else .bad
 |_,_=>.bad
theorem BD:Lk X (binaryOp .FloorDiv) (rG X.K cN):=by
 rintro pr s σ H x y v u Q I rx ry ⟨G,fp,es,vs,a,b,r,⟨rel,k⟩,va,vb,e⟩;unfold cN at e;split at e
 .rename_i i j;split at e
  .rename_i hc;cases e;cases aX va;cases aX vb;exact Ax pr s σ H _ _ v u Q I rx ry ⟨i,j,rfl,rfl,hc,k _ H G fp .refl (rel.push (aW _))⟩
  .cases e
 .cases e
noncomputable def dS:D->D->Res R
 | .int i,.int j=>if 0<j then .ok (.f,.int (i%j)) else .bad
 |_,_=>.bad
theorem EG:Lk X (binaryOp .Mod) (rG X.K dS):=by
 rintro pr s σ H x y v u Q I rx ry ⟨G,fp,es,vs,a,b,r,⟨rel,k⟩,va,vb,e⟩;unfold dS at e;split at e
 .rename_i i j;split at e
  .rename_i hc;cases e;cases aX va;cases aX vb;exact DU pr s σ H _ _ v u Q I rx ry ⟨i,j,rfl,rfl,hc,k _ H G fp .refl (rel.push (aW _))⟩
  .cases e
 .cases e
noncomputable def BF:D->D->Res R
 | .int i,.int j=>if 0<=j/\j<=1000000/\i.natAbs<2 ^ 64 then .ok (.f,.int (i ^ j.toNat)) else .bad
 |_,_=>.bad
theorem EH:Lk X (binaryOp .Pow) (rG X.K BF):=by
 rintro pr s σ H x y v u Q I rx ry ⟨G,fp,es,vs,a,b,r,⟨rel,k⟩,va,vb,e⟩;unfold BF at e;split at e
 .rename_i i j;split at e
  .rename_i hc;cases e;cases aX va;cases aX vb;exact DV pr s σ H _ _ v u Q I rx ry ⟨i,j,rfl,rfl,hc,k _ H G fp .refl (rel.push (aW _))⟩
  .cases e
 .cases e
noncomputable def R1:D->D->Res R
 | .int i,.int j=>.ok (.f,.bl (decide (i<j)))
 | .str a,.str b=>.ok (.f,.bl (decide (a<b)))
 |_,_=>.bad
theorem Ih:Lk X (compareOp .Lt) (rG X.K R1):=by
 rintro pr s σ H x y v u Q I rx ry ⟨G,fp,es,vs,a,b,r,⟨rel,k⟩,va,vb,e⟩;unfold R1 at e;split at e
 .rename_i i j;cases e;cases aX va;cases aX vb;exact HE pr s σ H _ _ v u Q I rx ry ⟨i,j,rfl,rfl,k _ H G fp .refl (rel.push (b7 _))⟩
 .rename_i i j;cases e;obtain⟨e1,h1⟩:=gX va;obtain⟨e2,h2⟩:=gX vb;subst e1;subst e2;refine tV pr s σ H _ _ v u Q I rx ry ⟨_,_,rfl,rfl,?_⟩;rw[cJ,cJ];exact k _ H G fp .refl (rel.push (b7 _))
 .cases e
noncomputable def leD:D->D->Res R
 | .int i,.int j=>.ok (.f,.bl (decide (i<=j)))
 | .str a,.str b=>.ok (.f,.bl (!decide (b<a)))
 |_,_=>.bad
noncomputable def gtD:D->D->Res R
 | .int i,.int j=>.ok (.f,.bl (decide (j<i)))
 |_,_=>.bad
theorem Ii:Lk X (compareOp .Gt) (rG X.K gtD):=by
 rintro pr s σ H x y v u Q I rx ry ⟨G,fp,es,vs,a,b,r,⟨rel,k⟩,va,vb,e⟩;unfold gtD at e;split at e
 .rename_i i j;cases e;cases aX va;cases aX vb;exact HF pr s σ H _ _ v u Q I rx ry ⟨i,j,rfl,rfl,k _ H G fp .refl (rel.push (b7 _))⟩
 .cases e
noncomputable def Vh:D->D->Res R
 | .int i,.int j=>.ok (.f,.bl (decide (j<=i)))
 |_,_=>.bad
theorem Ij:Lk X (compareOp .GtE) (rG X.K Vh):=by
 rintro pr s σ H x y v u Q I rx ry ⟨G,fp,es,vs,a,b,r,⟨rel,k⟩,va,vb,e⟩;unfold Vh at e;split at e
 .rename_i i j;cases e;cases aX va;cases aX vb;exact HG pr s σ H _ _ v u Q I rx ry ⟨i,j,rfl,rfl,k _ H G fp .refl (rel.push (b7 _))⟩
 .cases e
end
abbrev FDs:=PV.Env->Res (List D×PV.Env)
inductive tDs(K:W.Frag)(f:FDs)(σ:L2.St)(H:Hp)(Q:List V->Hp->Prop):Prop
 |mk:∀G env fp ds env',Rel K G H env σ fp->f env=.ok (ds,env')->(∀vs H' G' Ks,Step G H fp G' H' Ks->Rel K G' H' env' σ Ks->Reps K G' ds vs->Q vs H')->tDs K f σ H Q
def SY(X:Cx)(es:List Expr)(f:FDs):Prop:=PA X es (tDs X.K f)
noncomputable def aF:FDs:=λenv=>.ok ([],env)
def ah(f:FX)(g:FDs):FDs:=λenv=>(f env).bind λp=>(g p.2).bind λq=>.ok (p.1.2::q.1,q.2)
section
theorem pb:SY X [] aF:=iR gM λσ H Q Kz=>by
 obtain⟨G,env,fp,o,env',rel,e,k⟩:=Kz;cases e;exact k [] H G fp .refl rel .nil
theorem gY(h:QE X e f)(hs:SY X es g)(Mf:starEach (e::es) X.env=(false,eval e X.env)::starEach es X.env:=by rfl):SY X (e::es) (ah f g):=
 iR (cc h hs Mf) λσ H Q Kz=>by
  obtain⟨G,env,fp,o,env',rel,e,k⟩:=Kz;obtain⟨⟨r,Ko⟩,e1,e⟩:=ag e;obtain⟨⟨ds,KA⟩,e2,e⟩:=ag e;cases e;refine⟨G,env,fp,r,Ko,rel,e1,λv H1 G1 KR KJ Kr=>?_⟩;obtain⟨G2,b,rv,Kq,Kw⟩:=Kr.freeze;exact⟨G2,Ko,b,ds,KA,Kq,e2,λvs H3 G3 LJ K3 K0 rs=>k _ H3 G3 LJ (KJ.trans (Kw.trans K3)) K0 (.cons (Rep.mono K3.gg rv) rs)⟩
def du(fs:FDs):FX:=λenv=>(fs env).bind λp=>if p.1.length<=1000 then .ok ((.f,.tup p.1),p.2) else .bad
def gJ(fs:FDs):FX:=λenv=>(fs env).bind λp=>if p.1.length<=1000 then .ok ((.l .f,.lst p.1),p.2) else .bad
variable{fs:FDs}{pos:Pos}
theorem EI{x1}(h:SY X es fs):QE X (.Tuple es x1 pos) (du fs):=aO (uc h) λσ H Q Kz=>by
 obtain⟨G,env,fp,r,env',rel,e,k⟩:=Kz;obtain⟨⟨ds,Ko⟩,e1,e⟩:=ag e;dsimp only at e;split at e
 .rename_i hl;cases e;refine⟨G,env,fp,ds,env',rel,e1,λvs H1 G1 KR KJ Kr rs=>⟨by rw[rs.length,line_eq];lia,λp hp=>?_⟩⟩;obtain⟨G2,Kq,Kw⟩:=lH Kr hp rs;exact k _ _ G2 _ (KJ.trans Kw) Kq
 .cases e
theorem zy(h:SY X es fs):QE X (.List es pos) (gJ fs):=aO (y6 h) λσ H Q Kz=>by
 obtain⟨G,env,fp,r,env',rel,e,k⟩:=Kz;obtain⟨⟨ds,Ko⟩,e1,e⟩:=ag e;dsimp only at e;split at e
 .rename_i hl;cases e;refine⟨G,env,fp,ds,env',rel,e1,λvs H1 G1 KR KJ Kr rs=>⟨by rw[rs.length,line_eq];lia,λp hp=>?_⟩⟩;obtain⟨Kq,Kw⟩:=Kr.newL hp rs;exact k _ _ G1 _ (KJ.trans Kw) Kq
 .cases e
def ixD:D->D->Res R
 | .lst ds,.int i=>match LI ds i with
  |some d=>.ok (.f,d)
  |none=>.bad
 | .tup ds,.int i=>match LI ds i with
  |some d=>.ok (.f,d)
  |none=>.bad
 | .str l,.int i=>match LI l i with
  |some c=>.ok (.f,.str [c])
  |none=>.bad
 |_,_=>.bad
theorem qu{i:Int}(r:Reps K G ds xs)(e:LI ds i=some d):∃v,LI xs i=some v/\Rep K G d v:=by
 unfold LI at e |-;rw[r.length];cases hn:ixN ds.length i with
 |none=>rw[hn]at e;cases e
 |some j=>
  rw[hn]at e;exact r.get e
theorem Ik:Sn X (rG X.K ixD):=by
 rintro value slice pr s σ H x y v u Q I rx ry ⟨G,fp,es,vs,a,b,r,⟨rel,k⟩,va,vb,e⟩ hs;unfold ixD at e;split at e
 .rename_i ds i;split at e
  .rename_i d hd;cases e;obtain⟨p,xs,ev,sq,rs⟩:=va;subst ev;cases aX vb;obtain⟨w',hw,M0⟩:=qu rs hd;exact AI value slice pr s σ H _ _ v u Q I rx ry ⟨p,xs,i,w',rfl,rfl,sq,hw,k _ H G fp .refl (rel.push M0)⟩ hs
  .cases e
 .rename_i ds i;split at e
  .rename_i d hd;cases e;obtain⟨p,xs,ev,sq,rs⟩:=gk va;subst ev;cases aX vb;obtain⟨w',hw,M0⟩:=qu rs hd;exact D3 value slice pr s σ H _ _ v u Q I rx ry ⟨p,xs,i,w',rfl,rfl,bh rel.gh sq,hw,k _ H G fp .refl (rel.push M0)⟩ hs
  .cases e
 .rename_i l i;split at e
  .rename_i c hc;cases e;obtain⟨ev,hl⟩:=gX va;subst ev;cases aX vb;refine D4 value slice pr s σ H _ _ v u Q I rx ry ⟨_,i,c,rfl,rfl,by rw[mS];exact hl,by rw[cJ];exact hc,?_⟩ hs;exact k _ H G fp .refl (rel.push (iE (l:=[c]) (by rw[line_eq];simp)))
  .cases e
 .cases e
variable{a:Expr}{fb:FO}
theorem BG(ha:QO X a fa)(hb:QO X b fb)(hs:um b:=by exact λ_ _=>rfl):QE X (.Subscript a b pos) (aq ixD fa fb):=aO (HL Ik ha hb hs) λ_ _ _=>ql
abbrev FP:=PV.Env->Res (Option Int×PV.Env)
inductive tQP(K:W.Frag)(f:FP)(σ:L2.St)(H:Hp)(Q:Option Int->Hp->Prop):Prop
 |mk:∀G env fp i env',Rel K G H env σ fp->f env=.ok (i,env')->(∀H' G' Ks,Step G H fp G' H' Ks->Rel K G' H' env' σ Ks->Q i H')->tQP K f σ H Q
def QP(X:Cx)(e:Option Expr)(f:FP):Prop:=PO X e (tQP X.K f)
noncomputable def lI:FP:=λenv=>.ok (none,env)
def gZ(f:FX):FP:=λenv=>(f env).bind λp=>match p.1.2 with
 | .int i=>.ok (some i,p.2)
 |_=>.bad
theorem zH{e:Option Expr}{t:TO}(h:PO X e t)(k:∀σ H Q,t' σ H Q->t σ H Q):PO X e t':=λpr s σ H Q I w=>h pr s σ H Q I (k σ H Q w)
theorem BH:QP X none lI:=zH AE λσ H Q Kz=>by
 obtain⟨G,env,fp,i,env',rel,e,k⟩:=Kz;cases e;exact k H G fp .refl rel
theorem BI(h:QE X e f):QP X (some e) (gZ f):=zH (AG h) λσ H Q Kz=>by
 obtain⟨G,env,fp,i,env',rel,e,k⟩:=Kz;obtain⟨⟨⟨o,d⟩,Ko⟩,e1,e⟩:=ag e;dsimp only at e;split at e
 .rename_i j;cases e;refine⟨G,env,fp,_,_,rel,e1,λv H1 G1 KR KJ Kr=>?_⟩;have hv:=Kr.top;obtain⟨b,Kq,Kw⟩:=Kr.drop;exact⟨j,gW hv,k H1 G1 b (KJ.trans Kw) Kq⟩
 .cases e
def gD{α:Type}(xs:List α)(lo hi:Option Int):List α:=(xs.drop (HT.sIx xs.length 0 lo)).take (HT.sIx xs.length xs.length hi-HT.sIx xs.length 0 lo)
def S1(k:D)(lo hi:Option Int):Res R:=match k with
 | .lst ds=>.ok (.l .f,.lst (gD ds lo hi))
 | .tup ds=>if ¬ (HT.sIx ds.length 0 lo=0/\HT.sIx ds.length ds.length hi=ds.length) then .ok (.f,.tup (gD ds lo hi)) else .bad
 | .str l=>.ok (.f,.str (gD l lo hi))
 |_=>.bad
def eSl(fa:FO)(lo hi:FP):FX:=λenv=>(fa env).bind λp=>(lo p.2).bind λq=>(hi q.2).bind λt=>(LK t.2 p.1).bind λd=>(S1 d q.1 t.1).bind λr=>.ok (r,t.2)
theorem qw{lo:Option Int}(r:Reps K G ds xs):Reps K G (gD ds lo hi) (y7 xs lo hi):=by
 unfold gD y7;rw[r.length];exact(r.drop _).take _
theorem BJ(xs:List α)(lo hi:Option Int):(gD xs lo hi).length<=xs.length:=by
 unfold gD;rw[XA,Yo];lia
inductive rSl(K:W.Frag)(x:V)(lo:Option Int)(hi:Option Int)(H:Hp)(Q:VK):Prop
 |mk:∀G fp es vs d r,Goes K H G fp es vs r Q->Vw K G H d x->S1 d lo hi=.ok r->rSl K x lo hi H Q
theorem EJ:QH X (rSl X.K):=by
 rintro pr s σ H x v vl vu lo hi sl Q I rx hs pl pu ⟨G,fp,es,vs,d,r,⟨rel,k⟩,vd,e⟩;unfold S1 at e;split at e
 .rename_i ds;cases e;obtain⟨p,xs,ev,sq,rs⟩:=vd;subst ev;refine AJ pr s σ H _ v vl vu lo hi sl Q I rx hs pl pu ⟨p,xs,rfl,sq,λq hq=>?_⟩;obtain⟨Kq,Kw⟩:=rel.newL hq (qw (lo:=lo) (hi:=hi) rs);exact k _ _ G _ Kw Kq
 .rename_i ds;split at e
  .rename_i hw;cases e;obtain⟨p,xs,ev,sq,rs⟩:=gk vd;subst ev;refine D1 pr s σ H _ v vl vu lo hi sl Q I rx hs pl pu ⟨p,xs,rfl,bh rel.gh sq,by rw[rs.length];exact hw,λq hq=>?_⟩;obtain⟨G2,Kq,Kw⟩:=lH rel hq (qw (lo:=lo) (hi:=hi) rs);exact k _ _ G2 _ Kw Kq
  .cases e
 .rename_i l;cases e;obtain⟨ev,hl⟩:=gX vd;subst ev;exact D9 pr s σ H _ v vl vu lo hi sl Q I rx hs pl pu ⟨l,rfl,hl,k _ H G fp .refl (rel.push (iE (l:=D8 l lo hi) (Xz (BJ l lo hi) hl)))⟩
 .cases e
noncomputable def vq(env:PV.Env)(i:Nat):Bool:=match env[i]? with
 |some (some (_,.lst _))=>true
 |_=>false
theorem x5{es:PV.Env}(rel:Rel K G H es σ fp)(h:vq es i=true):∃v,σ[i]?=some (some v)/\T8 K "list" v H:=by
 unfold vq at h;split at h
 .rename_i o ds hr;obtain⟨v,ev,rv⟩:=rel.view hr;obtain⟨p,xs,e,sq,_⟩:=gj rv;subst e;exact⟨_,ev,.inl ⟨rfl,xs,sq⟩⟩
 .cases h
def qx(i:Nat)(f:FX):FX:=λenv=>if vq env i then(f env).bind λp=>match p.2[i]? with
 |some (some (.l .f,.lst ds))=>if ds.length<sizeLine then .ok ((.f,.non),p.2.set i (some (.l .f,.lst (ds++[p.1.2])))) else .bad
 |_=>.bad
 else .bad
theorem vv(ho:PE X o (oK i))(he:QE X e f)(Li:attributeBase o "append" X.env (eval o X.env)=eval o X.env:=by rfl)(Mg:((backTo Kx (starEach [e] X.env)).all (λx=>!x.1)&&(backToKw Kx (keywordEach [] X.env)).all (λx=>x.1.isSome)&&decide ([e].length+([]:List Keyword).length+(if([]:List Keyword).isEmpty then 0 else 1)<30))=true:=by rfl)(Ln:(apos.endLine==Kx.line)=true:=by rfl)(hs:starEach [e] X.env=(false,eval e X.env)::starEach [] X.env:=by rfl)(Lo:(backTo Kx (starEach [] X.env)).any (·.1)=false:=by rfl):
  QE X (.Call (.Attribute o "append" apos) [e] [] Kx) (qx i f):=by
 refine aO (AK aaP PySem.F.slot_list_append PySem.F.type_list_append mP ho (gY he pb hs) Li Mg Ln hs Lo) λσ H Q KQ=>?_
 obtain⟨G,env,fp,r,env',rel,e,k⟩:=KQ;unfold qx at e;split at e
 .rename_i Na;obtain⟨v,ev,ty⟩:=x5 rel Na;obtain⟨⟨r1,Ko⟩,e1,e⟩:=ag e;dsimp only at e;split at e
  .rename_i ds N6;split at e
   .rename_i hl;cases e;refine⟨v,ev,ty,G,env,fp,[r1.2],Ko,rel,by show(f env).bind _=_;rw[e1];rfl,λvs H1 G1 KR KJ Kr rs=>?_⟩;rw[Reps]at rs;obtain⟨y,ys,eys,ry,rn⟩:=rs;rw[Reps]at rn;subst rn;obtain⟨p,xs,ep,hp,S2,cg⟩:=Kr.chg (ds':=ds++[r1.2]) N6;rw[ev]at ep;cases ep;obtain⟨fq,Kq,Kw⟩:=cg (xs++[y]) (S2.app (.one ry));exact⟨p,xs,y,rfl,eys,hp,by rw[S2.length];exact hl,k _ _ G1 fq (KJ.trans Kw) (Kq.push lB)⟩
   .cases e
  .cases e
 .cases e
noncomputable def Il:List D->Res R
 |[.lst ds]=>.ok (.f,.int ds.length)
 |[.tup ds]=>.ok (.f,.int ds.length)
 |[.str l]=>.ok (.f,.int l.length)
 |_=>.bad
theorem lJ(h:Qq K G H [d] xs):∃v,xs=[v]/\Vw K G H d v:=by
 obtain⟨y,ys,e,v1,e2⟩:=h;have e2:ys=[]:=e2;subst e2;exact⟨y,e,v1⟩
theorem Jf(h:Qq K G H [d,d'] xs):∃v w,xs=[v,w]/\Vw K G H d v/\Vw K G H d' w:=by
 obtain⟨y,ys,e,v1,h2⟩:=h;obtain⟨z,e2,v2⟩:=lJ h2;subst e2;exact⟨y,z,e,v1,v2⟩
theorem EK:cb X (.builtin "len") (rC X.K Il):=by
 rintro pr s σ H xs us Q I rx ⟨G,fp,es,vs,ds,r,⟨rel,k⟩,vd,e⟩;unfold Il at e;split at e
 .rename_i ds;cases e;obtain⟨v,ev,p,ys,ep,sq,rs⟩:=lJ vd;subst ev;subst ep;refine iP pr s σ H _ us Q I rx ⟨p,ys,rfl,.inl sq,?_⟩;rw[rs.length];exact k _ H G fp .refl (rel.push (aW _))
 .rename_i ds;cases e;obtain⟨v,ev,vt⟩:=lJ vd;obtain⟨p,ys,ep,sq,rs⟩:=gk vt;subst ev;subst ep;refine iP pr s σ H _ us Q I rx ⟨p,ys,rfl,.inr (bh rel.gh sq),?_⟩;rw[rs.length];exact k _ H G fp .refl (rel.push (aW _))
 .rename_i l;cases e;obtain⟨v,ev,vt⟩:=lJ vd;obtain⟨ep,hl⟩:=gX vt;subst ev;subst ep;refine mO pr s σ H _ us Q I rx ⟨S l,rfl,by rw[mS];exact hl,?_⟩;rw[mS];exact k _ H G fp .refl (rel.push (aW _))
 .cases e
noncomputable def sv:List D->Res R
 |[.lst ds]=>.ok (.l .f,.lst ds)
 |[.tup ds]=>.ok (.l .f,.lst ds)
 |_=>.bad
theorem vy:cb X (.type "list") (rC X.K sv):=by
 rintro pr s σ H xs us Q I rx ⟨G,fp,es,vs,ds,r,⟨rel,k⟩,vd,e⟩;unfold sv at e;split at e
 .rename_i ds;cases e;obtain⟨v,ev,p,ys,ep,sq,rs⟩:=lJ vd;subst ev;subst ep;refine iQ pr s σ H _ us Q I rx ⟨p,ys,rfl,.inl sq,λq hq=>?_⟩;obtain⟨Kq,Kw⟩:=rel.newL hq rs;exact k _ _ G _ Kw Kq
 .rename_i ds;cases e;obtain⟨v,ev,vt⟩:=lJ vd;obtain⟨p,ys,ep,sq,rs⟩:=gk vt;subst ev;subst ep;refine iQ pr s σ H _ us Q I rx ⟨p,ys,rfl,.inr (bh rel.gh sq),λq hq=>?_⟩;obtain⟨Kq,Kw⟩:=rel.newL hq rs;exact k _ _ G _ Kw Kq
 .cases e
noncomputable def cF:List D->Res R
 |[.lst ds]=>.ok (.f,.tup ds)
 |[.tup ds]=>.ok (.f,.tup ds)
 |_=>.bad
theorem x6:cb X (.type "tuple") (rC X.K cF):=by
 rintro pr s σ H xs us Q I rx ⟨G,fp,es,vs,ds,r,⟨rel,k⟩,vd,e⟩;unfold cF at e;split at e
 .rename_i ds;cases e;obtain⟨v,ev,p,ys,ep,sq,rs⟩:=lJ vd;subst ev;subst ep;refine gO pr s σ H _ us Q I rx ⟨p,ys,rfl,.inl ⟨sq,λq hq=>?_⟩⟩;obtain⟨G2,Kq,Kw⟩:=lH rel hq rs;exact k _ _ G2 _ Kw Kq
 .rename_i ds;cases e;obtain⟨v,ev,vt⟩:=lJ vd;obtain⟨p,ys,ep,sq,rs⟩:=gk vt;subst ev;subst ep;exact gO pr s σ H _ us Q I rx ⟨p,ys,rfl,.inr ⟨bh rel.gh sq,k _ H G fp .refl (rel.push vt)⟩⟩
 .cases e
noncomputable def nu:List D->Option (List Bool)
 |[]=>some []
 | .bl b::ds=>(nu ds).map (b:: ·)
 |_=>none
noncomputable def cK:List D->Option (List Int)
 |[]=>some []
 | .int b::ds=>(cK ds).map (b:: ·)
 |_=>none
theorem kF{K:W.Frag}{G:Hp}:∀{ds:List D}{bs:List Bool}{xs:List V},nu ds=some bs->Reps K G ds xs->xs=bs.map V.bl
 |[],_,_,e,r=>by
  cases e;rw[Reps]at r;exact r
 | .bl b::ds,_,_,e,r=>by
  rw[nu,Xi]at e;obtain⟨bs,e1,e2⟩:=e;subst e2;rw[Reps]at r;obtain⟨y,ys,e3,r1,r2⟩:=r;rw[e3,o7 r1,kF e1 r2];rfl
 | .non::_,_,_,e,_ | .int _::_,_,_,e,_ | .str _::_,_,_,e,_ | .tup _::_,_,_,e,_ | .lst _::_,_,_,e,_ | .dct _ _ _::_,_,_,e,_=>by simp[nu]at e
theorem gE{K:W.Frag}{G:Hp}:∀{ds:List D}{bs:List Int}{xs:List V},cK ds=some bs->Reps K G ds xs->xs=bs.map V.int
 |[],_,_,e,r=>by
  cases e;rw[Reps]at r;exact r
 | .int b::ds,_,_,e,r=>by
  rw[cK,Xi]at e;obtain⟨bs,e1,e2⟩:=e;subst e2;rw[Reps]at r;obtain⟨y,ys,e3,r1,r2⟩:=r;rw[e3,gW r1,gE e1 r2];rfl
 | .non::_,_,_,e,_ | .bl _::_,_,_,e,_ | .str _::_,_,_,e,_ | .tup _::_,_,_,e,_ | .lst _::_,_,_,e,_ | .dct _ _ _::_,_,_,e,_=>by simp[cK]at e
theorem sx(ns:List Int):cK (ns.map D.int)=some ns:=by
 induction ns with
 |nil=>rfl
 |cons n ns ih=>rw[Xa,cK,ih];rfl
theorem vz(ns:List Bool):nu (ns.map D.bl)=some ns:=by
 induction ns with
 |nil=>rfl
 |cons n ns ih=>rw[Xa,nu,ih];rfl
noncomputable def ny:D->Option (List D)
 | .lst ds=>some ds
 | .tup ds=>some ds
 |_=>none
theorem vA(gh:Same G H)(e:ny d=some ds)(h:Vw K G H d v):∃p xs,v=.ref p/\(SqL K H p xs\/SqT K H p xs)/\Reps K G ds xs:=by
 cases d with
 |lst es=>
  cases e;obtain⟨p,xs,ev,sq,rs⟩:=h;exact⟨p,xs,ev,.inl sq,rs⟩
 |tup es=>
  cases e;obtain⟨p,xs,ev,sq,rs⟩:=eD h;exact⟨p,xs,ev,.inr (bh gh sq),rs⟩
 |_=>cases e
def Ds:List D->Res R
 |[d]=>match(ny d).bind nu with
  |some bs=>.ok (.f,.bl (bs.all id))
  |none=>.bad
 |_=>.bad
theorem x9(bs:List Bool):(bs.map V.bl).all HQ=true:=by
 rw[YB,Xr];intro b _;rfl
theorem BK(bs:List Bool):(bs.map V.bl).all Ea=bs.all id:=by
 rw[YB];rfl
theorem EL(hc:X.calm=true):cb X (.builtin "all") (rC X.K Ds):=by
 rintro pr s σ H xs us Q I rx ⟨G,fp,es,vs,ds,r,⟨rel,k⟩,vd,e⟩;unfold Ds at e;split at e
 .rename_i d;split at e
  .rename_i bs hb;cases e;obtain⟨l,hl,hb⟩:=XJ.mp hb;obtain⟨v,ev,vt⟩:=lJ vd;obtain⟨p,ys,ep,sq,rs⟩:=vA rel.gh hl vt;have:=kF hb rs;subst this;subst ev;subst ep;refine xv hc pr s σ H _ us Q I rx ⟨p,_,rfl,sq,x9 bs,?_⟩;rw[BK];exact k _ H G fp .refl (rel.push (b7 _))
  .cases e
 .cases e
def maxD:List D->Res R
 |[d]=>match(ny d).bind cK with
  |some (n::ns)=>.ok (.f,.int (dO (n::ns)))
  |_=>.bad
 |[.int i,.int j]=>.ok (.f,.int (if i<j then j else i))
 |_=>.bad
theorem jF(gh:Same G H)(hb:(ny d).bind cK=some ns)(vt:Vw K G H d v):∃p,v=.ref p/\(SqL K H p (ns.map V.int)\/SqT K H p (ns.map V.int)):=by
 obtain⟨l,hl,hb⟩:=XJ.mp hb;obtain⟨p,ys,ep,sq,rs⟩:=vA gh hl vt;have:=gE hb rs;subst this;exact⟨p,ep,sq⟩
end
mutual
noncomputable def Kv:D->D->Bool
 | .non,.non=>true
 | .bl a,.bl b=>a==b
 | .bl a,.int j=>(if a then 1 else 0)==j
 | .int i,.bl b=>i==(if b then 1 else 0)
 | .int i,.int j=>i==j
 | .str a,.str b=>a==b
 | .tup a,.tup b=>iw a b
 | .lst a,.lst b=>iw a b
 |_,_=>false
noncomputable def iw:List D->List D->Bool
 |[],[]=>true
 |a::as,b::bs=>Kv a b&&iw as bs
 |_,_=>false
end
mutual
noncomputable def plainD:Nat->D->Bool
 |n+1,.tup ds=>plainDs n ds
 |n+1,.lst ds=>plainDs n ds
 | 0,.tup _=>false
 | 0,.lst _=>false
 |_,.dct _ _ _=>false
 |_,_=>true
noncomputable def plainDs:Nat->List D->Bool
 |_,[]=>true
 |n,d::ds=>plainD n d&&plainDs n ds
end
theorem plainDs_mem:∀{n:Nat}{ds:List D},plainDs n ds=true->∀{i:Nat}{d:D},ds[i]?=some d->plainD n d=true
 |_,[],_,_,_,e=>by simp at e
 |n,a::ds,h,0,d,e=>by
  rw[plainDs,WW]at h;simp at e;rw[<-e];exact h.1
 |n,a::ds,h,i+1,d,e=>by
  rw[plainDs,WW]at h;exact plainDs_mem h.2 (i:=i) (by simpa using e)
theorem lK:∀{a b:List D},a.length≠b.length->iw a b=false
 |[],[],h=>absurd rfl h
 |[],_::_,_=>by simp![iw]
 |_::_,[],_=>by simp![iw]
 |x::xs,y::ys,h=>by
  rw[iw,lK (λe=>h (by simp[e])),ZA]
theorem iG:∀{a b:List D},a.length=b.length->(List.range a.length).all (λj=>Kv (a.getD j .non) (b.getD j .non))=iw a b
 |[],[],_=>rfl
 |[],_::_,h=>by simp at h
 |_::_,[],h=>by simp at h
 |x::xs,y::ys,h=>by
  rw[iw,<-iG (a:=xs) (b:=ys) (by simpa using h),WX,aa6,Zo,YB];rfl
variable{pr:List (WP×Obj)}{s:WF}{tk:Bool}{A:Uf}
section
theorem jG(I:Inv X pr σ H s)(h:SqL X.K H p xs)(h':SqT X.K H p ys):False:=by
 obtain⟨us,_,p1,_⟩:=I.list h;obtain⟨ws,_,p2,_⟩:=I.tuple h';exact SeqAt.ne_of_list_tuple p1.isList (show s.heap.IsTuple p ws.toArray from p2) rfl
theorem vB{vs:List D}(h:plainD n (.dct tk ks vs)=true):False:=by cases n <;> (simp![plainD]at h;cases h)
inductive Kd(X:Cx)(H:Hp)(s:WF):D->V->Wp->Prop
 |n:Kd X H s .non .non .none
 |b (b:Bool):Kd X H s (.bl b) (.bl b) (.bool b)
 |i (i:Int) (t:_):Kd X H s (.int i) (.int i) (.int i t)
 |s (l:List Nat) (z:Str) (t:_):z=S l->Kd X H s (.str l) (.str z) (.str z t)
 |t (l:List D) (p:WP) (xs:List V) (Kt:List Wp):SqT X.K H p xs->Reps X.K H l xs->Vals xs Kt->s.heap.IsTuple p Kt.toArray->Kd X H s (.tup l) (.ref p) (.ref p)
 |l (l:List D) (p:WP) (xs:List V) (Kt:List Wp):SqL X.K H p xs->Reps X.K H l xs->Vals xs Kt->s.heap.IsList p Kt.toArray->Kd X H s (.lst l) (.ref p) (.ref p)
theorem kd(I:Inv X pr σ H s){x:V}{v:Wp}(h:plainD n d=true)(r:Rep X.K H d x)(rx:L2.RelV x v):Kd X H s d x v:=by
 cases d with
 |non=>cases qm r;cases rx;exact .n
 |bl b=>cases o7 r;cases rx;exact .b b
 |int i=>cases gW r;obtain⟨t,rfl⟩:=rx;exact .i i t
 |str l=>obtain⟨rfl,_⟩:=eT r;obtain⟨t,rfl⟩:=rx;exact .s l _ t rfl
 |tup l=>obtain⟨p,xs,rfl,sq,rs⟩:=eD r;cases rx;obtain⟨Kt,vl,ip,_⟩:=I.tuple sq;exact .t l p xs Kt sq rs vl ip
 |lst l=>obtain⟨p,xs,rfl,sq,rs⟩:=gj r;cases rx;obtain⟨Kt,vl,ip,_⟩:=I.list sq;exact .l l p xs Kt sq rs vl ip.isList
 |dct=>exact(vB h).elim
theorem Kd.ref{d:D}{x:V}{p:WP}(k:Kd X H s d x (.ref p)):x=.ref p:=by cases k <;> rfl
theorem JV(x:V):∃v,L2.RelV x v:=by cases x <;> first|exact⟨_,rfl⟩|exact⟨_,default,rfl⟩
theorem qy(rs:Reps X.K H l xs)(LU:Reps X.K H l' xs)(h:∀a b y,a∈l->b∈l'->Rep X.K H a y->Rep X.K H b y->a=b):l=l':=by
 have l1:=rs.length;have l2:=LU.length;refine List.ext_getElem @a λj h1 h2=>?_
 obtain⟨y,hy,r1⟩:=rs.get (WM h1);obtain⟨y',Wc,r2⟩:=LU.get (WM h2);rw[hy]at Wc;cases Wc;exact h _ _ y (X6 h1) (X6 h2) r1 r2
theorem bF(h:plainDs n ds=true)(hd:d∈ds):plainD n d=true:=by
 obtain⟨i,hi⟩:=X3.mp hd;exact plainDs_mem h hi
theorem jH(I:Inv X pr σ H s):∀(n:Nat) (d e:D) (x:V),plainD n d=true->plainD n e=true->Rep X.K H d x->Rep X.K H e x->d=e
 |n,d,e,x,h,h',r,q=>by
  obtain⟨v,rx⟩:=JV x;cases kd I h r rx with
  |t l p xs Kt sq rs vl ip=>cases kd I h' q rx with
   |t l' _ _ _ L6 LU=>cases I.tuple_inj sq L6;cases n with
    |zero=>simp![plainD]at h;cases h
    |succ n=>simp![plainD]at h h';rw[qy rs LU λa b y ha hb=>jH I n a b y (bF h ha) (bF h' hb)]
   |l l' _ _ _ L6=>exact(jG I L6 sq).elim
  |l l p xs Kt sq rs vl ip=>cases kd I h' q rx with
   |l l' _ _ _ L6 LU=>cases I.list_inj sq L6;cases n with
    |zero=>simp![plainD]at h;cases h
    |succ n=>simp![plainD]at h h';rw[qy rs LU λa b y ha hb=>jH I n a b y (bF h ha) (bF h' hb)]
   |t l' _ _ _ L6=>exact(jG I sq L6).elim
  |s l z t e=>cases kd I h' q rx with|s l' _ _ e'=>rw[S_inj (e.symm.trans e')]
  |_=>cases kd I h' q rx;rfl
mutual
theorem lM:∀(d:D) (n:Nat),plainD n d=true->Kv d d=true
 | .non,_,_=>by simp![Kv]
 | .bl _,_,_=>by simp![Kv,X4]
 | .int _,_,_=>by simp![Kv,X4]
 | .str _,_,_=>by simp![Kv,X4]
 | .tup ds,0,h=>by simp![plainD]at h;cases h
 | .tup ds,n+1,h=>by simp![plainD]at h;simp![Kv];exact jI ds n h
 | .lst ds,0,h=>by simp![plainD]at h;cases h
 | .lst ds,n+1,h=>by simp![plainD]at h;simp![Kv];exact jI ds n h
 | .dct _ _ _,n,h=>by cases n <;> (simp![plainD]at h;cases h)
theorem jI:∀(ds:List D) (n:Nat),plainDs n ds=true->iw ds ds=true
 |[],_,_=>by simp![iw]
 |d::ds,n,h=>by
  rw[plainDs,WW]at h;rw[iw,lM d n h.1,jI ds n h.2];rfl
end
open PySem.SeqAt
theorem Wd(rs:Reps X.K H l xs)(vl:Vals xs Kt)(LU:Reps X.K H l' LN)(MO:Vals LN its')(f:∀(a b:D) (y z:V) (v u:Wp),a∈l->b∈l'->Rep X.K H a y->Rep X.K H b z->L2.RelV y v->L2.RelV z u->EqAt A s v u (Kv a b))(j:Nat)(h1:j<Kt.toArray.size)(h2:j<its'.toArray.size):EqAt A s Kt.toArray[j] its'.toArray[j] (Kv (l.getD j .non) (l'.getD j .non)):=by
 have l1:=vl.length;have l2:=MO.length;have l3:=rs.length;have l4:=LU.length;simp![WZ]at h1 h2;have g1:l[j]?=some (l[j]'(by lia)):=WM _;have g2:l'[j]?=some (l'[j]'(by lia)):=WM _;obtain⟨w1,O9,Pa⟩:=rs.get g1;obtain⟨w2,Oj,S3⟩:=LU.get g2;obtain⟨u1,Nq,Pb⟩:=vl.get O9;obtain⟨u2,Oh,S4⟩:=MO.get Oj;have q1:Kt.toArray[j]=u1:=by rw[WM h1]at Nq;simpa using Nq
 have q2:its'.toArray[j]=u2:=by rw[WM h2]at Oh;simpa using Oh
 rw[q1,q2,W8,W8,g1,g2];exact f _ _ w1 w2 u1 u2 (X6 _) (X6 _) Pa S3 Pb S4
theorem Jg(I:Inv X pr σ H s)(ih:∀m,n=m+1->∀(d e:D) (x y:V) (v u:Wp) (A:Uf),plainD m d=true->plainD m e=true->A.units+m+1<cLine->Rep X.K H d x->Rep X.K H e y->L2.RelV x v->L2.RelV y u->EqAt A s v u (Kv d e))(d e:D)(x y:V)(v u:Wp)(A:Uf)(h:plainD n d=true)(h':plainD n e=true)(hu:A.units+n+1<cLine)(r:Rep X.K H d x)(q:Rep X.K H e y)(rx:L2.RelV x v)(ry:L2.RelV y u):EqAt A s v u (Kv d e)/\RcAt A s v u (Kv d e)/\RcNeAt A s v u (!Kv d e):=by
  have hA:A.units<cLine:=by lia
  have k1:=kd I h r rx;have k2:=kd I h' q ry;have key:∀p p',v=.ref p->u=.ref p'->RcAt A s v u (Kv d e)->EqAt A s v u (Kv d e):=λp p' e1 e2 k=>by
   subst e1 e2;by_cases hp:p=p'
   .subst hp;have e1:=k1.ref;have e2:=k2.ref;subst e1 e2;rw[<-jH I n d e _ h h' r q,lM d n h];exact .same _
   .exact .of_refs hp k
  cases k1 with
  |n=>cases k2 with
   |n=>simp![Kv];exact⟨.same _,.none_none,.none_none⟩
   |b b'=>simp![Kv];exact⟨.none_bool _,.none_bool _,.none_bool _⟩
   |i i' t'=>simp![Kv];exact⟨.none_int _ _,.none_int _ _,.none_int _ _⟩
   |s l' z' t' Qg=>simp![Kv];exact⟨.none_str _ _,.none_str _ _,.none_str _ _⟩
   |t l' p' LN its' L6 LU MO ip'=>simp![Kv];exact⟨.none_tuple ip' hA,.none_tuple ip' hA,.none_tuple ip' hA⟩
   |l l' p' LN its' L6 LU MO ip'=>simp![Kv];exact⟨.none_list ip' hA,.none_list ip' hA,.none_list ip' hA⟩
  |b b=>cases k2 with
   |n=>simp![Kv];exact⟨.bool_none _,.bool_none _,.bool_none _⟩
   |b b'=>simp![Kv];exact⟨.bool_bool _ _,.bool_bool _ _,.bool_bool _ _⟩
   |i i' t'=>simp![Kv];exact⟨.bool_int _ _ _,.bool_int _ _ _,.bool_int _ _ _⟩
   |s l' z' t' Qg=>simp![Kv];exact⟨.bool_str _ _ _,.bool_str _ _ _,.bool_str _ _ _⟩
   |t l' p' LN its' L6 LU MO ip'=>simp![Kv];exact⟨.bool_tuple _ ip' hA,.bool_tuple _ ip' hA,.bool_tuple _ ip' hA⟩
   |l l' p' LN its' L6 LU MO ip'=>simp![Kv];exact⟨.bool_list _ ip' hA,.bool_list _ ip' hA,.bool_list _ ip' hA⟩
  |i i t=>cases k2 with
   |n=>simp![Kv];exact⟨.int_none _ _,.int_none _ _,.int_none _ _⟩
   |b b'=>simp![Kv];exact⟨.int_bool _ _ _,.int_bool _ _ _,.int_bool _ _ _⟩
   |i i' t'=>simp![Kv];exact⟨.int_int _ _ _ _,.int_int _ _ _ _,.int_int _ _ _ _⟩
   |s l' z' t' Qg=>simp![Kv];exact⟨.int_str _ _ _ _,.int_str _ _ _ _,.int_str _ _ _ _⟩
   |t l' p' LN its' L6 LU MO ip'=>simp![Kv];exact⟨.int_tuple _ _ ip' hA,.int_tuple _ _ ip' hA,.int_tuple _ _ ip' hA⟩
   |l l' p' LN its' L6 LU MO ip'=>simp![Kv];exact⟨.int_list _ _ ip' hA,.int_list _ _ ip' hA,.int_list _ _ ip' hA⟩
  |s l z t hz=>cases k2 with
   |n=>simp![Kv];exact⟨.str_none _ _,.str_none _ _,.str_none _ _⟩
   |b b'=>simp![Kv];exact⟨.str_bool _ _ _,.str_bool _ _ _,.str_bool _ _ _⟩
   |i i' t'=>simp![Kv];exact⟨.str_int _ _ _ _,.str_int _ _ _ _,.str_int _ _ _ _⟩
   |s l' z' t' Qg=>
    have e1:(l==l')=(z==z'):=by
     rw[hz,Qg,Xo,Xx,Xx];exact⟨λz=>by rw[z],S_inj⟩
    simp![Kv,e1];exact⟨.str_str _ _ _ _,.str_str _ _ _ _,.str_str _ _ _ _⟩
   |t l' p' LN its' L6 LU MO ip'=>simp![Kv];exact⟨.str_tuple _ _ ip' hA,.str_tuple _ _ ip' hA,.str_tuple _ _ ip' hA⟩
   |l l' p' LN its' L6 LU MO ip'=>simp![Kv];exact⟨.str_list _ _ ip' hA,.str_list _ _ ip' hA,.str_list _ _ ip' hA⟩
  |t l p xs Kt sq rs vl ip=>cases k2 with
   |n=>simp![Kv];exact⟨.tuple_none ip hA,.tuple_none ip hA,.tuple_none ip hA⟩
   |b b'=>simp![Kv];exact⟨.tuple_bool _ ip hA,.tuple_bool _ ip hA,.tuple_bool _ ip hA⟩
   |i i' t'=>simp![Kv];exact⟨.tuple_int _ _ ip hA,.tuple_int _ _ ip hA,.tuple_int _ _ ip hA⟩
   |s l' z' t' Qg=>simp![Kv];exact⟨.tuple_str _ _ ip hA,.tuple_str _ _ ip hA,.tuple_str _ _ ip hA⟩
   |t l' p' LN its' L6 LU MO ip'=>
    cases n with
    |zero=>simp![plainD]at h;cases h
    |succ n=>
     have hh:=h;have S5:=h';simp![plainD]at hh S5;have el:=Wd (A:=A.in1) rs vl LU MO λa b y z v u ha hb ra rb rv ru=>(ih n rfl a b y z v u A.in1 (bF hh ha) (bF S5 hb) (by show A.units+1+n+1<cLine;lia) ra rb rv ru)
     have l1:=vl.length;have l2:=MO.length;have l3:=rs.length;have l4:=LU.length;have fin:((List.range (min Kt.toArray.size its'.toArray.size)).all (λj=>Kv (l.getD j .non) (l'.getD j .non))&&Kt.toArray.size==its'.toArray.size)=Kv (.tup l) (.tup l'):=by
      simp![Kv,WZ];by_cases hl:l.length=l'.length
      .rw[<-iG hl,show min Kt.length its'.length=l.length by lia,show(Kt.length==its'.length)=true by rw[Xx];lia,aaQ]
      .rw[lK hl,show(Kt.length==its'.length)=false by rw[XQ];lia,ZA]
     have k:=RcAt.tuples (e:=λj=>Kv (l.getD j .non) (l'.getD j .non)) ip ip' hA el;rw[fin]at k;refine⟨key p p' rfl rfl k,k,?_⟩;rw[<-fin];exact .tuples ip ip' hA el
   |l l' p' LN its' L6 LU MO ip'=>simp![Kv];exact⟨.tuple_list ip ip' hA,.tuple_list ip ip' hA,.tuple_list ip ip' hA⟩
  |l l p xs Kt sq rs vl ip=>cases k2 with
   |n=>simp![Kv];exact⟨.list_none ip hA,.list_none ip hA,.list_none ip hA⟩
   |b b'=>simp![Kv];exact⟨.list_bool _ ip hA,.list_bool _ ip hA,.list_bool _ ip hA⟩
   |i i' t'=>simp![Kv];exact⟨.list_int _ _ ip hA,.list_int _ _ ip hA,.list_int _ _ ip hA⟩
   |s l' z' t' Qg=>simp![Kv];exact⟨.list_str _ _ ip hA,.list_str _ _ ip hA,.list_str _ _ ip hA⟩
   |t l' p' LN its' L6 LU MO ip'=>simp![Kv];exact⟨.list_tuple ip ip' hA,.list_tuple ip ip' hA,.list_tuple ip ip' hA⟩
   |l l' p' LN its' L6 LU MO ip'=>
    cases n with
    |zero=>simp![plainD]at h;cases h
    |succ n=>
     have hh:=h;have S5:=h';simp![plainD]at hh S5;have l1:=vl.length;have l2:=MO.length;have l3:=rs.length;have l4:=LU.length;have e0:Kv (.lst l) (.lst l')=iw l l':=by simp![Kv]
     have k:RcAt A s (.ref p) (.ref p') (Kv (.lst l) (.lst l'))/\RcNeAt A s (.ref p) (.ref p') (!Kv (.lst l) (.lst l')):=by
      rw[e0];by_cases hl:l.length=l'.length
      .have el:=Wd (A:=A.in1) rs vl LU MO λa b y z v u ha hb ra rb rv ru=>(ih n rfl a b y z v u A.in1 (bF hh ha) (bF S5 hb) (by show A.units+1+n+1<cLine;lia) ra rb rv ru)
       rw[<-iG hl,show l.length=Kt.toArray.size by simp![WZ];lia];exact⟨.lists (e:=λj=>Kv (l.getD j .non) (l'.getD j .non)) ip ip' (by simp![WZ];lia) hA el,.lists (e:=λj=>Kv (l.getD j .non) (l'.getD j .non)) ip ip' (by simp![WZ];lia) hA el⟩
      .rw[lK hl];exact⟨.lists_lengths ip ip' (by simp![WZ,bne_iff_ne];lia) hA,.lists_lengths ip ip' (by simp![WZ,bne_iff_ne];lia) hA⟩
     exact⟨key p p' rfl rfl k.1,k⟩
theorem Vi(I:Inv X pr σ H s):∀(n:Nat) (d e:D) (x y:V) (v u:Wp) (A:Uf),plainD n d=true->plainD n e=true->A.units+n+1<cLine->Rep X.K H d x->Rep X.K H e y->L2.RelV x v->L2.RelV y u->EqAt A s v u (Kv d e)/\RcAt A s v u (Kv d e)/\RcNeAt A s v u (!Kv d e)
 | 0=>Jg I λ_ z=>nomatch z
 |n+1=>Jg I λm z d e x y v u A h h' hu r q rx ry=>by
  cases z;exact(Vi I n d e x y v u A h h' hu r q rx ry).1
theorem EM(I:Inv X pr σ H s)(d e:D)(x y:V)(v u:Wp)(A:Uf)(n:Nat)(h:plainD n d=true)(h':plainD n e=true)(hu:A.units+n+1<cLine)(r:Rep X.K H d x)(q:Rep X.K H e y)(rx:L2.RelV x v)(ry:L2.RelV y u):EqAt A s v u (Kv d e):=(Vi I n d e x y v u A h h' hu r q rx ry).1
end
variable{y:V}
section
def eqO(a b:D):Res R:=if plainD 40 a&&plainD 40 b then .ok (.f,.bl (Kv a b)) else .bad
def neO(a b:D):Res R:=if plainD 40 a&&plainD 40 b then .ok (.f,.bl (!Kv a b)) else .bad
open PySem.SeqAt in
theorem EN(I:Inv X pr σ H s){e:D}{x:V}{v:Wp}(h:plainD 40 d=true)(h':plainD 40 e=true)(hu:A.units+64<cLine)(r:Rep X.K H d x)(q:Rep X.K H e y)(rx:RelV x v)(ry:RelV y u):
  RcAt A s v u (Kv d e)/\RcNeAt A s v u (!Kv d e):=(Vi I 40 d e x y v u A h h' @a r q rx ry).2
theorem EO(hu:X.A.units+64<cLine):Lk X (compareOp .Eq) (rGA X.K eqO):=by
 rintro pr s σ H x y v u Q I rx ry ⟨G,fp,es,vs,a,b,r,⟨rel,k⟩,va,vb,e⟩;unfold eqO at e;split at e
 .rename_i hp;cases e;rw[WW]at hp;exact(EN I hp.1 hp.2 hu va vb rx ry).1 _ _ _ _ ⟨.bl _,H,I,rfl,k _ H G fp .refl (rel.push (b7 _))⟩
 .cases e
theorem ER(hu:X.A.units+64<cLine):Lk X (compareOp .NotEq) (rGA X.K neO):=by
 rintro pr s σ H x y v u Q I rx ry ⟨G,fp,es,vs,a,b,r,⟨rel,k⟩,va,vb,e⟩;unfold neO at e;split at e
 .rename_i hp;cases e;rw[WW]at hp;exact(EN I hp.1 hp.2 hu va vb rx ry).2 _ _ _ _ ⟨.bl _,H,I,rfl,k _ H G fp .refl (rel.push (b7 _))⟩
 .cases e
def tj(a:D)(ds:List D):Bool:=ds.any λd=>Kv d a
def Nr(a b:D):Res R:=match b with
 | .lst ds=>if plainD 40 a&&plainDs 40 ds then .ok (.f,.bl (tj a ds)) else .bad
 | .tup ds=>if plainD 40 a&&plainDs 40 ds then .ok (.f,.bl (tj a ds)) else .bad
 | .str l=>match a with
  | .str [c]=>.ok (.f,.bl (decide (c∈l)))
  |_=>.bad
 |_=>.bad
def tm(a b:D):Res R:=(Nr a b).bind λr=>match r.2 with
 | .bl k=>.ok (.f,.bl (!k))
 |_=>.bad
open PySem.SeqAt in
theorem qz(I:Inv X pr σ H s){a:D}{x:V}{v:Wp}(h:plainD 40 a=true)(hu:A.units+64<cLine)(r:Rep X.K H a x)(rx:RelV x v):
  ∀(ds:List D) (xs:List V) (us:List Wp),plainDs 40 ds=true->Reps X.K H ds xs->Vals xs us->∃e:Wp->Bool,us.any e=tj a ds/\∀u∈us,EqAt A s u v (e u):=by
 classical
 intro ds xs us hp rs vl;refine⟨λu=>decide (∃(j:Nat) (d:D),ds[j]?=some d/\us[j]?=some u/\Kv d a=true),?_,λu O3=>?_⟩
 .rw[Xo,XM];unfold tj;rw[XM];constructor
  .rintro⟨u,_,hd⟩;obtain⟨j,d,h1,_,h2⟩:=Yu hd;exact⟨d,Xm h1,h2⟩
  .rintro⟨d,hd,h2⟩;obtain⟨j,hj⟩:=X3.mp hd;obtain⟨w1,O9,Pa⟩:=rs.get hj;obtain⟨u1,Nq,Pb⟩:=vl.get O9;exact⟨u1,Xm Nq,Xc ⟨j,d,hj,Nq,h2⟩⟩
 .obtain⟨j,hj⟩:=X3.mp O3;have l1:=vl.length;have l2:=rs.length;have Vj:=(WS.mp hj).1;have g1:ds[j]?=some (ds[j]'(by lia)):=WM _;obtain⟨w1,O9,Pa⟩:=rs.get g1;obtain⟨u1,Nq,Pb⟩:=vl.get O9;rw[hj]at Nq;cases Nq;have z:=EM I _ _ w1 x u v A 40 (plainDs_mem hp g1) h @a Pa r Pb rx;have e:decide (∃(j:Nat) (d:D),ds[j]?=some d/\us[j]?=some u/\Kv d a=true)=Kv (ds[j]'(by lia)) a:=by
   rw[Xo,W3];constructor
   .rintro⟨j2,d2,k1,k2,k3⟩;obtain⟨w2,Oj,S3⟩:=rs.get k1;obtain⟨u2,Oh,S4⟩:=vl.get Oj;rw[k2]at Oh;cases Oh;have:=Pb.inj S4;subst this;rw[jH I 40 _ _ _ (plainDs_mem hp g1) (plainDs_mem hp k1) Pa S3];exact k3
   .intro k3;exact⟨j,_,g1,hj,k3⟩
  show EqAt A s u v (decide (∃(j:Nat) (d:D),ds[j]?=some d/\us[j]?=some u/\Kv d a=true));rw[e];exact z
theorem nE(l:List Nat)(c:Nat):(!(Builtin.Str.occurrences (S l) (S [c]) 0 (S l).length 1).isEmpty)=decide (c∈l):=by
 have h:=PySem.StrLaws.found_one (S l) c;rw[cJ]at h;exact h
theorem lN{e:Wp->Bool}(us:List Wp):us.toArray.any e=us.any e:=by simp
theorem Im(hu:X.A.units+65<cLine):Lk X (compareOp .In) (rGA X.K Nr):=by
 rintro pr s σ H x y v u Q I rx ry ⟨G,fp,es,vs,a,b,r,⟨rel,k⟩,va,vb,e⟩;unfold Nr at e;split at e
 .rename_i ds;split at e
  .rename_i hp;cases e;rw[WW]at hp;obtain⟨p,xs,ev,sq,rs⟩:=gj vb;subst ev;cases ry;obtain⟨Kt,vl,ip,_⟩:=I.list sq;obtain⟨ef,e1,e2⟩:=qz (A:=X.A.in1) I hp.1 (by show X.A.units+1+64<cLine;lia) va rx ds xs Kt hp.2 rs vl;refine SeqAt.in_listAt ef ip.isList (λz hz=>e2 z (by simpa using hz)) ?_;rw[lN,e1];exact⟨.bl _,H,I,rfl,k _ H G fp .refl (rel.push (b7 _))⟩
  .cases e
 .rename_i ds;split at e
  .rename_i hp;cases e;rw[WW]at hp;obtain⟨p,xs,ev,sq,rs⟩:=eD vb;subst ev;cases ry;obtain⟨Kt,vl,ip,_⟩:=I.tuple sq;obtain⟨ef,e1,e2⟩:=qz (A:=X.A.in1) I hp.1 (by show X.A.units+1+64<cLine;lia) va rx ds xs Kt hp.2 rs vl;refine SeqAt.in_tupleAt ef (show s.heap.IsTuple p Kt.toArray from ip) (λz hz=>e2 z (by simpa using hz)) ?_;rw[lN,e1];exact⟨.bl _,H,I,rfl,k _ H G fp .refl (rel.push (b7 _))⟩
  .cases e
 .rename_i l;split at e
  .rename_i c;cases e;obtain⟨e1,h1⟩:=eT va;obtain⟨e2,h2⟩:=eT vb;subst e1;subst e2;refine tW pr s σ H _ _ v u Q I rx ry ⟨_,_,rfl,rfl,?_⟩;rw[nE];exact k _ H G fp .refl (rel.push (b7 _))
  .cases e
 .cases e
theorem ES(hu:X.A.units+65<cLine):Lk X (compareOp .NotIn) (rGA X.K tm):=by
 rintro pr s σ H x y v u Q I rx ry ⟨G,fp,es,vs,a,b,r,⟨rel,k⟩,va,vb,e⟩;unfold tm at e;obtain⟨r0,e0,e⟩:=ag e;unfold Nr at e0;split at e0
 .rename_i ds;split at e0
  .rename_i hp;cases e0;cases e;rw[WW]at hp;obtain⟨p,xs,ev,sq,rs⟩:=gj vb;subst ev;cases ry;obtain⟨Kt,vl,ip,_⟩:=I.list sq;obtain⟨ef,e1,e2⟩:=qz (A:=X.A.in1) I hp.1 (by show X.A.units+1+64<cLine;lia) va rx ds xs Kt hp.2 rs vl;refine SeqAt.notIn_listAt ef ip.isList (λz hz=>e2 z (by simpa using hz)) ?_;rw[lN,e1];exact⟨.bl _,H,I,rfl,k _ H G fp .refl (rel.push (b7 _))⟩
  .cases e0
 .rename_i ds;split at e0
  .rename_i hp;cases e0;cases e;rw[WW]at hp;obtain⟨p,xs,ev,sq,rs⟩:=eD vb;subst ev;cases ry;obtain⟨Kt,vl,ip,_⟩:=I.tuple sq;obtain⟨ef,e1,e2⟩:=qz (A:=X.A.in1) I hp.1 (by show X.A.units+1+64<cLine;lia) va rx ds xs Kt hp.2 rs vl;refine SeqAt.notIn_tupleAt ef (show s.heap.IsTuple p Kt.toArray from ip) (λz hz=>e2 z (by simpa using hz)) ?_;rw[lN,e1];exact⟨.bl _,H,I,rfl,k _ H G fp .refl (rel.push (b7 _))⟩
  .cases e0
 .rename_i l;split at e0
  .rename_i c;cases e0;cases e;obtain⟨e1,h1⟩:=eT va;obtain⟨e2,h2⟩:=eT vb;subst e1;subst e2;refine mH pr s σ H _ _ v u Q I rx ry ⟨_,_,rfl,rfl,?_⟩;rw[nE];exact k _ H G fp .refl (rel.push (b7 _))
  .cases e0
 .cases e0
noncomputable def isO(a b:D):Res R:=match b with
 | .bl k=>.ok (.f,.bl (match a with | .bl j=>j==k|_=>false))
 | .non=>.ok (.f,.bl (match a with | .non=>true|_=>false))
 |_=>.bad
def isnO(a b:D):Res R:=(isO a b).bind λr=>match r.2 with
 | .bl k=>.ok (.f,.bl (!k))
 |_=>.bad
theorem qA{a b:D}{x:V}{v:Wp}(va:Rep K H a x)(vb:Rep K H b y)(rx:RelV x v)(ry:RelV y u)(e:isO a b=.ok r):plainIs v u=true/\r=(.f,.bl (v==u)):=by
 unfold isO at e;split at e
 .rename_i k;cases e;cases o7 vb;cases ry;cases a with
  |non=>cases qm va;cases rx;exact⟨rfl,rfl⟩
  |bl j=>cases o7 va;cases rx;refine⟨rfl,?_⟩;cases j <;> cases k <;> rfl
  |int i=>cases gW va;obtain⟨t,rfl⟩:=rx;exact⟨rfl,rfl⟩
  |str l=>cases(eT va).1;obtain⟨t,rfl⟩:=rx;exact⟨rfl,rfl⟩
  |tup l=>obtain⟨p,xs,rfl,_⟩:=eD va;cases rx;exact⟨rfl,rfl⟩
  |lst l=>obtain⟨p,xs,rfl,_⟩:=gj va;cases rx;exact⟨rfl,rfl⟩
  |dct tk ks vs=>rw[Rep]at va;obtain⟨p,xs,o,rfl,_⟩:=va;cases rx;exact⟨rfl,rfl⟩
 .cases e;cases qm vb;cases ry;cases a with
  |non=>cases qm va;cases rx;exact⟨rfl,rfl⟩
  |bl j=>cases o7 va;cases rx;exact⟨rfl,rfl⟩
  |int i=>cases gW va;obtain⟨t,rfl⟩:=rx;exact⟨rfl,rfl⟩
  |str l=>cases(eT va).1;obtain⟨t,rfl⟩:=rx;exact⟨rfl,rfl⟩
  |tup l=>obtain⟨p,xs,rfl,_⟩:=eD va;cases rx;exact⟨rfl,rfl⟩
  |lst l=>obtain⟨p,xs,rfl,_⟩:=gj va;cases rx;exact⟨rfl,rfl⟩
  |dct tk ks vs=>rw[Rep]at va;obtain⟨p,xs,o,rfl,_⟩:=va;cases rx;exact⟨rfl,rfl⟩
 .cases e
theorem ET:Lk X (compareOp .Is) (rGA X.K isO):=by
 rintro pr s σ H x y v u Q I rx ry ⟨G,fp,es,vs,a,b,r,⟨rel,k⟩,va,vb,e⟩;obtain⟨h1,h2⟩:=qA va vb rx ry e;subst h2;exact wpAny_is_plain h1 ⟨.bl _,H,I,rfl,k _ H G fp .refl (rel.push (b7 _))⟩
theorem EU:Lk X (compareOp .IsNot) (rGA X.K isnO):=by
 rintro pr s σ H x y v u Q I rx ry ⟨G,fp,es,vs,a,b,r,⟨rel,k⟩,va,vb,e⟩;obtain⟨r0,e0,e⟩:=ag e;obtain⟨h1,h2⟩:=qA va vb rx ry e0;subst h2;cases e;exact wpAny_isNot_plain h1 ⟨.bl _,H,I,rfl,k _ H G fp .refl (rel.push (b7 _))⟩
end
section
theorem EV(hc:X.calm=true):cb X (.builtin "max") (rC X.K maxD):=by
 rintro pr s σ H xs us Q I rx ⟨G,fp,es,vs,ds,r,⟨rel,k⟩,vd,e⟩;unfold maxD at e;split at e
 .rename_i d;split at e
  .rename_i n ns hb;cases e;obtain⟨v,ev,vt⟩:=lJ vd;obtain⟨p,ep,sq⟩:=jF rel.gh hb vt;subst ev;subst ep;exact uz hc pr s σ H _ us Q I rx ⟨p,n::ns,rfl,sq,by simp,k _ H G fp .refl (rel.push (aW _))⟩
  .cases e
 .rename_i i j;cases e;obtain⟨v,w',ev,v1,v2⟩:=Jf vd;subst ev;cases aX v1;cases aX v2;obtain⟨u,u',rfl,⟨t,rfl⟩,t',rfl⟩:=rS rx;refine max_two_ints (I.ok.hd hc) λh' tk kk=>?_
  have I2:Inv X pr σ H {s with heap:=h',toks:=tk}:=I.kept kk;refine⟨.int (if i<j then j else i),H,I2,?_,k _ H G fp .refl (rel.push (aW _))⟩;by_cases MV:i<j
  .rw[WV MV,WV (show j>i from MV)];exact⟨_,rfl⟩
  .rw[W6 MV,W6 (show ¬ j>i from MV)];exact⟨_,rfl⟩
 .cases e
def ya(f g:FX):FX:=λenv=>(f env).bind λp=>(g p.2).bind λq=>match(ny p.1.2).bind cK,q.1.2 with
 |some ns,.int d=>.ok ((.f,.int (NX.maxD ns d)),q.2)
 |_,_=>.bad
theorem BL{k:Expr}{p pos:Pos}(hc:X.calm=true)(hg:Gl X "max")(hm:X.mg "max" = none)(he:QE X e f)(hk:QE X k g)(hs:starEach [e] X.env=[(false,eval e X.env)]:=by rfl):
  QE X (.Call (.Name "max" p) [e] [⟨some "default",k,NC⟩] pos) (ya f g):=aO (AX hc hg hm he hk hs) λσ H Q Kz=>by
 obtain⟨G,env,fp,r,env',rel,e,k⟩:=Kz;obtain⟨⟨r1,Ko⟩,e1,e⟩:=ag e;obtain⟨⟨r2,KA⟩,e2,e⟩:=ag e;dsimp only at e;split at e
 .rename_i ns d RY hd;cases e;refine⟨G,env,fp,r1,Ko,rel,e1,λv H1 G1 KR KJ Kr=>?_⟩;obtain⟨G2,b,rv,Kq,Kw⟩:=Kr.freeze;refine⟨G2,Ko,b,r2,_,Kq,e2,λw' H3 G3 LJ K3 K0=>?_⟩;have hw:=K0.top;obtain⟨b3,Ld,Lr⟩:=K0.drop;rw[hd]at hw;obtain⟨p',ep,sq⟩:=jF Ld.gh RY (Vw.of Ld.gh (Rep.mono K3.gg rv));subst ep;exact⟨p',ns,d,rfl,by rw[gW hw],sq,k _ H3 G3 b3 (KJ.trans (Kw.trans (K3.trans Lr))) (Ld.push (aW _))⟩
 .cases e
noncomputable def Kg:List D->Res R
 |[.bl b]=>.ok (.f,.int (if b then 1 else 0))
 |[.int i]=>.ok (.f,.int i)
 |_=>.bad
noncomputable def vC:D->String
 | .non=>"NoneType"
 | .bl _=>"bool"
 | .int _=>"int"
 | .str _=>"str"
 | .tup _=>"tuple"
 | .lst _=>"list"
 | .dct _ _ _=>"dict"
def Jh(T:String)(d:D):Bool:=vC d==T||(vC d == "bool" && T == "int")
def eIs(T:String)(f:FO):FX:=λenv=>(f env).bind λp=>(tf p.2 p.1).bind λd=>.ok ((.f,.bl (Jh T d)),p.2)
noncomputable def or2{α:Type}(f g:PV.Env->Res α):PV.Env->Res α:=λenv=>match f env with
 | .ok a=>.ok a
 |_=>g env
theorem zI{f:PV.Env->Res α}{a:α}(h:or2 f g env=.ok a):f env=.ok a\/g env=.ok a:=by
 unfold or2 at h;split at h
 .rename_i b hb;cases h;exact .inl hb
 .exact .inr h
theorem vD{f:FI}(h:QI X tg e f)(h2:QI X tg e g):QI X tg e (or2 f g):=λpr s σ H R I Kz=>by
 obtain⟨G,env,fp,ds,env',rel,ee,k⟩:=Kz;rcases zI ee with z|z
 .exact h pr s σ H R I ⟨G,env,fp,ds,env',rel,z,k⟩
 .exact h2 pr s σ H R I ⟨G,env,fp,ds,env',rel,z,k⟩
end
section
noncomputable def ins(lt:α->α->Bool)(x:α):List α->List α
 |[]=>[x]
 |y::ys=>if lt y x then y::ins lt x ys else x::y::ys
def aB(lt:α->α->Bool)(l:List α):List α:=l.foldr (ins lt) []
structure Ord(lt:α->α->Bool):Prop where
 irr:∀a,lt a a=false
 trans:∀a b c,lt a b=true->lt b c=true->lt a c=true
 tot:∀a b,lt a b=false->lt b a=false->a=b
theorem lO(lt:α->α->Bool)(x:α):∀l,(ins lt x l).Perm (x::l)
 |[]=>.refl _
 |y::ys=>by
  unfold ins;split
  .exact(List.Perm.cons y (lO lt x ys)).trans (List.Perm.swap x y ys)
  .exact .refl _
theorem cB(lt:α->α->Bool):∀l,(aB lt l).Perm l
 |[]=>.refl _
 |x::l=>(lO lt x _).trans (List.Perm.cons x (cB lt l))
theorem kG{lt:α->α->Bool}(o:Ord lt)(x:α):∀l:List α,l.Pairwise (λa b=>lt b a=false)->(ins lt x l).Pairwise (λa b=>lt b a=false)
 |[],_=>by simp[ins]
 |y::ys,h=>by
  rw[Y1]at h;unfold ins;split
  .rename_i hy;rw[Y1];refine⟨λz hz=>?_,kG o x ys h.2⟩;rcases WY.mp ((lO lt x ys).mem_iff.mp hz) with rfl|hz
   .cases e:lt z y with
    |false=>rfl
    |true=>
     have:=o.trans y z y hy e;rw[o.irr]at this;cases this
   .exact h.1 z hz
  .rename_i hy;have hy:lt y x=false:=by simpa using hy
   rw[Y1,Y1];refine⟨λz hz=>?_,h⟩;rcases WY.mp hz with rfl|O0
   .exact hy
   .cases e:lt z x with
    |false=>rfl
    |true=>
     exfalso;cases e2:lt x y with
     |true=>
      have:=o.trans z x y e e2;rw[h.1 z O0]at this;cases this
     |false=>
      have hxy:=o.tot x y e2 hy;rw[hxy,h.1 z O0]at e;cases e
theorem df{lt:α->α->Bool}(o:Ord lt):∀l:List α,(aB lt l).Pairwise (λa b=>lt b a=false)
 |[]=>.nil
 |x::l=>kG o x _ (df o l)
theorem nF{lt:α->α->Bool}(o:Ord lt):∀{a b:List α},a.Perm b->a.Pairwise (λa b=>lt b a=false)->b.Pairwise (λa b=>lt b a=false)->a=b
 |[],_,p,_,_=>p.nil_eq
 |x::xs,[],p,_,_=>absurd p.length_eq @t
 |x::xs,y::ys,p,ha,hb=>by
  rw[Y1]at ha hb;have hx:x∈y::ys:=p.mem_iff.mp WJ;have hy:y∈x::xs:=p.mem_iff.mpr WJ;have e:x=y:=by
   rcases WY.mp hx with e|hx
   .exact e
   .rcases WY.mp hy with e|hy
    .exact e.symm
    .exact o.tot x y (hb.1 x hx) (ha.1 y hy)
  subst e;rw[nF o p.cons_inv ha.2 hb.2]
theorem g0{lt:α->α->Bool}(o:Ord lt){l:List α}(p:ms.Perm l)(h:ms.Pairwise (λa b=>lt b a=false)):ms=aB lt l:=nF o (p.trans (cB lt l).symm) h (df o l)
end
noncomputable def ltI(a b:Int):Bool:=decide (a<b)
noncomputable def MP(a b:List Nat):Bool:=decide (a<b)
theorem BM:Ord ltI:=⟨λa=>by simp[ltI],λa b c=>by simp![ltI,W3];lia,λa b=>by simp![ltI,Ya];lia⟩
theorem lP:Ord MP:=by
 refine⟨λa=>?_,λa b c h1 h2=>?_,λa b h1 h2=>?_⟩
 .unfold MP;rw[Ya];exact List.lt_irrefl a
 .unfold MP at *;rw[W3] at *;exact List.lt_trans h1 h2
 .unfold MP at *;rw[Ya] at *;exact List.le_antisymm (aaL.mp h2) (aaL.mp h1)
theorem BN:Ord iu:=⟨gA,fK,fM⟩
noncomputable def dB:List D->Option (List (List Nat))
 |[]=>some []
 | .str b::ds=>(dB ds).map (b:: ·)
 |_=>none
noncomputable def jJ:D->Option Key
 | .int i=>some (.inl i)
 | .str l=>some (.inr (S l))
 |_=>none
def keysOfL:List D->Option (List Key)
 |[]=>some []
 |d::ds=>(jJ d).bind λk=>(keysOfL ds).map (k:: ·)
def cC:D->Option (List Key)
 | .tup ds=>keysOfL ds
 |_=>none
def jK:List D->Option (List (List Key))
 |[]=>some []
 |d::ds=>(cC d).bind λk=>(jK ds).map (k:: ·)
def kT(k:List Key):D:=.tup (k.map kD)
section
theorem dU:∀{ds:List D}{bs:List (List Nat)}{xs:List V},dB ds=some bs->Reps K G ds xs->xs=bs.map (λl=>V.str (S l))/\∀l∈bs,l.length<=sizeLine
 |[],_,_,e,r=>by
  cases e;rw[Reps]at r;exact⟨r,λ_ h=>nomatch h⟩
 |d::ds,_,_,e,r=>by
  cases d with
  |str b=>
   rw[dB,Xi]at e;obtain⟨bs,e1,e2⟩:=e;subst e2;rw[Reps]at r;obtain⟨y,ys,e3,r1,r2⟩:=r;obtain⟨h1,h2⟩:=dU e1 r2;obtain⟨h3,h4⟩:=eT r1;subst h3;refine⟨by rw[e3,h1];rfl,λl hl=>?_⟩;rcases WY.mp hl with rfl|hl
   .exact h4
   .exact h2 l hl
  |_=>simp[dB]at e
theorem dC{k:Key}(e:jJ d=some k)(r:Rep K G d v):v=kV k/\d=kD k:=by
 cases d with
 |int i=>
  cases e;exact⟨gW r,rfl⟩
 |str l=>
  cases e;refine⟨(eT r).1,?_⟩;show D.str l=D.str (S l).cps.toList;rw[cJ]
 |_=>cases e
theorem iT:∀{ds:List D}{ks:List Key}{xs:List V},keysOfL ds=some ks->Reps K G ds xs->xs=ks.map kV/\ds=ks.map kD
 |[],_,_,e,r=>by
  cases e;rw[Reps]at r;exact⟨r,rfl⟩
 |d::ds,_,_,e,r=>by
  rw[keysOfL,XJ]at e;obtain⟨k,e1,e⟩:=e;rw[Xi]at e;obtain⟨ks,e2,e3⟩:=e;subst e3;rw[Reps]at r;obtain⟨y,ys,e4,r1,r2⟩:=r;obtain⟨h1,h2⟩:=dC e1 r1;obtain⟨h3,h4⟩:=iT e2 r2;rw[e4,h1,h2,h3,h4];exact⟨rfl,rfl⟩
theorem cX(e:cC d=some ks)(r:Rep K G d v):∃p,v=.ref p/\G p=some (.tup (ks.map kV))/\d=kT ks:=by
 cases d with
 |tup ds=>
  obtain⟨p,xs,ev,g,rs⟩:=vh r;obtain⟨h1,h2⟩:=iT e rs;subst h1;exact⟨p,ev,g,by rw[h2];rfl⟩
 |_=>cases e
theorem jL:∀{ds:List D}{MQ:List (List Key)}{xs:List V},jK ds=some MQ->Reps K G ds xs->∃al:List (WP×List Key),xs=al.map (λa=>V.ref a.1)/\MQ=al.map (·.2)/\ds=al.map (λa=>kT a.2)/\∀a∈al,G a.1=some (.tup (a.2.map kV))/\Rep K G (kT a.2) (.ref a.1)
 |[],_,_,e,r=>by
  cases e;rw[Reps]at r;exact⟨[],r,rfl,rfl,λ_ h=>nomatch h⟩
 |d::ds,_,_,e,r=>by
  rw[jK,XJ]at e;obtain⟨k,e1,e⟩:=e;rw[Xi]at e;obtain⟨ks,e2,e3⟩:=e;subst e3;rw[Reps]at r;obtain⟨y,ys,e4,r1,r2⟩:=r;obtain⟨p,h1,h2,h5⟩:=cX e1 r1;obtain⟨al,h3,h4,h6,h7⟩:=jL e2 r2;subst h1;refine⟨(p,k)::al,by rw[e4,h3];rfl,by rw[h4];rfl,by rw[h5,h6];rfl,λa ha=>?_⟩;rcases WY.mp ha with rfl|ha
  .exact⟨h2,by rw[<-h5];exact r1⟩
  .exact h7 a ha
theorem fR{α:Type}{f:α->D}{g:α->V}:∀{l:List α},(∀a∈l,Rep K G (f a) (g a))->Reps K G (l.map f) (l.map g)
 |[],_=>Reps.nil
 |a::l,h=>.cons (h a WJ) (fR λb hb=>h b (WK _ hb))
end
def sameKinds(k:List Key)(MQ:List (List Key)):Bool:=!k.isEmpty&&MQ.all λj=>kinds j==kinds k
def jM(ds:List D):Option (List D):=match cK ds with
 |some ns=>some ((aB ltI ns).map D.int)
 |none=>match dB ds with
  |some ls=>some ((aB MP ls).map D.str)
  |none=>match jK ds with
   |some (k::MQ)=>if sameKinds k MQ then some ((aB iu (k::MQ)).map kT) else none
   |_=>none
def cY:List D->Res R
 |[.lst ds]=>if ds.length<64 then match jM ds with
  |some l=>.ok (.l .f,.lst l)
  |none=>.bad
  else .bad
 |_=>.bad
theorem lQ{k:List Key}(h:sameKinds k MQ=true):∃top t,∀j∈k::MQ,kinds j=top::t:=by
 unfold sameKinds at h;rw[WW,Xr]at h;cases k with
 |nil=>simp at h
 |cons a k=>
  refine⟨a.isLeft,kinds k,λj hj=>?_⟩;rcases WY.mp hj with rfl|hj
  .rfl
  .exact Xx.mp (h.2 j hj)
theorem zJ{k:Key}(h:qf k):Rep K G (kD k) (kV k):=by
 cases k with
 |inl i=>exact aW i
 |inr x=>
  have:=iE (K:=K) (G:=G) (l:=x.cps.toList) h;rw[mR]at this;exact this
theorem EW(k:Key):jJ (kD k)=some k:=by
 cases k with
 |inl i=>rfl
 |inr x=>
  show some (Sum.inr (S x.cps.toList))=_;rw[mR]
theorem jN:∀ks:List Key,keysOfL (ks.map kD)=some ks
 |[]=>rfl
 |k::ks=>by
  rw[Xa,keysOfL,EW,jN ks];rfl
theorem kH:∀MQ:List (List Key),jK (MQ.map kT)=some MQ
 |[]=>rfl
 |k::MQ=>by
  rw[Xa,jK];show(keysOfL (k.map kD)).bind _=_;rw[jN,kH MQ];rfl
section
theorem Vk{lt:α->α->Bool}{p:α->α->Prop}(h:∀a b,p a b->lt b a=false){l:List α}(q:l.Pairwise p):l.Pairwise (λa b=>lt b a=false):=q.imp (h _ _)
theorem vE(hc:X.calm=true):cb X (.builtin "sorted") (rC X.K cY):=by
 rintro pr s σ H xs us Q I rx ⟨G,fp,es,vs,ds,r,⟨rel,k⟩,vd,e⟩;unfold cY at e;split at e
 .rename_i ds;split at e
  .rename_i Ob;split at e
   .rename_i l hl;cases e;obtain⟨v,ev,p,ys,ep,sq,rs⟩:=lJ vd;subst ev;subst ep;unfold jM at hl;split at hl
    .rename_i ns RY;cases hl;have hy:=gE RY rs;subst hy;have hlen:ns.length<64:=by have:=rs.length;rw[WN]at this;lia
     refine i5 hc pr s σ H _ us Q I rx ⟨p,ns,rfl,sq,hlen,λq ms hq pm sm=>?_⟩;have em:=g0 BM pm (Vk (λa b h=>by unfold ltI;rw[Ya];lia) sm);subst em;obtain⟨Kq,Kw⟩:=rel.newL hq (fR (K:=X.K) (G:=G) (f:=D.int) (g:=V.int) λa _=>aW a);exact k _ _ G _ Kw Kq
    .split at hl
     .rename_i ls Qr;cases hl;obtain⟨hy,hz⟩:=dU Qr rs;subst hy;have hlen:ls.length<64:=by have:=rs.length;rw[WN]at this;lia
      refine i6 hc pr s σ H _ us Q I rx ⟨p,ls,rfl,sq,hlen,λq ms hq pm sm=>?_⟩;have em:=g0 lP pm (Vk (λa b h=>by unfold MP;rw[Ya];exact h) sm);obtain⟨Kq,Kw⟩:=rel.newL hq (fR (K:=X.K) (G:=G) (f:=D.str) (g:=λl=>V.str (S l)) (l:=ms) λa ha=>iE (hz a (pm.mem_iff.mp ha)));rw[<-em]at k;exact k _ _ G _ Kw Kq
     .split at hl
      .rename_i kk MQ hk;split at hl
       .rename_i hsk;cases hl;obtain⟨al,h1,h2,h3,h4⟩:=jL hk rs;obtain⟨top,t,Q5⟩:=lQ hsk;subst h1;have hlen:al.length<64:=by have:=rs.length;rw[WN]at this;lia
        refine i7 hc pr s σ H _ us Q I rx ⟨p,al,top,t,rfl,sq,λa ha=>⟨SqT.of (rel.gh _ _ (h4 a ha).1),Q5 a.2 (by rw[h2];exact YJ.mpr ⟨a,ha,rfl⟩)⟩,hlen,λq ms hq pm sm=>?_⟩;have em:ms.map (·.2)=aB iu (kk::MQ):=by
         rw[h2];refine g0 BN (pm.map _) ?_;rw[Zc];exact sm
        obtain⟨Kq,Kw⟩:=rel.newL hq (fR (K:=X.K) (G:=G) (f:=λa:WP×List Key=>kT a.2) (g:=λa=>V.ref a.1) (l:=ms) λa ha=>(h4 a (pm.mem_iff.mp ha)).2);have ek:ms.map (λa=>kT a.2)=(aB iu (kk::MQ)).map kT:=by rw[<-em,Xq];rfl
        rw[ek]at Kq;exact k _ _ G _ Kw Kq
       .cases hl
      .cases hl
   .cases e
  .cases e
 .cases e
def ltO(a b:D):Res R:=R1 a b
def geO(a b:D):Res R:=Vh a b
theorem EX(hu:X.A.units<cLine):Lk X (compareOp .Lt) (rG X.K ltO):=Ih
theorem EY(hu:X.A.units<cLine):Lk X (compareOp .GtE) (rG X.K geO):=Ij
end
noncomputable def eNewD(tk:Bool):FX:=λenv=>.ok ((.d,.dct tk [] []),env)
variable{κ:Type}
section
def kj(ks vs:List D)(k v:D):List D×List D:=if ks.any (Kv k) then(ks,(ks.zip vs).map λp=>if Kv k p.1 then v else p.2) else(ks++[k],vs++[v])
def bR(tk:Bool)(k:D):Bool:=if tk then(cC k).isSome else(jJ k).isSome
def Kh(i:Nat)(fk fv:FX):FS:=λenv=>(fv env).bind λp=>(fk p.2).bind λq=>match p.2[i]?,q.2[i]? with
 |some (some _),some (some (.d,.dct tk ks vs))=>if bR tk q.1.2&&decide (ks.length<sizeLine) then .ok (.nx (q.2.set i (some (.d,.dct tk (kj ks vs q.1.2 p.1.2).1 (kj ks vs q.1.2 p.1.2).2)))) else .bad
 |_,_=>.bad
theorem nG(a b:Key):Kv (kD a) (kD b)=decide (a=b):=by
 cases a with
 |inl i=>
  cases b with
  |inl j=>simp![kD,Kv];rw[Xo];simp
  |inr y=>simp![kD,Kv];simp
 |inr x=>
  cases b with
  |inl j=>simp![kD,Kv];simp
  |inr y=>
   simp![kD,Kv];rw[Xo];simp![Xx,W3,Sum.inr.injEq];exact⟨λh=>by rw[<-mR x,<-mR y,h],λh=>by rw[h]⟩
theorem vF:∀a b:List Key,iw (a.map kD) (b.map kD)=decide (a=b)
 |[],[]=>by simp[iw]
 |[],_::_=>by simp[iw]
 |_::_,[]=>by simp[iw]
 |a::r,b::t=>by
  rw[Xa,Xa,iw,nG,vF r t,Xo];simp
theorem qB(a b:List Key):Kv (kT a) (kT b)=decide (a=b):=by
 unfold kT;rw[Kv];exact vF a b
theorem jO[DecidableEq κ](f:κ->D)(hf:∀a b,Kv (f a) (f b)=decide (a=b)){vs:List D}{k:κ}{v:D}(r:Reps K G vs (kvs.map (·.2)))(ry:Rep K G v y):
  (gI kvs k y).map (λkv=>f kv.1)=(kj (kvs.map λkv=>f kv.1) vs (f k) v).1/\Reps K G (kj (kvs.map λkv=>f kv.1) vs (f k) v).2 ((gI kvs k y).map (·.2)):=by
 have e:(kvs.map λkv=>f kv.1).any (Kv (f k))=kvs.any λkv=>decide (kv.1=k):=by
  rw[YC];congr 1
  funext kv
  show Kv (f k) (f kv.1)=_;rw[hf,Xo];simp![W3];exact⟨λz=>z.symm,λz=>z.symm⟩
 unfold kj gI;rw[e];split
 .refine⟨?_,?_⟩
  .rw[Xq];refine Yg λkv _=>?_
   show f (if kv.1=k then(kv.1,y) else kv).1=f kv.1;split <;> rfl
  .rename_i hany;clear e hany;induction kvs generalizing vs with
   |nil=>
    have:vs=[]:=XT (by rw[<-r.length];rfl);subst this;exact Reps.nil
   |cons kv kvs ih=>
    cases vs with
    |nil=>have:=r.length;simp at this
    |cons d vs=>
     rw[Xa,Reps.cons_iff]at r;rw[Xa,Y2,Xa,Xa,Xa];refine .cons ?_ (ih r.2);show Rep K G (if Kv (f k) (f kv.1)=true then v else d) (if kv.1=k then(kv.1,y) else kv).2;rw[hf];by_cases hk:kv.1=k
     .rw[WV (by simp[hk]),WV hk];exact ry
     .rw[W6 (by simp;exact λz=>hk z.symm),W6 hk];exact r.1
 .refine⟨?_,?_⟩
  .rw[Xd];rfl
  .rw[Xd];exact r.app (.one ry)
theorem Rel.chgD{es:PV.Env}(q:Rel K G H es vs fp)(e:es[i]?=some (some (.d,.dct tk ks ws))):∃p xs u,vs[i]?=some (some (.ref p))/\H p=some u/\DictO u tk ks xs/\Reps K G ws xs/\
  ∀u' Pc LN Pd,DictO u' tk Pc LN->Reps K G Pd LN->∃fq,Rel K G (upd H p u') (es.set i (some (.d,.dct tk Pc Pd))) vs fq/\Step G H fp G (upd H p u') fq:=by
 obtain⟨v,fq,ev,g,st,L3⟩:=q.out e;obtain⟨y,ys,e0,v',a,b,e1,e2,r1,r2⟩:=g.rep;cases e0;cases e1;rw[RepO]at r1;obtain⟨p,xs,u,e3,hp,dd,e4,rs⟩:=r1;subst e3;subst e4;subst e2;have nd:=Xf.mp (show(p::b).Nodup from g.nd);refine⟨p,xs,u,ev,hp,dd,rs,λu' Pc LN Pd NU LU=>?_⟩;have g2:Rel K G (upd H p u') (some (.d,.dct tk Pc Pd)::es.set i none) (some (.ref p)::vs) (p::b):=by
  refine⟨⟨some (.ref p),vs,rfl,.ref p,[p],b,rfl,rfl,?_,r2.step (.refl _) λz hz=>au λe=>nd.1 (e▸hz)⟩,g.nd,g.gn,λz o ez=>?_⟩
  .rw[RepO];exact⟨p,LN,u',rfl,aG,NU,rfl,LU⟩
  .have:z≠p:=λw=>by
    subst w;rw[g.gn z WJ]at ez;cases ez
   rw[au this];exact g.gh z o ez
 have Vg:Step G H (p::b) G (upd H p u') (p::b):=by
  refine⟨.refl _,λz o ez nz=>?_,λz hz=>.inl hz,λz o ez=>.inl ez,λz o ez=>?_⟩
  .have:z≠p:=λw=>nz (by rw[w];exact WJ)
   rw[au this];exact ez
  .by_cases w:z=p
   .subst w;exact⟨_,aG⟩
   .exact⟨o,by rw[au w];exact ez⟩
 obtain⟨fz,g3,K3⟩:=g2.back (i:=i) (by rw[XB];exact(WS.mp e).1) ev;rw[Y3]at g3;exact⟨fz,g3,st.trans (Vg.trans K3)⟩
theorem qC{k:Key}(e:jJ d=some k)(r:Rep K G d v):qf k:=by
 cases d with
 |int i=>cases e;trivial
 |str l=>
  cases e;show(S l).cps.toList.length<=sizeLine;rw[cJ];exact(eT r).2
 |_=>cases e
theorem vH{K:W.Frag}{G:Hp}:∀{ds:List D}{ks:List Key}{xs:List V},keysOfL ds=some ks->Reps K G ds xs->∀k∈ks,qf k
 |[],_,_,e,_=>by
  cases e;exact λ_ h=>nomatch h
 |d::ds,_,_,e,r=>by
  rw[keysOfL,XJ]at e;obtain⟨k,e1,e⟩:=e;rw[Xi]at e;obtain⟨ks,e2,e3⟩:=e;subst e3;rw[Reps]at r;obtain⟨y,ys,e4,r1,r2⟩:=r;intro z hz;rcases WY.mp hz with rfl|hz
  .exact qC e1 r1
  .exact vH e2 r2 z hz
theorem lR[DecidableEq κ]{P:κ->Prop}{kvs:List (κ×V)}{k:κ}(h:∀kv∈kvs,P kv.1)(hk:P k):∀kv∈gI kvs k y,P kv.1:=by
 intro kv Mm;unfold gI at Mm;split at Mm
 .obtain⟨z,hz,e⟩:=YJ.mp Mm;rw[<-e];split
  .exact h z hz
  .exact h z hz
 .rcases Xv.mp Mm with Mm|Mm
  .exact h kv Mm
  .rw[W5]at Mm;rw[Mm];exact hk
end
end PV
namespace NX
section
variable{prog:W1}{w:World}{A:Uf}{E:Wp->WF->Prop}{s:WF}{d:WP}{es:Array DictEntry}{ep:Nat}
theorem lS(nm:(d==sysModules)=false):MeetsIn prog w (Builtin.«dict.__len__» ⟨[.ref d],[]⟩) (λ_ R s=>Hi s.heap d es ep/\R (.ok (.ret (.int es.size s.toks))) {s with toks:=s.toks+1}):=
 .of_wp λA R s Kz=>by
  obtain⟨⟨o,g,_,dat⟩,h⟩:=Kz;show wpAny _ _ (dictSize d >>= λ_=>_) _ _ s;unfold dictSize;refine WI (WI (wpAny_dictEntries g dat (WO ?_)));show wpAny _ _ (Builtin.Dict.pendingCount d >>= λ_=>_) _ _ s;refine WI (wpAny_pendingCount_other nm (wpAny_ret_mkInt ?_));rw[acj];exact h
theorem BO(nm:(d==sysModules)=false)(x:Hi s.heap d es ep)(hf:(es.size:Int)<2 ^ 63)(h:Q (.int es.size (s.toks+1)) {s with toks:=s.toks+1+1}):wpAny @i A (call (.builtin "len") [.ref d]) Q E s:=by
 have ty:=xE x;refine Zz kind_len plain_len entry_len (args_len1 _) ?_;unfold Builtin.«len»;refine WI (m:=oneArg "len" _) (WO (WI (m:=callSpecial? (.ref d) (Str.ofString "__len__")) (X9 (name:=Str.ofString "__len__") ty F.slot_dict_len
  (call_meetsIn F.slot_dict_len ty F.entry_dict_len (F.args_dict_len_1 _) (lS (es:=es) (ep:=ep) nm) ⟨x,?_⟩))))
 show wpAny _ _ _ _ _ {s with toks:=s.toks+1};refine WI (Yl (WO (WI (ZG ?_))));show wpAny _ _ (if((es.size:Nat):Int)<0 then _ else _) _ _ _;rw[W6 (Int.not_lt.mpr (Int.natCast_nonneg _))];show wpAny _ _ (if((es.size:Nat):Int)>=2 ^ 63 then _ else _) _ _ _;rw[W6 (Int.not_le.mpr hf)];exact WI (wpAny_mkInt (WO ⟨_,rfl,h⟩))
end
end NX
namespace PV
variable{X:Cx}{σ:L2.St}{H:Hp}{e:Expr}{fa:FO}
section
def eW:List D->Res R
 |[.dct _ ks _]=>.ok (.f,.int ks.length)
 |ds=>Il ds
theorem EZ(I:Inv X pr σ H s)(rd:Rd H p o)(dd:DictO o tk ks xs):(p==sysModules)=false/\∃es ep,Hi s.heap p es ep/\es.size=ks.length/\ks.length<=sizeLine:=by
 have ok:=rd.ok I.hok;cases tk with
 |true=>
  obtain⟨kvs,eo,ek,_⟩:=dd;subst eo;obtain⟨z,nm,ws,r,o2,es,ep,h1,h2,h3,h4,_⟩:=ok;refine⟨nm,es,ep,⟨o2,h1,h2,h3⟩,?_,by rw[ek,WN];exact z⟩;have:=Yp List.length h4;rw[WN,W0,<-aab r]at this;rw[ek,WN];exact this
 |false=>
  obtain⟨kvs,eo,ek,_⟩:=dd;subst eo;obtain⟨z,nm,ws,r,o2,es,ep,h1,h2,h3,h4,h5,_⟩:=ok;refine⟨nm,es,ep,⟨o2,h1,h2,h3⟩,?_,by rw[ek,WN];exact z⟩;have l1:=h5.length;have l2:kvs.length=ws.length:=aab r;rw[ek,WN];rw[W0]at l1;lia
theorem BP:cb X (.builtin "len") (rC X.K eW):=by
 rintro pr s σ H xs us Q I rx ⟨G,fp,es,vs,ds,r,⟨rel,k⟩,vd,e⟩;unfold eW at e;split at e
 .rename_i tk ks ws;cases e;obtain⟨v,ev,p,ys,o,ep,rd,dd,_⟩:=lJ vd;subst ev;subst ep;obtain⟨u,rfl,ru⟩:=dM rx;cases ru;obtain⟨nm,en,ep,raw,h1,h2⟩:=EZ I rd dd;refine BO nm raw (by rw[h1];rw[XR]at h2;lia) ?_;refine⟨.int ks.length,H,I.tok _,⟨_,by rw[h1]⟩,k _ H G fp .refl (rel.push (aW _))⟩
 .exact EK pr s σ H xs us Q I rx ⟨G,fp,es,vs,_,r,⟨rel,k⟩,vd,e⟩
def Hk(g:List Nat->List D->Res R)(fa:FO)(fs:FOs):FX:=λenv=>(fa env).bind λp=>match LK p.2 p.1 with
 | .ok (.str l)=>(fs p.2).bind λq=>(mC q.2 q.1).bind λds=>(g l ds).bind λr=>.ok (r,q.2)
 |_=>.bad
inductive rMtS(K:W.Frag)(g:List Nat->List D->Res R)(x:V)(xs:List V)(H:Hp)(Q:VK):Prop
 |mk:∀G fp es vs l ds r,Goes K H G fp es vs r Q->x=.str (S l)->l.length<=sizeLine->Qq K G H ds xs->g l ds=.ok r->rMtS K g x xs H Q
theorem E1{g:List Nat->List D->Res R}{id:String}{name:Str}{o:Expr}{es:List Expr}{fs:FOs}{apos Kx:Pos}(slot:Slot "str" name id)(OT:typeOf (.builtin id)=pure (.type "method_descriptor"))(hm:Qf X id (rMtS X.K g))(ho:QO X o fa)(ha:QOs X (e::es) fs)
  (Li:attributeBase o name X.env (eval o X.env)=eval o X.env:=by rfl)
  (Mg:@r=true:=by rfl)
  (Ln:(apos.endLine==Kx.line)=true:=by rfl) (hs:starEach (e::es) X.env=(false,eval e X.env)::starEach es X.env:=by rfl) (Lo:(backTo Kx (starEach es X.env)).any (·.1)=false:=by rfl):
  QE X (.Call (.Attribute o name apos) (e::es) [] Kx) (Hk g fa fs):=by
 refine aO (AK PySem.F.plainAttrs_str slot OT hm ho ha Li Mg Ln hs Lo) λσ H Q KQ=>?_
 obtain⟨G,env,fp,r,env',rel,e,k⟩:=KQ;obtain⟨⟨oa,Ko⟩,e1,e⟩:=ag e;dsimp only at e;split at e
 .rename_i l hl;obtain⟨⟨os,KA⟩,e2,e⟩:=ag e;obtain⟨ds,e3,e⟩:=ag e;obtain⟨r',e4,e⟩:=ag e;cases e;refine⟨G,env,fp,oa,Ko,rel,e1,λv H1 G1 KR KJ Kr Lx=>?_⟩;obtain⟨ev,hz⟩:=gX (Kr.vw Lx hl);subst ev;exact⟨rfl,G1,Ko,KR,os,KA,Kr,e2,λvs H2 G2 Lc Kw Kq NH=>⟨G2,Lc,KA,σ,l,ds,r,⟨Kq,λv H' G' Ks st K2=>k v H' G' Ks (KJ.trans (Kw.trans st)) K2⟩,rfl,hz,Kq.vws NH e3,e4⟩⟩
 .cases e
end
variable{K:W.Frag}{x:Str}{st:Stmt}{N:List Str}
theorem fnok_of{k:Nat}(F:Fun K x x st f fd)(sc:FnScope N ps (defScope st))(body:∀(KW:Wp) (A:Uf) (outer:List PySem.Env) (s:WF) (H:Hp) (E:XK),Room k (A.deeper (envOfC x (defScope st) s.heap.objs.size f KW))->QSs (md:=.plain) (oM M5 P w K mg base N x (defScope st) f KW A outer s H E).nox (bj st) g):
  FnOk P w K mg base M5 (k+1) f fd ps (spF K (fBody ps.length (N.length-ps.length) g)):=by
 refine F.ok sc (λvs H Q E h=>?_) (λKW A outer s H vs Q E hr h=>?_)
 .obtain⟨G,ds,r,_,rs,e,_⟩:=h;unfold fBody at e;split at e
  .rename_i hl;rw[rs.length,hl]
  .cases e
 .obtain⟨G,ds,r,gh,rs,e,q⟩:=h;unfold fBody at e;split at e
  .rename_i hl;refine⟨_,body KW A outer s H E hr,G,ds.map (λd=>some (O.f,d))++List.replicate (N.length-ps.length) none,[],⟨?_,XN,(λ_ h=>nomatch h),gh⟩,?_⟩
   .have:=dA (K:=K) (G:=G) (H:=H) (N.length-ps.length) rs;unfold L2.gN;rw[rs.length,hl];exact this
   .obtain⟨o,eo,e⟩:=ag e;rw[eo];cases o with
    |rt r'=>
     cases e;exact λv H' G' Ks st rel=>q v H' G' Ks st rel
    |nx env'=>
     cases e;exact λσ' H' G' Ks st rel=>q .non H' G' [] (st.trans (Step.cut λ_ h=>nomatch h)) (rel.nilF.push lB)
    |bk env'=>cases e
    |ct env'=>cases e
  .cases e
noncomputable def yb(K:W.Frag):Sp:=λvs H Q _=>∃(a:WP) (ns:List Int),vs=[.ref a]/\SqL K H a (ns.map V.int)/\ns.length<=63/\∀H',Q (.bl true) H'
theorem E2(h:∀ns:List Int,ns.length<=63->∃o,F [.lst (ns.map D.int)]=.ok (o,.bl true)):∀vs H Q E,yb K vs H Q E->spF K F vs H Q E:=by
 rintro vs H Q E ⟨a,ns,rfl,sq,hl,q⟩;obtain⟨o,e⟩:=h ns hl;refine⟨H,_,_,.refl _,?_,e,λv H' G' Ks st rel=>?_⟩
 .refine .one ?_;rw[Rep];exact⟨a,_,rfl,sq,fR λn _=>aW n⟩
 .rw[o7 rel.top];exact q H'
theorem _root_.L2.Room.u65{k:Nat}(r:Room k A):A.units+65<cLine:=by have:=r.un;lia
def E3(f:FX)(a:FG):FS:=λenv=>(f env).bind λp=>(a p.1.2 p.2).bind λe=>.ok (.nx e)
variable{f:FX}{a:FG}
theorem E4{pos:Pos}(he:QE X e f)(hg:QG X tg a)(hs:swapsWithSole [tg] e pos.line X.env=pure false:=by rfl)(hw:swappedStores [tg] e X.env=pure none:=by rfl)(h1:(assignEach [tg] X.env).map (·.2)=[assign tg X.env]:=by rfl):QS (md:=md) X (.Assign [tg] e pos) (E3 f a):=de (DO he hg hs hw h1) λDd σ H Kz=>by
 obtain⟨G,env,fp,rel,k⟩:=Kz;unfold E3 at k;match q:f env,k with
 | .ok (r,Ko),k=>
  have k:OutOk X.K G H fp Dd ((a r.2 Ko).bind λe=>.ok (.nx e)):=k;match q2:a r.2 Ko,k with
  | .ok KA,k=>
   refine⟨G,env,fp,r,Ko,rel,q,λv H1 G1 KR KJ Kr=>?_⟩;obtain⟨G2,b,rv,Kq,Kw⟩:=Kr.freeze;exact⟨G2,Ko,b,r.2,KA,Kq,rv,q2,λσ' G' Ks st K2=>k σ' H1 G' Ks (KJ.trans (Kw.trans st)) K2⟩
theorem walk{l:PySem.W.OpenLaw}{q:W1}{loose:List Str}{XP:(Str->Option Wp)->UF->Prop}{YP:World->UF->Prop}{d:DefRec}{K:Params->W.Frag}{k:Nat}(hn:l.most=some 63)(Sq:d.params.defaults=[])(hr:Room k PySem.callerA)
  (hY:∀(w:World) (h:UF),YP w h->(K w.params).In h)
  (F:∀(w:World) (mg:Str->Option Wp) (fa:WP) (h:UF),(K w.params).In h->h.Ns mainGlobals mg->mg d.name=some (.ref fa)->
   ∃fd:FuncData,(∀(s:WF) (u:Wp),BindsTo s fd ⟨[u],[]⟩ [(x,u)])/\∀base:UF,(K w.params).In base->base.Ns mainGlobals mg->FnOk l.prog w (K w.params) mg base M5 k fa fd [x] (yb (K w.params))):
  PySem.W.WalkO q loose XP YP l.row.toRowW d [] (λf vs=>PySem.call f vs):=
 L2.AM (n:=63) (k:=k) (x:=x) (CX:=λ_=>M5) (sp:=λw=>yb (K w.params)) hn @b Sq hr hY F (λ_ _ a ns hl _ hS=>⟨a,ns,rfl,hS,hl,λ_=>rfl⟩) λ_ _ _ _ _ z=>z
theorem E5:bootBuiltins "max" = some (.builtin "max"):=by decide +kernel
theorem E6:bootBuiltins "min" = some (.builtin "min"):=by decide +kernel
theorem E7:bootBuiltins "all" = some (.builtin "all"):=by decide +kernel
theorem nH:bootBuiltins "sorted" = some (.builtin "sorted"):=by decide +kernel
theorem E8{f:WP}{kV:Wp}(X:K.In h)(G:h.Ns mainGlobals mg)(a:PySem.W.nsIn K mainGlobals x=some (some (.ref f)))(l:K.lookup f=some ⟨oc,od,.func @w,ND⟩)(c:PySem.W.codeIn K KW x=true)(k:PySem.W.keepIn K (.ref f)=true):Def K mg x st:=⟨f,_,y9 l c k,Ym X G a⟩
noncomputable def isL:NameKind->Bool
 | .local=>true
 | .cell=>true
 |_=>false
def Qs(sc:Scope):List Str:=(sc.names.filter λy=>isL y.2).map (·.1)
def NZ(N:List Str)(ix:List (Option Nat))(sc:Scope):List Str:=(Qs sc).drop 1++ix.filterMap λi=>i.bind λi=>N[i]?
noncomputable def S6:List Str->Bool
 |[]=>true
 |x::l=>!l.contains x&&S6 l
theorem vI:∀{l:List Str},S6 l=true->l.Nodup
 |[],_=>.nil
 |x::l,h=>by
  rw[S6,WW]at h;refine Xf.mpr ⟨λhm=>?_,vI h.2⟩;rw[List.contains_iff_mem.mpr hm]at h;cases h.1
inductive tQL(K:W.Frag)(f:FI)(σ:L2.St)(H:Hp)(R:It->Hp->Prop):Prop
 |mk:∀G env fp ds env',Rel K G H env σ fp->f env=.ok (ds,env')->(∀J H' G' Ks,Step G H fp G' H' Ks->Rel K G' H' env' σ Ks->(∀G2,Same G' G2->(∀(i:Nat) (r:PV.R) (v:V),env'[i]?=some (some r)->σ[i]?=some (some v)->Rep K G2 r.2 v)->Walk K G2 J ds)->R J H')->tQL K f σ H R
def QIL(X:Cx)(tg e:Expr)(f:FI):Prop:=PI X tg e (tQL X.K f)
theorem Walk.mono(w:Walk K G J ds)(gg:Same G G2):Walk K G2 J ds:=λG' H' es vs fp g rel=>w G' H' es vs fp (gg.trans g) rel
variable{fi:FI}{ix:List (Option Nat)}{c:FT}
theorem zM(h:tQ K (cA fi ix a c f) σ H Q):AQ (tQL K fi) ix (tQG K a) (tQT K c) (tQ K f) σ H Q:=by
 obtain⟨G,env,fp,r,env',rel,e,k⟩:=h;obtain⟨⟨ds,Ko⟩,e1,e⟩:=ag e;obtain⟨rs,e2,e⟩:=ag e;refine⟨G,env,fp,ds,Ko,rel,e1,λJ H1 G1 KR KJ Kr wk D hD=>?_⟩;dsimp only at e e2;split at e
 .rename_i hz;have er:r=(.l .f,.lst rs):=by cases e;rfl
  have ee:env'=if flatDs rs then Ko else Ko.map frz:=by cases e;rfl
  subst er;obtain⟨G2,Om,O7,Mh,hrE,L5⟩:=Kr.lend;have wk2:=wk G2 Om Mh;have Kq:Rel K G2 H1 (cW ix Ko) (kx ix σ) []:=⟨eV Mh (λi r er=>let⟨v,ev,_⟩:=Kr.view er;⟨v,ev⟩) ix,XN,(λ_ h=>nomatch h),O7⟩
  obtain⟨K0,K3⟩:=Kq.newL (ds:=[]) (xs:=[]) hD .nil;refine⟨λi m σ1 H2=>m=ds.length-i/\i<=ds.length/\∃G' es Ks acc aZ,Step G2 H1 [] G' H2 Ks/\Rel K G' H2 (some (.l .f,.lst acc)::es) (some (.ref D)::σ1) Ks/\b5 a c f (ds.drop i) es=.ok aZ/\acc++aZ=rs,
   ⟨_,rfl,Xw _,G2,cW ix Ko,_,[],rs,K3,K0,e2,rfl⟩,?_⟩
  rintro i m σ1 H2 ⟨rfl,hi,G3,es,LJ,acc,aZ,Lr,Ld,e4,Oq⟩;obtain⟨w1,w2⟩:=wk2 G3 H2 _ _ _ Lr.gg Ld i;by_cases K4:i<ds.length
  .have hd:ds[i]?=some ds[i]:=WM K4;obtain⟨go,yl⟩:=w1 _ hd;rw[ZD K4]at e4;unfold b5 at e4;obtain⟨Mi,h1,e4⟩:=ag e4;obtain⟨⟨b,R4⟩,h2,e4⟩:=ag e4;dsimp only at e4;refine .inr ⟨go,λx H3 y=>?_⟩;obtain⟨G4,rx,Lz,L8⟩:=yl x H3 y;obtain⟨fa,fb,We,ra,relb,bk⟩:=Lz.frame;refine⟨G4,es,fb,ds[i],Mi,relb,rx,h1,λσ2 G5 S7 st6 rel6=>?_⟩;refine⟨G5,Mi,S7,b,R4,rel6,h2,λH6 G6 Wf st7 S8=>?_⟩;have S9:=st6.trans st7;cases b with
   |false=>
    refine iteF ⟨ds.length-(i+1),by lia,rfl,K4,?_⟩;obtain⟨Ot,Pe⟩:=bk G6 H6 R4 σ2 Wf S9 S8;rw[<-We]at Pe;exact⟨G6,R4,_,acc,aZ,Lr.trans (L8.trans Pe),Ot,e4,Oq⟩
   |true=>
    have e4:((f R4).bind λq=>(b5 a c f (ds.drop (i+1)) q.2).bind λrs=>.ok (q.1.2::rs))=.ok aZ:=e4;obtain⟨⟨r,Vl⟩,h3,e4⟩:=ag e4;obtain⟨Ta,h4,e4⟩:=ag e4;cases e4;refine Hg ⟨G6,R4,Wf,r,Vl,S8,h3,λv H7 G7 fp7 st8 rel8=>?_⟩;obtain⟨G8,fp8,rv,rel9,st9⟩:=rel8.freeze;obtain⟨Ot,Pe⟩:=bk G8 H7 Vl σ2 fp8 (S9.trans (st8.trans st9)) rel9;rw[<-We]at Pe;obtain⟨p,xs,ep,hp,S2,cg⟩:=Ot.chg (i:=0) (ds:=acc) (ds':=acc++[r.2]) rfl;have ep:some (some (V.ref D))=some (some (V.ref p)):=ep;cases ep;obtain⟨fq,rely,sty⟩:=cg (xs++[v]) (S2.app (.one rv));refine⟨xs,hp,?_,ds.length-(i+1),by lia,rfl,K4,G8,Vl,fq,acc++[r.2],Ta,Lr.trans (L8.trans (Pe.trans sty)),rely,h4,?_⟩
    .rw[S2.length];have:=Yp List.length Oq;rw[Xs,WX]at this;lia
    .rw[<-Oq,XI];rfl
  .have ei:i=ds.length:=by lia
   subst ei;rw[aaX]at e4;cases e4;rw[Xe]at Oq;subst Oq;refine .inl ⟨w2 rfl,?_⟩;obtain⟨fa,relo,sto⟩:=Ld.only;obtain⟨k1,k2⟩:=L5 H2 G3 fa _ _ (Lr.trans sto) relo;rw[ee]at k;by_cases hc:flatDs acc=true
   .rw[WV hc]at k;obtain⟨G5,S7,L8,Lz⟩:=k1 (by rw[ay,lG];exact hc);exact k _ H2 G5 S7 (KJ.trans L8) Lz
   .rw[W6 hc]at k;obtain⟨G5,S7,L8,Lz⟩:=k2;exact k _ H2 G5 S7 (KJ.trans L8) Lz
 .cases e
variable{i:Nat}
section
variable{md:Mode}{scope:Scope}{tg iter elt:Expr}{ifs:List Expr}{pos:Pos}
variable{l:Expr}{g fj:FI}
theorem E9(h:QI X tg e fi):QIL X tg e fi:=iS h λσ H R ⟨G,env,fp,ds,env',rel,e,k⟩=>⟨G,env,fp,ds,env',rel,e,λJ H' G' Ks st K2 wk=>k J H' G' Ks st K2 λ_ gg _=>wk.mono gg⟩
theorem Fb(h:QIL X tg e fi)(h2:QIL X tg e fj):QIL X tg e (or2 fi fj):=λpr s σ H R I Kz=>by
 obtain⟨G,env,fp,ds,env',rel,ee,k⟩:=Kz;rcases zI ee with z|z
 .exact h pr s σ H R I ⟨G,env,fp,ds,env',rel,z,k⟩
 .exact h2 pr s σ H R I ⟨G,env,fp,ds,env',rel,z,k⟩
noncomputable def gF(i:Nat):FI:=λenv=>match env[i]? with
 |some (some (_,.lst ds))=>.ok (ds,env)
 |_=>.bad
theorem BQ(h:PE X l (oK i)):QIL X tg l (gF i):=iS (tM h) λσ H R Kz=>by
 obtain⟨G,env,fp,ds,env',rel,e,k⟩:=Kz;unfold gF at e;split at e
 .rename_i o ds hr;cases e;obtain⟨v,ev,rv⟩:=rel.view hr;obtain⟨p,xs,Wg,sq,rs⟩:=gj rv;refine⟨v,ev,p,Wg,⟨xs,sq⟩,k _ H G fp .refl rel λG2 gg Mh=>?_⟩;obtain⟨p',LN,Tc,L6,LU⟩:=gj (Mh i _ v hr ev);rw[Wg]at Tc;cases Tc;exact nr L6 LU
 .cases e
theorem yc(hc:X.calm=true)(hi:QIL X tg iter fi)(hg:∀C s H fp pn,(NZ X.N ix scope).Nodup->QG (bz X scope (NZ X.N ix scope) C s H fp pn) tg a)(ht:∀C s H fp pn,QTs (bz X scope (NZ X.N ix scope) C s H fp pn) ifs c)(he:∀C s H fp pn,QE (bz X scope (NZ X.N ix scope) C s H fp pn) elt f)
  (hf:gP scope X.env=true:=by rfl) (hk:scope.kind=.function:=by rfl) (Lm:∀y∈scope.names,y.2≠.cell:=by decide +kernel) (LX:∀y∈scope.names,y.2=.local->scope.names.lookup y.1=some .local:=by decide +kernel) (LS:zb X scope (NZ X.N ix scope) ix=true:=by rfl) (Ol:S6 (NZ X.N ix scope)=true:=by rfl)
  (hs:∀x,foldedSetIterable iter X.env x=pure x:=by intro _;rfl):QE X (.ListComp elt [⟨tg,iter,ifs,0⟩] scope pos) (cA fi ix a c f):=
 aO (AU (g:=tQG X.K a) (tc:=tQT X.K c) (te:=tQ X.K f) ix _ hc hi (λC s H fp pn=>hg C s H fp pn (vI Ol)) ht he hf hk Lm LX LS hs) λ_ _ _=>zM
theorem yd(hN:X.N.Nodup)(UY:X.N[i]?=some y)(hy:Loc X.env.scope y)(hc:X.calm=true)(hi:QIL X tg iter fi)(hg:∀C s H fp pn,(NZ X.N ix scope).Nodup->QG (bz X scope (NZ X.N ix scope) C s H fp pn) tg a)(ht:∀C s H fp pn,QTs (bz X scope (NZ X.N ix scope) C s H fp pn) ifs c)(he:∀C s H fp pn,QE (bz X scope (NZ X.N ix scope) C s H fp pn) elt f)(UZ:swapsWith (.ListComp elt [⟨tg,iter,ifs,0⟩] scope pos) (some (.Name y py)) Oa.line X.env=pure true:=by rfl)(hf:gP scope X.env=true:=by rfl)(hk:scope.kind=.function:=by rfl)(Lm:∀y∈scope.names,y.2≠.cell:=by decide +kernel)(LX:∀y∈scope.names,y.2=.local->scope.names.lookup y.1=some .local:=by decide +kernel)(LS:zb X scope (NZ X.N ix scope) ix=true:=by rfl)(Ol:S6 (NZ X.N ix scope)=true:=by rfl)(hs:∀x,foldedSetIterable iter X.env x=pure x:=by intro _;rfl)(NR:X.fn y=true\/X.env.scope.names.lookup y=some .local:=by first|exact .inl rfl|exact .inr rfl):
  QS (md:=md) X (.Assign [.Name y py] (.ListComp elt [⟨tg,iter,ifs,0⟩] scope pos) Oa) (a9 i (cA fi ix a c f)):=
 de (AV (i:=i) (g:=tQG X.K a) (tc:=tQT X.K c) (te:=tQ X.K f) ix _ hN UY hy hc hi (λC s H fp pn=>hg C s H fp pn (vI Ol)) ht he UZ hf hk Lm LX LS hs NR) λD σ H ⟨G,env,fp,rel,k⟩=>zM (vk rel k)
end
section
variable{a:Expr}{pos:Pos}
def Fc(fa:FO):FX:=λenv=>(fa env).bind λp=>(LK p.2 p.1).bind λd=>match d with
 | .int i=>.ok ((.f,.int (-i)),p.2)
 |_=>.bad
theorem Fe(ha:QO X a fa):QE X (.UnaryOp .USub a pos) (Fc fa):=aO (HC DW ha) λσ H Q Kz=>by
 obtain⟨G,env,fp,r,env',rel,e,k⟩:=Kz;obtain⟨⟨o,e1⟩,h1,e⟩:=ag e;obtain⟨d,h2,e⟩:=ag e;dsimp only at e;split at e
 .rename_i i;cases e;refine⟨G,env,fp,o,_,rel,h1,λv H1 G1 KR KJ Kr Lx=>?_⟩;have:=aX (Kr.vw Lx h2);exact⟨i,this,k _ H1 G1 KR KJ (Kr.push (aW _))⟩
 .cases e
def Dt(a b:D):Res R:=Ig a b
theorem BR:Lk X (binaryOp .Mult) (rG X.K Dt):=EF
end
end PV
namespace HT
variable{prog:W1}{w:World}{A:Uf}{E:Wp->WF->Prop}{s:WF}
theorem g8{t:WP}{lo:Option Int}(ht:IsTup s.heap t items)(hs:s.heap.IsSliceOf sl vl vu .none)(pl:IsPart vl lo)(pu:IsPart vu hi)(hw:sIx items.size 0 lo=0/\sIx items.size items.size hi=items.size)(h:Q (.ref t) s):wpAny @i A (getItem (.ref t) (.ref sl)) Q E s:=by
 obtain⟨os,N5,T7,N6⟩:=id hs;have UT:s.TypeIs (.ref sl) "slice":=⟨os,N5,T7⟩
 unfold getItem;try with_reducible refine Yl ?_
 first|refine WI (WO ?_)|skip
 refine WI (wpAny_sequenceKey ht.typeIs @b ?_);refine WI (X9 (name:=Str.ofString "__getitem__") ht.typeIs Ys
  (YH Ys ht.typeIs entry_tuple_getitem ?_ (args_tuple_getitem _ _)))
 show wpAny _ _ (Builtin.Tuple.tupleItemsOf (.ref t) >>= _) _ _ s;refine WI (tupleItemsOf_ ht ?_);refine WI (YZ UT ?_);rw[WV @b];refine WI (d9 hs pl pu ?_);have hyes:(((sIx items.size 0 lo:Nat):Int)==0&&(1:Int)==1&&(sIx items.size items.size hi-sIx items.size 0 lo)==items.size)=true:=by
  rw[hw.1,hw.2];simp
 show wpAny _ _ (if(((sIx items.size 0 lo:Nat):Int)==0&&(1:Int)==1&&(sIx items.size items.size hi-sIx items.size 0 lo)==items.size)=true then _ else _) _ _ s;rw[WV hyes];refine WI (m:=Builtin.Tuple.tupleIsExact _) ?_;unfold Builtin.Tuple.tupleIsExact;refine WI (YZ ht.typeIs (WO ?_));rw[WV @b];exact WI (abp (WO ⟨_,rfl,WO h⟩))
end HT
namespace PV
section
variable{X:Cx}{pos:Pos}{fa:FO}
theorem BS:QH X (λx lo hi H Q=>∃a xs,x=.ref a/\SqT X.K H a xs/\(HT.sIx xs.length 0 lo=0/\HT.sIx xs.length xs.length hi=xs.length)/\Q x H):=by
 intro pr s σ H x v vl vu lo hi sl Q I rx hs pl pu h;obtain⟨a,xs,rfl,hx,hw,q⟩:=h;cases rx;obtain⟨Kt,r,ht,hz⟩:=I.tuple hx;have hlen:Kt.toArray.size=xs.length:=by rw[WZ];exact r.length.symm
 refine⟨"tuple",_,PyProof.Rows.slot_tuple_getitem.lookup,ht.typeIs,?_⟩;exact HT.g8 ht hs pl pu (by rw[hlen];exact hw) ⟨.ref a,H,I,rfl,q⟩
def Td(k:D)(lo hi:Option Int):Res R:=match k with
 | .tup ds=>if HT.sIx ds.length 0 lo=0/\HT.sIx ds.length ds.length hi=ds.length then .ok (.f,.tup ds) else S1 k lo hi
 |_=>S1 k lo hi
def xa(fa:FO)(lo hi:FP):FX:=λenv=>(fa env).bind λp=>(lo p.2).bind λq=>(hi q.2).bind λt=>(LK t.2 p.1).bind λd=>(Td d q.1 t.1).bind λr=>.ok (r,t.2)
inductive rSlW(K:W.Frag)(x:V)(lo:Option Int)(hi:Option Int)(H:Hp)(Q:VK):Prop
 |mk:∀G fp es vs d r,Goes K H G fp es vs r Q->Vw K G H d x->Td d lo hi=.ok r->rSlW K x lo hi H Q
theorem Ff:QH X (rSlW X.K):=by
 rintro pr s σ H x v vl vu lo hi sl Q I rx hs pl pu ⟨G,fp,es,vs,d,r,⟨rel,k⟩,vd,e⟩;unfold Td at e;split at e
 .rename_i ds;split at e
  .rename_i hw;cases e;obtain⟨p,xs,ev,sq,rs⟩:=gk vd;subst ev;refine BS pr s σ H _ v vl vu lo hi sl Q I rx hs pl pu ⟨p,xs,rfl,bh rel.gh sq,by rw[rs.length];exact hw,?_⟩;exact k _ H G fp .refl (rel.push vd)
  .exact EJ pr s σ H x v vl vu lo hi sl Q I rx hs pl pu ⟨G,fp,es,vs,_,r,⟨rel,k⟩,vd,e⟩
 .exact EJ pr s σ H x v vl vu lo hi sl Q I rx hs pl pu ⟨G,fp,es,vs,_,r,⟨rel,k⟩,vd,e⟩
theorem Fg{lo:Option Expr}(he:QO X e fa)(hl:QP X lo fl)(hh:QP X hi fh):QE X (.Subscript e (.Slice lo hi none p2) pos) (xa fa fl fh):=
 aO (xn Ff he hl hh) λσ H Q Kz=>by
  obtain⟨G,env,fp,r,env',rel,e,k⟩:=Kz;obtain⟨⟨o,Ko⟩,e1,e⟩:=ag e;obtain⟨⟨i,KA⟩,e2,e⟩:=ag e;obtain⟨⟨j,Lf⟩,e3,e⟩:=ag e;obtain⟨d,e4,e⟩:=ag e;obtain⟨r',e5,e⟩:=ag e;cases e;exact⟨G,env,fp,o,Ko,rel,e1,λv H1 G1 KR KJ Kr Lx=>⟨G1,Ko,KR,i,KA,Kr,e2,λH2 G2 Lc Kw Kq=>⟨G2,KA,Lc,j,Lf,Kq,e3,λH3 G3 LJ K3 K0=>
   ⟨G3,LJ,Lf,σ,d,r,⟨K0,λv H' G' Ks st K2=>k v H' G' Ks (KJ.trans (Kw.trans (K3.trans st))) K2⟩,K0.vw ((Lx.mono Kw.gg).mono K3.gg) e4,e5⟩⟩⟩⟩
end
end PV
namespace L2
noncomputable def Ul(lo c:Int)(n:Nat):It where
 go:=λi _=>i<n
 yld:=λi H x H'=>H'=H/\x=V.int (lo+(i:Int)*c)
 stop:=λi _=>n<=i
def sy{P:W1}{w:World}{K:W.Frag}{tg:Expr}(it:WP)(lo c:Int)(n:Nat):Turn P w K tg (Ul lo c n) [it] it (λi h=>IsRangeIter h it (lo+(i:Nat)*c) ((n:Int)-(i:Nat)) c) where
 mem:=by simp
 obj:=λi h st b hb=>by
  have e:b=it:=by simpa using hb
  subst e;exact⟨_,st,λv z=>by
   have z':Data.fields _=Data.cell v:=z;cases z'⟩
 keep:=λi h h' st k=>k it @t _ st
 item:=by
  intro X hP hw hK hc i pr s σ H E I hf st hg;subst hP hw hK;obtain⟨f0,f1,f2,f3,f4,f5⟩:=hf it @t;have W:=Walks.range (prog:=X.prog) (w:=X.w) (I.ok.hd hc) it lo c n;refine W.item i s _ _ hg st λv h' tk hv L3 kk=>?_
  obtain⟨t,rfl⟩:=hv;have I1:Inv X pr σ H {s with heap:=h',toks:=tk}:=I.turned (λb o hb e=>kk b o (by simpa using hb) e) f0 f1 f3 f4 f5;exact⟨_,rfl,tJ (s:={s with heap:=h',toks:=tk}) (n:="range_iterator") L3 rfl rfl @b ⟨.int (lo+i*c),H,I1,⟨t,rfl⟩,⟨rfl,rfl⟩,L3,λb hb=>(hf b hb).1⟩⟩
 done:=by
  intro X hP hw hK hc i pr s σ H E I hf st hg;subst hP hw hK;obtain⟨f0,f1,f2,f3,f4,f5⟩:=hf it @t;exact wpAny_pyNext_range_end (I.ok.hd hc) st (by have:n<=i:=hg;lia) λh' eb=>⟨rfl,I.turned (t':=s.toks) (λb o hb e=>eb b o hb e) f0 f1 f3 f4 f5⟩
 self:=λ_ _ _ _ _ st h=>wpAny_pyIter_rangeiter st h
def fS(h:-(2 ^ 63)<=n)(h2:n<2 ^ 63):Builtin.Range.rangeFitsLong n=true:=by
 unfold Builtin.Range.rangeFitsLong;simp;lia
def iU{lo:Int}(h1:-1048576<=lo)(h2:lo<=1048576)(h3:-1048576<=hi)(h4:hi<=1048576)(hc:c = -1\/1<=c):0<=Builtin.Range.rangeSize lo hi c/\Builtin.Range.rangeSize lo hi c<=4194304:=by
 unfold Builtin.Range.rangeSize;rcases hc with rfl|hc
 .rw[W6 @b];split
  .show 0<=(lo-hi-1) / 1+1/\(lo-hi-1) / 1+1<=_;rw[Int.ediv_one];lia
  .lia
 .rw[WV @a];split
  .have:=Int.ediv_le_self c (show 0<=hi-lo-1 by lia);have:=Int.ediv_nonneg (show 0<=hi-lo-1 by lia) (show 0<=c by lia);lia
  .lia
def pd{lo:Int}(h1:-1048576<=lo)(h2:lo<=1048576)(h3:-1048576<=hi)(h4:hi<=1048576)(hc:c = -1\/1<=c)(h5:c<=1048576):Builtin.Range.small lo hi c=true:=by
 obtain⟨r1,r2⟩:=iU h1 h2 h3 h4 hc;unfold Builtin.Range.small;rw[fS @a @a,fS @a @a,fS @a @a,fS @a @a,fS @a @a,fS @a @a];simp
section
variable{X:Cx}{tg:Expr}
theorem ye{R:It->Hp->Prop}{lo:Int}{t:Tok}(I:Inv X pr σ H s)(sm:Builtin.Range.small lo hi c=true)(r0:0<=Builtin.Range.rangeSize lo hi c)(q:R (Ul lo c (Builtin.Range.rangeSize lo hi c).toNat) H):wpAny @c X.A (pyIter (.ref s.heap.objs.size)) (UM X pr σ tg R) E {s with heap:=s.heap.push {cls:=.type "range",data:=.fields #[.int lo t,.int hi u,.int c v]},toks:=tk}:=by
 refine wpAny_pyIter_range (IsRange.new ..) sm ?_;have I1:Inv X pr σ H {s with heap:=s.heap.push {cls:=.type "range",data:=.fields #[.int lo t,.int hi u,.int c v]},toks:=tk}:=I.kept λb o e=>WL _ e
 refine⟨(s.heap.push {cls:=.type "range",data:=.fields #[.int lo t,.int hi u,.int c v]}).objs.size,[(s.heap.push {cls:=.type "range",data:=.fields #[.int lo t,.int hi u,.int c v]}).objs.size],_,_,H,rfl,
  I1.kept (t':=tk) λb o e=>WL _ e,sy _ lo c (Builtin.Range.rangeSize lo hi c).toNat,?_,λb hb=>?_,q⟩
 .have e1:lo+((0:Nat):Int)*c=lo:=by simp
  have e2:(((Builtin.Range.rangeSize lo hi c).toNat:Nat):Int)-((0:Nat):Int)=Builtin.Range.rangeSize lo hi c:=by lia
  show IsRangeIter _ _ (lo+((0:Nat):Int)*c) ((((Builtin.Range.rangeSize lo hi c).toNat:Nat):Int)-((0:Nat):Int)) c;rw[e1,e2];exact W7 _ rfl
 .have e:b=(s.heap.push {cls:=.type "range",data:=.fields #[.int lo t,.int hi u,.int c v]}).objs.size:=by simpa using hb
  subst e;exact I1.fpOk (WU _) (I1.hok.fresh (WU _))
def jP(i j c:Int):Prop:=(-1048576<=i/\i<=1048576)/\(-1048576<=j/\j<=1048576)/\(c = -1\/1<=c)/\c<=1048576
instance (i j c:Int):Decidable (jP i j c):=by unfold jP;infer_instance
def Io(ta:TA):TI:=λσ H R=>ta σ H λvs H1=>∃i j c:Int,vs=[.int i,.int j,.int c]/\jP i j c/\R (Ul i c (Builtin.Range.rangeSize i j c).toNat) H1
theorem yf(hc:c = -1\/1<=c)(h5:c<=1048576):Builtin.divisionGoesByPylong x c=false:=by
 unfold Builtin.divisionGoesByPylong;have h:¬ ((if(c==0)=true then 0 else c.natAbs.log2 / 30+1)>300):=by
  split
  .lia
  .have:c.natAbs.log2<60:=(Nat.log2_lt @a).mpr @a;lia
 simp![Xn h,Zx]
theorem vJ{pos:Pos}(hg:Gl X "range")(hm:X.mg "range" = none)(ha:PA X [a,b,d] ta)(hs:starEach [a,b,d] X.env=[(false,eval a X.env),(false,eval b X.env),(false,eval d X.env)]:=by rfl)(M3:starEach [b,d] X.env=[(false,eval b X.env),(false,eval d X.env)]:=by rfl):
  PI X tg (.Call (.Name "range" p) [a,b,d] [] pos) (Io ta):=by
 intro pr s σ H R I h;refine Call_ (eQ I hg hm boot_range (X1 (KN (ha pos pr s σ H _ I h) λus s1 ⟨vs,H1,I1,r1,q1⟩=>?_) (by rw[hs,M3]) (by rw[M3];rfl)));obtain⟨i,j,c,e,⟨⟨q1,q2⟩,⟨q3,q4⟩,q5,q6⟩,q⟩:=q1;subst e;cases r1 with
 |cons r rr=>
  cases rr with
  |cons r' rr=>
   cases rr with
   |cons r'' rr=>
    cases rr;obtain⟨t,rfl⟩:=r;obtain⟨t',rfl⟩:=r';obtain⟨t'',rfl⟩:=r'';exact call_range_3 @a (ye (tk:=s1.toks) I1 (pd q1 q2 q3 q4 q5 q6) (iU q1 q2 q3 q4 q5).1 q) (.inl (yf q5 q6))
end
end L2
namespace PV
section
variable{X:Cx}{tg:Expr}
def Fh:List D->Res R
 |[d]=>match(ny d).bind cK with
  |some (n::ns)=>.ok (.f,.int (AW (n::ns)))
  |_=>.bad
 |[.int i,.int j]=>.ok (.f,.int (if j<i then j else i))
 |_=>.bad
theorem Fi(hc:X.calm=true):cb X (.builtin "min") (rC X.K Fh):=by
 rintro pr s σ H xs us Q I rx ⟨G,fp,es,vs,ds,r,⟨rel,k⟩,vd,e⟩;unfold Fh at e;split at e
 .rename_i d;split at e
  .rename_i n ns hb;cases e;obtain⟨v,ev,vt⟩:=lJ vd;obtain⟨p,ep,sq⟩:=jF rel.gh hb vt;subst ev;subst ep;exact uA hc pr s σ H _ us Q I rx ⟨p,n::ns,rfl,sq,by simp,k _ H G fp .refl (rel.push (aW _))⟩
  .cases e
 .rename_i i j;cases e;obtain⟨v,w',ev,v1,v2⟩:=Jf vd;subst ev;cases aX v1;cases aX v2;exact ub hc pr s σ H _ us Q I rx ⟨i,j,rfl,k _ H G fp .refl (rel.push (aW _))⟩
 .cases e
noncomputable def Ki:List D->Res R
 |[.int i]=>.ok (.f,.int (if i<0 then -i else i))
 |_=>.bad
def lT(fs:FOs):FI:=λenv=>(fs env).bind λp=>(mC p.2 p.1).bind λd=>match d with
 |[.int i,.int j,.int c]=>if jP i j c then .ok ((List.range (Builtin.Range.rangeSize i j c).toNat).map λ(k:Nat)=>D.int (i+(k:Int)*c),p.2) else .bad
 |_=>.bad
theorem sH{K:W.Frag}{G:Hp}(lo c:Int)(n:Nat):Walk K G (Ul lo c n) ((List.range n).map λ(k:Nat)=>D.int (lo+(k:Int)*c)):=by
 intro G' H' es vs fp gg rel i;refine⟨λd hd=>?_,λe=>?_⟩
 .rw[W2]at hd;cases hc:(List.range n)[i]? with
  |none=>rw[hc]at hd;cases hd
  |some c=>
   rw[hc]at hd;cases hd;obtain⟨h1,h2⟩:=WS.mp hc;rw[Xk]at h1;rw[aau]at h2;subst h2;refine⟨h1,λx H2 ⟨e1,e2⟩=>?_⟩;subst e1;exact⟨G',by rw[e2];exact aW _,rel,.refl⟩
 .rw[WN,Xk]at e;exact acg e.symm
theorem vK{fs:FOs}{pos:Pos}(hg:Gl X "range")(hm:X.mg "range" = none)(ha:QOs X [a,b,d] fs)(hs:starEach [a,b,d] X.env=[(false,eval a X.env),(false,eval b X.env),(false,eval d X.env)]:=by rfl)(M3:starEach [b,d] X.env=[(false,eval b X.env),(false,eval d X.env)]:=by rfl):
  QI X tg (.Call (.Name "range" p) [a,b,d] [] pos) (lT fs):=
 iS (vJ hg hm ha hs M3) λσ H R Kz=>by
  obtain⟨G,env,fp,ds,env',rel,e,k⟩:=Kz;obtain⟨⟨o,Ko⟩,e1,e⟩:=ag e;obtain⟨d,e2,e⟩:=ag e;dsimp only at e;split at e
  .rename_i i j c;split at e
   .rename_i hj;cases e;refine⟨G,env,fp,o,_,rel,e1,λvs H1 G1 KR KJ Kr Lx=>?_⟩;obtain⟨y,ys,ev,v1,z,zs,SX,v2,y3,zs3,ev3,v3,e3⟩:=Kr.vws Lx e2;have e3:zs3=[]:=e3;subst e3;have h1:=aX v1;have h2:=aX v2;have h3:=aX v3;subst h1 h2 h3 ev3 SX;exact⟨i,j,c,ev,hj,k _ H1 G1 KR KJ Kr (sH i c _)⟩
   .cases e
  .cases e
end
end PV
namespace NX
section
open PySem.SeqAt
open PySem.AutoSeq1 (wpAny_loadPart')
def jQ(f:Nat->β->Sem (ForInStep β))(n:Nat)(I:Nat->β->WF->Prop)(Q:β->WF->Prop)(turn:∀(i:Nat) (b:β) (s:WF),i<n->I i b s->wpAny M A (f i b) (λr s'=>match r with | .yield b'=>I (i+1) b' s' | .done b'=>Q b' s') E s)(fin:∀(b:β) (s:WF),I n b s->Q b s)(b:β)(h:I 0 b s):wpAny M A (forIn [0:n] b f) Q E s:=by
 rw[Std.Legacy.Range.forIn_eq_forIn_range'];refine Z6 f (λaZ b s=>∃i,i<=n/\aZ=List.range' i (n-i)/\I i b s) Q ?_ ?_ _ b ?_
 .rintro x aZ b s ⟨i,hi,hr,h⟩;by_cases My:i<n
  .have e:n-i=(n-(i+1))+1:=by lia
   rw[e,List.range'_succ]at hr;injection hr with h1 h2;subst h1;refine KN (turn x b s My h) λr s' Wh=>?_
   cases r with
   |yield b'=>exact⟨x+1,by lia,h2,Wh⟩
   |done b'=>exact Wh
  .have e:n-i=0:=by lia
   rw[e]at hr;cases hr
 .rintro b s ⟨i,hi,hr,h⟩;by_cases My:i<n
  .have e:n-i=(n-(i+1))+1:=by lia
   rw[e,List.range'_succ]at hr;cases hr
  .have e:i=n:=by lia
   subst e;exact fin b s h
 .refine⟨0,Xw _,?_,h⟩;simp[Std.Legacy.Range.size]
def i8(l:WP)(items:Array Wp)(n:Nat)(dd:Option WP)(sl:Array (Option Wp))(ns:List Str)(c:Str)(t:Tok)(hi:Vals (ns.map V.str) items.toList)(i:Nat)(hx:ns[i]?=some c)(h0:∀j,j<i->ns[j]?≠some c):
  Meets (Builtin.«tuple.index» ⟨[.ref l,.str c t],[]⟩)
   (λ_ R s=>s.heap.get? l=some {cls:=.type "tuple",dict:=dd,data:=.seq items n,slots:=sl}/\R (.ok (.ret (.int (i:Int) s.toks))) {s with toks:=s.toks+1}):=
 .of_wp λprog w A R s h=>by
  obtain⟨hp,g,d,tk,os⟩:=s;obtain⟨hl,h⟩:=h;have z1:items.size=ns.length:=by have:=hi.length;simp at this;lia
  have My:i<ns.length:=(WS.mp hx).1;have key:∀(j:Nat),j<ns.length->∃(b:Str) (u:Tok),items[j]?=some (.str b u)/\ns[j]?=some b:=by
   intro j hj;obtain⟨v,hv,hr⟩:=hi.get (i:=j) (x:=V.str ns[j]) (by simp[hj]);obtain⟨u,rfl⟩:=hr;exact⟨ns[j],u,by rw[<-Zk];exact hv,by simp[hj]⟩
  wp_walk using wpAny_loadPart' hl,jQ _ _ (λj b s'=>b.1=none/\s'=⟨hp,g,d,tk,os⟩/\j<=i) _
  case turn=>
   rintro j ⟨b1,b2⟩ s' hj ⟨hb,rfl,Wi⟩;simp only at hb;subst hb;obtain⟨b,u,e1,e2⟩:=key j @a;have he:EqAt A.in1 ⟨hp,g,d,tk,os⟩ (.str b u) (.str c t) (b==c):=EqAt.str_str b u c t;by_cases OO:b=c
   .have hji2:j=i:=by
     rcases acn j i with K4|hge
     .exact absurd (by rw[e2,OO]) (h0 j K4)
     .lia
    subst hji2 OO;rw[e1];refine WI (he prog w _ _ ?_);rw[show(b==b)=true from X4 b]
    wp_walk
    exact⟨_,rfl,h⟩
   .rw[e1];refine WI (he prog w _ _ ?_);rw[show(b==c)=false from XQ.mpr OO]
    wp_walk
    refine⟨rfl,rfl,?_⟩;rcases acn j i with K4|hge
    .exact K4
    .have:j=i:=by lia
     subst this;rw[e2]at hx;cases hx;exact absurd rfl OO
  case fin=>
   rintro⟨b1,b2⟩ s' ⟨hb,rfl,Wi⟩;rw[Nat.min_self]at Wi;lia
  case h=>exact⟨rfl,rfl,Xw _⟩
end
end NX
namespace L2
section
variable{X:Cx}{o e:Expr}{es:List Expr}{to:TE}{t:TA}{name:Str}{apos Kx:Pos}{id:String}{r:V->List V->Hp->VK->Prop}
noncomputable def JW(K:W.Frag)(r:V->List V->Hp->VK->Prop)(to:TE)(t:TA):TE:=λσ H Q=>to σ H λx H1=>(∃p ys,x=.ref p/\SqT K H1 p ys)/\t σ H1 λxs H2=>r x xs H2 Q
theorem Fj(slot:Slot "tuple" name id)(OT:typeOf (.builtin id)=pure (.type "method_descriptor"))(hm:Qf X id r)(ho:PE X o to)(ha:PA X (e::es) t)
  (Li:attributeBase o name X.env (eval o X.env)=eval o X.env:=by rfl)
  (Mg:((backTo Kx (starEach (e::es) X.env)).all (λx=>!x.1)&&(backToKw Kx (keywordEach [] X.env)).all (λx=>x.1.isSome)
   && decide ((e::es).length+([]:List Keyword).length+(if([]:List Keyword).isEmpty then 0 else 1)<30))=true:=by rfl)
  (Ln:(apos.endLine==Kx.line)=true:=by rfl) (hs:starEach (e::es) X.env=(false,eval e X.env)::starEach es X.env:=by rfl) (Lo:(backTo Kx (starEach es X.env)).any (·.1)=false:=by rfl):
  PE X (.Call (.Attribute o name apos) (e::es) [] Kx) (JW X.K r to t):=by
 intro pr s σ H Q I h;refine wpAny_Call_method_late Li Mg Ln rfl (KN (ho pr s σ H _ I h) λv s1 KQ=>?_);obtain⟨x,H1,I1,r1,⟨p,ys,ex,sq⟩,q1⟩:=KQ;subst ex;cases r1;obtain⟨Kt,_,⟨ob,ho,hc,⟨n,hd⟩,hn⟩,_⟩:=I1.tupleN sq;refine⟨"tuple",id,PySem.F.plainAttrs_tuple,slot,OT,⟨ob,ho,hc⟩,λa e2=>?_,?_⟩
 .cases e2;exact⟨ob,ho,hn⟩
 have hA:=ha Kx pr s1 σ H1 _ I1 q1;rw[hs]at hA |-;refine YS (by show(false||(backTo Kx (starEach es X.env)).any (·.1))=false;rw[Lo] <;> rfl) (Y6 ?_);exact KN hA λus s2 ⟨vs,H2,I2,r2,q2⟩=>hm pr s2 σ H2 (.ref p) vs _ us Q I2 rfl r2 q2
end
end L2
namespace PV
section
variable{X:Cx}
def Du(g:List D->List D->Res R)(fa:FO)(fs:FOs):FX:=λenv=>(fa env).bind λp=>(LK p.2 p.1).bind λa=>match a with
 | .tup _=>(fs p.2).bind λq=>(LK q.2 p.1).bind λa2=>match a2 with
  | .tup l=>(mC q.2 q.1).bind λds=>(g l ds).bind λr=>.ok (r,q.2)
  |_=>.bad
 |_=>.bad
inductive rMtT(K:W.Frag)(g:List D->List D->Res R)(x:V)(xs:List V)(H:Hp)(Q:VK):Prop
 |mk:∀G fp es vs l ds r,Goes K H G fp es vs r Q->Vw K G H (.tup l) x->Qq K G H ds xs->g l ds=.ok r->rMtT K g x xs H Q
theorem Fl{g:List D->List D->Res R}{id:String}{name:Str}{o e:Expr}{es:List Expr}{fa:FO}{fs:FOs}{apos Kx:Pos}(slot:Slot "tuple" name id)(OT:typeOf (.builtin id)=pure (.type "method_descriptor"))(hm:Qf X id (rMtT X.K g))(ho:QO X o fa)(ha:QOs X (e::es) fs)
  (Li:attributeBase o name X.env (eval o X.env)=eval o X.env:=by rfl)
  (Mg:@r=true:=by rfl)
  (Ln:(apos.endLine==Kx.line)=true:=by rfl) (hs:starEach (e::es) X.env=(false,eval e X.env)::starEach es X.env:=by rfl) (Lo:(backTo Kx (starEach es X.env)).any (·.1)=false:=by rfl):
  QE X (.Call (.Attribute o name apos) (e::es) [] Kx) (Du g fa fs):=by
 refine aO (Fj slot OT hm ho ha Li Mg Ln hs Lo) λσ H Q KQ=>?_
 obtain⟨G,env,fp,r,env',rel,e,k⟩:=KQ;obtain⟨⟨oa,Ko⟩,e1,e⟩:=ag e;obtain⟨da,O6,e⟩:=ag e;dsimp only at e;split at e
 .obtain⟨⟨os,KA⟩,e2,e⟩:=ag e;obtain⟨d2,hd2,e⟩:=ag e;dsimp only at e;split at e
  .obtain⟨ds,e3,e⟩:=ag e;obtain⟨r',e4,e⟩:=ag e;cases e;refine⟨G,env,fp,oa,Ko,rel,e1,λv H1 G1 KR KJ Kr Lx=>?_⟩;obtain⟨p,xs,ev,sq,_⟩:=eD (Vw.rep Kr.gh (Kr.vw Lx O6));exact⟨⟨p,xs,ev,sq⟩,G1,Ko,KR,os,_,Kr,e2,λvs H2 G2 Lc Kw Kq NH=>⟨G2,Lc,_,σ,_,ds,r,⟨Kq,λv H' G' Ks st K2=>k v H' G' Ks (KJ.trans (Kw.trans st)) K2⟩,Kq.vw (Lx.mono Kw.gg) hd2,Kq.vws NH e3,e4⟩⟩
  .cases e
 .cases e
def lU(l:List D):List D->Res R
 |[.str c]=>match dB l with
  |some bs=>if c∈bs then .ok (.f,.int (bs.idxOf c:Nat)) else .bad
  |none=>.bad
 |_=>.bad
theorem Fm(h:S a=S b):a=b:=by
 have:=Yp (λs:Str=>s.cps.toList) h;simpa only[cJ] using this
theorem qD:∀(bs:List (List Nat)) (c:List Nat) (j:Nat),bs[j]?=some c->bs.idxOf c<=j
 |[],c,j,h=>by simp at h
 |b::bs,c,0,h=>by
  simp at h;subst h;simp[List.idxOf_cons]
 |b::bs,c,j+1,h=>by
  rw[ZR]at h;have:=qD bs c j h;rw[List.idxOf_cons];cases b==c with
  |true=>exact Xw _
  |false=>exact Nat.succ_le_succ this
theorem pe:Qf X "tuple.index" (rMtT X.K lU):=by
 rintro pr s σ H x xs v us Q I rx rv ⟨G,fp,es,vs,l,ds,r,⟨rel,k⟩,vx,vd,e⟩;unfold lU at e;split at e
 .rename_i c;split at e
  .rename_i bs hb;split at e
   .rename_i hc;cases e;obtain⟨p,ys,ev,sq,rs⟩:=eD (Vw.rep rel.gh vx);obtain⟨hy,_⟩:=dU hb rs;subst ev;cases rx;obtain⟨w',ew,vc⟩:=lJ vd;obtain⟨ev,_⟩:=gX vc;subst ew;subst ev;obtain⟨u,rfl,t',rfl⟩:=dM rv;obtain⟨Kt,vl,⟨ob,h1,h2,⟨n,h3⟩,h4⟩,_⟩:=I.tupleN sq;subst hy;obtain⟨cls,dict,data,slots⟩:=ob;dsimp only at h2 h3 h4;subst h2 h3 h4;have K4:=Yn hc;refine PySem.call_meets aaH ⟨_,h1,rfl⟩ PySem.F.entry_tuple_index (PySem.F.args_tuple_index_2 _ _) (i8 p Kt.toArray n _ _ (bs.map S) (S c) t' (by rw[Xq];exact vl) (bs.idxOf c) ?_ ?_) ⟨h1,⟨.int (bs.idxOf c:Nat),H,I.tok _,⟨_,rfl⟩,k _ H G fp .refl (rel.push (aW _))⟩⟩
    .rw[W2,WM K4,List.getElem_idxOf K4];rfl
    .intro j hj he;rw[W2,WM @a]at he;have he:=Fm (Xj he);have:=qD bs c j (by rw[WM @a,he]);lia
   .cases e
  .cases e
 .cases e
def bQ(a b:D):Res R:=match a,b with
 | .tup [],.tup l=>.ok (.f,.tup l)
 |a,b=>addD a b
theorem BU:Lk X (binaryOp .Add) (rG X.K bQ):=by
 rintro pr s σ H x y v u Q I rx ry ⟨G,fp,es,vs,a,b,r,⟨rel,k⟩,va,vb,e⟩;unfold bQ at e;split at e
 .rename_i l;cases e;obtain⟨p,xs,e1,h1,r1⟩:=gk va;obtain⟨p2,R6,e2,h2,r2⟩:=gk vb;subst e1;subst e2;cases rx;cases ry;have hx:xs=[]:=XT (by rw[r1.length];rfl);subst hx;obtain⟨Kt,v1,⟨⟨cls,dd,data,sl⟩,ho,hc,n,hd⟩,_⟩:=I.tuple (bh rel.gh h1);obtain⟨N7,v2,⟨⟨Sm,RW,data2,RX⟩,OK,Nl,n2,hd2⟩,_⟩:=I.tuple (bh rel.gh h2);dsimp only at hc hd Nl hd2;subst hc hd Nl hd2;cases v1;exact aba ⟨_,ho,rfl⟩ ⟨_,OK,rfl⟩ aaU seq_tuple_add ZW ZM (ZI _ _) (tuple_addW0 p p2 _ _ n n2 dd RW sl RX rfl) ⟨ho,OK,⟨.ref p2,H,I,rfl,k _ H G fp .refl (rel.push vb)⟩⟩
 .exact ED pr s σ H _ _ v u Q I rx ry ⟨G,fp,es,vs,a,b,r,⟨rel,k⟩,va,vb,e⟩
def pg(fs:FOs):FI:=or2 (su true true fs) (or2 (su true false fs) (or2 (su false true fs) (su false false fs)))
theorem BV{pt:Pos}{fs:FOs}{pos:Pos}(hg:Gl X "zip")(hm:X.mg "zip" = none)(ha:QOs X [e1,e2] fs)(he:starEach [e1,e2] X.env=(false,eval e1 X.env)::starEach [e2] X.env:=by rfl)(Lj:(backTo pos (starEach [e2] X.env)).any (·.1)=false:=by rfl):
  QI X (.Tuple NI kt pt) (.Call (.Name "zip" p) [e1,e2] [] pos) (pg fs):=vD (qr true true hg hm ha he Lj) (vD (qr true false hg hm ha he Lj) (vD (qr false true hg hm ha he Lj) (qr false false hg hm ha he Lj)))
end
end PV
namespace NX
section
open PySem.AutoSeq1 (wpAny_loadPart')
end
end NX
namespace PV
variable{md:Mode}{X:Cx}
section
def lV(a b:D):Res R:=Dt a b
theorem BW:Lk X (binaryOp .Mult) (rG X.K lV):=BR
def Ip(td ty tv:TE):TS:=λDd σ H=>tv σ H λv H1=>td σ H1 λx H2=>ty σ H2 λy H3=>D5 x y v H3 λH4=>Dd.nx σ H4
theorem BX{ty:TE}{pos:Pos}(ho:PE X o td)(hi:PE X i ty)(hv:PE X value tv)(hs:swapsWith value (some (.Subscript o i pos')) pos.line X.env=pure false):
  PS X (.Assign [.Subscript o i pos'] value pos) (Ip td ty tv):=by
 intro pr s σ H Dd I h;refine wpAny_Assign_Subscript (KN (hv pr s σ H _ I h) λr s1 ⟨v,H1,I1,rv,q1⟩=>KN (ho pr s1 σ H1 _ I1 q1) λu s2 ⟨x,H2,I2,rx,q2⟩=>KN (hi pr s2 σ H2 _ I2 q2) λiv s3 ⟨y,H3,I3,ry,q3⟩=>?_) hs;exact KN (xo pr s3 σ H3 x y v u iv r _ I3 rx ry rv q3) λ_ s4 ⟨H4,I4,q4⟩=>⟨σ,H4,I4,q4⟩
def sI(i:Nat)(fk fv:FX):FS:=λenv=>(fv env).bind λp=>(fk p.2).bind λq=>match p.2[i]?,q.2[i]? with
 |some (some _),some (some (.l .f,.lst ds))=>(match q.1.2 with
  | .int k=>(match ixN ds.length k with
   |some j=>.ok (.nx (q.2.set i (some (.l .f,.lst (ds.set j p.1.2)))))
   |none=>.bad)
  |_=>.bad)
 |_,_=>.bad
theorem BY{pos:Pos}(ho:PE X o (oK i))(hi:QE X ix fk)(hv:QE X value fv)(hs:swapsWith value (some (.Subscript o ix pos')) pos.line X.env=pure false:=by rfl):
  QS (md:=md) X (.Assign [.Subscript o ix pos'] value pos) (sI i fk fv):=de (BX ho hi hv hs) λDd σ H Kz=>by
 obtain⟨G,env,fp,rel,k⟩:=Kz;unfold sI at k;match q1:fv env,k with
 | .ok (r1,Ko),k=>
  have k:OutOk X.K G H fp Dd ((fk Ko).bind λq=>match Ko[i]?,q.2[i]? with
   |some (some _),some (some (.l .f,.lst ds))=>(match q.1.2 with
    | .int k=>(match ixN ds.length k with
     |some j=>.ok (.nx (q.2.set i (some (.l .f,.lst (ds.set j r1.2)))))
     |none=>.bad)
    |_=>.bad)
   |_,_=>.bad):=k
  match q2:fk Ko,k with
  | .ok (r2,KA),k=>
   have k:OutOk X.K G H fp Dd (match Ko[i]?,KA[i]? with
    |some (some _),some (some (.l .f,.lst ds))=>(match r2.2 with
     | .int k=>(match ixN ds.length k with
      |some j=>.ok (.nx (KA.set i (some (.l .f,.lst (ds.set j r1.2)))))
      |none=>.bad)
     |_=>.bad)
    |_,_=>.bad):=k
   split at k
   .rename_i rr ds h1 h2;split at k
    .rename_i kk Og;split at k
     .rename_i j hj;refine⟨G,env,fp,r1,Ko,rel,q1,λy H1 G1 KR KJ Kr=>?_⟩;obtain⟨G2,b,ry,Kq,Kw⟩:=Kr.freeze;obtain⟨v0,R7,_⟩:=Kq.view h1;refine⟨v0,R7,G2,Ko,b,r2,KA,Kq,q2,λz H3 G3 LJ K3 K0=>?_⟩;obtain⟨G4,b4,rz,Ld,Lr⟩:=K0.freeze;have Q6:Rep X.K G4 r1.2 y:=Rep.mono (K3.gg.trans Lr.gg) ry;obtain⟨p,xs,ep,hp,rs,cg⟩:=Ld.chg (ds':=ds.set j r1.2) h2;rw[R7]at ep;cases ep;rw[Og]at rz;have hz:=gW rz;obtain⟨fq,Lz,L8⟩:=cg _ (rs.set j Q6);exact⟨p,xs,kk,j,rfl,hz,hp,by rw[rs.length];exact hj,k _ _ G4 fq (KJ.trans (Kw.trans (K3.trans (Lr.trans L8)))) Lz⟩
     .exact k.elim
    .exact k.elim
   .exact k.elim
end
variable{K:W.Frag}{G H:Hp}{es:PV.Env}{vs:L2.St}{fp:List WP}{p:WP}{u:HO}{tk:Bool}{xs:List V}
section
theorem Rel.own(q:Rel K G H es vs fp)(np:p∉fp)(gp:G p=none)(h:DictO u tk ks xs)(rs:Reps K G ws xs):
  Rel K G (upd H p u) (some (.d,.dct tk ks ws)::es) (some (.ref p)::vs) (p::fp):=by
 refine⟨⟨some (.ref p),vs,rfl,.ref p,[p],fp,rfl,rfl,?_,q.rep.step (.refl _) λz hz=>au λe=>np (e▸hz)⟩,Xf.mpr ⟨np,q.nd⟩,λz hz=>?_,λb o e=>?_⟩
 .rw[RepO];exact⟨p,xs,u,rfl,aG,h,rfl,rs⟩
 .rcases WY.mp hz with rfl|hz
  .exact gp
  .exact q.gn z hz
 .rw[au λz=>by subst z;rw[gp]at e;cases e];exact q.gh b o e
theorem Rel.aside(q:Rel K G H es vs fp)(hp:H p=none):Rel K G (upd H p u) es vs fp:=by
 have np:p∉fp:=λz=>by
  obtain⟨u,e⟩:=q.rep.live p z;rw[hp]at e;cases e
 exact⟨q.rep.step (.refl _) λz hz=>au λe=>np (e▸hz),q.nd,q.gn,λb o e=>by rw[au (aN (q.gh b o e) hp)];exact q.gh b o e⟩
theorem Step.aside(q:Rel K G H es vs fp)(hp:H p=none)(hu:isT u=false)(st:Step G (upd H p u) fp G2 H2 Lc):
  Step G H fp G2 (upd H2 p u2) (p::Lc)/\p∉Lc/\G2 p=none/\H2 p=some u:=by
 have np:p∉fp:=λz=>by
  obtain⟨u,e⟩:=q.rep.live p z;rw[hp]at e;cases e
 have ne:∀{b o},H b=some o->b≠p:=λe=>aN e hp
 refine⟨⟨st.gg,λb o e nb=>?_,λb hb=>?_,λb o e=>?_,λb o e=>?_⟩,λz=>?_,?_,st.keep p u aG np⟩
 .rw[au (ne e)];exact st.keep b o (by rw[au (ne e)];exact e) nb
 .rcases WY.mp hb with rfl|hb
  .exact .inr hp
  .rcases st.fpn b hb with h|h
   .exact .inl h
   .by_cases e:b=p
    .subst e;exact .inr hp
    .rw[au e]at h;exact .inr h
 .rcases st.gnew b o e with h|h|h|⟨h1,h2⟩
  .exact .inl h
  .exact .inr (.inl h)
  .by_cases e:b=p
   .subst e;exact .inr (.inr (.inl hp))
   .rw[au e]at h;exact .inr (.inr (.inl h))
  .by_cases e:b=p
   .subst e;exact .inr (.inr (.inl hp))
   .rw[au e]at h2;exact .inr (.inr (.inr ⟨h1,h2⟩))
 .obtain⟨o',h⟩:=st.there b o (by rw[au (ne e)];exact e);exact⟨o',by rw[au (ne e)];exact h⟩
 .rcases st.fpn p z with h|h
  .exact np h
  .rw[aG]at h;cases h
 .cases e:G2 p with
  |none=>rfl
  |some o=>
   rcases st.gnew p o e with h|h|h|⟨h1,h2⟩
   .have:=q.gh p o h;rw[hp]at this;cases this
   .exact absurd h np
   .rw[aG]at h;cases h
   .rw[aG]at h2;cases h2;rw[hu]at h1;cases h1
def nJ(fk fv:FX):FX:=λenv=>(fk env).bind λp=>(fv p.2).bind λq=>if bR false p.1.2 then .ok ((.d,.dct false [p.1.2] [q.1.2]),q.2) else .bad
theorem yg{k:Expr}{pos:Pos}(hk:QE X k fk)(hv:QE X v fv):QE X (.Dict [some k] [v] pos) (nJ fk fv):=
 aO (Bf (xD hk hv Be) rfl rfl (List.cons_ne_nil _ _) (show 1<=15 by decide)) λσ H Q Kz p hp=>by
  obtain⟨G,env,fp,r,env',rel,e,kk⟩:=Kz;obtain⟨⟨r1,Ko⟩,e1,e⟩:=ag e;obtain⟨⟨r2,KA⟩,e2,e⟩:=ag e;dsimp only at e;split at e
  .rename_i Mc;cases e;refine⟨G,env,fp,r1,Ko,rel.aside hp,e1,λx H1 G1 KR KJ Kr=>?_⟩;obtain⟨G2,b,rx,Kq,Kw⟩:=Kr.freeze;refine⟨G2,Ko,b,r2,_,Kq,e2,λy H3 G3 LJ K3 K0=>?_⟩;obtain⟨G4,b4,ry,Ld,Lr⟩:=K0.freeze;have Wj:Rep X.K G4 r1.2 x:=Rep.mono (K3.gg.trans Lr.gg) rx;unfold bR at Mc;rw[W6 WT,XG]at Mc;obtain⟨kd,Sv⟩:=Mc;obtain⟨ex,dx⟩:=dC Sv Wj;obtain⟨st,np,gp,SE⟩:=Step.aside (u2:=.dK [(kd,y)]) rel hp rfl (KJ.trans (Kw.trans (K3.trans Lr)));refine⟨SE,[(kd,y)],by rw[ex];rfl,(show 1<=15 by decide),?_⟩;exact kk _ _ G4 _ st (Ld.own np gp ⟨[(kd,y)],rfl,by rw[dx];rfl,rfl,λkv Mm=>by rw[W5.mp Mm];exact qC Sv Wj⟩ (.one ry))
  .cases e
def getD(ks vs:List D)(k:D):Option D:=((ks.zip vs).find? λp=>Kv k p.1).map (·.2)
theorem g9[DecidableEq κ]{K:W.Frag}{G:Hp}(f:κ->D)(hf:∀a b,Kv (f a) (f b)=decide (a=b)){k:κ}:∀{kvs:List (κ×V)}{vs:List D},Reps K G vs (kvs.map (·.2))->((getD (kvs.map λkv=>f kv.1) vs (f k)).isSome=(jx kvs k).isSome)/\∀d,getD (kvs.map λkv=>f kv.1) vs (f k)=some d->∃v,jx kvs k=some v/\Rep K G d v
 |[],vs,r=>⟨rfl,λd h=>nomatch h⟩
 |kv::kvs,vs,r=>by
  cases vs with
  |nil=>have:=r.length;simp at this
  |cons d0 vs=>
   rw[Xa,Reps.cons_iff]at r;obtain⟨h1,h2⟩:=g9 f hf (k:=k) r.2;unfold getD jx at h1 h2 |-;rw[Xa,Y2];have e:Kv (f k) (f kv.1)=decide (kv.1=k):=by
    rw[hf,Xo,W3,W3];exact⟨λz=>z.symm,λz=>z.symm⟩
   by_cases hk:kv.1=k
   .rw[XX (by show Kv (f k) (f kv.1)=true;rw[e];exact Xc hk),XX (by exact Xc hk)];refine⟨rfl,λd h=>?_⟩;cases h;exact⟨_,rfl,r.1⟩
   .rw[XY (by show ¬ Kv (f k) (f kv.1)=true;rw[e];simpa using hk),XY (by simpa using hk)];exact⟨h1,h2⟩
theorem ph(gh:Same G H){vs:List D}(rd:Rd H p o)(dd:DictO o tk ks xs)(rs:Reps K G vs xs)(hk:bR tk b=true)(ry:Rep K G b y):
  ∃ov,DGet H p y ov/\(getD ks vs b).isSome=ov.isSome/\∀d,getD ks vs b=some d->∃v,ov=some v/\Rep K G d v:=by
 unfold bR at hk;cases tk with
 |true=>
  rw[WV rfl,XG]at hk;obtain⟨kk,hk⟩:=hk;obtain⟨pz,ez,gz,dz⟩:=cX hk ry;obtain⟨kvs,eo,ek,ex,_⟩:=dd;subst eo ex ez dz;have ek:ks=kvs.map λkv=>kT kv.1:=ek
  obtain⟨h1,h2⟩:=g9 (K:=K) (G:=G) kT qB (k:=kk) rs;rw[<-ek]at h1 h2;exact⟨jx kvs kk,.inr ⟨kvs,kk,pz,rd,rfl,gh _ _ gz,rfl⟩,h1,h2⟩
 |false=>
  rw[W6 WT,XG]at hk;obtain⟨kk,hk⟩:=hk;obtain⟨ez,dz⟩:=dC hk ry;obtain⟨kvs,eo,ek,ex,_⟩:=dd;subst eo ex ez dz;obtain⟨h1,h2⟩:=g9 (K:=K) (G:=G) kD nG (k:=kk) rs;rw[<-ek]at h1 h2;exact⟨jx kvs kk,.inl ⟨kvs,kk,rd,rfl,rfl⟩,h1,h2⟩
def dgD(a b:D):Res R:=match a with
 | .dct tk ks vs=>if bR tk b then(match getD ks vs b with
  |some d=>.ok (.f,d)
  |none=>.bad) else .bad
 |_=>.bad
theorem Iq{pos:Pos}(hu:X.A.units+1<cLine)(ha:QO X a fa)(hb:QO X b fb)(hs:NoSl b:=by exact λ_ _=>rfl):QE X (.Subscript a b pos) (aq dgD fa fb):=
 aO (Bb hu ha hb hs) λσ H Q h=>by
  obtain⟨G,env,fp,r,env',rel,e,k⟩:=h;obtain⟨⟨oa,e1⟩,ha,e⟩:=ag e;obtain⟨⟨ob,e2⟩,hb,e⟩:=ag e;obtain⟨da,O6,e⟩:=ag e;obtain⟨db,Lw,e⟩:=ag e;obtain⟨r',hr,e⟩:=ag e;cases e;refine⟨G,env,fp,oa,e1,rel,ha,λx H1 G1 KR KJ Kr Lx=>⟨G1,e1,KR,ob,e2,Kr,hb,λy H2 G2 Lc Kw Kq NH=>?_⟩⟩;have va:=Kq.vw (Lx.mono Kw.gg) O6;have vb:=Kq.vw NH Lw;unfold dgD at hr;split at hr
  .rename_i tk ks vs;split at hr
   .rename_i Mc;split at hr
    .rename_i d hd;cases hr;obtain⟨p,xs,o,ev,rd,dd,rs⟩:=va;subst ev;have vb':Rep X.K G2 db y:=by
      cases db with
      |lst l=>cases tk <;> simp[bR,cC,jJ]at Mc
      |dct _ _ _=>cases tk <;> simp[bR,cC,jJ]at Mc
      |_=>exact vb
     obtain⟨ov,g,_,h2⟩:=ph Kq.gh rd dd rs Mc vb';obtain⟨v,ho,rv⟩:=h2 d hd;subst ho;exact⟨p,v,rfl,g,k _ H2 G2 Lc (KJ.trans Kw) (Kq.push rv)⟩
    .cases hr
   .cases hr
  .cases hr
def inP(a b:D):Res R:=match b with
 | .dct tk ks vs=>if bR tk a then .ok (.f,.bl (getD ks vs a).isSome) else .bad
 |_=>Nr a b
def qE(a b:D):Res R:=match b with
 | .dct tk ks vs=>if bR tk a then .ok (.f,.bl (!(getD ks vs a).isSome)) else .bad
 |_=>tm a b
theorem Fn(hu:X.A.units+65<cLine):Lk X (compareOp .In) (rGA X.K inP):=by
 rintro pr s σ H x y v u Q I rx ry ⟨G,fp,es,vs,a,b,r,⟨rel,k⟩,va,vb,e⟩;unfold inP at e;split at e
 .rename_i tk ks ws;split at e
  .rename_i Mc;cases e;obtain⟨p,xs,o,ev,rd,dd,rs⟩:=vb;subst ev;cases ry;obtain⟨ov,g,h1,_⟩:=ph (K:=X.K) (G:=H) (λ_ _ z=>z) rd dd rs Mc va;exact JU @a I g rx λs' I'=>⟨.bl ov.isSome,H,I',rfl,by rw[<-h1];exact k _ H G fp .refl (rel.push (b7 _))⟩
  .cases e
 .exact Im hu pr s σ H x y v u Q I rx ry ⟨G,fp,es,vs,a,b,r,⟨rel,k⟩,va,vb,e⟩
theorem BZ(hu:X.A.units+65<cLine):Lk X (compareOp .NotIn) (rGA X.K qE):=by
 rintro pr s σ H x y v u Q I rx ry ⟨G,fp,es,vs,a,b,r,⟨rel,k⟩,va,vb,e⟩;unfold qE at e;split at e
 .rename_i tk ks ws;split at e
  .rename_i Mc;cases e;obtain⟨p,xs,o,ev,rd,dd,rs⟩:=vb;subst ev;cases ry;obtain⟨ov,g,h1,_⟩:=ph (K:=X.K) (G:=H) (λ_ _ z=>z) rd dd rs Mc va;exact A9 @a I g rx λs' I'=>⟨.bl (!ov.isSome),H,I',rfl,by rw[<-h1];exact k _ H G fp .refl (rel.push (b7 _))⟩
  .cases e
 .exact ES hu pr s σ H x y v u Q I rx ry ⟨G,fp,es,vs,a,b,r,⟨rel,k⟩,va,vb,e⟩
end
noncomputable def isLf:O->Bool
 | .l .f=>true
 | .pin _ (.l .f)=>true
 |_=>false
section
variable{G' H':Hp}
theorem RepE.append:∀{es MR:PV.Env}{vs MF:L2.St}{a b:List WP},RepE K G H es vs a->RepE K G H MR MF b->RepE K G H (es++MR) (vs++MF) (a++b)
 |[],MR,vs,MF,a,b,r,q=>by
  rw[r.1,r.2];exact q
 |none::es,MR,vs,MF,a,b,r,q=>by
  obtain⟨y,ys,e,r⟩:=r;subst e;exact⟨y,ys++MF,rfl,RepE.append r q⟩
 |some x::es,MR,vs,MF,a,b,r,q=>by
  obtain⟨y,ys,e,v,a1,b1,e1,e2,r1,r2⟩:=r;subst e e2;exact⟨y,ys++MF,rfl,v,a1,b1++b,e1,XI _ _ _,r1,RepE.append r2 q⟩
theorem RepE.clean(h:∀p u,isT u=true->G2 p=some u->G3 p=some u):∀{es:PV.Env}{vs:L2.St}{a:List WP},(∀r,some r∈es->ay r.1 r.2=true)->RepE K G2 H es vs a->RepE K G3 H es vs a
 |[],_,_,_,r=>r
 |none::es,vs,a,hc,r=>by
  obtain⟨y,ys,e,r⟩:=r;exact⟨y,ys,e,RepE.clean h (λr hr=>hc r (WK _ hr)) r⟩
 |some x::es,vs,a,hc,r=>by
  obtain⟨y,ys,e,v,a1,b1,e1,e2,r1,r2⟩:=r;exact⟨y,ys,e,v,a1,b1,e1,e2,r1.clean h (hc x WJ),RepE.clean h (λr hr=>hc r (WK _ hr)) r2⟩
end
variable{e:Expr}{x:Str}{c:O}{F:WP->List D->Res R}{d0:D}{ds:List D}
section
def JX(i:Nat):FX:=λenv=>match env[i]? with
 |some (some (ow,.lst ds))=>if isLf ow then(match ds.getLast? with
  |some d=>.ok ((.f,d),env.set i (some (ow,.lst ds.dropLast)))
  |none=>.bad) else .bad
 |_=>.bad
def i9(i:Nat)(f:FX):FS:=λenv=>(f env).bind λp=>match p.2[i]? with
 |some (some (.pin q c,d0))=>.ok (.rt (.t [p.1.1,.pin q c],.tup [p.1.2,d0]))
 |_=>.bad
theorem B0{pos:Pos}(he:QE X e f):QS (md:=.mut) X (.Return (some e) pos) (i9 i f):=de (y1 he) λDd σ H Kz=>by
 obtain⟨G,env,fp,rel,k⟩:=Kz;unfold i9 at k;match q:f env,k with
 | .ok (r,Ko),k=>
  have k:OutOk (md:=.mut) X.K G H fp Dd (match Ko[i]? with
   |some (some (.pin q c,d0))=>.ok (.rt (.t [r.1,.pin q c],.tup [r.2,d0]))
   |_=>.bad):=k
  split at k
  .rename_i z c d0 hz;refine⟨G,env,fp,r,Ko,rel,q,λv H1 G1 KR KJ Kr=>?_⟩;obtain⟨y,ys,ey,v',a,b,e1,e2,r1,r2⟩:=Kr.rep;cases ey;cases e1;subst e2;obtain⟨v0,a0,b0,R7,ro,_,pm⟩:=r2.take hz;have hv0:v0=.ref z:=by
    have:=ro;rw[RepO]at this;exact this.1
   subst hv0;have sub:∀w∈a++a0,w∈a++b:=λw hw=>by
    rcases Xv.mp hw with hw|hw
    .exact WR _ hw
    .exact WQ _ (pm.mem_iff.mpr (WR _ hw))
   have nd:=Xl.mp Kr.nd;have nd2:=Xl.mp (pm.nodup_iff.mp nd.2.1);refine k v H1 G1 (a++a0) (KJ.trans (Step.cut sub)) ⟨r.1,r.2,z,c,d0,rfl,⟨⟨some v,[some (.ref z)],rfl,v,a,a0,rfl,rfl,r1,some (.ref z),[],rfl,.ref z,a0,[],rfl,(Xe _).symm,ro,rfl,rfl⟩,?_,λp hp=>Kr.gn p (sub p hp),Kr.gh⟩⟩;rw[Xl];exact⟨nd.1,nd2.1,λp hp w hw e=>nd.2.2 p hp w (pm.mem_iff.mpr (WR _ hw)) e⟩
  .exact k.elim
def jR(np nn:Nat)(c:O)(g:FS)(p:WP):List D->Res R
 |d0::ds=>if ds.length+1=np then(g (some (.pin p c,d0)::(ds.map (λd=>some (O.f,d))++List.replicate nn none))).bind λo=>match o with
  | .rt r=>.ok r
  |_=>.bad
  else .bad
 |[]=>.bad
inductive spM(K:W.Frag)(c:O)(F:WP->List D->Res R)(vs:List V)(H:Hp)(Q:VK)(zz:XK):Prop
 |mk:∀G p MF d0 ds r NJ,Same G H->vs=.ref p::MF->RepO K G H c d0 (.ref p) NJ->NJ.Nodup->(∀z∈NJ,G z=none)->Reps K G ds MF->F p (d0::ds)=.ok r->(∀v H' G' Ks,Step G H NJ G' H' Ks->Jd .mut K G' H' r v Ks->Q v H')->spM K c F vs H Q zz
theorem Fo{P:W1}{w:World}{mg:Str->Option Wp}{base:UF}{st:Stmt}{N ps:List Str}{k:Nat}{c:O}{g:FS}(Df:Def K mg x st)(sc:FnScope N ps (defScope st))
  (hb:∀(kV doc pm:Wp) (an:Option WP) (KW ct:Wp) (us:List Wp),us.length=ps.length->bindArgs @w ⟨us,[]⟩=pure (ps.zip us))
  (body:∀(f:WP) (KW:Wp) (A:Uf) (outer:List PySem.Env) (s:WF) (H:Hp) (E:XK),Room k (A.deeper (envOfC x (defScope st) s.heap.objs.size f KW))->QSs (md:=.mut) (oM M5 P w K mg base N x (defScope st) f KW A outer s H E).nox (bj st) g):
  Ct P w K mg base x (k+1) (spM K c (jR ps.length (N.length-ps.length) c g)):=by
 obtain⟨f,fd,F,m⟩:=Df;refine⟨f,fd,ps,F.ok sc (λvs H Q E h=>?_) (λKW A outer s H vs Q E hr h=>?_),m,F.kp,F.binds hb⟩
 .obtain⟨G,p,MF,d0,ds,r,NJ,_,ev,_,_,_,rs,e,_⟩:=h;unfold jR at e;split at e
  .rename_i Vm ds' heq;cases heq;split at e
   .rename_i hl;rw[ev,WX,rs.length,hl]
   .cases e
  .cases e
 .obtain⟨G,p,MF,d0,ds,r,NJ,gh,ev,r0,nd,gn,rs,e,q⟩:=h;unfold jR at e;split at e
  .rename_i Vm ds' heq;cases heq;split at e
   .rename_i hl;refine⟨_,body f KW A outer s H E hr,G,some (.pin p c,d0)::(ds.map (λd=>some (O.f,d))++List.replicate (N.length-ps.length) none),NJ,⟨?_,nd,gn,gh⟩,?_⟩
    .have:=dA (K:=K) (G:=G) (H:=H) (N.length-ps.length) rs;unfold L2.gN;rw[ev,WX,rs.length,hl];exact⟨some (.ref p),_,rfl,.ref p,NJ,[],rfl,(Xe _).symm,by rw[RepO];exact⟨rfl,r0⟩,this⟩
    .obtain⟨o,eo,e⟩:=ag e;rw[eo];cases o with
     |rt r'=>
      cases e;exact λv H' G' Ks st rel=>q v H' G' Ks st rel
     |nx env'=>cases e
     |bk env'=>cases e
     |ct env'=>cases e
   .cases e
  .cases e
noncomputable def nK:O->O->Bool
 | .l .f,.l .f=>true
 | .l .f,.pin _ (.l .f)=>true
 | .d,.d=>true
 | .d,.pin _ .d=>true
 |_,_=>false
theorem zN(h:nK c ow=true)(r:RepO K G H ow d v a):(∃p,v=.ref p)/\RepO K G H c d v a/\∀(G' H':Hp) (d':D) (a':List WP),RepO K G' H' c d' v a'->RepO K G' H' ow d' v a':=by
 have Q7:∀{d:D},RepO K G H (.l .f) d v a->∃p,v=.ref p:=λ{d} r=>by
  cases d with
  |lst ds=>obtain⟨p,_,e,_⟩:=jA.mp r;exact⟨p,e⟩
  |_=>simp![RepO]at r
 have Q8:∀{d:D},RepO K G H .d d v a->∃p,v=.ref p:=λ{d} r=>by
  cases d with
  |dct tk ks ws=>rw[RepO]at r;obtain⟨p,_,_,e,_⟩:=r;exact⟨p,e⟩
  |_=>simp![RepO]at r
 unfold nK at h;split at h
 .exact⟨Q7 r,r,λ_ _ _ _ z=>z⟩
 .rw[RepO]at r;exact⟨⟨_,r.1⟩,r.2,λ_ _ _ _ z=>by rw[RepO];exact⟨r.1,z⟩⟩
 .exact⟨Q8 r,r,λ_ _ _ _ z=>z⟩
 .rw[RepO]at r;exact⟨⟨_,r.1⟩,r.2,λ_ _ _ _ z=>by rw[RepO];exact⟨r.1,z⟩⟩
 .cases h
open Classical in
noncomputable def iH(F:WP->List D->Res R)(c:O)(d0:D)(ds:List D):Res (R×D):=
 if h:∃x:R×D,∀p,F p (d0::ds)=.ok (.t [x.1.1,.pin p c],.tup [x.1.2,x.2]) then .ok (Classical.choose h) else .bad
theorem qF(h:∀p,F p (d0::ds)=.ok (.t [r.1,.pin p c],.tup [r.2,d'])):iH F c d0 ds=.ok (r,d'):=by
 have h':∃x:R×D,∀p,F p (d0::ds)=.ok (.t [x.1.1,.pin p c],.tup [x.1.2,x.2]):=⟨(r,d'),h⟩
 unfold iH;rw[dif_pos h'];have e:=(abm h' 0).symm.trans (h 0);generalize Classical.choose h'=x at e;obtain⟨⟨o,d⟩,d2⟩:=x;cases e;rfl
theorem qG{x:R×D}(h:iH F c d0 ds=.ok x)(p:WP):F p (d0::ds)=.ok (.t [x.1.1,.pin p c],.tup [x.1.2,x.2]):=by
 unfold iH at h;split at h
 .rename_i h';cases h;exact abm h' p
 .cases h
end
section
variable{p pos:Pos}{es:List Expr}{fs:FOs}
end
section
variable{G' H':Hp}
end
section
end
end PV
namespace NX
def Fp{k:Key}(h:(mixKind P w).is k u=true):RelV (kV k) u:=by
 rw[rO]at h;cases k with
 |inl i=>
  have h:Value.isInt i u=true:=h;cases u with
  |int j t=>
   have e:(j==i)=true:=h;rw[Xx]at e;exact⟨t,by rw[e]⟩
  |_=>cases h
 |inr x=>
  obtain⟨t,e⟩:=Value.isStrOf_shape h;exact⟨t,e⟩
def B2{κ:Type}{kvs:List (κ×V)}{vs:List (κ×Wp)}(r:KV kvs vs):∀{i:Nat}{k:κ}{v:V},kvs[i]?=some (k,v)->∃u,vs[i]?=some (k,u)/\RelV v u:=by
 induction r with
 |nil=>intro i k v e;simp at e
 | @cons p q ps qs hq _ ih=>
  intro i k v e;cases i with
  |zero=>
   simp at e;subst e;obtain⟨qk,qv⟩:=q;obtain⟨e1,e2⟩:=hq;cases e1;exact⟨qv,rfl,e2⟩
  |succ i=>exact ih (by simpa using e)
def qH(I:Inv X pr σ H s)(hd:o.data=.dict es ep)(ha:H a=some @s):
  s.heap.get? a=some o/\∃vs,KV kvs vs/\s.heap.DictAt (mixKind X.prog X.w) a vs ep:=by
 obtain⟨ho,z,nm,vs,r,o',MR,QB,g1,ex,dat,aZ⟩:=(show ObjOk X.prog X.w H s.heap a @s from I.hok a _ ha)
 have e:=g1.symm.trans ho;cases e;have e2:=dat.symm.trans hd;cases e2;exact⟨ho,vs,r,o,es,ho,ex,hd,aZ⟩
def yh(I:Inv X pr σ H s)(ha:H a=some (.dK kvs))(ho:s.heap.get? a=some o):Inv X pr σ (upd H a @s) s:=by
 have ok:=(show ObjOk X.prog X.w H s.heap a (.dK kvs) from I.hok a _ ha)
 have nt:∀c xs,H c=some (.tup xs)->c≠a:=λc xs e z=>by rw[z,ha]at e;cases e
 have nf:∀c q u,H c=some (.frz q u)->c≠a:=λc q u e z=>by rw[z,ha]at e;cases e
 have nb:∀c ps,H c=some (.tbl ps)->c≠a:=λc ps e z=>by rw[z,ha]at e;cases e
 have no:∀c b,H c=some (.own b)->c≠a:=λc b e z=>by rw[z,ha]at e;cases e
 have S0:Inv X pr σ (upd H a @s) {s with heap:=s.heap,gens:=s.gens,drawn:=s.drawn,toks:=s.toks}:=by
  refine I.step (ch:=[]) (λc hc=>nomatch hc) (λc q _ _ _ e _=>e) (λc q _ _ _ e _=>⟨q.slots,e⟩) (λc q _ e n=>?_) (λc q _ e=>⟨q,e⟩)
   (λc l e=>by rw[au (nt c l e)];exact e) (λc q u e=>by rw[au (nf c q u e)];exact e) (λc ps e=>⟨#[],by rw[au (nb c ps e),e];simp⟩) (λm hm=>hm) (λc ob e=>?_) I.bare
  .have:c≠a:=λz=>by rw[z,ha]at n;cases n
   rw[au this];exact n
  .by_cases ec:c=a
   .subst ec;rw[aG]at e;cases e;exact⟨ho,ok.stay (λ_ _ _ q=>q) (λd q=>by rw[au (no d _ q)];exact q) λd l q=>by rw[au (nt d l q)];exact q⟩
   .rw[au ec]at e;exact(I.hok c ob e).stay (λ_ _ _ q=>q) (λd q=>by rw[au (no d _ q)];exact q) λd l q=>by rw[au (nt d l q)];exact q
 exact S0
end NX
namespace PV
def Ji(f:FX):FI:=λenv=>(f env).bind λp=>match p.1 with
 |(.d,.dct false ks vs)=>.ok ((ks.zip vs).map λz=>D.tup [z.1,z.2],p.2)
 |_=>.bad
section
variable{X:Cx}
noncomputable def Jj(i:Nat):FX:=λenv=>match env[i]? with
 |some (some (.t [.f,.l .f],.tup [a,.lst _]))=>.ok ((.f,.non),env.set i (some (.t [.f,.l .f],.tup [a,.lst []])))
 |_=>.bad
def nL:List D->Res R
 |[.dct false ks _]=>.ok (.l .f,.lst ks)
 |ds=>sv ds
theorem pk:∀{xs:List V}{us:List Wp},xs.length=us.length->(∀(i:Nat) (a:V) (b:Wp),xs[i]?=some a->us[i]?=some b->RelV a b)->Vals xs us
 |[],[],_,_=>.nil
 |x::xs,u::us,hl,h=>.cons (h 0 x u rfl rfl) (pk (by simpa using hl) λi a b ha hb=>h (i+1) a b (by simpa using ha) (by simpa using hb))
 |[],_::_,hl,_=>by simp at hl
 |_::_,[],hl,_=>by simp at hl
theorem nM(hc:X.calm=true):cb X (.type "list") (λvs H Q=>∃p kvs,vs=[.ref p]/\Rd H p (.dK kvs)/\∀l,H l=none->Q (.ref l) (upd H l (.lst (kvs.map λkv=>kV kv.1)))):=by
 intro pr s σ H xs us Q I r h;obtain⟨p,kvs,rfl,hp,q⟩:=h;obtain⟨u,rfl,rx⟩:=dM r;cases rx;obtain⟨z,nm,vs,rr,hD⟩:=oV I.hok hp;obtain⟨ep,Mn⟩:=hD.dictAt;have hl:=rr.length;refine PySem.W.kdl_call (PySem.W.kdl_dict (knd:=mixKind X.prog X.w) (kvs:=vs) (ep:=ep) nm) (I.ok.hd hc) Mn (by rw[<-hl];exact z) λh' tk Ou c' hk hS M7=>?_
 refine⟨.ref s.heap.objs.size,_,I.laid (o:=.lst (kvs.map λkv=>kV kv.1)) (t':=tk) hk (WU _) ⟨by rw[WN];exact z,Ou.toList,c',?_,by rw[Array.toArray_toList];exact hS⟩,rfl,q _ (I.hok.fresh (WU _))⟩;refine pk (by rw[WN,hl];exact(M7.1.symm.trans (W0 (xs:=Ou)).symm)) λi a b ha hb=>?_
 rw[Zk]at hb;obtain⟨k,x,e1,e2⟩:=M7.2 i b hb;rw[W2]at ha;cases Mm:kvs[i]? with
 |none=>rw[Mm]at ha;cases ha
 |some kv=>
  rw[Mm]at ha;obtain⟨k',v'⟩:=kv;obtain⟨u,hu,_⟩:=B2 rr Mm;rw[e1]at hu;cases hu;cases ha;exact Fp e2
theorem yi(hc:X.calm=true):cb X (.type "list") (rC X.K nL):=by
 rintro pr s σ H xs us Q I rx ⟨G,fp,es,vs,ds,r,⟨rel,k⟩,vd,e⟩;unfold nL at e;split at e
 .rename_i ks ws;cases e;obtain⟨v,ev,vt⟩:=lJ vd;have rp:=vt.rep rel.gh;rw[Rep]at rp;obtain⟨p,ys,o,ep,rd,dd,rs⟩:=rp;obtain⟨kvs,eo,ek,ex,hf⟩:=(show ∃kvs:List (Key×V),o=.dK kvs/\ks=kvs.map (λkv=>kD kv.1)/\ys=kvs.map (·.2)/\∀kv∈kvs,qf kv.1 from dd)
  subst ev ep eo;refine nM hc pr s σ H _ us Q I rx ⟨p,kvs,rfl,rd,λq hq=>?_⟩;have rk:Reps X.K G ks (kvs.map λkv=>kV kv.1):=by
   rw[ek];refine Reps.ofAll (by rw[WN,WN]) λi d v hd hv=>?_
   rw[W2]at hd hv;cases Mm:kvs[i]? with
   |none=>rw[Mm]at hd;cases hd
   |some kv=>
    rw[Mm]at hd hv;cases hd;cases hv;exact zJ (hf _ (Xm Mm))
  obtain⟨Kq,Kw⟩:=rel.newL hq rk;exact k _ _ G _ Kw Kq
 .exact vy pr s σ H xs us Q I rx ⟨G,fp,es,vs,ds,r,⟨rel,k⟩,vd,e⟩
end
end PV
namespace NX
section
variable{prog:W1}{w:World}{A:Uf}{E:Wp->WF->Prop}{s:WF}
end
section
variable{prog:W1}{w:World}{A:Uf}{E:Wp->WF->Prop}{s:WF}
end
section
variable{X:Cx}{e:Expr}{ta:TA}{p p2 pos LY:Pos}
end
end NX
namespace PV
section
variable{X:Cx}{e:Expr}{fs:FOs}{p p2 pos LY:Pos}
theorem yj{K:W.Frag}{σ:L2.St}{H:Hp}{Q Q':List V->Hp->Prop}(h:tOs K fs σ H Q)(k:∀vs H,Q vs H->Q' vs H):tOs K fs σ H Q':=by
 obtain⟨G,env,fp,o,env',rel,e,q⟩:=h;exact⟨G,env,fp,o,env',rel,e,λvs H' G' Ks st K2 ok=>k _ _ (q vs H' G' Ks st K2 ok)⟩
end
end PV
namespace NX
section
open PySem.AutoSeq1 (wpAny_loadPart')
end
end NX
namespace PV
section
variable{X:Cx}
end
section
variable{md:Mode}{X:Cx}{scope:Scope}{N:List Str}{tg iter elt:Expr}{ifs:List Expr}{pos:Pos}{fi:FI}{a:FG}{c:FT}{f:FX}{j k0:Nat}
end
section
variable{X:Cx}{x:Str}{p pos:Pos}{e:Expr}{es:List Expr}{f0:FX}{fs:FOs}
end
noncomputable def joinL(sep:List Nat):List (List Nat)->List Nat
 |[]=>[]
 |[x]=>x
 |x::y::r=>x++sep++joinL sep (y::r)
def sJ(sep:List Nat):List D->Res R
 |[.lst ds]=>match dB ds with
  |some ys=>if(ys.map List.length).sum+ys.length*sep.length<=16777216 then .ok (.f,.str (joinL sep ys)) else .bad
  |none=>.bad
 |_=>.bad
theorem vL(sep:List Nat):∀ys:List (List Nat),Str.join (S sep) (ys.map S)=S (joinL sep ys)
 |[]=>rfl
 |[x]=>rfl
 |x::y::r=>by
  have ih:=vL sep (y::r);show S x++S sep++Str.join (S sep) ((y::r).map S)=S (x++sep++joinL sep (y::r));rw[ih];apply Str.ext';simp[Str.cps_append]
def Fq(sep:List Nat):∀ys:List (List Nat),Txt.join (S sep) (ys.map S)=S (joinL sep ys)
 |ys=>by
  show Builtin.Str.glued (S sep) (ys.map S)=_;rw[StrLaws.glued_eq_join];exact vL sep ys
theorem nN(sep:List Nat):∀ys:List (List Nat),(joinL sep ys).length<=(ys.map List.length).sum+ys.length*sep.length
 |[]=>Xw _
 |[x]=>by
  show x.length<=_;rw[Xa,abV];lia
 |x::y::r=>by
  have ih:=nN sep (y::r);show(x++sep++joinL sep (y::r)).length<=_;rw[Xs,Xs,Xa,abV,WX,Nat.add_mul];lia
theorem nO{K:W.Frag}{G:Hp}:∀{ds:List D}{ys:List (List Nat)}{xs:List V}{us:List Wp},dB ds=some ys->Reps K G ds xs->Vals xs us->StrsAre us (ys.map S)
 |[],ys,xs,us,e,r,v=>by
  cases e;rw[Reps]at r;subst r;cases v;exact .nil
 | .str b::ds,ys,xs,us,e,r,v=>by
  rw[Reps]at r;obtain⟨y,zs,ex,r1,r2⟩:=r;subst ex;cases v with
  |cons h t=>
   rw[dB,Xi]at e;obtain⟨ws,hw,rfl⟩:=e;rw[Rep]at r1;obtain⟨r1,_⟩:=r1;subst r1;obtain⟨tk,rfl⟩:=h;exact .cons _ tk (nO hw r2 t)
 | .non::_,_,_,_,e,_,_ | .bl _::_,_,_,_,e,_,_ | .int _::_,_,_,_,e,_,_ | .tup _::_,_,_,_,e,_,_ | .lst _::_,_,_,_,e,_,_ | .dct _ _ _::_,_,_,_,e,_,_=>by cases e
section
variable{X:Cx}
theorem B3:Qf X "str.join" (rMtS X.K sJ):=by
 rintro pr s σ H x xs v us Q I rx rv ⟨G,fp,es,vs,l,ds,r,⟨rel,k⟩,ex,hz,vd,e⟩;unfold sJ at e;split at e
 .rename_i ds;split at e
  .rename_i ys UX;split at e
   .rename_i hb;cases e;subst ex;obtain⟨w',ew,p,zs,ep,sq,rs⟩:=lJ vd;subst ew ep;obtain⟨t,rfl⟩:=rx;obtain⟨u,rfl,ru⟩:=dM rv;cases ru;obtain⟨Kt,r',pl,O0⟩:=I.list sq;refine join_list pl.isList (ys:=ys.map S) (nO UX rs r') ?_ λt' kk=>?_
    .rw[Xq,WN];have e1:((λx:Str=>x.length)∘S)=List.length:=by funext z;exact mS z
     rw[e1,mS];exact hb
    .rw[Fq];refine⟨.str (S (joinL l ys)),H,I.tok _,⟨_,rfl⟩,k _ H G fp .refl (rel.push ?_)⟩;rw[Rep];have:=nN l ys;exact⟨rfl,by rw[line_eq];lia⟩
   .cases e
  .cases e
 .cases e
end
end PV
namespace NX
section
variable{prog:W1}{w:World}{A:Uf}{R:Result->WF->Prop}{it:WP}{fp wr:List WP}{n:Nat}{Pv:Nat->Wp->Prop}{Sx:Nat->UF->Prop}{kw:List (Str×Wp)}
end
section
variable{X:Cx}{e k:Expr}{te tk:TE}{p pos NC:Pos}
end
end NX
namespace PV
variable{X:Cx}
section
end
variable{e:Expr}{es:List Expr}{fa:FO}
section
def Dv(g:List D->List D->Res R)(fa:FO)(fs:FOs):FX:=λenv=>(fa env).bind λp=>(LK p.2 p.1).bind λa=>match a with
 | .lst _=>(fs p.2).bind λq=>(LK q.2 p.1).bind λa2=>match a2 with
  | .lst l=>(mC q.2 q.1).bind λds=>(g l ds).bind λr=>.ok (r,q.2)
  |_=>.bad
 |_=>.bad
inductive rMtL(K:W.Frag)(g:List D->List D->Res R)(x:V)(xs:List V)(H:Hp)(Q:VK):Prop
 |mk:∀G fp es vs l ds r,Goes K H G fp es vs r Q->Vw K G H (.lst l) x->Qq K G H ds xs->g l ds=.ok r->rMtL K g x xs H Q
theorem Fs{g:List D->List D->Res R}{id:String}{name:Str}{o:Expr}{fs:FOs}{apos Kx:Pos}(slot:Slot "list" name id)(OT:typeOf (.builtin id)=pure (.type "method_descriptor"))(hm:Qf X id (rMtL X.K g))(ho:QO X o fa)(ha:QOs X (e::es) fs)
  (Li:attributeBase o name X.env (eval o X.env)=eval o X.env:=by rfl)
  (Mg:@r=true:=by rfl)
  (Ln:(apos.endLine==Kx.line)=true:=by rfl) (hs:starEach (e::es) X.env=(false,eval e X.env)::starEach es X.env:=by rfl) (Lo:(backTo Kx (starEach es X.env)).any (·.1)=false:=by rfl):
  QE X (.Call (.Attribute o name apos) (e::es) [] Kx) (Dv g fa fs):=by
 refine aO (AK aaP slot OT hm ho ha Li Mg Ln hs Lo) λσ H Q KQ=>?_
 obtain⟨G,env,fp,r,env',rel,e,k⟩:=KQ;obtain⟨⟨oa,Ko⟩,e1,e⟩:=ag e;obtain⟨da,O6,e⟩:=ag e;dsimp only at e;split at e
 .obtain⟨⟨os,KA⟩,e2,e⟩:=ag e;obtain⟨d2,hd2,e⟩:=ag e;dsimp only at e;split at e
  .obtain⟨ds,e3,e⟩:=ag e;obtain⟨r',e4,e⟩:=ag e;cases e;refine⟨G,env,fp,oa,Ko,rel,e1,λv H1 G1 KR KJ Kr Lx=>?_⟩;obtain⟨p,xs,ev,sq,_⟩:=Kr.vw Lx O6;subst ev;exact⟨.inl ⟨rfl,xs,sq⟩,G1,Ko,KR,os,_,Kr,e2,λvs H2 G2 Lc Kw Kq NH=>⟨G2,Lc,_,σ,_,ds,r,⟨Kq,λv H' G' Ks st K2=>k v H' G' Ks (KJ.trans (Kw.trans st)) K2⟩,Kq.vw (Lx.mono Kw.gg) hd2,Kq.vws NH e3,e4⟩⟩
  .cases e
 .cases e
open PySem.SeqAt in
theorem B4(I:Inv X pr σ H s)(h:plainD 40 a=true)(hu:A.units+64<cLine)(r:Rep X.K H a x)(rx:RelV x v):
  ∀(ds:List D) (xs:List V) (us:List Wp),plainDs 40 ds=true->Reps X.K H ds xs->Vals xs us->∃e:Wp->Bool,(∀(j:Nat) (d:D) (u:Wp),ds[j]?=some d->us[j]?=some u->e u=Kv d a)/\∀u∈us,EqAt A s u v (e u):=by
 classical
 intro ds xs us hp rs vl;have key:∀(j:Nat) (d:D) (u:Wp),ds[j]?=some d->us[j]?=some u->decide (∃(j:Nat) (d:D),ds[j]?=some d/\us[j]?=some u/\Kv d a=true)=Kv d a:=by
  intro j d u hd hj;obtain⟨w1,O9,Pa⟩:=rs.get hd;obtain⟨u1,Nq,Pb⟩:=vl.get O9;rw[hj]at Nq;cases Nq;rw[Xo,W3];constructor
  .rintro⟨j2,d2,k1,k2,k3⟩;obtain⟨w2,Oj,S3⟩:=rs.get k1;obtain⟨u2,Oh,S4⟩:=vl.get Oj;rw[k2]at Oh;cases Oh;have:=Pb.inj S4;subst this;rw[jH I 40 _ _ _ (plainDs_mem hp hd) (plainDs_mem hp k1) Pa S3];exact k3
  .intro k3;exact⟨j,_,hd,hj,k3⟩
 refine⟨λu=>decide (∃(j:Nat) (d:D),ds[j]?=some d/\us[j]?=some u/\Kv d a=true),key,λu O3=>?_⟩;obtain⟨j,hj⟩:=X3.mp O3;have l1:=vl.length;have l2:=rs.length;have Vj:=(WS.mp hj).1;have g1:ds[j]?=some (ds[j]'(by lia)):=WM _;obtain⟨w1,O9,Pa⟩:=rs.get g1;obtain⟨u1,Nq,Pb⟩:=vl.get O9;rw[hj]at Nq;cases Nq;have z:=EM I _ _ w1 x u v A 40 (plainDs_mem hp g1) h @a Pa r Pb rx;show EqAt A s u v (decide (∃(j:Nat) (d:D),ds[j]?=some d/\us[j]?=some u/\Kv d a=true));rw[key j _ u g1 hj];exact z
def ja(l:List D):List D->Res R
 |[a]=>if plainD 40 a&&plainDs 40 l&&l.any (λd=>Kv d a) then .ok (.f,.int (l.findIdx (λd=>Kv d a):Nat)) else .bad
 |_=>.bad
theorem pq(hu:X.A.units+65<cLine):Qf X "list.index" (rMtL X.K ja):=by
 rintro pr s σ H x xs v us Q I rx rv ⟨G,fp,es,vs,l,ds,r,⟨rel,k⟩,vx,vd,e⟩;unfold ja at e;split at e
 .rename_i a;split at e
  .rename_i hp;rw[WW,WW]at hp;cases e;obtain⟨p,ys,ev,sq,rs⟩:=vx;subst ev;cases rx;obtain⟨w',ew,va⟩:=lJ vd;subst ew;obtain⟨u,rfl,ru⟩:=dM rv;obtain⟨Kt,vl,pl,hz⟩:=I.list sq;obtain⟨⟨cls,dd,data,sl⟩,ho,hc,n,hd⟩:=id pl.isList;simp only at hc hd;subst hc hd;obtain⟨ef,Wl,SN⟩:=B4 (A:=X.A.in1) I hp.1.1 (by first|lia|(simp![Around.in1_units];lia)) (va.rep rel.gh) ru l ys Kt hp.1.2 (Reps.mono rel.gh rs) vl;have K4:l.findIdx (λd=>Kv d a)<l.length:=List.findIdx_lt_length.mpr (by rw[<-XM];exact hp.2);have l1:=vl.length;have l2:=rs.length;have hlt2:l.findIdx (λd=>Kv d a)<Kt.toArray.size:=by rw[WZ];lia
   have hb:(l.findIdx (λd=>Kv d a):Int)<2 ^ 63-1:=by
    rw[XR]at hz;lia
   refine PySem.call_meets aaR ⟨_,ho,rfl⟩ PySem.F.entry_list_index (PySem.F.args_list_index_2 _ _) (PySem.SeqAt.list_indexAt p Kt.toArray n _ _ u ef (l.findIdx λd=>Kv d a) hlt2 hb ?_ ?_) ⟨ho,λy hy=>?_,⟨.int (l.findIdx (λd=>Kv d a):Nat),H,I.tok _,⟨_,rfl⟩,k _ H G fp .refl (rel.push (aW _))⟩⟩
   .rw[Wl _ _ _ (WM K4) (by rw[List.getElem_toArray];exact WM _)];exact aaa (w:=K4)
   .intro m hm hlt3;rw[Wl m (l[m]'(by lia)) _ (WM _) (by rw[List.getElem_toArray];exact WM _)];exact List.not_of_lt_findIdx hlt3
   .exact SN y (by simpa using hy)
  .cases e
 .cases e
end
section
variable{K:W.Frag}{G G' H H':Hp}{es:PV.Env}{vs:L2.St}{fp:List WP}
theorem Rel.lendM2(q:Rel K G H es vs fp)(a:List WP)(ha:∀z∈a,z∉fp)(hga:∀z∈a,G z=none):∃G1,Same G G1/\Same G1 H/\(∀z∈a,G1 z=none)/\(∀(i:Nat) (r:R) (v:V),es[i]?=some (some r)->vs[i]?=some (some v)->Rep K G1 r.2 v)/\
  ∀(H2 G2:Hp) (Lc:List WP) (rs:PV.Env) (ws:L2.St),Step G1 H a G2 H2 Lc->Rel K G2 H2 rs ws Lc->((∀r,some r∈rs->ay r.1 r.2=true)->∃G3 LJ,Step G H (a++fp) G3 H2 LJ/\Rel K G3 H2 (rs++es) (ws++vs) LJ)/\∃G3 LJ,Step G H (a++fp) G3 H2 LJ/\Rel K G3 H2 (rs++es.map PV.frz) (ws++vs) LJ:=by
 have hg:Same G (λp=>if p∈fp then H p else G p):=λp u e=>by
  show(if p∈fp then H p else G p)=some u;by_cases hp:p∈fp
  .rw[WV hp];exact q.gh p u e
  .rw[W6 hp];exact e
 have hh:Same (λp=>if p∈fp then H p else G p) H:=λp u e=>by
  have e:(if p∈fp then H p else G p)=some u:=e;by_cases hp:p∈fp
  .rw[WV hp]at e;exact e
  .rw[W6 hp]at e;exact q.gh p u e
 have hk:∀p∈fp,∀u,H p=some u->(λp=>if p∈fp then H p else G p) p=some u:=λp hp u e=>by
  show(if p∈fp then H p else G p)=some u;rw[WV hp];exact e
 refine⟨λp=>if p∈fp then H p else G p,hg,hh,λz hz=>?_,λi r v e ev=>q.rep.rep hg hk e ev,λH2 G2 Lc rs ws st k=>⟨λcl=>?_,?_⟩⟩
 .show(if z∈fp then H z else G z)=none;rw[W6 (ha z hz)];exact hga z hz
 .have kept:∀p∈fp,H2 p=H p:=λp hp=>by
   obtain⟨u,hu⟩:=q.rep.live p hp;rw[hu];exact st.keep p u hu λz=>ha p z hp
  have apart:∀p∈Lc,p∉fp:=λp hp hf=>by
   rcases st.fpn p hp with z|z
   .exact ha p z hf
   .obtain⟨u,hu⟩:=q.rep.live p hf;rw[z]at hu;cases hu
  have g3:Same G (λp=>if p∈fp then none else G2 p):=λp u e=>by
   show(if p∈fp then none else G2 p)=some u;rw[W6 (λz=>by rw[q.gn p z]at e;cases e)];exact st.gg p u (hg p u e)
  refine⟨λp=>if p∈fp then none else G2 p,Lc++fp,⟨g3,λp u e n=>?_,λp hp=>?_,λp u e=>?_,st.there⟩,⟨RepE.append (RepE.clean (λp u t e=>?_) cl k.rep) (q.rep.step g3 kept),?_,λp hp=>?_,λp u e=>?_⟩⟩
  .exact st.keep p u e λz=>n (WR _ z)
  .rcases Xv.mp hp with hp|hp
   .exact(st.fpn p hp).imp_left (WR _)
   .exact .inl (WQ _ hp)
  .have e:(if p∈fp then none else G2 p)=some u:=e;by_cases hp:p∈fp
   .rw[WV hp]at e;cases e
   .rw[W6 hp]at e;rcases st.gnew p u e with z|z|z
    .have z:(if p∈fp then H p else G p)=some u:=z;rw[W6 hp]at z;exact .inl z
    .exact .inr (.inl (WR _ z))
    .exact .inr (.inr z)
  .show(if p∈fp then none else G2 p)=some u;by_cases hp:p∈fp
   .exfalso;obtain⟨u',hu,hm⟩:=q.rep.mut p hp;have:=st.gg p u' (hk p hp u' hu);rw[e]at this;cases this;cases u with
    |lst _=>cases t
    |dK _=>cases t
    |dT _=>cases t
    |_=>cases hm
   .rw[W6 hp];exact e
  .rw[Xl];exact⟨k.nd,q.nd,λp hp z hz e=>apart p hp (e▸hz)⟩
  .show(if p∈fp then none else G2 p)=none;by_cases hf:p∈fp
   .rw[WV hf]
   .rw[W6 hf];rcases Xv.mp hp with hp|hp
    .exact k.gn p hp
    .exact absurd hp hf
  .have e:(if p∈fp then none else G2 p)=some u:=e;by_cases hp:p∈fp
   .rw[WV hp]at e;cases e
   .rw[W6 hp]at e;exact k.gh p u e
 .have Wm:=hg.trans st.gg;have rf:RepE K G2 H2 (es.map PV.frz) vs []:=q.rep.frz Wm λp hp u e=>st.gg p u (hk p hp u e)
  have ra:=RepE.append k.rep rf;rw[Xe]at ra;refine⟨G2,Lc,⟨Wm,λp u e n=>st.keep p u e λz=>n (WR _ z),λp hp=>(st.fpn p hp).imp_left (WR _),λp u e=>?_,st.there⟩,⟨ra,k.nd,k.gn,k.gh⟩⟩;rcases st.gnew p u e with z|z|z
  .have z:(if p∈fp then H p else G p)=some u:=z;by_cases hp:p∈fp
   .exact .inr (.inl (WQ _ hp))
   .rw[W6 hp]at z;exact .inl z
  .exact .inr (.inl (WR _ z))
  .exact .inr (.inr z)
end
def eFunW(c:O)(F:WP->List D->Res R)(i:Nat)(fs:FOs):FX:=λenv=>(fs env).bind λp=>match p.1 with
 | .var j::os=>if j=i then(match p.2[i]? with
  |some (some (ow,d0))=>if nK c ow then(fZ (p.2.set i none) os).bind λds=>(iH F c d0 ds).bind λx=>if ay x.1.1 x.1.2&&ay c x.2 then .ok (x.1,(p.2.set i none).set i (some (ow,x.2))) else .ok (x.1,((p.2.set i none).map frz).set i (some (ow,x.2))) else .bad
  |_=>.bad) else .bad
 |_=>.bad
section
variable{x:Str}{p pos:Pos}{f0:FX}{fs:FOs}
theorem B5{k:Nat}(C:Ct X.prog X.w X.K X.mg X.base x k (spM X.K c F))(hr:Room k X.A)(hg:Gl X x)(ha:QOs X (e::es) fs)(Lw:@o=false:=by decide)(he:starEach (e::es) X.env=(false,eval e X.env)::starEach es X.env:=by rfl)(Lj:(backTo pos (starEach es X.env)).any (·.1)=false:=by rfl):QE X (.Call (.Name x p) (e::es) [] pos) (eFunW c F i fs):=
 aO (AO C hr hg ha Lw he Lj) λσ H Q Kz=>by
  obtain⟨G,env,fp,r,env',rel,e,k⟩:=Kz;obtain⟨⟨os,e1⟩,ha,e⟩:=ag e;dsimp only at e;split at e
  .rename_i j T6;split at e
   .rename_i hj;subst hj;split at e
    .rename_i ow d0 hi;split at e
     .rename_i how;obtain⟨ds,hd,e⟩:=ag e;obtain⟨z,hz,e⟩:=ag e;refine⟨G,env,fp,_,e1,rel,ha,λvs H1 G1 KR KJ Kr Lx=>?_⟩;show spM X.K c F (vs++[]) H1 Q _;rw[Xe];obtain⟨y,ys,ey,k1,k2⟩:=Lx;obtain⟨v0,a,b,ev,r0,r2,pm⟩:=Kr.rep.take hi;have k1:σ[j]?=some (some y):=k1;rw[k1]at ev;cases ev;obtain⟨⟨q,hq⟩,rc,back⟩:=zN how r0;subst hq;have nd:=Xl.mp (pm.nodup_iff.mp Kr.nd);have Q9:Rel X.K G1 H1 (e1.set j none) σ b:=⟨r2,nd.2.1,λw hw=>Kr.gn w (pm.mem_iff.mpr (WQ _ hw)),Kr.gh⟩
      obtain⟨G2,Om,O7,Vn,Mh,L5⟩:=Q9.lendM2 a (λw hw hb=>nd.2.2 w hw w hb rfl) (λw hw=>Kr.gn w (pm.mem_iff.mpr (WR _ hw)));refine⟨G2,q,ys,d0,ds,_,a,O7,ey,rc.step Om (λ_ _=>rfl),nd.1,Vn,eS Om Mh k2 hd,qG hz q,λv H' G' Ks st rt=>?_⟩;obtain⟨o',d',p',c',Vm,er,rl⟩:=rt;cases er;have fin:∀(ee:PV.Env),ee.length=e1.length->(∃G3 LJ,Step G1 H1 (a++b) G3 H' LJ/\Rel X.K G3 H' (some z.1::some (.pin q c,z.2)::ee) (some v::some (.ref q)::σ) LJ)->(z.1,ee.set j (some (ow,z.2)))=(r,env')->Q v H':=by
       rintro ee Te ⟨G3,LJ,K3,K0⟩ Vo;cases Vo;obtain⟨a1,b1,ef,ro,Ll,comb⟩:=Rel.frame K0;have Rb:Rel X.K G3 H' (some (ow,z.2)::ee) (some (.ref q)::σ) b1:=by
        obtain⟨y2,ys2,Rc,v2,a2,b2,Vp,Vq,Tf,Vr⟩:=Ll.rep;cases Rc;cases Vp;rw[RepO]at Tf;exact⟨⟨_,_,rfl,_,a2,b2,rfl,Vq,back _ _ _ _ Tf.2,Vr⟩,Ll.nd,Ll.gn,Ll.gh⟩
       obtain⟨fq,Rf,Vs⟩:=Rb.back (i:=j) (by rw[Te];exact(WS.mp hi).1) k1;obtain⟨Rg,Tg⟩:=comb G3 H' _ _ fq Vs Rf;rw[<-ef]at Tg;exact k v H' G3 _ (KJ.trans ((K3.perm (λw=>pm.mem_iff.symm) (λw hw=>hw)).trans Tg)) Rg
      obtain⟨b1,b2⟩:=L5 H' G' Ks _ _ st rl;split at e
      .rename_i Ma;rw[WW]at Ma;have e:=Res.ok.inj e;refine fin (e1.set j none) (by rw[XB]) (b1 λw hw=>?_) e;rcases WY.mp hw with hw|hw
       .cases hw;exact Ma.1
       .rw[W5]at hw;cases hw;simp![ay];exact Ma.2
      .have e:=Res.ok.inj e;exact fin ((e1.set j none).map frz) (by rw[WN,XB]) b2 e
     .cases e
    .cases e
   .cases e
  .cases e
end
def SlR3(X:Cx)(r:V->Option Int->Option Int->Option Int->Hp->VK->Prop):Prop:=
 ∀(pr:List (WP×Obj)) (s:WF) (σ:L2.St) (H:Hp) (x:V) (v vl vu vt:Wp) (lo hi st:Option Int) (sl:WP) (Q:VK),Inv X pr σ H s->RelV x v->s.heap.IsSliceOf sl vl vu vt->IsPart vl lo->IsPart vu hi->IsPart vt st->r x lo hi st H Q->
  ∃T id,typeLookup (.type T) "__getitem__" = pure (some (.builtin id))/\s.TypeIs v T/\wpAny @c X.A (getItem v (.ref sl)) (EP X pr σ Q) X.xe s
noncomputable def JY(r:V->Option Int->Option Int->Option Int->Hp->VK->Prop)(te:TE)(tl th ts:TO):TE:=λσ H Q=>te σ H λx H1=>tl σ H1 λl H2=>th σ H2 λu H3=>ts σ H3 λt H4=>r x l u t H4 Q
variable{se:Expr}{p2:Pos}
theorem vM{lo:Option Expr}{pos:Pos}(hr:SlR3 X r)(he:PE X e te)(hl:PO X lo tl)(hu:PO X hi th)(hs:PO X (some se) ts):PE X (.Subscript e (.Slice lo hi (some se) p2) pos) (JY r te tl th ts):=by
 intro pr s σ H Q I h;refine Subscript_ (KN (he pr s σ H _ I h) λv s1 KQ=>?_);obtain⟨x,H1,I1,r1,q1⟩:=KQ;refine wpAny_Slice (KN (hl pr s1 σ H1 _ I1 q1) λvl s2 ⟨l,H2,I2,pl,q2⟩=>KN (hu pr s2 σ H2 _ I2 q2) λvu s3 ⟨u,H3,I3,pu,q3⟩=>KN (hs pr s3 σ H3 _ I3 q3) λvt s4 KQ=>?_);obtain⟨t,H4,I4,pt,q4⟩:=KQ;have I5:Inv X pr σ H4 {s4 with heap:=s4.heap.push {cls:=.type "slice",data:=.fields #[vl,vu,vt]}}:=I4.kept (t':=s4.toks) λb ob q=>WL _ q
 obtain⟨T,id,hT,ht,hg⟩:=hr pr {s4 with heap:=s4.heap.push {cls:=.type "slice",data:=.fields #[vl,vu,vt]}} σ H4 x v vl vu vt l u t s4.heap.objs.size Q I5 r1 (Heap.IsSliceOf.new ..) pl pu pt q4;show wpAny @c X.A (subscriptTail e (.Slice lo hi (some se) p2) v (.ref s4.heap.objs.size)) (EP X pr σ Q) X.xe {s4 with heap:=s4.heap.push {cls:=.type "slice",data:=.fields #[vl,vu,vt]}};exact tail_any (ops:=[v,.ref s4.heap.objs.size]) ht hT hg (by with_unfolding_all rfl)
noncomputable def eX{α:Type}(xs:List α)(lo hi:Option Int)(c:Int):List α:=
 (sliceRange (sliceBounds lo hi (some c) xs.length).1 (sliceBounds lo hi (some c) xs.length).2.1 (sliceBounds lo hi (some c) xs.length).2.2).filterMap (λi=>xs[i]?)
theorem nP{K:W.Frag}{G:Hp}{ds:List D}{xs:List V}(r:Reps K G ds xs):∀ix:List Nat,Reps K G (ix.filterMap λi=>ds[i]?) (ix.filterMap λi=>xs[i]?)
 |[]=>.nil
 |i::ix=>by
  have ih:=nP r ix;cases e:ds[i]? with
  |none=>
   have e2:xs[i]?=none:=by
    rw[Zw]at e |-;rw[r.length];exact e
   rw[Yi e,Yi e2];exact ih
  |some d=>
   obtain⟨v,e2,rv⟩:=r.get e;rw[XZ e,XZ e2];exact .cons rv ih
theorem vals_pick(r:Vals xs us):∀ix:List Nat,Vals (ix.filterMap λi=>xs[i]?) (ix.filterMap λi=>us[i]?)
 |[]=>.nil
 |i::ix=>by
  have ih:=vals_pick r ix;cases e:xs[i]? with
  |none=>
   rw[Yi e,Yi (r.none_of e)];exact ih
  |some d=>
   obtain⟨v,e2,rv⟩:=r.get e;rw[XZ e,XZ e2];exact .cons rv ih
theorem qI(Kt:List Wp)(lo hi:Option Int)(c:Int):slicePick Kt.toArray lo hi (some c)=(eX Kt lo hi c).toArray:=by
 unfold slicePick eX;simp![WZ,abj]
theorem B6(Kt:List Wp)(lo hi:Option Int)(c:Int):(eX Kt lo hi c).length<=Kt.length:=by
 have:=slicePick_size_le Kt.toArray lo hi (some c);rw[qI]at this;simpa using this
def Ft(k:D)(lo hi st:Option Int):Res R:=match k,st with
 | .lst ds,some c=>if c≠0 then .ok (.l .f,.lst (eX ds lo hi c)) else .bad
 |_,_=>.bad
def Hl(fa:FO)(lo hi st:FP):FX:=λenv=>(fa env).bind λp=>(lo p.2).bind λq=>(hi q.2).bind λt=>(st t.2).bind λu=>(LK u.2 p.1).bind λd=>(Ft d q.1 t.1 u.1).bind λr=>.ok (r,u.2)
section
variable{pos:Pos}
inductive rSl3(K:W.Frag)(x:V)(lo:Option Int)(hi:Option Int)(st:Option Int)(H:Hp)(Q:VK):Prop
 |mk:∀G fp es vs d r,Goes K H G fp es vs r Q->Vw K G H d x->Ft d lo hi st=.ok r->rSl3 K x lo hi st H Q
theorem Fv:SlR3 X (rSl3 X.K):=by
 rintro pr s σ H x v vl vu vt lo hi st sl Q I rx hs pl pu pt ⟨G,fp,es,vs,d,r,⟨rel,k⟩,vd,e⟩;unfold Ft at e;split at e
 .rename_i ds c;split at e
  .rename_i hc;cases e;obtain⟨p,xs,ev,sq,rs⟩:=vd;subst ev;cases rx;obtain⟨Kt,r,ht,hz⟩:=I.list sq;have hlen:=r.length;refine⟨"list",_,slot_list_getitem.lookup,ht.isList.typeIs,?_⟩;refine wpAny_getItem_list_slice ht.isList hs pl pu pt (λh=>hc (Xj h)) ?_ (by rw[WZ];lia);rw[qI];have r2:Vals (eX xs lo hi c) (eX Kt lo hi c):=by
    unfold eX;rw[hlen];exact vals_pick r _
   have rs2:Reps X.K G (eX ds lo hi c) (eX xs lo hi c):=by
    unfold eX;rw[rs.length];exact nP rs _
   have O0:(eX xs lo hi c).length<=sizeLine:=by
    rw[r2.length];have:=B6 Kt lo hi c;lia
   have hq:=I.hok.fresh (WU s.heap.objs.size);obtain⟨Kq,Kw⟩:=rel.newL hq rs2;refine⟨.ref s.heap.objs.size,_,I.laid (t':=s.toks) (o:=.lst (eX xs lo hi c)) (λb ob q=>WL _ q) (WU _) ?_,rfl,k _ _ G _ Kw Kq⟩;exact⟨O0,_,0,r2,W7 _ rfl⟩
  .cases e
 .cases e
theorem Fw{lo:Option Expr}{fs:FP}(he:QO X e fa)(hl:QP X lo fl)(hh:QP X hi fh)(hs:QP X (some se) fs):QE X (.Subscript e (.Slice lo hi (some se) p2) pos) (Hl fa fl fh fs):=
 aO (vM Fv he hl hh hs) λσ H Q Kz=>by
  obtain⟨G,env,fp,r,env',rel,e,k⟩:=Kz;obtain⟨⟨o,Ko⟩,e1,e⟩:=ag e;obtain⟨⟨i,KA⟩,e2,e⟩:=ag e;obtain⟨⟨j,Lf⟩,e3,e⟩:=ag e;obtain⟨⟨t,Th⟩,e4,e⟩:=ag e;obtain⟨d,e5,e⟩:=ag e;obtain⟨r',e6,e⟩:=ag e;cases e;exact⟨G,env,fp,o,Ko,rel,e1,λv H1 G1 KR KJ Kr Lx=>⟨G1,Ko,KR,i,KA,Kr,e2,λH2 G2 Lc Kw Kq=>⟨G2,KA,Lc,j,Lf,Kq,e3,λH3 G3 LJ K3 K0=>⟨G3,Lf,LJ,t,Th,K0,e4,λH4 G4 Q4 Lr Ld=>
   ⟨G4,Q4,Th,σ,d,r,⟨Ld,λv H' G' Ks st K2=>k v H' G' Ks (KJ.trans (Kw.trans (K3.trans (Lr.trans st)))) K2⟩,Ld.vw (((Lx.mono Kw.gg).mono K3.gg).mono Lr.gg) e5,e6⟩⟩⟩⟩⟩
end
section
def yk(fa fb fc:FX):FX:=λenv=>(fa env).bind λp=>(fb p.2).bind λq=>(fc q.2).bind λt=>.ok ((.t [.f,q.1.1,t.1.1],.tup [p.1.2,q.1.2,t.1.2]),t.2)
theorem B7{fa:FX}{x1}{pos:Pos}(ha:QE X a fa)(hb:QE X b fb)(hc:QE X c fc)(h1:starEach [a,b,c] X.env=(false,eval a X.env)::starEach [b,c] X.env:=by rfl)(h2:starEach [b,c] X.env=(false,eval b X.env)::starEach [c] X.env:=by rfl)(h3:starEach [c] X.env=(false,eval c X.env)::starEach [] X.env:=by rfl):
  QE X (.Tuple [a,b,c] x1 pos) (yk fa fb fc):=
 aO (uc (cc ha (cc hb (cc hc gM h3) h2) h1)) λσ H Q Kz=>by
  obtain⟨G,env,fp,r,env',rel,e,k⟩:=Kz;obtain⟨⟨r1,Ko⟩,e1,e⟩:=ag e;obtain⟨⟨⟨o2,d2⟩,KA⟩,e2,e⟩:=ag e;obtain⟨⟨⟨o3,d3⟩,Lf⟩,e3,e⟩:=ag e;cases e;refine⟨G,env,fp,r1,Ko,rel,e1,λv H1 G1 KR KJ Kr=>?_⟩;obtain⟨G2,b,rv,Kq,Kw⟩:=Kr.freeze;refine⟨G2,Ko,b,(o2,d2),KA,Kq,e2,λv2 H3 G3 LJ K3 K0=>?_⟩;obtain⟨a3,b3,ef3,ro3,Ti,bk3⟩:=K0.frame;refine⟨G3,KA,b3,(o3,d3),Lf,Ti,e3,λv3 H4 G4 Q4 Lr Ld=>⟨by rw[line_eq];exact(by decide:3<=16777216),λp hp=>?_⟩⟩;obtain⟨Ot,Pe⟩:=bk3 G4 H4 _ _ Q4 Lr Ld;rw[<-ef3]at Pe;obtain⟨Lz,L8⟩:=Ot.newF (u:=.tup [v,v2,v3]) hp;refine k _ _ _ _ (KJ.trans (Kw.trans (K3.trans (Pe.trans L8)))) ?_;obtain⟨y,ys,ey,v',a',b',Rc,ef,q1,q2⟩:=Lz.rep;cases ey;cases Rc;obtain⟨y,ys,ey,v'',Tj,b'',Rc,ef',q3,q4⟩:=q2;cases ey;cases Rc;subst ef';refine⟨⟨some (.ref p),σ,rfl,.ref p,a'++Tj,b'',rfl,by rw[ef,XI],?_,q4⟩,Lz.nd,Lz.gn,Lz.gh⟩;show RepO X.K _ _ (.t [.f,o2,o3]) (.tup [r1.2,d2,d3]) (.ref p) (a'++Tj);rw[RepO];refine⟨p,[v,v2,v3],rfl,aG,?_⟩;rw[RepT];refine⟨v,[v2,v3],[],a'++Tj,rfl,rfl,eR.mpr ⟨Rep.mono (K3.gg.trans (Pe.gg.trans L8.gg)) rv,rfl⟩,?_⟩;rw[RepT];refine⟨v2,[v3],a',Tj,rfl,rfl,q1,?_⟩;rw[RepT];refine⟨v3,[],Tj,[],rfl,by rw[Xe],q3,?_⟩;rw[RepT];exact⟨rfl,rfl⟩
end
section
variable{scope:Scope}{N:List Str}{tg iter elt:Expr}{ifs:List Expr}{pos:Pos}{fi:FI}{a:FG}{c:FT}{f:FX}
end
end PV
namespace L2
section
variable{X:Cx}{tg:Expr}
end
end L2
namespace PV
variable{X:Cx}
section
variable{tg:Expr}
end
abbrev FB:=PV.Env->Bool
noncomputable def Kj(g:FS)(x:FB):FB:=λenv=>match g env with
 | .ok (.nx e)=>x e
 |_=>false
noncomputable def xIf(c:FT)(x:FB):FB:=λenv=>match c env with
 | .ok (true,e)=>x e
 |_=>false
noncomputable def nQ(fs:FOs):FB:=λenv=>match fs env with
 | .ok (os,_)=>decide (os.length<=3)
 |_=>false
inductive tX(K:W.Frag)(x:FB)(Ww:Hp->Prop)(σ:L2.St)(H:Hp):Prop
 |mk:∀G env fp,Rel K G H env σ fp->x env=true->(∀H' G' Ks,Step G H fp G' H' Ks->Rel K G' H' [] [] []->Ww H')->tX K x Ww σ H
def QX(X:Cx)(st:List Stmt)(x:FB)(Ww:Hp->Prop):Prop:=PX X st (tX X.K x Ww)
variable{st:Stmt}{e:Expr}{es:List Expr}{C:WP}
section
variable{Oo:List Stmt}{g:FS}{x:FB}{Ww:Hp->Prop}{c:FT}{pos np Kx:Pos}{fs:FOs}{y:Str}
theorem Fx(hc:QT X.nox ct c)(ha:QX X a x Ww):QX X (.If ct a b pos::Oo) (xIf c x) Ww:=pZ (HY (PT.nox hc) ha) λσ H Kz=>by
 obtain⟨G,env,fp,rel,e,k⟩:=Kz;unfold xIf at e;match q:c env,e with
 | .ok (true,Ko),e=>exact⟨G,env,fp,true,Ko,rel,q,λH1 G1 KR KJ Kr=>⟨rfl,G1,Ko,KR,Kr,e,λH' G' Ks st r=>k H' G' Ks (KJ.trans st) r⟩⟩
theorem qJ{K:W.Frag}{G:Hp}{σ:L2.St}:∀{os:List Opd}{vs:List V},jB K G σ os vs->vs.length=os.length
 |[],_,r=>by have r:_=[]:=r;rw[r];rfl
 |_::_,_,⟨y,ys,e,_,q⟩=>by rw[e,WX,WX,qJ q]
theorem qK(O:XCl X.mg X.base y C)(acc:Acc X C Ww)(hc:X.calm=true)(hg:Gl X y)(ha:QOs X.nox (e::es) fs)(Lw:(y==("__debug__" : Str))=false:=by decide)
  (he:starEach (e::es) X.env=(false,eval e X.env)::starEach es X.env:=by rfl) (Lj:(backTo Kx (starEach es X.env)).any (·.1)=false:=by rfl):
  QX X (.Raise (some (.Call (.Name y np) (e::es) [] Kx)) none pos::Oo) (nQ fs) Ww:=pZ (xF O acc hc hg (Ei ha) Lw he Lj) λσ H Kz=>by
 obtain⟨G,env,fp,rel,e,k⟩:=Kz;unfold nQ at e;match q:fs env,e with
 | .ok (os,Ko),e=>
  refine⟨G,env,fp,os,Ko,rel,q,λvs H1 G1 KR KJ Kr Lx=>⟨?_,k H1 G1 KR KJ Kr.nilF⟩⟩;rw[qJ Lx];have e:decide (os.length<=3)=true:=e;have:=Yu e;rw[line_eq];lia
end
inductive spX(K:W.Frag)(C:WP)(F:List D->Bool)(vs:List V)(H:Hp)(Q:VK)(E:XK):Prop
 |mk:∀G ds,Same G H->Reps K G ds vs->F ds=true->(∀H' G' Ks,Step G H [] G' H' Ks->Rel K G' H' [] [] []->E (.ref C) none H')->spX K C F vs H Q E
noncomputable def px(np nn:Nat)(x:FB):List D->Bool:=λds=>decide (ds.length=np)&&x (ds.map (λd=>some (O.f,d))++List.replicate nn none)
variable{K:W.Frag}{mg:Str->Option Wp}{x:Str}
theorem qL{k:Nat}(Df:Def K mg x st)(sc:FnScope N ps (defScope st))(hb:∀(kV doc pm:Wp) (an:Option WP) (KW ct:Wp) (us:List Wp),us.length=ps.length->bindArgs @w ⟨us,[]⟩=pure (ps.zip us))(body:∀(f:WP) (KW:Wp) (A:Uf) (outer:List PySem.Env) (s:WF) (H:Hp) (E:XK),Room k (A.deeper (envOfC x (defScope st) s.heap.objs.size f KW))->QX (oM (Qi P w base C) P w K mg base N x (defScope st) f KW A outer s H E) (bj st) gx (λH'=>E (.ref C) none H')):
  CtX P w K mg base x (k+1) C (spX K C (px ps.length (N.length-ps.length) gx)):=by
 obtain⟨f,fd,F,m⟩:=Df;refine⟨f,fd,ps,Bg F sc (λvs H Q E h=>?_) (λKW A outer s H vs Q E hr h=>?_),m,F.kp,F.binds hb⟩
 .obtain⟨G,ds,_,rs,e,_⟩:=h;unfold px at e;have:=Yu ((WW _ _).mp e).1;rw[rs.length,this]
 .obtain⟨G,ds,gh,rs,e,q⟩:=h;unfold px at e;have hl:=Yu ((WW _ _).mp e).1;have e:=((WW _ _).mp e).2;refine⟨_,body f KW A outer s H E hr,G,ds.map (λd=>some (O.f,d))++List.replicate (N.length-ps.length) none,[],⟨?_,XN,(λ_ h=>nomatch h),gh⟩,e,q⟩;have:=dA (K:=K) (G:=G) (H:=H) (N.length-ps.length) rs;unfold L2.gN;rw[rs.length,hl];exact this
abbrev FXE:=PV.Env->Option PV.Env
inductive tQX(K:W.Frag)(x:FXE)(σ:L2.St)(H:Hp)(Ww:Hp->Prop):Prop
 |mk:∀G env fp env',Rel K G H env σ fp->x env=some env'->(∀H' G' Ks,Step G H fp G' H' Ks->Rel K G' H' env' σ Ks->Ww H')->tQX K x σ H Ww
def oN(F:List D->Bool)(fs:FOs):FXE:=λenv=>match fs env with
 | .ok (os,e)=>match fZ e os with
  | .ok ds=>if F ds then some e else none
  |_=>none
 |_=>none
def Qt(X:Cx)(e:Expr)(C:WP)(x:FXE):Prop:=OZ X e C (tQX X.K x)
def Wn(X:Cx)(st:List Stmt)(C:WP)(x:FXE):Prop:=PSX X st C (tQX X.K x)
variable{p:Pos}
section
variable{md:Mode}{pos:Pos}{a b:Expr}{F:List D->Bool}{fs:FOs}{k:Nat}{xe:FXE}{aZ:List Stmt}
theorem lW(c:CtX X.prog X.w X.K X.mg X.base x k C (spX X.K C F))(hr:Room k X.A)(hg:Gl X x)(ha:QOs X.nox (e::es) fs)(Lw:@o=false:=by decide)
  (he:starEach (e::es) X.env=(false,eval e X.env)::starEach es X.env:=by rfl) (Lj:(backTo pos (starEach es X.env)).any (·.1)=false:=by rfl):Qt X (.Call (.Name x p) (e::es) [] pos) C (oN F fs):=
 λpr s σ H Ww I ⟨G,env,fp,env',rel,e,kk⟩=>xG c hr hg ha Lw he Lj pr s σ H Ww I (by
  unfold oN at e;match q:fs env,e with
  | .ok (os,e1),e=>
   dsimp only at e;match q2:fZ e1 os,e with
   | .ok ds,e=>
    dsimp only at e;split at e
    .rename_i hF;cases e;refine⟨G,env,fp,os,_,rel,q,λvs H1 G1 KR KJ Kr Lx=>?_⟩;obtain⟨G2,Om,O7,Mh,_,L5⟩:=Kr.lend;refine⟨G2,ds,O7,eS Om Mh Lx q2,hF,λH' G' Ks st K2=>?_⟩;obtain⟨k1,_⟩:=L5 H' G' [] (.f,.non) .non (st.trans (Step.cut λ_ h=>nomatch h)) (K2.push lB);obtain⟨G3,LJ,K3,K0⟩:=k1 rfl;obtain⟨fq,Ld,Lr⟩:=K0.drop;exact kk H' G3 fq (KJ.trans (K3.trans Lr)) Ld
    .cases e)
theorem Fy(h:Qt X a C xe):Qt X (.Subscript a b pos) C xe:=Ej h
theorem qM(h:Qt X e C xe)(hs:swapsWith e none pos.line X.env=pure false:=by rfl):Wn X (.Expr e pos::aZ) C xe:=xH h hs
end
def fBodyJ(j np nn:Nat)(c:O)(g:FS)(p:WP):List D->Res R
 |d0::ds=>if ds.length+1=np/\j<=ds.length then(g ((ds.take j).map (λd=>some (O.f,d))++some (.pin p c,d0)::((ds.drop j).map (λd=>some (O.f,d))++List.replicate nn none))).bind λo=>match o with
  | .rt r=>.ok r
  |_=>.bad
  else .bad
 |[]=>.bad
inductive spJ(j:Nat)(K:W.Frag)(c:O)(F:WP->List D->Res R)(vs:List V)(H:Hp)(Q:VK)(zz:XK):Prop
 |mk:∀va v vb,vs=va++v::vb->va.length=j->spM K c F (v::(va++vb)) H Q zz->spJ j K c F vs H Q zz
theorem qN{K:W.Frag}{es:PV.Env}(h:RepE K G H es us fp):∀{ds:List D}{vs:List V},Reps K G ds vs->RepE K G H (ds.map (λd=>some (O.f,d))++es) (vs.map some++us) fp
 |[],vs,r=>by
  rw[Reps]at r;subst r;exact h
 |d::ds,vs,r=>by
  rw[Reps]at r;obtain⟨y,ys,e,r1,r2⟩:=r;subst e;exact⟨some y,_,rfl,y,[],fp,rfl,rfl,eR.mpr ⟨r1,rfl⟩,qN h r2⟩
theorem kI{K:W.Frag}:∀{j:Nat}{ds:List D}{va vb:List V},va.length=j->Reps K G ds (va++vb)->Reps K G (ds.take j) va/\Reps K G (ds.drop j) vb
 | 0,ds,[],vb,_,r=>⟨by rw[Z2];exact .nil,r⟩
 |j+1,[],v::va,vb,_,r=>by
  rw[Reps]at r;cases r
 |j+1,d::ds,v::va,vb,hl,r=>by
  rw[YI,Reps]at r;obtain⟨y,ys,e,r1,r2⟩:=r;cases e;obtain⟨q1,q2⟩:=kI (Nat.succ.inj hl) r2;exact⟨.cons r1 q1,q2⟩
theorem Fz{k:Nat}(Df:Def K mg x st)(sc:FnScope N ps (defScope st))(hb:∀(kV doc pm:Wp) (an:Option WP) (KW ct:Wp) (us:List Wp),us.length=ps.length->bindArgs @w ⟨us,[]⟩=pure (ps.zip us))(body:∀(f:WP) (KW:Wp) (A:Uf) (outer:List PySem.Env) (s:WF) (H:Hp) (E:XK),Room k (A.deeper (envOfC x (defScope st) s.heap.objs.size f KW))->QSs (md:=.mut) (oM M5 P w K mg base N x (defScope st) f KW A outer s H E).nox (bj st) g):
  Ct P w K mg base x (k+1) (spJ j K c (fBodyJ j ps.length (N.length-ps.length) c g)):=by
 obtain⟨f,fd,F,m⟩:=Df;refine⟨f,fd,ps,F.ok sc (λvs H Q E h=>?_) (λKW A outer s H vs Q E hr h=>?_),m,F.kp,F.binds hb⟩
 .obtain⟨va,v,vb,Um,Uo,G,p,MF,d0,ds,r,NJ,_,ev,_,_,_,rs,e,_⟩:=h;cases ev;unfold fBodyJ at e;dsimp only at e;split at e
  .rename_i hl;have:=rs.length;rw[Xs]at this;rw[Um,Xs,WX];lia
  .cases e
 .obtain⟨va,v,vb,Um,Uo,G,p,MF,d0,ds,r,NJ,gh,ev,r0,nd,gn,rs,e,q⟩:=h;cases ev;unfold fBodyJ at e;dsimp only at e;split at e
  .rename_i hl;have hlen:=rs.length;rw[Xs]at hlen;obtain⟨ra,rb⟩:=kI Uo rs;refine⟨_,body f KW A outer s H E hr,G,(ds.take j).map (λd=>some (O.f,d))++some (.pin p c,d0)::((ds.drop j).map (λd=>some (O.f,d))++List.replicate (N.length-ps.length) none),NJ,⟨?_,nd,gn,gh⟩,?_⟩
   .have z:=dA (K:=K) (G:=G) (H:=H) (N.length-ps.length) rb;have z2:RepE K G H (some (.pin p c,d0)::((ds.drop j).map (λd=>some (O.f,d))++List.replicate (N.length-ps.length) none)) (some (.ref p)::(vb.map some++List.replicate (N.length-ps.length) none)) NJ:=
     ⟨some (.ref p),_,rfl,.ref p,NJ,[],rfl,(Xe _).symm,by rw[RepO];exact⟨rfl,r0⟩,z⟩
    have z3:=qN z2 ra;unfold L2.gN;have e1:vs.length=ps.length:=by rw[Um,Xs,WX];lia
    rw[e1,Um,Xd,Xa,XI,YI];exact z3
   .obtain⟨o,eo,e⟩:=ag e;rw[eo];cases o with
    |rt r'=>
     cases e;exact λv H' G' Ks st rel=>q v H' G' Ks st rel
    |nx env'=>cases e
    |bk env'=>cases e
    |ct env'=>cases e
  .cases e
def sL(j:Nat)(c:O)(F:WP->List D->Res R)(i:Nat)(fs:FOs):FX:=λenv=>(fs env).bind λp=>match p.1[j]? with
 |some (.var j')=>if j'=i then(match p.2[i]? with
  |some (some (ow,d0))=>if nK c ow then(fZ (p.2.set i none) (p.1.eraseIdx j)).bind λds=>(iH F c d0 ds).bind λx=>if ay x.1.1 x.1.2&&ay c x.2 then .ok (x.1,(p.2.set i none).set i (some (ow,x.2))) else .ok (x.1,((p.2.set i none).map frz).set i (some (ow,x.2))) else .bad
  |_=>.bad) else .bad
 |_=>.bad
theorem kJ{K:W.Frag}:∀{j:Nat}{os:List Opd}{vs:List V}{o:Opd},jB K G σ os vs->os[j]?=some o->∃va y vb,vs=va++y::vb/\va.length=j/\OpdOk K G σ o y/\jB K G σ (os.eraseIdx j) (va++vb)
 | 0,o'::os,_,o,⟨y,ys,e,k1,k2⟩,h=>by
  cases h;exact⟨[],y,ys,e,rfl,k1,k2⟩
 |j+1,o'::os,_,o,⟨y,ys,e,k1,k2⟩,h=>by
  obtain⟨va,z,vb,e2,hl,q1,q2⟩:=kJ (j:=j) k2 (by simpa using h);exact⟨y::va,z,vb,by rw[e,e2];rfl,by rw[WX,hl],q1,y,va++vb,rfl,k1,q2⟩
section
variable{pos:Pos}{fs:FOs}
theorem B8{k:Nat}(C:Ct X.prog X.w X.K X.mg X.base x k (spJ j0 X.K c F))(hr:Room k X.A)(hg:Gl X x)(ha:QOs X (e::es) fs)(Lw:@o=false:=by decide)(he:starEach (e::es) X.env=(false,eval e X.env)::starEach es X.env:=by rfl)(Lj:(backTo pos (starEach es X.env)).any (·.1)=false:=by rfl):QE X (.Call (.Name x p) (e::es) [] pos) (sL j0 c F i fs):=
 aO (AO C hr hg ha Lw he Lj) λσ H Q Kz=>by
  obtain⟨G,env,fp,r,env',rel,e,k⟩:=Kz;obtain⟨⟨os,e1⟩,ha,e⟩:=ag e;dsimp only at e;split at e
  .rename_i j N5;split at e
   .rename_i hj;subst hj;split at e
    .rename_i ow d0 hi;split at e
     .rename_i how;obtain⟨ds,hd,e⟩:=ag e;obtain⟨z,hz,e⟩:=ag e;refine⟨G,env,fp,_,e1,rel,ha,λvs H1 G1 KR KJ Kr Lx=>?_⟩;show spJ j0 X.K c F (vs++[]) H1 Q _;rw[Xe];obtain⟨va,y,vb,ey,Uo,k1,k2⟩:=kJ Lx N5;refine⟨va,y,vb,ey,Uo,?_⟩;obtain⟨v0,a,b,ev,r0,r2,pm⟩:=Kr.rep.take hi;have k1:σ[j]?=some (some y):=k1;rw[k1]at ev;cases ev;obtain⟨⟨q,hq⟩,rc,back⟩:=zN how r0;subst hq;have nd:=Xl.mp (pm.nodup_iff.mp Kr.nd);have Q9:Rel X.K G1 H1 (e1.set j none) σ b:=⟨r2,nd.2.1,λw hw=>Kr.gn w (pm.mem_iff.mpr (WQ _ hw)),Kr.gh⟩
      obtain⟨G2,Om,O7,Vn,Mh,L5⟩:=Q9.lendM2 a (λw hw hb=>nd.2.2 w hw w hb rfl) (λw hw=>Kr.gn w (pm.mem_iff.mpr (WR _ hw)));refine⟨G2,q,va++vb,d0,ds,_,a,O7,rfl,rc.step Om (λ_ _=>rfl),nd.1,Vn,eS Om Mh k2 hd,qG hz q,λv H' G' Ks st rt=>?_⟩;obtain⟨o',d',p',c',Vm,er,rl⟩:=rt;cases er;have fin:∀(ee:PV.Env),ee.length=e1.length->(∃G3 LJ,Step G1 H1 (a++b) G3 H' LJ/\Rel X.K G3 H' (some z.1::some (.pin q c,z.2)::ee) (some v::some (.ref q)::σ) LJ)->(z.1,ee.set j (some (ow,z.2)))=(r,env')->Q v H':=by
       rintro ee Te ⟨G3,LJ,K3,K0⟩ Vo;cases Vo;obtain⟨a1,b1,ef,ro,Ll,comb⟩:=Rel.frame K0;have Rb:Rel X.K G3 H' (some (ow,z.2)::ee) (some (.ref q)::σ) b1:=by
        obtain⟨y2,ys2,Rc,v2,a2,b2,Vp,Vq,Tf,Vr⟩:=Ll.rep;cases Rc;cases Vp;rw[RepO]at Tf;exact⟨⟨_,_,rfl,_,a2,b2,rfl,Vq,back _ _ _ _ Tf.2,Vr⟩,Ll.nd,Ll.gn,Ll.gh⟩
       obtain⟨fq,Rf,Vs⟩:=Rb.back (i:=j) (by rw[Te];exact(WS.mp hi).1) k1;obtain⟨Rg,Tg⟩:=comb G3 H' _ _ fq Vs Rf;rw[<-ef]at Tg;exact k v H' G3 _ (KJ.trans ((K3.perm (λw=>pm.mem_iff.symm) (λw hw=>hw)).trans Tg)) Rg
      obtain⟨b1,b2⟩:=L5 H' G' Ks _ _ st rl;split at e
      .rename_i Ma;rw[WW]at Ma;have e:=Res.ok.inj e;refine fin (e1.set j none) (by rw[XB]) (b1 λw hw=>?_) e;rcases WY.mp hw with hw|hw
       .cases hw;exact Ma.1
       .rw[W5]at hw;cases hw;simp![ay];exact Ma.2
      .have e:=Res.ok.inj e;exact fin ((e1.set j none).map frz) (by rw[WN,XB]) b2 e
     .cases e
    .cases e
   .cases e
  .cases e
end
section
variable{pos:Pos}{f0:FX}{fs:FOs}
end
end PV
namespace NX
def Tn(o:Obj)(n:Nat)(a:WP):It:=
 ⟨λi H=>∃kvs k v,H a=some @s/\kvs.length=n/\kvs[i]?=some (k,v),
  λi H x H'=>H'=H/\∀kvs k v,H a=some @s->kvs[i]?=some (k,v)->x=kV k,
  λi H=>∃kvs,H a=some @s/\kvs.length=n/\kvs.length<=i⟩
def vN{P:W1}{w:World}{K:W.Frag}{tg:Expr}(o:Obj)(es:Array DictEntry)(ep n:Nat)(a it:WP)(hd:o.data=.dict es ep):
  Turn P w K tg (Tn o n a) [it] it (λi h=>h.IsKeyIter it a i n ep) where
 mem:=by simp
 obj:=λi h st b hb=>by
  have e:b=it:=by simpa using hb
  subst e;obtain⟨o,e,c,d⟩:=st;exact⟨o,e,λv z=>by rw[d]at z;cases z⟩
 keep:=λi h h' st k=>by
  obtain⟨o,e,c,d⟩:=st;exact⟨o,k it @t o e,c,d⟩
 item:=by
  intro X hP hw hK hc i pr s σ H E I hf st hg;subst hP hw hK;obtain⟨kvs,k,v,ha,hn,hx⟩:=hg;obtain⟨ho,vs,r,hm⟩:=qH I hd ha;have hl:vs.length=n:=by rw[<-hn];exact r.length.symm
  subst hl;obtain⟨u,hu,ru⟩:=B2 r hx;obtain⟨f0,f1,f2,f3,f4,f5⟩:=hf it @t;refine wpAny_pyNext_dict_item st hm hu λkey h' Mc L3 sb=>?_
  have I1:Inv X pr σ H {s with heap:=h'}:=I.turned (t':=s.toks) (λb o hb e=>(sb.2 b hb).trans e) f0 f1 f3 f4 f5;obtain⟨o',e,c,d⟩:=id L3;exact⟨key,rfl,tJ (s:={s with heap:=h'}) e c d @b ⟨kV k,H,I1,Fp Mc,⟨rfl,λkvs' k' v' h1 h2=>by
   rw[ha]at h1;cases h1;rw[hx]at h2;cases h2;rfl⟩,L3,λb hb=>(hf b hb).1⟩⟩
 done:=by
  intro X hP hw hK hc i pr s σ H E I hf st hg;subst hP hw hK;obtain⟨kvs,ha,hn,hi⟩:=hg;obtain⟨ho,vs,r,hm⟩:=qH I hd ha;have hl:vs.length=n:=by rw[<-hn];exact r.length.symm
  subst hl;obtain⟨f0,f1,f2,f3,f4,f5⟩:=hf it @t;exact wpAny_pyNext_dict_end (I.ok.hd hc) st hm (YD @a) λh' eb=>⟨rfl,I.turned (t':=s.toks) (λb o hb e=>eb b o hb e) f0 f1 f3 f4 f5⟩
 self:=λ_ _ _ _ _ st h=>wpAny_pyIter_keyiter st h
def JZ(td:TE):TI:=λσ H R=>td σ H λv H1=>∃a o kvs,v=.ref a/\H1 a=some @s/\R (Tn o kvs.length a) H1
def B9(hl:PE X l td):PI X tg l (JZ td):=by
 intro pr s σ H R I h;refine KN (hl pr s σ H _ I h) λv s1 KQ=>?_
 obtain⟨x,H1,I1,r1,a,o,kvs,ex,ha,q⟩:=KQ;subst ex;cases r1;obtain⟨ho,z,nm,vs,r,o',MR,QB,g1,ex,dat,aZ⟩:=(show ObjOk X.prog X.w H1 s1.heap a @s from I1.hok a _ ha)
 have e:=g1.symm.trans ho;cases e;have Mn:s1.heap.DictAt (mixKind X.prog X.w) a vs QB:=⟨_,MR,g1,ex,dat,aZ⟩
 refine wpAny_pyIter_dict nm Mn ?_;refine⟨s1.heap.objs.size,[s1.heap.objs.size],_,Tn _ kvs.length a,H1,rfl,I1.kept (t':=s1.toks) λb o e=>WL _ e,vN _ MR QB kvs.length a _ dat,⟨_,W7 _ rfl,rfl,?_⟩,λb hb=>?_,q⟩
 .rw[r.length];rfl
 .have e:b=s1.heap.objs.size:=by simpa using hb
  subst e;exact I1.fpOk (WU _) (I1.hok.fresh (WU _))
def fT(I:Inv X pr σ H s)(ha:H a=some @s)(h0:∀q u,X.H₀ a≠some (.frz q u)):Inv X pr σ (upd H a (.dK kvs)) s:=by
 have ok:=(show ObjOk X.prog X.w H s.heap a @s from I.hok a _ ha)
 have nn:∀c,H c=none->c≠a:=λc e z=>by rw[z,ha]at e;cases e
 have nt:∀c xs,H c=some (.tup xs)->c≠a:=λc xs e z=>by rw[z,ha]at e;cases e
 have nb:∀c ps,H c=some (.tbl ps)->c≠a:=λc ps e z=>by rw[z,ha]at e;cases e
 have no:∀c b,H c=some (.own b)->c≠a:=λc b e z=>by rw[z,ha]at e;cases e
 have nf:∀c,H c=none->upd H a (.dK kvs) c=none:=λc e=>by rw[au (nn c e)];exact e
 refine⟨I.ok,I.os,I.bare,⟨I.base.keep,I.base.slot,λb q e n x=>nf b (I.base.free b q e n x),I.base.there,λb xs e=>?_,λb q u e=>?_,λb ps e=>?_⟩,I.loc,I.cell,nf _ I.free,λx c e=>nf _ (I.freeC x c e),λp hp=>?_,λc ob e=>?_,I.len⟩
 .have h:=I.base.tups b xs e;rw[au (nt b xs h)];exact h
 .have:b≠a:=λz=>h0 q u (z▸e)
  rw[au this];exact I.base.frzs b q u e
 .obtain⟨m,h⟩:=I.base.tbls b ps e;exact⟨m,by rw[au (nb b _ h)];exact h⟩
 .obtain⟨h1,h2,h3⟩:=I.pin p hp;exact⟨h1,nf _ h2,h3⟩
 .by_cases ec:c=a
  .subst ec;rw[aG]at e;cases e;exact(show ObjOk X.prog X.w H s.heap c (.dK kvs) from ok.2).stay (λ_ _ _ q=>q) (λd q=>by rw[au (no d _ q)];exact q) λd l q=>by rw[au (nt d l q)];exact q
  .rw[au ec]at e;exact(I.hok c ob e).stay (λ_ _ _ q=>q) (λd q=>by rw[au (no d _ q)];exact q) λd l q=>by rw[au (nt d l q)];exact q
def To(a:WP)(o:Obj)(kvs:List (Key×V))(D:Ends):Ends:=
 ⟨λσ H=>H a=some @s/\D.nx σ (upd H a (.dK kvs)),λv H=>H a=some @s/\D.rt v (upd H a (.dK kvs)),λσ H=>H a=some @s/\D.bk σ (upd H a (.dK kvs)),λσ H=>H a=some @s/\D.ct σ (upd H a (.dK kvs))⟩
def Ir(t:TS):TS:=λD σ H=>∃a kvs,H a=some (.dK kvs)/\∀o,t (To a o kvs D) σ (upd H a @s)
def Ca{X:Cx}{st:Stmt}{t:TS}(h:PS X st t):PS X st (Ir t):=by
 rintro pr s σ H D I ⟨a,kvs,ha,k⟩;obtain⟨z,nm,vs,r,o,es,ep,g1,aZ⟩:=(show ObjOk X.prog X.w H s.heap a (.dK kvs) from I.hok a _ ha)
 have h0:∀q u,X.H₀ a≠some (.frz q u):=λq u e=>by
  have:=I.base.frzs a q u e;rw[ha]at this;cases this
 refine KN (h pr s σ _ _ (yh I ha g1) (k o)) λf s' sp=>?_
 cases f with
 |next=>obtain⟨σ',H',I',e,q⟩:=sp;exact⟨σ',_,fT I' e h0,q⟩
 |brk=>obtain⟨σ',H',I',e,q⟩:=sp;exact⟨σ',_,fT I' e h0,q⟩
 |cont=>obtain⟨σ',H',I',e,q⟩:=sp;exact⟨σ',_,fT I' e h0,q⟩
 |ret u=>obtain⟨v,σ',H',I',rv,e,q⟩:=sp;exact⟨v,σ',_,fT I' e h0,rv,q⟩
end NX
namespace PV
variable{K:W.Frag}{G:Hp}{es:PV.Env}{fp:List WP}{i:Nat}{p:WP}
section
variable{H:Hp}{vs:L2.St}
theorem Rel.asD(q:Rel K G H es vs fp)(e:es[i]?=some (some (.pin p .d,d))):vs[i]?=some (some (.ref p))/\∃fq,Rel K G H (es.set i (some (.d,d))) vs fq/\Step G H fp G H fq:=by
 obtain⟨v,fq,ev,g,st,L3⟩:=q.out e;obtain⟨y,ys,e0,v',a,b,e1,e2,r1,r2⟩:=g.rep;cases e0;cases e1;rw[RepO]at r1;obtain⟨ep,r1⟩:=r1;subst ep;have g2:Rel K G H (some (.d,d)::es.set i none) (some (.ref p)::vs) fq:=⟨⟨_,_,rfl,_,a,b,rfl,e2,r1,r2⟩,g.nd,g.gn,g.gh⟩
 obtain⟨fz,g3,K3⟩:=g2.back (i:=i) (by rw[XB];exact(WS.mp e).1) ev;rw[Y3]at g3;exact⟨ev,fz,g3,st.trans K3⟩
theorem Rel.asP(q:Rel K G H es vs fp)(e:es[i]?=some (some (.d,d)))(hv:vs[i]?=some (some (.ref p))):∃fq,Rel K G H (es.set i (some (.pin p .d,d))) vs fq/\Step G H fp G H fq:=by
 obtain⟨v,fq,ev,g,st,L3⟩:=q.out e;rw[hv]at ev;cases ev;obtain⟨y,ys,e0,v',a,b,e1,e2,r1,r2⟩:=g.rep;cases e0;cases e1;have g2:Rel K G H (some (.pin p .d,d)::es.set i none) (some (.ref p)::vs) fq:=⟨⟨_,_,rfl,_,a,b,rfl,e2,by rw[RepO];exact⟨rfl,r1⟩,r2⟩,g.nd,g.gn,g.gh⟩
 obtain⟨fz,g3,K3⟩:=g2.back (i:=i) (by rw[XB];exact(WS.mp e).1) hv;rw[Y3]at g3;exact⟨fz,g3,st.trans K3⟩
theorem Rel.chgP(q:Rel K G H es vs fp)(e:es[i]?=some (some (.pin pp .d,.dct tk ks ws))):∃p xs u,vs[i]?=some (some (.ref p))/\H p=some u/\DictO u tk ks xs/\Reps K G ws xs/\
  ∀u' Pc LN Pd,DictO u' tk Pc LN->Reps K G Pd LN->∃fq,Rel K G (upd H p u') (es.set i (some (.pin pp .d,.dct tk Pc Pd))) vs fq/\Step G H fp G (upd H p u') fq:=by
 have hi:i<es.length:=(WS.mp e).1;obtain⟨hv,fa,qa,sa⟩:=q.asD e;obtain⟨p,xs,u,ev,hp,dd,rs,cg⟩:=qa.chgD (i:=i) (by rw[XF hi]);rw[hv]at ev;cases ev;refine⟨pp,xs,u,hv,hp,dd,rs,λu' Pc LN Pd d' r'=>?_⟩;obtain⟨fb,qb,sb⟩:=cg u' Pc LN Pd d' r';rw[Y3]at qb;obtain⟨fc,qc,sc⟩:=qb.asP (i:=i) (by rw[XF hi]) hv;rw[Y3]at qc;exact⟨fc,qc,sa.trans (sb.trans sc)⟩
end
def sPutP(i:Nat)(fk fv:FX):FS:=λenv=>(fv env).bind λp=>(fk p.2).bind λq=>match p.2[i]?,q.2[i]? with
 |some (some _),some (some (.pin pp .d,.dct tk ks vs))=>if bR tk q.1.2&&decide (ks.length<sizeLine) then .ok (.nx (q.2.set i (some (.pin pp .d,.dct tk (kj ks vs q.1.2 p.1.2).1 (kj ks vs q.1.2 p.1.2).2)))) else .bad
 |_,_=>.bad
variable{X:Cx}
section
variable{md:Mode}
theorem Cb{pos:Pos}(hu:X.A.units+1<cLine)(ho:PE X o (oK i))(hi:QE X ix fk)(hv:QE X value fv)(hs:swapsWith value (some (.Subscript o ix pos')) pos.line X.env=pure false:=by rfl):
  QS (md:=md) X (.Assign [.Subscript o ix pos'] value pos) (sPutP i fk fv):=de (Bc hu ho hi hv hs) λDd σ H Kz=>by
 obtain⟨G,env,fp,rel,k⟩:=Kz;unfold sPutP at k;match q1:fv env,k with
 | .ok (r1,Ko),k=>
  have k:OutOk X.K G H fp Dd ((fk Ko).bind λq=>match Ko[i]?,q.2[i]? with
   |some (some _),some (some (.pin pp .d,.dct tk ks vs))=>if bR tk q.1.2&&decide (ks.length<sizeLine) then .ok (.nx (q.2.set i (some (.pin pp .d,.dct tk (kj ks vs q.1.2 r1.2).1 (kj ks vs q.1.2 r1.2).2)))) else .bad
   |_,_=>.bad):=k
  match q2:fk Ko,k with
  | .ok (r2,KA),k=>
   have k:OutOk X.K G H fp Dd (match Ko[i]?,KA[i]? with
    |some (some _),some (some (.pin pp .d,.dct tk ks vs))=>if bR tk r2.2&&decide (ks.length<sizeLine) then .ok (.nx (KA.set i (some (.pin pp .d,.dct tk (kj ks vs r2.2 r1.2).1 (kj ks vs r2.2 r1.2).2)))) else .bad
    |_,_=>.bad):=k
   split at k
   .rename_i rr pp tk ks ws h1 h2;split at k
    .rename_i hc;rw[WW,W3]at hc;refine⟨G,env,fp,r1,Ko,rel,q1,λy H1 G1 KR KJ Kr=>?_⟩;obtain⟨G2,b,ry,Kq,Kw⟩:=Kr.freeze;obtain⟨v0,R7,_⟩:=Kq.view h1;refine⟨v0,R7,G2,Ko,b,r2,KA,Kq,q2,λz H3 G3 LJ K3 K0=>?_⟩;obtain⟨G4,b4,rz,Ld,Lr⟩:=K0.freeze;obtain⟨p,xs,u,ep,hp,dd,rs,cg⟩:=Ld.chgP h2;rw[R7]at ep;cases ep;have Q6:Rep X.K G4 r1.2 y:=Rep.mono (K3.gg.trans Lr.gg) ry;cases tk with
     |true=>
      obtain⟨kvs,eu,ek,ex,NK⟩:=dd;subst eu;subst ex;have hk:=hc.1;unfold bR at hk;rw[WV rfl,XG]at hk;obtain⟨kk,hk⟩:=hk;obtain⟨pz,ez,gz,dz⟩:=cX hk rz;subst ez;obtain⟨t1,t2⟩:=jO (K:=X.K) (G:=G4) kT qB (k:=kk) rs Q6;have ek:ks=kvs.map λkv=>kT kv.1:=ek
      rw[<-ek,<-dz]at t1 t2;have hfk:∀key∈kk,qf key:=by
       cases hd:r2.2 with
       |tup ds=>
        rw[hd]at hk rz;obtain⟨_,LN,_,_,LU⟩:=vh rz;exact vH hk LU
       |_=>rw[hd]at hk;cases hk
      obtain⟨fq,Lz,L8⟩:=cg (.dT (gI kvs kk y)) _ _ _ ⟨gI kvs kk y,rfl,t1.symm,rfl,lR (P:=λks=>∀k∈ks,qf k) NK hfk⟩ t2;have hlen:kvs.length<sizeLine:=by have:=hc.2;rw[ek,WN]at this;exact this
      exact⟨p,_,rfl,DPut.t hp (Ld.gh _ _ gz) hlen,k _ _ G4 fq (KJ.trans (Kw.trans (K3.trans (Lr.trans L8)))) Lz⟩
     |false=>
      obtain⟨kvs,eu,ek,ex,NK⟩:=dd;subst eu;subst ex;have hk:=hc.1;unfold bR at hk;rw[W6 WT,XG]at hk;obtain⟨kk,hk⟩:=hk;obtain⟨ez,dz⟩:=dC hk rz;subst ez;obtain⟨t1,t2⟩:=jO (K:=X.K) (G:=G4) kD nG (k:=kk) rs Q6;rw[<-ek,<-dz]at t1 t2;obtain⟨fq,Lz,L8⟩:=cg (.dK (gI kvs kk y)) _ _ _ ⟨gI kvs kk y,rfl,t1.symm,rfl,lR (P:=qf) NK (qC hk rz)⟩ t2;have hlen:kvs.length<sizeLine:=by have:=hc.2;rw[ek,WN]at this;exact this
      exact⟨p,_,rfl,DPut.k hp hlen,k _ _ G4 fq (KJ.trans (Kw.trans (K3.trans (Lr.trans L8)))) Lz⟩
    .exact k.elim
   .exact k.elim
end
def cleanE(i:Nat)(env:PV.Env):Bool:=(env.set i none).all λr=>match r with
 |some r=>ay r.1 r.2
 |none=>true
noncomputable def ym(i:Nat)(p:WP)(env:PV.Env):Bool:=match env[i]? with
 |some (some (.pin q .f,_))=>decide (q=p)
 |_=>false
def sM(i:Nat)(p:WP)(d:D):Out->Res Out
 | .nx env=>if ym i p env&&cleanE i env then .ok (.nx (env.set i (some (.pin p .d,d)))) else .bad
 | .rt (.t [o,.pin q .f],.tup [r,_])=>if decide (q=p)&&ay o r then .ok (.rt (.t [o,.pin p .d],.tup [r,d])) else .bad
 |_=>.bad
def yn(i:Nat)(a:FG)(g:FS):FS:=λenv=>match env[i]? with
 |some (some (.pin p .d,.dct false ks vs))=>(cU a g ks (env.set i (some (.pin p .f,.dct false ks vs)))).bind (sM i p (.dct false ks vs))
 |_=>.bad
noncomputable def off(G:Hp)(p:WP):Hp:=λz=>if z=p then none else G z
variable{kvs:List (Key×V)}{o:Obj}{vs:List D}
theorem nR(gp:G p=none)(pf:p∈fp)(f1:∀z∈KR,z∈fp)(st:Step (upd G p @s) (upd H p @s) KR G' H' Ks)(rel:Rel K G' H' es σ Ks)(hi:es[i]?=some (some (.pin p .f,d')))(cl:cleanE i es=true)(hf:∀kv∈kvs,qf kv.1)(rs:Reps K G vs (kvs.map (·.2))):
  H' p=some @s/\∃G2 fz,Step G H fp G2 (upd H' p (.dK kvs)) fz/\Rel K G2 (upd H' p (.dK kvs)) (es.set i (some (.pin p .d,.dct false (kvs.map λkv=>kD kv.1) vs))) σ fz:=by
 have Vt:G' p=some @s:=st.gg p _ aG;refine⟨rel.gh p _ Vt,?_⟩;obtain⟨v,fq,ev,g,KJ,_⟩:=rel.out hi;have Kw:=st.trans KJ;obtain⟨y,ys,e0,v',a,b,e1,e2,r1,r2⟩:=g.rep;cases e0;cases e1;rw[RepO]at r1;obtain⟨ep,r1⟩:=r1;obtain⟨_,ea⟩:=eR.mp r1;subst ea;subst ep;have e2:fq=b:=e2;subst e2;have np:∀z∈fq,z≠p:=λz hz e=>by
  have:=g.gn z hz;rw[e,Vt]at this;cases this
 have Vu:(off G' p) p=none:=WV rfl;have Tp:∀z,z≠p->(off G' p) z=G' z:=λz h=>W6 h
 have gg:Same G (off G' p):=λz u e=>by
  have hz:z≠p:=λh=>by rw[h,gp]at e;cases e
  rw[Tp z hz];exact st.gg z u (by rw[au hz];exact e)
 have rc:RepE K (off G' p) H' (es.set i none) σ fq:=by
  refine RepE.clean (λz u t e=>?_) (λr hr=>?_) r2
  .have hz:z≠p:=λh=>by rw[h,Vt]at e;cases e;cases t
   rw[Tp z hz];exact e
  .have:=Xr.mp cl _ hr;exact this
 have Kq:Rel K (off G' p) (upd H' p (.dK kvs)) (some (.pin p .d,.dct false (kvs.map λkv=>kD kv.1) vs)::es.set i none) (some (.ref p)::σ) (p::fq):=by
  refine⟨⟨some (.ref p),σ,rfl,.ref p,[p],fq,rfl,rfl,?_,rc.step (.refl _) λz hz=>au (np z hz)⟩,Xf.mpr ⟨λh=>np p h rfl,g.nd⟩,λz hz=>?_,λz u e=>?_⟩
  .rw[RepO];refine⟨rfl,?_⟩;rw[RepO];exact⟨p,kvs.map (·.2),.dK kvs,rfl,aG,⟨kvs,rfl,rfl,rfl,hf⟩,rfl,Reps.mono gg rs⟩
  .rcases WY.mp hz with h|h
   .rw[h];exact Vu
   .rw[Tp z (np z h)];exact g.gn z h
  .by_cases hz:z=p
   .rw[hz,Vu]at e;cases e
   .rw[Tp z hz]at e;rw[au hz];exact rel.gh z u e
 have K7:Step G H fp (off G' p) (upd H' p (.dK kvs)) (p::fq):=by
  refine⟨gg,λz u e n=>?_,λz hz=>?_,λz u e=>?_,λz u e=>?_⟩
  .have hz:z≠p:=λh=>n (h▸pf)
   rw[au hz];exact Kw.keep z u (by rw[au hz];exact e) λh=>n (f1 z h)
  .rcases WY.mp hz with h|h
   .exact .inl (h▸pf)
   .rcases Kw.fpn z h with h2|h2
    .exact .inl (f1 z h2)
    .rw[au (np z h)]at h2;exact .inr h2
  .by_cases hz:z=p
   .rw[hz,Vu]at e;cases e
   .rw[Tp z hz]at e;rcases Kw.gnew z u e with h|h|h|⟨t,h⟩
    .rw[au hz]at h;exact .inl h
    .exact .inr (.inl (f1 z h))
    .rw[au hz]at h;exact .inr (.inr (.inl h))
    .rw[au hz]at h;exact .inr (.inr (.inr ⟨t,h⟩))
  .by_cases hz:z=p
   .exact⟨_,by rw[hz,aG]⟩
   .obtain⟨u',h⟩:=Kw.there z u (by rw[au hz];exact e);exact⟨u',by rw[au hz];exact h⟩
 obtain⟨fz,g3,K3⟩:=Kq.back (i:=i) (by rw[XB];exact(WS.mp hi).1) ev;rw[Y3]at g3;exact⟨_,fz,K7.trans K3,g3⟩
theorem yo{o:Obj}{i:Nat}(gp:G p=none)(Uq:Step G H fp G H (p::b0))(Ur:∀z∈f1,z∈p::b0)(hf:∀kv∈kvs,qf kv.1)(rs:Reps K G vs (kvs.map (·.2)))(k:OutOk (md:=.mut) K G H fp D0 (r.bind (sM i p (.dct false (kvs.map λkv=>kD kv.1) vs)))):OutOk (md:=.mut) K (upd G p @s) (upd H p @s) f1 (To p o kvs D0) r:=by
 cases r with
 |bad=>exact k
 |exc c=>exact k
 |ok out=>
  have k:OutOk (md:=.mut) K G H fp D0 (sM i p (.dct false (kvs.map λkv=>kD kv.1) vs) out):=k;unfold sM at k;split at k
  .rename_i e';split at k
   .rename_i Ma;rw[WW]at Ma;obtain⟨h1,h2⟩:=Ma;unfold ym at h1;split at h1
    .rename_i q' d' hq';rw[W3]at h1;subst h1;intro σ' H' G' Ks st rl;obtain⟨z,G2,fz,Kw,Vv⟩:=nR (G:=G) (H:=H) (fp:=q'::b0) gp WJ Ur st rl hq' h2 hf rs;exact⟨z,k σ' _ G2 fz (Uq.trans Kw) Vv⟩
    .cases h1
   .exact k.elim
  .rename_i o' q' r d0 _;split at k
   .rename_i Ma;rw[WW,W3]at Ma;obtain⟨h1,h2⟩:=Ma;subst h1;rintro v H' G' Ks st ⟨o2,d2,p2,c2,d02,er,rl⟩;cases er;obtain⟨z,G2,fz,Kw,Vv⟩:=nR (G:=G) (H:=H) (fp:=q'::b0) (i:=1) gp WJ Ur st rl rfl (by show(List.all [some (o',r),none] _)=true;simp![Zo,List.all_nil,h2,Yf]) hf rs;exact⟨z,k v _ G2 fz (Uq.trans Kw) ⟨_,_,_,_,_,rfl,Vv⟩⟩
   .exact k.elim
  .exact k.elim
theorem vO(h:G a=some @s)(hf:∀kv∈kvs,qf kv.1):Walk K G (Tn o kvs.length a) (kvs.map λkv=>kD kv.1):=by
 intro G' H' es vs fp gg rel i;have h':H' a=some @s:=rel.gh _ _ (gg _ _ h);refine⟨λd hd=>?_,λe=>⟨kvs,h',rfl,by rw[WN]at e;lia⟩⟩;rw[W2]at hd;cases hk:kvs[i]? with
 |none=>rw[hk]at hd;cases hd
 |some kv=>
  rw[hk]at hd;cases hd;refine⟨⟨kvs,kv.1,kv.2,h',rfl,hk⟩,λy H2 ⟨e,hy⟩=>?_⟩;subst e;have:=hy kvs kv.1 kv.2 h' hk;subst this;exact⟨G',zJ (hf _ (Xm hk)),rel,.refl⟩
section
theorem Cc{pos:Pos}(hp:PassesOwn @c X.A X.env X.xe)(hc:X.calm=true)(hn:PE X iter (oK i))(hg:QG X tg a)(hb:QSs (md:=.mut) X body g)(hs:∀x,foldedSetIterable iter X.env x=pure x:=by intro _;rfl):
  QS (md:=.mut) X (.For tg iter body [] pos) (yn i a g):=
 de (Ca (y4 hp hc (B9 hn) hg hb hs)) λD0 σ H Kz=>by
  obtain⟨G,env,fp,rel,k⟩:=Kz;unfold yn at k;split at k
  .rename_i p ks vs hi;obtain⟨v,fq,ev,g1,Uq,_⟩:=rel.out hi;obtain⟨y,ys,e0,v',a0,b0,e1,e2,r1,r2⟩:=g1.rep;cases e0;cases e1;rw[RepO]at r1;obtain⟨ep,r1⟩:=r1;subst ep;rw[RepO]at r1;obtain⟨p',xs,o0,ev1,hH,dd,ea,rs⟩:=r1;cases ev1;subst ea;subst e2;obtain⟨kvs,eo,ek,ex,hf⟩:=(show ∃kvs:List (Key×V),o0=.dK kvs/\ks=kvs.map (λkv=>kD kv.1)/\xs=kvs.map (·.2)/\∀kv∈kvs,qf kv.1 from dd)
   subst eo ex ek;have nd:=Xf.mp (show(p::b0).Nodup from g1.nd);have gp:G p=none:=g1.gn p WJ;have Wo:∀z∈b0,z≠p:=λz hz e=>nd.1 (e▸hz)
   refine⟨p,kvs,hH,λo=>?_⟩;have Wq:Same G (upd G p @s):=λz u e=>by rw[au (aN e gp)];exact e
   have relA:Rel X.K (upd G p @s) (upd H p @s) (some (.pin p .f,.dct false (kvs.map λkv=>kD kv.1) vs)::env.set i none) (some (.ref p)::σ) b0:=by
    refine⟨⟨_,_,rfl,.ref p,[],b0,rfl,rfl,?_,r2.step Wq λz hz=>au (Wo z hz)⟩,nd.2,λz hz=>?_,λz u e=>?_⟩
    .rw[RepO];refine⟨rfl,eR.mpr ⟨?_,rfl⟩⟩;rw[Rep];exact⟨p,kvs.map (·.2),.dK kvs,rfl,.inr ⟨o,aG⟩,⟨kvs,rfl,rfl,rfl,hf⟩,Reps.mono Wq rs⟩
    .rw[au (Wo z hz)];exact g1.gn z (WK _ hz)
    .by_cases hz:z=p
     .subst hz;rw[aG]at e |-;exact e
     .rw[au hz]at e |-;exact g1.gh z u e
   obtain⟨f1,Kr,KJ⟩:=relA.back (i:=i) (by rw[XB];exact(WS.mp hi).1) ev;rw[Y3]at Kr;have Ur:∀z∈f1,z∈p::b0:=λz hz=>by
    rcases KJ.fpn z hz with h|h
    .exact WK _ h
    .exfalso;obtain⟨u,hu⟩:=Kr.rep.live z hz;rw[h]at hu;cases hu
   refine⟨.ref p,ev,p,o,kvs,rfl,aG,?_⟩;have k1:=yo (o:=o) (G:=G) (H:=H) (fp:=fp) gp Uq Ur hf rs k;have wk:Walk X.K (upd G p @s) (Tn o kvs.length p) (kvs.map λkv=>kD kv.1):=vO aG hf;generalize (kvs.map λkv=>kD kv.1)=ds at k1 wk Kr;refine⟨λj m σ' H'=>m=ds.length-j/\j<=ds.length/\∃G' env' Ks,Same (upd G p @s) G'/\Rel X.K G' H' env' σ' Ks/\OutOk (md:=.mut) X.K G' H' Ks (To p o kvs D0) (cU a g (ds.drop j) env'),⟨_,rfl,Xw _,_,_,f1,.refl _,Kr,k1⟩,?_⟩;rintro j m σ2 H2 ⟨rfl,hj,G2,KA,Lc,gg,Kq,k2⟩;obtain⟨w1,w2⟩:=wk G2 H2 _ _ _ gg Kq j;by_cases K4:j<ds.length
   .have hd:ds[j]?=some ds[j]:=WM K4;obtain⟨go,yl⟩:=w1 _ hd;rw[ZD K4]at k2;refine .inr ⟨go,λσ' H'=>∃G' env' Ks,Same (upd G p @s) G'/\Rel X.K G' H' env' σ' Ks/\OutOk (md:=.mut) X.K G' H' Ks (To p o kvs D0) (cU a g (ds.drop (j+1)) env'),λσ' H' z=>⟨ds.length-(j+1),by lia,rfl,K4,z⟩,λx H3 y=>?_⟩;obtain⟨G3,rx,K0,K3⟩:=yl x H3 y;unfold cU at k2;match q3:a ds[j] KA,k2 with
    | .ok Lf,k2=>
     refine⟨G3,KA,Lc,ds[j],Lf,K0,rx,q3,λσ4 G4 Q4 Lr Ld=>⟨G4,Lf,Q4,Ld,?_⟩⟩;have k3:OutOk (md:=.mut) X.K G2 H2 Lc (To p o kvs D0) ((g Lf).bind λo=>match o with | .nx e=>cU a g (ds.drop (j+1)) e | .ct e=>cU a g (ds.drop (j+1)) e | .bk e=>.ok (.nx e) | .rt r=>.ok (.rt r)):=k2;match q4:g Lf,k3 with
     | .ok (.nx e),k3=>exact λσ' H' G' Ks st rel=>⟨G',e,Ks,gg.trans (K3.gg.trans (Lr.gg.trans st.gg)),rel,OutOk.after (K3.trans (Lr.trans st)) k3⟩
     | .ok (.ct e),k3=>exact λσ' H' G' Ks st rel=>⟨G',e,Ks,gg.trans (K3.gg.trans (Lr.gg.trans st.gg)),rel,OutOk.after (K3.trans (Lr.trans st)) k3⟩
     | .ok (.bk e),k3=>exact λσ' H' G' Ks st rel=>k3 σ' H' G' Ks (K3.trans (Lr.trans st)) rel
     | .ok (.rt r),k3=>exact λv H' G' Ks st rel=>k3 v H' G' Ks (K3.trans (Lr.trans st)) rel
   .have e:j=ds.length:=by lia
    subst e;rw[aaX]at k2;exact .inl ⟨w2 rfl,k2 σ2 H2 G2 Lc .refl Kq⟩
  .exact k.elim
end
end PV
namespace NX
section
variable{X:Cx}
end
end NX
namespace PV
variable{X:Cx}
section
end
inductive Ext:Hp->Hp->Prop
 |refl {H:Hp}:Ext H H
 |new {H H1:Hp}{p:WP}{xs:List V}:Ext H H1->H1 p=none->Ext H (upd H1 p (.tup xs))
theorem Ext.trans(a:Ext H H1)(b:Ext H1 H2):Ext H H2:=by
 induction b with
 |refl=>exact a
 |new _ hp ih=>exact .new ih hp
inductive BExp where
 |con (b:Bool)|var (j:Nat)|not (x:BExp)|and (x y:BExp)
abbrev Kn:=List (Nat×Bool)
def Qu(kn:Kn):BExp->Option Bool
 | .con b=>some b
 | .var j=>kn.lookup j
 | .not x=>(Qu kn x).map (!·)
 | .and x y=>(Qu kn x).bind λb=>if b=true then Qu kn y else some false
def vP(kn:Kn)(σ:L2.St):Prop:=∀j b,kn.lookup j=some b->σ[j]?=some (some (.bl b))
inductive tBE(i:Nat)(a:WP)(x:BExp)(σ:L2.St)(H:Hp)(Q:VK):Prop
 |mk:∀kn b,σ[i]?=some (some (.ref a))->vP kn σ->Qu kn x=some b->(∀H',Ext H H'->Q (.bl b) H')->tBE i a x σ H Q
def BE(X:Cx)(e:Expr)(i:Nat)(a:WP)(x:BExp):Prop:=PE X e (tBE i a x)
variable{C c:WP}{vs:Array Wp}{es:List Expr}{cs:List WP}
section
variable{a:WP}{o:Obj}{i:Nat}{e b:Expr}{aZ:List Expr}{x y:BExp}{pos p q:Pos}{n:Str}
theorem zO(h:BE X e i a x)(h2:BE X (.BoolOp .And (b::aZ) pos) i a y):BE X (.BoolOp .And (e::b::aZ) pos) i a (.and x y):=aO (DK h h2) λσ H Q Kz=>by
 obtain⟨kn,c,hi,hk,ev,k⟩:=Kz;unfold Qu at ev;obtain⟨b1,e1,ev⟩:=XJ.mp ev;refine⟨kn,b1,hi,hk,e1,λH1 x1=>⟨b1,rfl,?_⟩⟩;cases b1 with
 |true=>exact Hg ⟨kn,c,hi,hk,by rwa [WV rfl]at ev,λH2 x2=>k H2 (x1.trans x2)⟩
 |false=>
  rw[W6 WT]at ev;cases ev;exact iteF (k H1 x1)
theorem zP{op}(h:BE X e i a x):BE X (.BoolOp op [e] pos) i a x:=DJ h
theorem zQ(h:BE X e i a x):BE X (.UnaryOp .Not e pos) i a (.not x):=aO (y0 h) λσ H Q Kz=>by
 obtain⟨kn,c,hi,hk,ev,k⟩:=Kz;unfold Qu at ev;obtain⟨b1,e1,ev⟩:=Xi.mp ev;subst ev;exact⟨kn,b1,hi,hk,e1,λH1 x1=>⟨b1,rfl,k H1 x1⟩⟩
theorem zR(h:PE X e (oK j)):BE X e i a (.var j):=aO h λσ H Q ⟨kn,c,hi,hk,ev,k⟩=>⟨.bl c,hk j c ev,k H .refl⟩
theorem vQ:∀{cs:List WP}{Kt:List Wp},Vals (cs.map V.ref) Kt->Kt=cs.map Value.ref
 |[],_,.nil=>rfl
 |c::cs,_,.cons h r=>by rw[Xa,vQ r,show _=Value.ref c from h]
theorem lX(hp:(a,o)∈X.pn)(hc:o.cls=.ref C)(hv:o.data=.fields vs)(k:Asks X.K C):cb X (.builtin "isinstance") (λxs H Q=>
  (∃c b,xs=[.ref a,.ref c]/\PySem.W.kitOne X.K (.ref C) (.ref c)=some b/\Q (.bl b) H)\/(∃T b,xs=[.ref a,.ty T]/\PySem.W.kitOne X.K (.ref C) (.type T)=some b/\Q (.bl b) H)\/
  ∃(tp:WP) (cs:List WP) (b:Bool),xs=[.ref a,.ref tp]/\H tp=some (.tup (cs.map V.ref))/\PySem.W.kitAny X.K (.ref C) (cs.map Value.ref)=some b/\Q (.bl b) H):=by
 intro pr s σ H xs us Q I r h;obtain⟨pa,_⟩:=I.pin (a,o) (WR _ hp);have ex:ExAt a C s.heap:=⟨o,vs,pa,hc,hv⟩
 have fin:∀b,Q (.bl b) H->∀tk,EP X pr σ Q (.bool b) {s with toks:=tk}:=λb q tk=>⟨.bl b,H,I.tok tk,rfl,q⟩
 rcases h with⟨c,b,rfl,e,q⟩|⟨T,b,rfl,e,q⟩|⟨tp,cs,b,rfl,ht,e,q⟩
 .obtain⟨u,w',rfl,r1,r2⟩:=rS r;cases(show u=Value.ref a from r1);cases(show w'=Value.ref c from r2);exact PySem.W.kia_one (oX k) I.kIn ex e (λz=>nomatch z) (fin b q)
 .obtain⟨u,w',rfl,r1,r2⟩:=rS r;cases(show u=Value.ref a from r1);cases(show w'=Value.type T from r2);exact PySem.W.kia_one (oX k) I.kIn ex e (λz=>nomatch z) (fin b q)
 .obtain⟨u,w',rfl,r1,r2⟩:=rS r;cases(show u=Value.ref a from r1);cases(show w'=Value.ref tp from r2);obtain⟨_,Kt,rv,ot,e1,e2,⟨n,e3⟩,_⟩:=I.hok tp _ ht;cases vQ rv;obtain⟨c',d',da',VR⟩:=ot;dsimp only at e2 e3;subst e2;subst e3;exact PySem.W.kia_tup (oX k) I.kIn ex e1 e (λz=>nomatch z) (fin b q)
theorem yp{x:Str}{b:Bool}(hp:(a,o)∈X.pn)(hc:o.cls=.ref C)(hv:o.data=.fields vs)(k:Asks X.K C)(he:PE X e (oK i))(hg:Gl X "isinstance")(hm:X.mg "isinstance" = none)(ON:Gl X x)(O5:X.mg x=some (.ref c))(hb:PySem.W.kitOne X.K (.ref C) (.ref c)=some b)(Lw:@o=false:=by decide)
  (hs:starEach [e,.Name x q] X.env=(false,eval e X.env)::starEach [.Name x q] X.env:=by rfl) (M3:starEach [.Name x q] X.env=(false,eval (.Name x q) X.env)::starEach [] X.env:=by rfl) (Lj:(backTo pos (starEach [.Name x q] X.env)).any (·.1)=false:=by rfl):
  BE X (.Call (.Name "isinstance" p) [e,.Name x q] [] pos) i a (.con b):=
 aO (jd (lX hp hc hv k) hg hm dN (cc he (cc (tG (v:=.ref c) ON O5 rfl Lw) gM M3) hs) @b @b hs Lj) λσ H Q Kz=>by
  obtain⟨kn,c',hi,hk,ev,kk⟩:=Kz;cases ev;exact⟨.ref a,hi,.inl ⟨c,b,rfl,hb,kk H .refl⟩⟩
theorem zS{x:Str}{b:Bool}(hp:(a,o)∈X.pn)(hc:o.cls=.ref C)(hv:o.data=.fields vs)(k:Asks X.K C)(he:PE X e (oK i))(hg:Gl X "isinstance")(hm:X.mg "isinstance" = none)(ON:Gl X x)(O5:X.mg x=none)(hv2:bootBuiltins x=some (.type T))(hb:PySem.W.kitOne X.K (.ref C) (.type T)=some b)(hn:x≠"__name__":=by decide)(Lw:@o=false:=by decide)(hs:starEach [e,.Name x q] X.env=(false,eval e X.env)::starEach [.Name x q] X.env:=by rfl)(M3:starEach [.Name x q] X.env=(false,eval (.Name x q) X.env)::starEach [] X.env:=by rfl)(Lj:(backTo pos (starEach [.Name x q] X.env)).any (·.1)=false:=by rfl):
  BE X (.Call (.Name "isinstance" p) [e,.Name x q] [] pos) i a (.con b):=
 aO (jd (lX hp hc hv k) hg hm dN (cc he (cc (Aq (v:=.ty T) ON O5 hv2 rfl hn Lw) gM M3) hs) @b @b hs Lj) λσ H Q Kz=>by
  obtain⟨kn,c',hi,hk,ev,kk⟩:=Kz;cases ev;exact⟨.ref a,hi,.inr (.inl ⟨T,b,rfl,hb,kk H .refl⟩)⟩
noncomputable def yq(cs:List WP):TA:=λ_ H Q=>Q (cs.map V.ref) H
theorem zT{b:Bool}{kt}(hp:(a,o)∈X.pn)(hc:o.cls=.ref C)(hv:o.data=.fields vs)(k:Asks X.K C)(he:PE X e (oK i))(hg:Gl X "isinstance")(hm:X.mg "isinstance" = none)(QY:PA X es (yq cs))(hl:cs.length<=100)(hb:PySem.W.kitAny X.K (.ref C) (cs.map Value.ref)=some b)(hs:starEach [e,.Tuple es kt Mx] X.env=(false,eval e X.env)::starEach [.Tuple es kt Mx] X.env:=by rfl)(M3:starEach [.Tuple es kt Mx] X.env=(false,eval (.Tuple es kt Mx) X.env)::starEach [] X.env:=by rfl)(Lj:(backTo pos (starEach [.Tuple es kt Mx] X.env)).any (·.1)=false:=by rfl):
  BE X (.Call (.Name "isinstance" p) [e,.Tuple es kt Mx] [] pos) i a (.con b):=
 aO (jd (lX hp hc hv k) hg hm dN (cc he (cc (uc QY) gM M3) hs) @b @b hs Lj) λσ H Q Kz=>by
  obtain⟨kn,c',hi,hk,ev,kk⟩:=Kz;cases ev;exact⟨.ref a,hi,by rw[WN,line_eq];lia,λtp U7=>.inr (.inr ⟨tp,cs,b,rfl,aG,hb,kk _ (.new .refl U7)⟩)⟩
theorem zU:PA X [] (yq []):=iR gM λ_ _ _ h=>h
theorem cH{x:Str}(hg:Gl X x)(hm:X.mg x=some (.ref c))(h:PA X es (yq cs))(Lw:@o=false:=by decide)(hs:starEach (.Name x q::es) X.env=(false,eval (.Name x q) X.env)::starEach es X.env:=by rfl):PA X (.Name x q::es) (yq (c::cs)):=
 iR (cc (tG (v:=.ref c) hg hm rfl Lw) h hs) λ_ _ _ h=>h
noncomputable def Jk(r:List (Nat×Bool))(σ:L2.St):L2.St:=r.foldl (λσ z=>σ.set z.1 (some (.bl z.2))) σ
end
noncomputable def setB(r:List (Nat×Bool))(env:PV.Env):PV.Env:=r.foldl (λenv z=>env.set z.1 (some (.f,.bl z.2))) env
theorem qO:∀(r:List (Nat×Bool)) (env:PV.Env),(setB r env).length=env.length
 |[],_=>rfl
 |z::r,env=>by
  show(setB r (env.set z.1 _)).length=_;rw[qO r,XB]
theorem qP{K:W.Frag}{G H:Hp}{i:Nat}:∀(r:List (Nat×Bool)) {env:PV.Env}{σ:L2.St}{fp:List WP},Rel K G H env σ fp->env[i]?=some none->(∀z∈r,z.1<env.length/\z.1≠i)->∃Ks,Rel K G H (setB r env) (Jk r σ) Ks/\Step G H fp G H Ks/\(setB r env)[i]?=some none
 |[],_,_,fp,rel,hi,_=>⟨fp,rel,.refl,hi⟩
 |z::r,env,σ,fp,rel,hi,h=>by
  obtain⟨h1,h2⟩:=h z WJ;obtain⟨fq,Kq,Kw⟩:=(rel.push (b7 z.2)).store h1;obtain⟨Ks,K0,K3,h3⟩:=qP r Kq (by rw[Yc h2];exact hi) λy hy=>by
   rw[XB];exact h y (WK _ hy)
  exact⟨Ks,K0,Kw.trans K3,h3⟩
section
variable{md:Mode}{x:Str}{pos:Pos}{xe:FXE}
end
def sortedT:List D->Res R
 |[.tup ds]=>if ds.length<64 then match dB ds with
  |some l=>.ok (.l .f,.lst ((aB MP l).map D.str))
  |none=>.bad
  else .bad
 |_=>.bad
theorem sN(hc:X.calm=true):cb X (.builtin "sorted") (rC X.K sortedT):=by
 rintro pr s σ H xs us Q I rx ⟨G,fp,es,vs,ds,r,⟨rel,k⟩,vd,e⟩;unfold sortedT at e;split at e
 .rename_i ds;split at e
  .rename_i Ob;split at e
   .rename_i ls Qr;cases e;obtain⟨v,ev,p,ys,ep,sq,rs⟩:=lJ vd;subst ev;subst ep;obtain⟨hy,hz⟩:=dU Qr rs;subst hy;have hlen:ls.length<64:=by have:=rs.length;rw[WN]at this;lia
    refine m6 hc pr s σ H _ us Q I rx ⟨p,ls,rfl,SqT.of (rel.gh _ _ sq),hlen,λq ms hq pm sm=>?_⟩;have em:=g0 lP pm (Vk (λa b h=>by unfold MP;rw[Ya];exact h) sm);obtain⟨Kq,Kw⟩:=rel.newL hq (fR (K:=X.K) (G:=G) (f:=D.str) (g:=λl=>V.str (S l)) (l:=ms) λa ha=>iE (hz a (pm.mem_iff.mp ha)));rw[<-em]at k;exact k _ _ G _ Kw Kq
   .cases e
  .cases e
 .cases e
end PV
namespace PV
section
variable{X:Cx}
end
end PV
namespace PV
section
variable{K:W.Frag}{G H:Hp}
theorem AllO.length{P:D->V->List WP->Prop}:∀{ds:List D}{xs:List V}{fp:List WP},AllO P ds xs fp->xs.length=ds.length
 |[],xs,fp,r=>by
  rw[r.1];rfl
 |d'::ds,xs,fp,r=>by
  obtain⟨y,ys,a1,b1,e1,e2,p,r⟩:=r;subst e1;rw[WX,WX,r.length]
end
section
variable{md:Mode}{X:Cx}{scope:Scope}{N:List Str}{tg iter elt:Expr}{ifs:List Expr}{pos:Pos}{fi:FI}{a:FG}{c:FT}{f:FX}
end
section
variable{X:Cx}{x:Str}{p pos Mx:Pos}{e1 e2 e3:Expr}{fo:FO}{fb:FX}
end
section
variable{X:Cx}{x:Str}{p pos p1 p2 q1 q2:Pos}{o o':Expr}{j1 j2:_}
end
section
variable{K:W.Frag}{G H:Hp}
end
section
variable{X:Cx}{a b:Expr}{fa fb:FX}{pos:Pos}
end
section
variable{K:W.Frag}{G H:Hp}
end
section
variable{X:Cx}
end
section
variable{X:Cx}
end
section
variable{K:W.Frag}{G H:Hp}
end
section
variable{X:Cx}{a b:Expr}{fa fb:FX}{pos:Pos}
end
section
variable{md:Mode}{X:Cx}{pos Mx:Pos}
end
section
variable{X:Cx}{C:WP}{pos:Pos}{aZ a b:List Stmt}{ct:Expr}
end
def acc_on{P:W1}{w:World}{K:W.Frag}{mg:Str->Option Wp}{base:UF}{N:List Str}{qual:Str}{scope:Scope}{f C:WP}{cd:Wp}{A:Uf}{outer:List PySem.Env}{s:WF}{H:Hp}{E:XK}
  (pr:List (WP×Obj)) (σ:L2.St) (e:Wp) (s':WF) (h:XP (oM (Qi P w base C) P w K mg base N qual scope f cd A outer s H E) pr σ C (λH'=>E (.ref C) none H') e s'):
  (oM (Qi P w base C) P w K mg base N qual scope f cd A outer s H E).xe e s':=by
 obtain⟨s1,H1,I,a,t,B,H',rfl,os,bare,U,hok,Oe,hB,hW⟩:=h;have U6:∀b,b∈Lv (envOfC qual scope s.heap.objs.size f cd::outer)->b∈s.heap.objs.size::Lv outer:=I.stkSub;have up:∀b,b∈Lv outer->b∈Lv (envOfC qual scope s.heap.objs.size f cd::outer):=λb hb=>by
  obtain⟨en,he,hf⟩:=YF.mp hb;exact YF.mpr ⟨en,WK _ he,hf⟩
 have nl:∀b o,s.heap.get? b=some o->b∉Lv outer->b∉Lv (envOfC qual scope s.heap.objs.size f cd::outer):=λb o e n z=>by
  rcases WY.mp (U6 b z) with r|r
  .exact absurd (W4 e) (by rw[r];exact Yv _)
  .exact n r
 have nt:∀b,H' b≠none->b∉Lv (envOfC qual scope s.heap.objs.size f cd::outer):=λb n z=>by
  obtain⟨_,o,ho,_⟩:=I.stack.mem z;exact n (U.free b o ho (I.stkFree b z) (λz=>nomatch z))
 refine wpAny_leaves_onW (base:=B) (L:=s.heap.objs.size) I.ok.frames rfl Oe λh2 Tq sm=>?_
 have k:∀b u,s'.heap.get? b=some u->(H' b≠none\/∃o,s1.heap.get? b=some o)->b∉Lv (envOfC qual scope s.heap.objs.size f cd::outer)->h2.get? b=some u:=λb u q hh n=>Tq.1 b u (hB b u q hh n)
 have sl:∀b u,s'.heap.get? b=some u->b∈Lv outer->∃z,h2.get? b=some {u with slots:=z}:=λb u q n=>by
  obtain⟨_,o,ho,hd⟩:=Oe.2.2.1.mem (up b n);rw[q]at ho;cases ho;exact sm b u q hd
 have there:∀b o,s.heap.get? b=some o->∃o1 o2,s1.heap.get? b=some o1/\s'.heap.get? b=some o2:=λb o q=>by
  obtain⟨o1,e1⟩:=I.base.there b o q (λz=>nomatch z);obtain⟨o2,e2⟩:=U.there b o1 e1 (λz=>nomatch z);exact⟨o1,o2,e1,e2⟩
 refine⟨a,t,B,H',rfl,os.trans I.os,bare,⟨λb o q n hb hx=>?_,λb o q n hb hx=>?_,λb o q n hx=>?_,λb o q hx=>?_,λc xs q=>U.tups c xs (I.base.tups c xs q),λc ob xs q=>U.frzs c ob xs (I.base.frzs c ob xs q),λc ps q=>?_⟩,λb o e=>?_,Tq,λb u q hb n=>?_,hW⟩
 .have e1:=I.base.keep b o q n hb hx;have nb:=nl b o q hb;exact k b o (U.keep b o e1 (I.base.free b o q n hx) nb (λz=>nomatch z)) (.inr ⟨o,e1⟩) nb
 .obtain⟨z,e1⟩:=I.base.slot b o q n hb hx;obtain⟨z2,e2⟩:=U.slot b _ e1 (I.base.free b o q n hx) (up b hb) (λz=>nomatch z);obtain⟨z3,e3⟩:=sl b _ e2 hb;exact⟨z3,e3⟩
 .obtain⟨o1,e1⟩:=I.base.there b o q hx;exact U.free b o1 e1 (I.base.free b o q n hx) (λz=>nomatch z)
 .obtain⟨o1,o2,e1,e2⟩:=there b o q;by_cases hb:b∈Lv outer
  .obtain⟨z,e3⟩:=sl b o2 e2 hb;exact⟨_,e3⟩
  .exact⟨o2,k b o2 e2 (.inr ⟨o1,e1⟩) (nl b o q hb)⟩
 .obtain⟨m1,e1⟩:=I.base.tbls c ps q;obtain⟨m2,e2⟩:=U.tbls c _ e1;exact⟨m1++m2,by rw[e2,Array.append_assoc]⟩
 .refine(hok b o e).stay (λc u hc q=>?_) (λ_ q=>q) λ_ _ q=>q
  have hn:H' c≠none:=by
   rcases hc with rfl|hc
   .rw[e];exact λz=>nomatch z
   .rw[hc];exact λz=>nomatch z
  exact k c u q (.inl hn) (nt c hn)
 .have h1:∃u0,s'.heap.get? b=some u0/\(H' b≠none\/∃o,s1.heap.get? b=some o)/\b∉Lv (envOfC qual scope s.heap.objs.size f cd::outer):=by
   rcases hb with hb|⟨o,ho⟩
   .cases hq:H' b with
    |none=>exact absurd hq hb
    |some ho=>
     obtain⟨u0,e0⟩:=ook_get (hok b ho hq);exact⟨u0,e0,.inl (λz=>nomatch z),nt b hb⟩
   .obtain⟨o1,o2,e1,e2⟩:=there b o ho;exact⟨o2,e2,.inr ⟨o1,e1⟩,nl b o ho n⟩
  obtain⟨u0,e0,hh,n0⟩:=h1;have:=k b u0 e0 hh n0;rw[show h2.get? b=some u from q]at this;cases this;exact hB b _ e0 hh n0
section
variable{X:Cx}{x y:Str}{p pos pos' Kx:Pos}{e:Expr}{es:List Expr}{C:WP}{F:List D->Bool}{fs:FOs}{k:Nat}{aZ:List Stmt}{Ww:Hp->Prop}
end
section
variable{X:Cx}{a:WP}{i j jc:Nat}{x1 x2:BExp}{e1 e2 vc:Expr}{n nc:Str}{pos pos1 LY pos' pos'' bp p:Pos}
end
section
variable{md:Mode}{X:Cx}{x:Str}{pos:Pos}{C:WP}{xe:FXE}
end
section
variable{X:Cx}
end
section
variable{K:W.Frag}{G H:Hp}
end
section
variable{X:Cx}{pos:Pos}
end
end PV
namespace NX
namespace ST
noncomputable def memB{K:Type}[DecidableEq K](k:List K)(L:List (List K)):Bool:=decide (k∈L)
def memB_iff{K:Type}[DecidableEq K]{k:List K}{L:List (List K)}:memB k L=true<->k∈L:=decide_eq_true_iff
def met_succ{K:Type}[DecidableEq K](kf:Nat->List K)(i:Nat):met kf (i+1)=if memB (kf i) (met kf i) then met kf i else kf i::met kf i:=by
 rw[met];unfold memB;by_cases h:kf i∈met kf i
 .rw[WV h,WV (Xc h)]
 .rw[W6 h,W6 (by rw[Xn h];exact WT)]
end ST
end NX
namespace PV
def dst:List D->List D->List D
 |acc,[]=>acc
 |acc,d::ds=>dst (if acc.any (Kv d) then acc else d::acc) ds
def sO:List D->Res R
 |[.lst ds]=>if ds.length<=76&&ds.all (bR true) then .ok (.f,.int ((dst [] ds).length:Nat)) else .bad
 |_=>.bad
def FA(k:List Key)(L:List (List Key)):(L.map kT).any (Kv (kT k))=ST.memB k L:=by
 rw[YC,Xo,XM,ST.memB_iff];constructor
 .rintro⟨b,hb,e⟩;have e:Kv (kT k) (kT b)=true:=e;rw[qB,W3]at e;rw[e];exact hb
 .intro h;exact⟨k,h,by show Kv (kT k) (kT k)=true;rw[qB];exact Xc rfl⟩
theorem vR(ks:List (List Key)):∀(r:List (List Key)) (i:Nat),ks.drop i=r->dst ((ST.met (λi=>ks.getD i []) i).map kT) (r.map kT)=(ST.met (λi=>ks.getD i []) (i+r.length)).map kT
 |[],i,_=>rfl
 |k::r,i,h=>by
  have hi:ks.getD i []=k:=by
   rw[W8,<-List.head?_drop,h];rfl
  have hd:ks.drop (i+1)=r:=by
   rw[<-List.tail_drop,h];rfl
  have ih:=vR ks r (i+1) hd;rw[Xa,dst,FA,WX,show i+(r.length+1)=i+1+r.length by lia,<-ih];congr 1
  rw[ST.met_succ];rw[hi];cases ST.memB k (ST.met (λi=>ks.getD i []) i) with
  |true=>rw[WV rfl,WV rfl]
  |false=>rw[W6 WT,W6 WT,Xa]
variable{X:Cx}{e:Expr}{p:Pos}
section
variable{fs:FOs}{p2 pos LY:Pos}
theorem Cd(hc:X.calm=true)(hu:X.A.units+8<cLine)(hg:Gl X "len")(hm:X.mg "len" = none)(ON:Gl X "set")(O5:X.mg "set" = none)(ha:QOs X [e] fs)
  (he:backTo pos (starEach [.Call (.Name "set" p2) [e] [] LY] X.env)=[(false,eval (.Call (.Name "set" p2) [e] [] LY) X.env)]:=by rfl)
  (SN:starEach [e] X.env=(false,eval e X.env)::starEach [] X.env:=by rfl) (Q1:(backTo LY (starEach [] X.env)).any (·.1)=false:=by rfl):
  QE X (.Call (.Name "len" p) [.Call (.Name "set" p2) [e] [] LY] [] pos) (aH sO fs):=
 aO (ST.pe_lenS hc hu hg hm ON O5 ha he SN Q1) λσ H Q h=>by
  refine yj (o8 h) λxs H1 KQ=>?_
  obtain⟨G,fp,es,vs,ds,r,⟨rel,k⟩,vd,e⟩:=KQ;unfold sO at e;split at e
  .rename_i ds;split at e
   .rename_i hcnd;cases e;rw[WW,W3,Xr]at hcnd;obtain⟨Wb,L4⟩:=hcnd;obtain⟨v,ev,p,ys,ep,sq,rs⟩:=lJ vd;subst ev ep;have hlen:=rs.length;have Wr:∀(i:Nat) d,ds[i]?=some d->∃kk,cC d=some kk:=λi d hd=>by
     have:=L4 d (Xm hd);unfold bR at this;rw[WV rfl,XG]at this;exact this
    have Mn:∀(i:Nat) y,ys[i]?=some y->∃b,y=.ref b/\H1 b=some (.tup (((ds.map λd=>(cC d).getD []).getD i []).map kV))/\ds[i]?=some (kT ((ds.map λd=>(cC d).getD []).getD i [])):=λi y hy=>by
     obtain⟨d,hd,rd⟩:=rs.getV hy;obtain⟨kk,Og⟩:=Wr i d hd;obtain⟨b,eb,gb,Vx⟩:=cX Og rd;have eg:(ds.map λd=>(cC d).getD []).getD i []=kk:=by
      rw[W8,W2,hd,aal,Og];rfl
     rw[eg];exact⟨b,eb,rel.gh _ _ gb,by rw[hd,Vx]⟩
    have N6:(ds.map λd=>(cC d).getD []).map kT=ds:=by
     refine ZZ λi=>?_
     cases hd:ds[i]? with
     |none=>rw[W2,W2,hd];rfl
     |some d=>
      obtain⟨y,hy,rd⟩:=rs.get hd;obtain⟨kk,Og⟩:=Wr i d hd;obtain⟨b,eb,gb,Vx⟩:=cX Og rd;rw[W2,W2,hd,aal,aal,Og,Vx];rfl
    have Tr:=vR (ds.map λd=>(cC d).getD []) _ 0 rfl;rw[aav,N6,Zi,WN]at Tr;refine⟨p,ys,λi=>(ds.map λd=>(cC d).getD []).getD i [],rfl,sq,by lia,λi y hy=>?_,?_⟩
    .obtain⟨b,eb,gb,_⟩:=Mn i y hy;exact⟨b,eb,gb⟩
    .have Qk:(dst [] ds).length=(ST.met (λi=>(ds.map λd=>(cC d).getD []).getD i []) ys.length).length:=by
      rw[hlen];have:=Yp List.length Tr;rw[WN]at this;exact this
     rw[<-Qk];exact k _ H1 G fp .refl (rel.push (aW _))
   .cases e
  .cases e
end
section
variable{fs:FOs}{p2 pos LY:Pos}
end
noncomputable def xOf(xe:FXE):FB:=λenv=>(xe env).isSome
variable{xe:FXE}{C:WP}{σ:L2.St}{H:Hp}
section
variable{aZ:List Stmt}{a b:Expr}{pos:Pos}{Ww:Hp->Prop}
theorem Ce{op:CmpOp}(h:Qt X a C xe)(hm:behindInMarks op b=false:=by with_unfolding_all rfl):Qt X (.Compare a [op] [b] pos) C xe:=Br h hm
theorem zV(h:tX X.K (xOf xe) Ww σ H):tQX X.K xe σ H Ww:=by
 obtain⟨G,env,fp,rel,e,k⟩:=h;obtain⟨env',e'⟩:=XG.mp e;exact⟨G,env,fp,env',rel,e',λH' G' Ks st r=>k H' G' Ks st r.nilF⟩
theorem FC(acc:∀pr σ e s',XP X pr σ C Ww e s'->X.xe e s')(h:Qt X e C xe):QX X (.Return (some e) pos::aZ) (xOf xe) Ww:=pZ (Es acc h) λ_ _ z=>zV z
theorem FD(acc:∀pr σ e s',XP X pr σ C Ww e s'->X.xe e s')(h:Qt X e C xe)(he:∀whole,isTrue e X.env whole=(do let v <-whole;standAt e.pos;holding [v] (truthy v)):=by intro _;rfl):
  QX X (.If (.UnaryOp .Not e p) c d pos::aZ) (xOf xe) Ww:=pZ (Et acc h he) λ_ _ z=>zV z
end
inductive Ext2:Hp->Hp->Prop
 |refl {H:Hp}:Ext2 H H
 |tup {H H1:Hp}{p:WP}{xs:List V}:Ext2 H H1->H1 p=none->Ext2 H (upd H1 p (.tup xs))
 |lst {H H1:Hp}{p:WP}{bs:List Bool}:Ext2 H H1->H1 p=none->Ext2 H (upd H1 p (.lst (bs.map V.bl)))
theorem Ext2.trans(a:Ext2 H H1)(b:Ext2 H1 H2):Ext2 H H2:=by
 induction b with
 |refl=>exact a
 |tup _ hp ih=>exact .tup ih hp
 |lst _ hp ih=>exact .lst ih hp
theorem Ext.to2(a:Ext H H1):Ext2 H H1:=by
 induction a with
 |refl=>exact .refl
 |new _ hp ih=>exact .tup ih hp
theorem lY{K:W.Frag}{G:Hp}:∀bs:List Bool,Reps K G (bs.map D.bl) (bs.map V.bl)
 |[]=>.nil
 |b::bs=>.cons (b7 b) (lY bs)
theorem Ext2.rel{K:W.Frag}{G H':Hp}{env:PV.Env}{fp:List WP}(e:Ext2 H H')(r:Rel K G H env σ fp):∃G' Ks,Rel K G' H' env σ Ks/\Step G H fp G' H' Ks:=by
 induction e with
 |refl=>exact⟨G,fp,r,.refl⟩
 |tup _ hp ih=>
  obtain⟨G1,KR,r1,s1⟩:=ih;obtain⟨r2,s2⟩:=r1.newF hp;exact⟨_,_,r2,s1.trans s2⟩
 |lst _ hp ih=>
  obtain⟨G1,KR,r1,s1⟩:=ih;obtain⟨r2,s2⟩:=r1.newL hp (lY _);obtain⟨b,r3,s3⟩:=r2.drop;exact⟨_,_,r3,s1.trans (s2.trans s3)⟩
def Cf(kn:Kn):List BExp->Option (List Bool)
 |[]=>some []
 |x::xs=>(Qu kn x).bind λb=>(Cf kn xs).map (b:: ·)
inductive tBs(i:Nat)(a:WP)(xs:List BExp)(σ:L2.St)(H:Hp)(Q:List V->Hp->Prop):Prop
 |mk:∀kn bs,σ[i]?=some (some (.ref a))->vP kn σ->Cf kn xs=some bs->(∀H',Ext H H'->Q (bs.map V.bl) H')->tBs i a xs σ H Q
variable{pos':Pos}{XS:List (List BExp)}{Oo:List Stmt}
section
variable{a:WP}{i j:Nat}{es:List Expr}{x:BExp}{xs:List BExp}{pos q Ts:Pos}{n:Str}
def PB(X:Cx)(es:List Expr)(i:Nat)(a:WP)(xs:List BExp):Prop:=PA X es (tBs i a xs)
theorem zW:PB X [] i a []:=iR gM λσ H Q Kz=>by
 obtain⟨kn,bs,hi,hk,ev,k⟩:=Kz;cases ev;exact k H .refl
theorem iI(h:BE X e i a x)(hr:PB X es i a xs)(hs:starEach (e::es) X.env=(false,eval e X.env)::starEach es X.env:=by rfl):PB X (e::es) i a (x::xs):=iR (cc h hr hs) λσ H Q Kz=>by
 obtain⟨kn,bs,hi,hk,ev,k⟩:=Kz;unfold Cf at ev;obtain⟨b,e1,ev⟩:=XJ.mp ev;obtain⟨bs',e2,ev⟩:=Xi.mp ev;subst ev;exact⟨kn,b,hi,hk,e1,λH1 x1=>⟨kn,bs',hi,hk,e2,λH2 x2=>k H2 (x1.trans x2)⟩⟩
def vS(kn:Kn):List Bool->List (List BExp)->Option (List Bool)
 |bs,[]=>some bs
 |bs,xs::XS=>(Cf kn xs).bind λcs=>if bs.length+cs.length<=1000 then vS kn (bs++cs) XS else none
inductive tAL(i:Nat)(a:WP)(j:Nat)(XS:List (List BExp))(D:Ends)(σ:L2.St)(H:Hp):Prop
 |mk:∀kn bs tot H0 Hc p σ0,Ext2 H0 Hc->Hc p=none->H=upd Hc p (.lst (bs.map V.bl))->σ=σ0.set j (some (.ref p))->j<σ0.length->i≠j->σ0[i]?=some (some (.ref a))->vP kn σ0->kn.lookup j=none->vS kn bs XS=some tot->
   (∀Hc p,Ext2 H0 Hc->Hc p=none->D.nx (σ0.set j (some (.ref p))) (upd Hc p (.lst (tot.map V.bl))))->tAL i a j XS D σ H
def Ws(X:Cx)(st:List Stmt)(i:Nat)(a:WP)(j:Nat)(XS:List (List BExp)):Prop:=PSs X st (tAL i a j XS)
theorem vT:Ws X [] i a j []:=lA tH λD σ H Kz=>by
 obtain⟨kn,bs,tot,H0,Hc,p,σ0,e0,hp,eH,es,hl,MV,hi,hk,hj,ev,k⟩:=Kz;cases ev;subst eH es;exact k Hc p e0 hp
theorem yr{n:Nat}(h:n<=1000):n<=sizeLine:=Xz h (by rw[line_eq];decide)
inductive tBL(i:Nat)(a:WP)(j:Nat)(xs:List BExp)(XS:List (List BExp))(D:Ends)(σ:L2.St)(H:Hp):Prop
 |mk:∀kn bs tot,j<σ.length->i≠j->σ[i]?=some (some (.ref a))->vP kn σ->kn.lookup j=none->Cf kn xs=some bs->bs.length<=1000->vS kn bs XS=some tot->
   (∀Hc p,Ext2 H Hc->Hc p=none->D.nx (σ.set j (some (.ref p))) (upd Hc p (.lst (tot.map V.bl))))->tBL i a j xs XS D σ H
theorem vU(hN:X.N.Nodup)(hj:X.N[j]?=some n)(hx:Loc X.env.scope n)(hb:PB X es i a xs)(h:Ws X Oo i a j XS)
  (hs:swapsWith (.List es Ts) (some (.Name n pos')) pos.line X.env=pure false:=by rfl) (hf:X.fn n=true\/X.env.scope.names.lookup n=some .local:=by first|exact .inl rfl|exact .inr rfl|assumption):
  PSs X (.Assign [.Name n pos'] (.List es Ts) pos::Oo) (tBL i a j xs XS):=λpr s σ H D I ⟨kn,bs,tot,hl,MV,hi,hk,MG,e1,hlen,ev,k⟩=>
 k4 (tI (i:=j) hN hj hx (y6 hb) hs hf) h pr s σ H D I ⟨kn,bs,hi,hk,e1,λH1 x1=>⟨by rw[WN];exact yr hlen,λp hp=>⟨kn,bs,tot,H,H1,p,σ,x1.to2,hp,rfl,rfl,hl,MV,hi,hk,MG,ev,k⟩⟩⟩
def yt:List (Nat×BExp)->Kn->Option (List (Nat×Bool)×Kn)
 |[],kn=>some ([],kn)
 |(j,x)::L,kn=>(Qu kn x).bind λb=>(yt L ((j,b)::kn)).map λr=>((j,b)::r.1,r.2)
inductive tS2(i:Nat)(a:WP)(L:List (Nat×BExp))(j:Nat)(xs:List BExp)(XS:List (List BExp))(D:Ends)(σ:L2.St)(H:Hp):Prop
 |mk:∀kn r N1 bs tot,j<σ.length->i≠j->σ[i]?=some (some (.ref a))->vP kn σ->yt L kn=some (r,N1)->N1.lookup j=none->Cf N1 xs=some bs->bs.length<=1000->vS N1 bs XS=some tot->
   (∀Hc p,Ext2 H Hc->Hc p=none->D.nx ((Jk r σ).set j (some (.ref p))) (upd Hc p (.lst (tot.map V.bl))))->tS2 i a L j xs XS D σ H
def Us(X:Cx)(st:List Stmt)(i:Nat)(a:WP)(L:List (Nat×BExp))(j:Nat)(xs:List BExp)(XS:List (List BExp)):Prop:=PSs X st (tS2 i a L j xs XS)
theorem vV{st:List Stmt}(h:PSs X st (tBL i a j xs XS)):Us X st i a [] j xs XS:=lA h λD σ H Kz=>by
 obtain⟨kn,r,N1,bs,tot,hl,MV,hi,hk,e,MG,e1,hlen,ev,k⟩:=Kz;cases e;exact⟨kn,bs,tot,hl,MV,hi,hk,MG,e1,hlen,ev,k⟩
theorem vW(hN:X.N.Nodup)(hj:X.N[l]?=some n)(hx:Loc X.env.scope n)(he:BE X e i a x)(h:Us X Oo i a L j xs XS)(Na:i≠l)(hs:swapsWith e (some (.Name n pos')) pos.line X.env=pure false:=by rfl)(hf:X.fn n=true\/X.env.scope.names.lookup n=some .local:=by first|exact .inl rfl|exact .inr rfl|assumption):
  Us X (.Assign [.Name n pos'] e pos::Oo) i a ((l,x)::L) j xs XS:=λpr s σ H D I Kz=>by
 obtain⟨kn,r,N1,bs,tot,Vj,MV,hi,hk,er,MG,e1,hlen,ev,k⟩:=Kz;unfold yt at er;obtain⟨b,e0,er⟩:=XJ.mp er;obtain⟨⟨r',kn2⟩,e2,er⟩:=Xi.mp er;cases er;have hl:l<σ.length:=by rw[I.len];exact(WS.mp hj).1
 refine k4 (tI (i:=l) hN hj hx he hs hf) h pr s σ H D I ⟨kn,b,hi,hk,e0,λH1 x1=>⟨(l,b)::kn,r',kn2,bs,tot,by rw[XB];exact Vj,MV,by rw[Yc (Yj Na)];exact hi,λj' b' z=>?_,e2,MG,e1,hlen,ev,λHc p x2 hp=>k Hc p (x1.to2.trans x2) hp⟩⟩;by_cases hjj:j'=l
 .subst hjj;rw[List.lookup_cons_self]at z;cases z;exact XF hl
 .rw[X5,show(j'==l)=false from XQ.mpr hjj]at z;rw[Yc (Yj hjj)];exact hk j' b' z
end
def sTryL(i:Nat)(x:FXE)(g:FS)(r:List (Nat×Bool))(j:Nat)(tot:List Bool):FS:=λenv=>match x env with
 |some e=>match e[i]? with
  |some none=>if((r.all λz=>decide (z.1<e.length) && !(z.1==i))&&decide (j<e.length) && !(j==i))=true then .ok (.nx ((setB r e).set j (some (.l .f,.lst (tot.map D.bl))))) else .bad
  |_=>.bad
 |none=>g env
noncomputable def sAlt(x:FXE)(g h:FS):FS:=λenv=>match x env with
 |some _=>g env
 |none=>h env
section
variable{md:Mode}{x:Str}{pos:Pos}
theorem FE{st:Stmt}{g h:FS}(a:QS (md:=md) X st g)(b:QS (md:=md) X st h):QS (md:=md) X st (sAlt xe g h):=λpr s σ H D I Kz=>by
 obtain⟨G,env,fp,rel,kk⟩:=Kz;unfold sAlt at kk;cases q:xe env with
 |none=>
  rw[q]at kk;exact b pr s σ H D I ⟨G,env,fp,rel,kk⟩
 |some e=>
  rw[q]at kk;exact a pr s σ H D I ⟨G,env,fp,rel,kk⟩
end
end PV
namespace NX
section
variable{X:Cx}{aZ a:List Stmt}{tx ta tb:TX}{tc:TT}{e ct:Expr}{C:WP}{pos p:Pos}{Ww:Hp->Prop}
end
end NX
namespace PV
section
variable{md:Mode}{X:Cx}{x:Str}{pos:Pos}{C:WP}{xe:FXE}{aZ a:List Stmt}{e ct:Expr}{Ww:Hp->Prop}
theorem qQ{bs:List Bool}(O:XCl X.mg X.base x P)(up:PySem.W.mroIn X.K C (.ref P)=some true)(hg:Gl X x)(hn:QSs (md:=md) X.nox body g)(hx:Wn X body C xe)(hh:∀a o vs,o.cls=.ref C->o.data=.fields vs->Us (asX X a o) (b0::MW) i a L j xs XS)(hL:yt L []=some (r,N1))(MG:N1.lookup j=none)(hb:Cf N1 xs=some bs)(hlen:bs.length<=1000)(hT:vS N1 bs XS=some tot)(hN:X.N.Nodup)(hi:X.N[i]?=some n)(hl:X.env.kindOf n=some .local)(R5:X.env.scope.names.lookup n=some .local)(hs:X.stack=X.env::X.outer:=by rfl)(hf:X.env.frame=some X.env.locals:=by rfl)(Lw:@o=false:=by decide):
  QS (md:=md) X (.Try body [.ExceptHandler (some (.Name x np)) (some n) (b0::MW) Oi] [] [] pos) (sTryL i xe g r j tot):=de (ps_tryUp (t:=tQS (md:=md) X.K g) (th:=λa=>tS2 i a L j xs XS) (tx:=tQX X.K xe) O up hg hn hx (λa o vs h1 h2=>hh a o vs h1 h2) hN hi hl R5 hs hf Lw) λD σ H Kz=>by
 obtain⟨G,env,fp,rel,kk⟩:=Kz;unfold sTryL at kk;cases q:xe env with
 |none=>
  rw[q]at kk;exact .inl ⟨G,env,fp,rel,kk⟩
 |some e=>
  rw[q]at kk;dsimp only at kk;split at kk
  .rename_i c1;split at kk;case isFalse=>exact kk.elim
   rename_i c2;rw[WW,WW,W3]at c2;obtain⟨⟨c2,c3⟩,c4⟩:=c2;have c4:j≠i:=by simpa using c4
   refine .inr ⟨G,env,fp,e,rel,q,λH' G' Ks st K2 a=>?_⟩;have Mq:=K2.rep.length;have Na:i<e.length:=(WS.mp c1).1;refine⟨[],r,N1,bs,tot,by rw[XB];lia,Yj c4,XF @a,(λj b z=>by cases z),hL,MG,hb,hlen,hT,λHc p x2 hp=>?_⟩;obtain⟨G2,Lc,Kq,Kw⟩:=x2.rel (K2.any (y:=some (.ref a)) (.inl c1));obtain⟨fq,K0,K3,h3⟩:=qP (i:=i) r Kq c1 λz hz=>by
    have:=Xr.mp c2 z hz;rw[WW,W3]at this;exact⟨this.1,by simpa using this.2⟩
   obtain⟨Ld,Lr⟩:=K0.newL hp (lY tot);obtain⟨fz,Lz,L8⟩:=Ld.store (i:=j) (by rw[qO];exact c3);exact kk _ _ G2 fz (st.trans (Kw.trans (K3.trans (Lr.trans L8)))) (Lz.any (y:=none) (.inl (by rw[Yc c4];exact h3)))
  .exact kk.elim
end
end PV
namespace NX
section
variable{X:Cx}{e:Expr}{td:TE}{p pos apos Kx:Pos}
inductive LV(Q:VK)(v:V)(H1:Hp):Prop
 |mk (a:WP) (kvs:List (Key×V)):v=.ref a->H1 a=some (.dK kvs)->(∀l,H1 l=none->Q (.ref l) (upd H1 l (.lst (kvs.map (·.2)))))->LV Q v H1
noncomputable def tLV(td:TE):TE:=λσ H Q=>td σ H λv H1=>LV Q v H1
theorem yu(hc:X.calm=true)(hg:Gl X "list")(hm:X.mg "list" = none)(ho:PE X e td)(Li:attributeBase e "values" X.env (eval e X.env)=eval e X.env:=by rfl)(Ln:(apos.endLine==Kx.line)=true:=by rfl)
  (he:backTo pos (starEach [.Call (.Attribute e "values" apos) [] [] Kx] X.env)=[(false,eval (.Call (.Attribute e "values" apos) [] [] Kx) X.env)]:=by rfl):
  PE X (.Call (.Name "list" p) [.Call (.Attribute e "values" apos) [] [] Kx] [] pos) (tLV td):=by
 intro pr s σ H Q I h;refine Yd (eQ I hg hm (by decide +kernel:bootBuiltins "list" = some (.type "list")) ?_ @b @b);rw[he];refine PySem.callWith_type1 ?_;refine wpAny_Call_method0_late Li Ln (KN (ho pr s σ H _ I h) λv s1 KQ=>?_);obtain⟨x,H1,I1,r1,a,kvs,ex,ha,q⟩:=KQ;subst ex;have ty:T8 X.K "dict" (.ref a) H1:=.inr (.inr (.inl ⟨rfl,.inl ⟨kvs,ha⟩⟩));obtain⟨h1,h2⟩:=y8 I1 r1 ty;cases r1;obtain⟨z,nm,vs,r,hD⟩:=(show ObjOk X.prog X.w H1 s1.heap a (.dK kvs) from I1.hok a _ ha)
 obtain⟨ep,Mn⟩:=hD.dictAt;refine⟨"dict","dict.values",F.plainAttrs_dict,F.slot_dict_values,F.type_dict_values,h1,h2,YS rfl (PySem.evalArgs_none ?_)⟩;refine call_meetsIn F.slot_dict_values h1 F.entry_dict_values (F.args_dict_values_1 _) (meets_dict_values (mixKind X.prog X.w) a nm) ⟨⟨vs,hD⟩,?_⟩;have hl:=r.length;have kp:∀b u,s1.heap.get? b=some u->(s1.heap.push {cls:=.type "dict_values",data:=.fields #[.ref a]}).get? b=some u:=λb u e=>WL _ e
 have I2:=I1.kept (t':=s1.toks) kp;refine PySem.W.kdl_call (PySem.W.kdl_values (knd:=mixKind X.prog X.w) (r:=s1.heap.objs.size) (d:=a) (kvs:=vs) (ep:=ep)) (I1.ok.hd hc) ⟨⟨_,W7 _ rfl,rfl,rfl⟩,Mn.push _⟩ (by rw[<-hl];exact z) λh' tk Ou c' hk hS M7=>?_
 refine⟨.ref _,_,I2.laid (o:=.lst (kvs.map (·.2))) (t':=tk) hk (WU _) ⟨by rw[WN];exact z,Ou.toList,c',?_,by rw[Array.toArray_toList];exact hS⟩,rfl,q _ (I2.hok.fresh (WU _))⟩;refine PV.pk (by rw[WN,hl];exact(M7.1.symm.trans (W0 (xs:=Ou)).symm)) λi x b hx hb=>?_
 rw[Zk]at hb;obtain⟨k,e1⟩:=M7.2 i b hb;rw[W2]at hx;cases Mm:kvs[i]? with
 |none=>rw[Mm]at hx;cases hx
 |some kv=>
  rw[Mm]at hx;obtain⟨k',v'⟩:=kv;obtain⟨u,hu,ru⟩:=B2 r Mm;rw[e1]at hu;cases hu;cases hx;exact ru
end
end NX
namespace PV
noncomputable def nU(i:Nat):FX:=λenv=>match env[i]? with
 |some (some (.d,.dct false _ vs))=>.ok ((.l .f,.lst vs),env)
 |_=>.bad
variable{X:Cx}{i:Nat}
section
variable{p pos apos Kx:Pos}
theorem yv(hc:X.calm=true)(hg:Gl X "list")(hm:X.mg "list" = none)(ho:PE X o (oK i))(Li:attributeBase o "values" X.env (eval o X.env)=eval o X.env:=by rfl)(Ln:(apos.endLine==Kx.line)=true:=by rfl)(he:backTo pos (starEach [.Call (.Attribute o "values" apos) [] [] Kx] X.env)=[(false,eval (.Call (.Attribute o "values" apos) [] [] Kx) X.env)]:=by rfl):
  QE X (.Call (.Name "list" p) [.Call (.Attribute o "values" apos) [] [] Kx] [] pos) (nU i):=by
 refine aO (yu hc hg hm ho Li Ln he) λσ H Q KQ=>?_
 obtain⟨G,env,fp,r,env',rel,e,k⟩:=KQ;unfold nU at e;split at e
 .rename_i ks vs N6;cases e;obtain⟨a,xs,u,ep,hp,dd,rs,_⟩:=rel.chgD N6;obtain⟨kvs,eu,ek,ex,NK⟩:=dd;subst eu;refine⟨.ref a,ep,a,kvs,rfl,hp,λl hl=>?_⟩;rw[ex]at rs;obtain⟨Kq,Kw⟩:=rel.newL hl rs;exact k _ _ G _ Kw Kq
 .cases e
end
def eSDef(i:Nat)(fk fv:FX):FX:=λenv=>match env[i]? with
 |some (some (.d,.dct false _ _))=>(fk env).bind λq=>(fv q.2).bind λp=>match p.2[i]? with
  |some (some (.d,.dct false ks vs))=>if bR false q.1.2&&decide (ks.length<sizeLine) then(match getD ks vs q.1.2 with
    |some d=>.ok ((.f,d),p.2)
    |none=>.ok ((.f,p.1.2),p.2.set i (some (.d,.dct false (kj ks vs q.1.2 p.1.2).1 (kj ks vs q.1.2 p.1.2).2)))) else .bad
  |_=>.bad
 |_=>.bad
section
variable{apos Kx:Pos}
theorem Cg(ho:PE X o (oK i))(hi:QE X ke fk)(hv:QE X ve fv)(m:M2 X o "setdefault" apos ke ve Kx):
  QE X (.Call (.Attribute o "setdefault" apos) [ke,ve] [] Kx) (eSDef i fk fv):=aO (Bs ho hi hv m) λσ H Q Kz=>by
 obtain⟨G,env,fp,r,env',rel,e,k⟩:=Kz;unfold eSDef at e;split at e
 .rename_i ks0 vs0 h0;obtain⟨⟨r1,Ko⟩,e1,e⟩:=ag e;dsimp only at e;obtain⟨⟨r2,KA⟩,e2,e⟩:=ag e;dsimp only at e;split at e
  .rename_i ks vs h2;split at e
   .rename_i hc;rw[WW,W3]at hc;obtain⟨a0,xs0,u0,Wt,Vy,dd0,_,_⟩:=rel.chgD h0;obtain⟨kvs0,eu0,_⟩:=dd0;subst eu0;refine⟨.ref a0,Wt,a0,rfl,.inl ⟨kvs0,.inl Vy⟩,G,env,fp,r1,Ko,rel,e1,λy H1 G1 KR KJ Kr=>?_⟩;obtain⟨G2,b,ry,Kq,Kw⟩:=Kr.freeze;refine⟨G2,Ko,b,r2,KA,Kq,e2,λz H3 G3 LJ K3 K0=>?_⟩;obtain⟨G4,b4,rz,Ld,Lr⟩:=K0.freeze;obtain⟨p,xs,u,ep,hp,dd,rs,cg⟩:=Ld.chgD h2;rw[Wt]at ep;cases ep;obtain⟨kvs,eu,ek,ex,NK⟩:=dd;subst eu;subst ex;have hk:=hc.1;unfold bR at hk;rw[W6 WT,XG]at hk;obtain⟨kk,hk⟩:=hk;have Q6:Rep X.K G4 r1.2 y:=Rep.mono (K3.gg.trans Lr.gg) ry;obtain⟨ez,dz⟩:=dC hk Q6;subst ez;have hlen:kvs.length<sizeLine:=by have:=hc.2;rw[ek,WN]at this;exact this
    obtain⟨g1,g2⟩:=g9 (K:=X.K) (G:=G4) kD nG (k:=kk) rs;rw[<-ek,<-dz]at g1 g2;obtain⟨t1,t2⟩:=jO (K:=X.K) (G:=G4) kD nG (k:=kk) rs rz;rw[<-ek,<-dz]at t1 t2;refine⟨kvs,kk,hp,hlen,rfl,λv l=>?_,λl=>?_⟩
    .cases OP:getD ks vs r1.2 with
     |none=>
      rw[OP,l]at g1;cases g1
     |some d=>
      rw[OP]at e;cases e;obtain⟨v',l',rd⟩:=g2 d OP;rw[l]at l';cases l';exact k _ _ G4 b4 (KJ.trans (Kw.trans (K3.trans Lr))) (Ld.push rd)
    .cases OP:getD ks vs r1.2 with
     |some d=>
      rw[OP,l]at g1;cases g1
     |none=>
      rw[OP]at e;cases e;obtain⟨fq,Lz,L8⟩:=cg (.dK (gI kvs kk z)) _ _ _ ⟨gI kvs kk z,rfl,t1.symm,rfl,lR (P:=qf) NK (qC hk Q6)⟩ t2;exact k _ _ G4 fq (KJ.trans (Kw.trans (K3.trans (Lr.trans L8)))) (Lz.push rz)
   .cases e
  .cases e
 .cases e
end
def psS(st:Stmt):List Str:=(defArgs st).args.map (·.arg)
abbrev Qv(st:Stmt):Prop:=FnScope (Qs (defScope st)) (psS st) (defScope st)
abbrev Vz(x:Str)(st:Stmt):Prop:=∀(kV doc pm:Wp) (an:Option WP) (KW ct:Wp) (us:List Wp),us.length=(psS st).length->bindArgs @w ⟨us,[]⟩=pure ((psS st).zip us)
variable{x:Str}
section
variable{P:W1}{w:World}{K:W.Frag}{mg:Str->Option Wp}{base:UF}{st:Stmt}{k j:Nat}{g:FS}{c:O}{f:WP}{fd:FuncData}
abbrev Ut(md:Mode)(P:W1)(w:World)(K:W.Frag)(mg:Str->Option Wp)(base:UF)(x:Str)(st:Stmt)(k:Nat)(g:FS)(f:WP):Prop:=∀(KW:Wp) (A:Uf) (outer:List PySem.Env) (s:WF) (H:Hp) (E:XK),Room k (A.deeper (envOfC x (defScope st) s.heap.objs.size f KW))->(Qs (defScope st)).Nodup->QSs (md:=md) (oM M5 P w K mg base (Qs (defScope st)) x (defScope st) f KW A outer s H E).nox (bj st) g
theorem J0(Df:Def K mg x st)(sc:Qv st)(hb:Vz x st)(body:∀f,Ut .plain P w K mg base x st k g f):Ct P w K mg base x (k+1) (spF K (fBody (psS st).length ((Qs (defScope st)).length-(psS st).length) g)):=x4 Df sc hb λf KW A outer s H E hr=>body f KW A outer s H E hr sc.nd
theorem Iu(Df:Def K mg x st)(sc:Qv st)(hb:Vz x st)(body:∀f,Ut .mut P w K mg base x st k g f):Ct P w K mg base x (k+1) (spM K c (jR (psS st).length ((Qs (defScope st)).length-(psS st).length) c g)):=Fo Df sc hb λf KW A outer s H E hr=>body f KW A outer s H E hr sc.nd
theorem Iw(Df:Def K mg x st)(sc:Qv st)(hb:Vz x st)(body:∀f,Ut .mut P w K mg base x st k g f):Ct P w K mg base x (k+1) (spJ j K c (fBodyJ j (psS st).length ((Qs (defScope st)).length-(psS st).length) c g)):=Fz Df sc hb λf KW A outer s H E hr=>body f KW A outer s H E hr sc.nd
theorem FF(F:Fun K x x st f fd)(sc:Qv st)(body:Ut .plain P w K mg base x st k g f):FnOk P w K mg base M5 (k+1) f fd (psS st) (spF K (fBody (psS st).length ((Qs (defScope st)).length-(psS st).length) g)):=fnok_of F sc λKW A outer s H E hr=>body KW A outer s H E hr sc.nd
end
noncomputable def Al(p:Str->Prop):List Str->Prop
 |[]=>True
 |x::l=>p x/\Al p l
theorem Al.mem{x:Str}:∀{l:List Str},Al p l->l.contains x=true->p x
 |y::l,h,e=>by
  rw[aat,ZO]at e;rcases e with e|e
  .rw[Xx.mp e];exact h.1
  .exact Al.mem h.2 e
theorem Al.imp(k:∀x,p x->q x):∀{l:List Str},Al p l->Al q l
 |[],h=>h
 |_::_,h=>⟨k _ h.1,Al.imp k h.2⟩
noncomputable def Ad(p:Str->Nat->Prop):List (Str×Nat)->Prop
 |[]=>True
 |x::l=>p x.1 x.2/\Ad p l
theorem Al.cons{p:Str->Prop}{l:List Str}(a:p x)(b:Al p l):Al p (x::l):=⟨a,b⟩
theorem Ad.cons{p:Str->Nat->Prop}{l:List (Str×Nat)}(a:p x i)(b:Ad p l):Ad p ((x,i)::l):=⟨a,b⟩
theorem Ad.mem{x:Str}{i:Nat}:∀{l:List (Str×Nat)},Ad p l->l.contains (x,i)=true->p x i
 |y::l,h,e=>by
  rw[aat,ZO]at e;rcases e with e|e
  .rw[<-Xx.mp e]at h;exact h.1
  .exact Ad.mem h.2 e
end PV
namespace LW
open PV
abbrev pA(f:FX):FI:=or2 (Dr f) (eU f)
def jS:FS:=(cT (aq bQ @f (af (ya (cA (pA (aq ixD (ae 0) @f)) [none,none,none] @m dR (aH maxD (aa (ae 0) (aa (ae 2) aj)))) (av (.int 0))))))
def cD:List D->Res R:=fBody 1 0 jS
def nV:FS:=(cT (cA (pA (aq ixD (ae 0) @f)) [none,none,none,some 1,some 2] @m (vg (eBl (aK eqO (ae 0) (ae 3))) (eBl (aK eqO (ae 1) (ae 4)))) (ax 2)))
def hJ:List D->Res R:=fBody 3 0 nV
def eY:FS:=(cT (aH cF (aa (af (cA (pA (aq ixD (ae 0) @f)) [none] (ao 0) dR (aq ixD (ae 0) @g))) aj)))
def cj:List D->Res R:=fBody 1 0 eY
def qR:FS:=(sSeq (a9 3 (Du lU (af (aq ixD (ae 0) @g)) (aa (ae 2) aj)))
  (cT (aH Ds (aa (af (cA (pg (aa (af (ax 1)) (aa (af (aq ixD (ae 0) @f)) aj))) [none,none,some 3] (gC 2 (aw (ao 0) (aw (ao 1) b8))) dR (aq geO (ae 0) (af (aq ixD (af (aq ixD (ae 1) @f)) (ae 2)))))) aj))))
def jj:List D->Res R:=fBody 3 1 qR
def vX:FS:=(sSeq (sIf (zr (eBl (cx jj (aa (ae 0) (aa (ae 1) (aa (ae 2) aj))))))
  (cT (av .non))
  bD)
  (sSeq (a9 3 (Du lU (af (aq ixD (ae 0) @g)) (aa (ae 2) aj)))
  (cT (aH cF (aa (af (cA (pg (aa (af (ax 1)) (aa (af (aq ixD (ae 0) @f)) aj))) [none,none,some 3] (gC 2 (aw (ao 0) (aw (ao 1) b8))) dR (aq bQ (af (aq ti (ae 0) (af (aq ixD (af (aq ixD (ae 1) @f)) (ae 2))))) (af (aq ixD (af (aq ixD (ae 1) (af (av (.int 2))))) (ae 2)))))) aj)))))
def lZ:List D->Res R:=fBody 3 1 vX
def cZ:FS:=(sIf (vg (eBl (aK neO (ae 4) (ae 1))) (eBl (aK eqO (af (aq ixD (af (aq dgD (ae 0) (ae 4))) @g)) (ae 2))))
  (i9 0 (du (ah (av (.str [111,110,101])) (ah (aq ixD (af (aq dgD (ae 0) (ae 4))) @f) (ah (ax 3) aF)))))
  bD)
def hU:FS:=(yn 0 (ao 4)
  cZ)
def nW:FS:=(sSeq (sIf (eBl (aK qE (ae 1) (ae 0)))
  (sPutP 0 (ax 1) (du (ah (ax 2) (ah (ax 3) aF))))
  (sIf (eBl (aK neO (af (aq ixD (af (aq dgD (ae 0) (ae 1))) @g)) (ae 2)))
  (i9 0 (du (ah (av (.str [116,119,111])) (ah (aq ixD (af (aq dgD (ae 0) (ae 1))) @f) (ah (ax 3) aF)))))
  bD))
  (i9 0 (av .non)))
def zX:FS:=(sSeq hU
  nW)
def nX:WP->List D->Res R:=jR 4 1 (.d) zX
def bG:FS:=(sSeq (a9 10 (eFunW (.d) nX 2 (aa (ae 2) (aa (ae 9) (aa (ae 7) (aa (af (aq bQ (ae 5) (af (du (ah (ax 6) aF))))) aj))))))
  (sIf (eBl (aK isnO (ae 10) (af (av .non))))
  (i9 2 (ax 10))
  bD))
def dW:FS:=(mD (pA (ax 8)) (ao 9)
  bG)
def bH:FS:=(sSeq (a9 7 (cx lZ (aa (ae 1) (aa (ae 4) (aa (ae 6) aj)))))
  (sSeq (a9 8 (cx hJ (aa (ae 0) (aa (ae 3) (aa (ae 6) aj)))))
  (sSeq (sIf (vg (eBl (aK isO (ae 7) (af (av .non)))) (eBl (aq gtD (af (aH eW (aa (ae 8) aj))) @g)))
  (i9 2 (du (ah (av (.str [115,116,117,99,107])) (ah (ax 5) (ah (ax 6) aF)))))
  bD)
  (sSeq (sIf (vg (eBl (aK isnO (ae 7) (af (av .non)))) (eBl (aK eqO (af (aH eW (aa (ae 8) aj))) @g)))
  (i9 2 (du (ah (av (.str [102,114,101,101])) (ah (ax 5) (ah (ax 6) aF)))))
  bD)
  dW))))
def gG:FS:=(mD (pA (aq ixD (ae 0) @g)) (ao 6)
  bH)
def iV:FS:=(i9 2 (av .non))
def nZ:FS:=(sSeq (a9 4 (aq ixD (af (aq dgD (ae 2) (ae 3))) @g))
  (sSeq (a9 5 (aq ixD (af (aq dgD (ae 2) (ae 3))) @f))
  (sSeq gG
  iV)))
def dD:WP->List D->Res R:=fBodyJ 2 4 7 (.d) nZ
def dE:FS:=(sSeq (a9 4 (sL 2 (.d) dD 2 (aa (ae 0) (aa (ae 1) (aa (ae 2) (aa (af (aq ixD (af (aH nL (aa (ae 2) aj))) (ae 3))) aj))))))
  (sSeq (sIf (eBl (aK isnO (ae 4) (af (av .non))))
  (cT (jC 4))
  bD)
  (a9 3 (aq bQ (ae 3) @f))))
def l5:FS:=(bE (eBl (aq ltO (ae 3) @A))
  dE 100000)
def og:FS:=(cT (du (ah (av (.str [115,97,109,101])) (ah (cA (cV (af (cx cD (aa (ae 0) aj)))) [none,some 2] (ao 0) dR (aq ixD (af (aq dgD (ae 1) (ae 0))) @g)) aF))))
def vY:FS:=(sSeq (sIf (eBl (aK neO (af (aq ixD (ae 0) @g)) (af (aq ixD (ae 1) @g))))
  qp
  bD)
  (sSeq (a9 2 (nJ (av (.int 0)) (du (ah (cx cj (aa (ae 1) aj)) (ah (du aF) aF)))))
  (sSeq (a9 3 (av (.int 0)))
  (sSeq l5
  og))))
def kK:List D->Res R:=fBody 2 3 vY
def hV:List D->Bool:=px 2 3 (xIf (eBl (aK neO (af (aq ixD (ae 0) @g)) (af (aq ixD (ae 1) @g)))) (nQ (aa (af (av (.str [116,104,101,32,99,104,97,114,116,32,97,110,100,32,116,104,101,32,110,101,116,32,104,97,118,101,32,110,111,116,32,116,104,101,32,115,97,109,101,32,109,111,118,101,115]))) aj)))
def jT:FS:=(cT (aK eqO (af (aq ixD (af (cx kK @p)) @g)) (af (av (.str [115,97,109,101])))))
def bA:List D->Res R:=fBody 2 0 jT
def aQ:List D->Bool:=px 2 0 (xOf (oN hV @p))
def dg:FS:=(sSeq (a9 4 (aq bQ (af (xa (ae 2) lI (gZ (ax 3)))) (af (xa (ae 2) (gZ (aq bQ (ae 3) @f)) lI))))
  (sIf (eBl (cx bA (aa (ae 0) (aa (af (du (ah (aq ixD (ae 1) @g) (ah (ax 4) aF)))) aj))))
  (a9 2 (ax 4))
  bD))
def jU:FS:=(mD (lT (aa (af (aq ti (af (aH eW (aa (af (aq ixD (ae 1) @f)) aj))) @f)) (aa (af (Fc @f)) (aa (af (Fc @f)) aj)))) (ao 3)
  dg)
def iW:FS:=(cT (du (ah (aq ixD (ae 1) @g) (ah (ax 2) aF))))
def oh:FS:=(sSeq (sIf (zr (eBl (cx bA @p)))
  qp
  bD)
  (sSeq (a9 2 (aH sv (aa (af (aq ixD (ae 1) @f)) aj)))
  (sSeq jU
  iW)))
def dF:List D->Res R:=fBody 2 3 oh
def bB:List D->Bool:=px 2 3 (xIf (zr (eBl (cx bA @p))) (nQ (aa (af (av (.str [116,104,101,32,110,101,116,39,115,32,114,117,110,32,105,115,32,110,111,116,32,116,104,101,32,99,104,97,114,116]))) aj)))
def aA:List D->Bool:=px 2 3 (xOf (oN aQ @p))
def gm:FS:=(sSeq (sIf (eBl (aq ltO (ae 1) (af (aH eW (aa (ae 0) aj)))))
  (cT (aq ixD (ae 0) (ae 1)))
  bD)
  (cT (av (.int 0))))
def az:List D->Res R:=fBody 2 0 gm
def iX:FS:=(sSeq (a9 2 (aq bQ (af (aq dS (ae 0) (af (av (.int 2147483647))))) (af (aq lV (af (av (.int 48271))) (af (aq bQ (ae 1) @f))))))
  (sSeq (a9 2 (aq dS (af (aq bQ (af (aq lV (ae 2) (ae 2))) (af (aq lV (af (av (.int 69621))) (ae 1))))) (af (av (.int 2147483647)))))
  (cT (aq dS (af (aq bQ (af (aq bQ (af (aq lV (ae 2) (ae 2))) (af (aq lV (af (av (.int 16807))) (ae 1))))) @f)) (af (av (.int 2147483647)))))))
def aY:List D->Res R:=fBody 2 1 iX
def cp:FS:=(sSeq (a9 7 (xa (ae 2) lI (gZ (ax 3))))
  (sSeq (sI 7 (ax 4) (aq dS (af (aq bQ (af (aq ixD (ae 7) (ae 4))) (ae 6))) (af (av (.int 26)))))
  (sSeq (sIf (eBl (aK eqO (af (aq dS (af (aq cN (ae 0) (af (av (.int 64))))) (af (av (.int 4))))) @f))
  (a9 7 (xa (ae 2) lI (gZ (aq bQ (ae 6) @f))))
  bD)
  (f7 (qx 5 (Hk sJ (af (av (.str []))) (aa (af (cA (or2 (gF 7) (eU (ax 7))) [none,some 1] (ao 0) dR (aq ixD (ae 1) (ae 0)))) aj)))))))
def gq:FS:=(mD (cV (af (av (.int 5)))) (ao 6)
  cp)
def eZ:FS:=(sSeq (sIf (eBl (aK inP (af (av (.str [109,111,118,101,115]))) (ae 5)))
  (a9 5 (cA (or2 (gF 5) (eU (ax 5))) [none] (ao 0) dR (aq bQ (af (av (.str [115]))) (ae 0))))
  bD)
  (cT (aH cY (aa (ae 5) aj))))
def iY:FS:=(sSeq (a9 1 (av (.str [97,98,99,100,101,102,103,104,105,106,107,108,109,110,111,112,113,114,115,116,117,118,119,120,121,122])))
  (sSeq (a9 2 (cA (cV (af (av (.int 8)))) [none,some 0] (ao 0) dR (aq dS (af (cx aY (aa (ae 1) (aa (ae 0) aj)))) (af (av (.int 26))))))
  (sSeq (a9 3 (aq bQ @f (af (aq dS (ae 0) (af (av (.int 8)))))))
  (sSeq (a9 4 (aq dS (af (aq cN (ae 0) (af (av (.int 8))))) (ae 3)))
  (sSeq (a9 5 (gJ aF))
  (sSeq gq
  eZ))))))
def dh:List D->Res R:=fBody 1 7 iY
def bS:FS:=(sSeq (sIf (eBl (aq ltO (ae 5) (af (aq ixD (af (aq ixD (ae 6) @f)) (ae 3)))))
  (cT (av .non))
  bD)
  (f7 (qx 4 (aq bQ (af (aq ti (ae 5) (af (aq ixD (af (aq ixD (ae 6) @f)) (ae 3))))) (af (aq ixD (af (aq ixD (ae 6) (af (av (.int 2))))) (ae 3)))))))
def dX:FS:=(mD (pg (aa (af (ax 1)) (aa (af (aq ixD (ae 0) @f)) aj))) (gC 2 (aw (ao 5) (aw (ao 6) b8)))
  bS)
def gu:FS:=(cT (aH cF (aa (ae 4) aj)))
def jV:FS:=(sSeq (a9 3 (Du lU (af (aq ixD (ae 0) @g)) (aa (ae 2) aj)))
  (sSeq (a9 4 (gJ aF))
  (sSeq dX
  gu)))
def bI:List D->Res R:=fBody 3 4 jV
def br:FS:=(sSeq (a9 6 (cx bI (aa (ae 0) (aa (af (aq ixD (ae 2) (ae 4))) (aa (ae 5) aj)))))
  (sIf (eBl (aK isnO (ae 6) (af (av .non))))
  (sSeq (sIf (eBl (aK qE (ae 6) (ae 2)))
  (sSeq (sIf (eBl (aK eqO @A (ae 1)))
  (cT (av .non))
  bD)
  (f7 (qx 2 (ax 6))))
  bD)
  (f7 (qx 3 (du (ah (ax 4) (ah (ax 5) (ah (Dv ja (ae 2) (aa (ae 6) aj)) aF)))))))
  bD))
def e8:FS:=(mD (pA (aq ixD (ae 0) @g)) (ao 5)
  br)
def hX:FS:=(a9 4 (aq bQ (ae 4) @f))
def bM:FS:=(sSeq e8
  hX)
def di:FS:=(bE (eBl (aq ltO (ae 4) @A))
  bM 100000)
def hZ:FS:=(cT (du (ah (aH cY (aa (ae 3) aj)) (ah (ax 2) aF))))
def kM:FS:=(sSeq (a9 2 (gJ (ah (aH cF (aa (af (cA (pA (aq ixD (ae 0) @f)) [none,none,none] @m dR (ax 0))) aj)) aF)))
  (sSeq (a9 3 (gJ aF))
  (sSeq (a9 4 (av (.int 0)))
  (sSeq di
  hZ))))
def bo:List D->Res R:=fBody 2 5 kM
def dv:FS:=(a9 3 (cx aY (aa (af (aq bQ (ae 4) (ae 3))) (aa (ae 2) aj))))
def ia:FS:=(mD (pA (Hl (ae 0) (gZ (aq bQ (ae 1) (ae 2))) (gZ (aq bQ (ae 1) (af (av (.int 84))))) (gZ (av (.int 6))))) (ao 4)
  dv)
def gv:FS:=(cT (jC 3))
def jW:FS:=(sSeq (a9 3 (aq bQ (af (av (.int 7))) (ae 2)))
  (sSeq ia
  gv))
def dY:List D->Res R:=fBody 3 2 jW
def c5:FS:=(sSeq (a9 5 (cx aY (aa (ae 0) (aa (ae 4) aj))))
  (sSeq (a9 6 (aq ti (af (aq dS (ae 5) (af (av (.int 5))))) (af (av (.int 2)))))
  (sSeq (a9 7 (aq cN (af (aq dS (af (aq cN (ae 5) (af (av (.int 8))))) (af (av (.int 4))))) (af (av (.int 3)))))
  (sSeq (f7 (qx 2 (aq bQ (af (aH maxD (aa @g (aa (af (aq ti @g (ae 6))) aj)))) (ae 7))))
  (f7 (qx 3 (aq bQ (af (aH maxD (aa @g (aa (ae 6) aj)))) (ae 7))))))))
def gw:FS:=(mD (cV (ae 1)) (ao 4)
  c5)
def e9:FS:=(cT (yk (aq dS (af (aq cN (ae 0) (af (av (.int 16))))) (af (av (.int 4)))) (jC 2) (jC 3)))
def iZ:FS:=(sSeq (a9 2 (gJ aF))
  (sSeq (a9 3 (gJ aF))
  (sSeq gw
  e9)))
def dk:List D->Res R:=fBody 2 6 iZ
def ib:FS:=(sSeq (a9 2 (aq bQ @f (af (aq dS (ae 1) (af (aq BF (af (av (.int 10))) (af (av (.int 50)))))))))
  (sSeq (E3 (ax 0) (gC 3 (aw (ao 3) (aw (ao 4) (aw (ao 5) b8)))))
  (sSeq (a9 4 (aH cF (aa (af (cA (or2 (gF 4) (eU (ax 4))) [none,some 2] (ao 0) dR (aq lV (ae 1) (ae 0)))) aj)))
  (cT (du (ah (aq bQ (af (aq lV (ae 2) (ae 3))) (af (aq dS (af (aq cN (ae 1) (af (av (.int 7))))) (ae 2)))) (ah (ax 4) (ah (aH cF (aa (af (cA (or2 (gF 5) (eU (ax 5))) [none,some 2] (ao 0) dR (aq lV (ae 1) (ae 0)))) aj)) aF))))))))
def cq:List D->Res R:=fBody 2 4 ib
def bU:FS:=(sSeq (a9 5 (cx dY (aa (ae 0) (aa (ae 1) (aa (ae 4) aj)))))
  (sSeq (a9 6 (cx dk (aa (ae 5) (aa (ae 2) aj))))
  (sSeq (f7 (qx 3 (cx cq (aa (ae 6) (aa (af (cx az (aa (ae 0) (aa (af (aq bQ (ae 1) (ae 4))) aj)))) aj)))))
  (sIf (eBl (aq gtD (af (aq dS (af (aq cN (ae 5) (af (av (.int 64))))) (af (av (.int 3))))) @g))
  (sSeq (a9 7 (du (ah (aq dS (af (aq cN (ae 5) (af (av (.int 256))))) (af (av (.int 4)))) (ah (aq ixD (af (ax 6)) (af (av (.int 2)))) (ah (aq ixD (af (ax 6)) @f) aF)))))
  (f7 (qx 3 (cx cq (aa (ae 7) (aa (af (cx az (aa (ae 0) (aa (af (aq bQ (af (aq bQ (ae 1) (af (av (.int 6))))) (ae 4))) aj)))) aj))))))
  bD))))
def fe:FS:=(mD (cV (af (aq bQ @f (af (aq dS (af (aq cN (af (cx az (aa (ae 0) (aa @f aj)))) (af (av (.int 4))))) (af (av (.int 4)))))))) (ao 4)
  bU)
def eF:FS:=(cT (jC 3))
def ie:FS:=(sSeq (a9 3 (gJ aF))
  (sSeq fe
  eF))
def cO:List D->Res R:=fBody 3 5 ie
def i4:FS:=(sSeq (a9 1 (cx dh (aa (af (cx az (aa (ae 0) (aa @g aj)))) aj)))
  (sSeq (a9 2 (cx az (aa (ae 0) (aa @f aj))))
  (sSeq (a9 3 (aq bQ @f (af (aq dS (ae 2) (af (av (.int 3)))))))
  (sSeq (a9 4 (aq dS (af (aq cN (ae 2) (af (av (.int 32))))) (af (aq ti (af (av (.int 6))) (ae 3)))))
  (cT (aH cF (aa (af (xa (ae 1) (gZ (ax 4)) (gZ (aq bQ (ae 4) (ae 3))))) aj)))))))
def dn:List D->Res R:=fBody 1 4 i4
def kN:FS:=(sSeq (a9 2 (cx dn (aa (ae 0) aj)))
  (sSeq (a9 3 (aH eW (aa (ae 2) aj)))
  (sSeq (a9 4 (cx cO (aa (ae 0) (aa (ae 1) (aa (ae 3) aj)))))
  (sSeq (sIf (eBl (aK isnO (af (cx bo (aa (af (du (ah (ax 2) (ah (ax 4) aF)))) (aa (af (av (.int 8))) aj)))) (af (av .non))))
  (cT (du (ah (ax 2) (ah (ax 4) aF))))
  bD)
  (sSeq (a9 5 (aH cF (aa (af (cA (or2 (gF 2) (eU (ax 2))) [none] (ao 0) dR (av (.int 1)))) aj)))
  (sSeq (a9 6 (aH cF (aa (af (cA (or2 (gF 2) (eU (ax 2))) [none] (ao 0) dR (av (.int 0)))) aj)))
  (sSeq (sIf (eBl (aK isnO (af (cx bo (aa (af (du (ah (ax 2) (ah (aq bQ (ae 4) (af (gJ (ah (du (ah (av (.int 2)) (ah (ax 5) (ah (ax 6) aF)))) aF)))) aF)))) (aa (af (av (.int 8))) aj)))) (af (av .non))))
  (cT (du (ah (ax 2) (ah (aq bQ (ae 4) (af (gJ (ah (du (ah (av (.int 2)) (ah (ax 5) (ah (ax 6) aF)))) aF)))) aF))))
  bD)
  (cT (du (ah (ax 2) (ah (aq bQ (ae 4) (af (gJ (ah (du (ah (av (.int 1)) (ah (ax 5) (ah (ax 6) aF)))) aF)))) aF)))))))))))
def dH:List D->Res R:=fBody 2 5 kN
def bV:FS:=(sIf (eBl (aK inP (ae 3) (ae 1)))
  (sSeq (a9 7 (du (ah (Dv ja (ae 1) (aa (ae 3) aj)) (ah (ax 4) (ah (Dv ja (ae 1) (aa (ae 5) aj)) aF)))))
  (sIf (eBl (aK qE (ae 7) (ae 6)))
  (f7 (qx 6 (ax 7)))
  bD))
  bD)
def fA:FS:=(mD (pA (ax 0)) (gC 3 (aw (ao 3) (aw (ao 4) (aw (ao 5) b8))))
  bV)
def eG:FS:=(cT (aH cY (aa (ae 6) aj)))
def bW:FS:=(sIf (vg (eBl (aK eqO (ae 3) (af (aq ixD (ae 1) (ae 2))))) (eBl (aK qE (ae 5) (ae 1))))
  (f7 (qx 1 (ax 5)))
  bD)
def fB:FS:=(mD (pA (aH cY (aa (ae 0) aj))) (gC 3 (aw (ao 3) (aw (ao 4) (aw (ao 5) b8))))
  bW)
def eI:FS:=(a9 2 (aq bQ (ae 2) @f))
def cI:FS:=(sSeq fB
  eI)
def c6:FS:=(bE (eBl (aq ltO (ae 2) (af (aH eW (aa (ae 1) aj)))))
  cI 100000)
def eJ:FS:=(sSeq (a9 6 (gJ aF))
  (sSeq fA
  eG))
def ig:FS:=(sSeq (a9 1 (gJ (ah (av (.int 0)) aF)))
  (sSeq (a9 2 (av (.int 0)))
  (sSeq c6
  eJ)))
def cu:List D->Res R:=fBody 1 7 ig
def jX:FS:=(sSeq (a9 3 (aq bQ @f (af (aH maxD (aa (af (aq bQ (af (gJ (ah (av (.int 0)) aF))) (af (cA (or2 (gF 1) (eU (ax 1))) [none] (ao 0) dR (aH maxD (aa (af (aq ixD (ae 0) @g)) (aa (af (aq ixD (ae 0) (af (av (.int 2))))) aj))))))) aj)))))
  (sSeq (a9 4 (aq dS (af (aq cN (ae 2) (af (av (.int 128))))) (af (aH Fh (aa (af (aq bQ (ae 3) @f)) (aa (af (av (.int 12))) aj))))))
  (sSeq (a9 5 (aq ixD (ae 0) (af (aq dS (af (aq cN (ae 2) (af (av (.int 2048))))) (af (aH eW (aa (ae 0) aj)))))))
  (sSeq (sIf (bOr (eBl (aK eqO (ae 1) (af (gJ aF)))) (eBl (aK eqO (af (aq dS (ae 2) (af (av (.int 5))))) (af (av (.int 3))))))
  (cT (aq bQ (ae 1) (af (gJ (ah (du (ah (aq dS (af (aq cN (ae 2) (af (av (.int 8))))) (ae 3)) (ah (ax 5) (ah (ax 4) aF)))) aF)))))
  bD)
  (sSeq (a9 6 (aq dS (af (aq cN (ae 2) (af (av (.int 16384))))) (af (aH eW (aa (ae 1) aj)))))
  (sSeq (a9 7 (aq ixD (ae 1) (ae 6)))
  (sSeq (a9 8 (aq bQ (af (xa (ae 1) lI (gZ (ax 6)))) (af (xa (ae 1) (gZ (aq bQ (ae 6) @f)) lI))))
  (sSeq (sIf (eBl (aK eqO (af (aq dS (ae 2) (af (av (.int 5))))) @g))
  (cT (jC 8))
  bD)
  (sSeq (sIf (eBl (aK eqO (af (aq dS (ae 2) (af (av (.int 5))))) @f))
  (cT (aq bQ (ae 8) (af (gJ (ah (du (ah (aq ixD (ae 7) @g) (ah (aq ixD (ae 7) @f) (ah (ax 4) aF)))) aF)))))
  bD)
  (sSeq (sIf (bOr (eBl (aK eqO (af (aq dS (ae 2) (af (av (.int 5))))) (af (av (.int 2))))) (eBl (aK eqO (ae 3) @f)))
  (cT (aq bQ (ae 8) (af (gJ (ah (du (ah (aq ixD (ae 7) @g) (ah (ax 5) (ah (aq ixD (ae 7) (af (av (.int 2)))) aF)))) aF)))))
  bD)
  (sSeq (a9 9 (aq bQ @f (af (aq dS (af (aq cN (ae 2) (af (av (.int 8))))) (af (aq ti (ae 3) @f))))))
  (sSeq (a9 10 (cA (cV (ae 3)) [none] (ao 0) dR (ax 0)))
  (sSeq (sI 10 (ax 9) (aq dS (ae 4) (ae 3)))
  (cT (cA (or2 (gF 1) (eU (ax 1))) [none,none,none,some 10] @m dR (du (ah (aq ixD (ae 3) (ae 0)) (ah (ax 1) (ah (aq ixD (ae 3) (ae 2)) aF)))))))))))))))))))
def dZ:List D->Res R:=fBody 3 8 jX
def bP:FS:=(sSeq (a9 5 (cx aY (aa (af (cx az (aa (ae 0) (aa (ae 4) aj)))) (aa (ae 4) aj))))
  (sIf (eBl (aK eqO (af (aq dS (af (aq cN (ae 5) (af (av (.int 64))))) (af (av (.int 3))))) @g))
  (a9 3 (cx cu (aa (af (cx dZ (aa (af (aq ixD (ae 1) @g)) (aa (ae 3) (aa (af (aq cN (ae 5) (af (av (.int 192))))) aj))))) aj)))
  bD))
def b6:FS:=(mD (lE (aa (ae 2) (aa (af (aq bQ (ae 2) (af (av (.int 3))))) aj))) (ao 4)
  bP)
def cM:FS:=(cT (du (ah (aq ixD (ae 1) @g) (ah (cx cu (aa (ae 3) aj)) aF))))
def dI:FS:=(sSeq (a9 3 (aq ixD (af (cx bo (aa (ae 1) (aa (af (av (.int 8))) aj)))) @g))
  (sSeq b6
  cM))
def bN:List D->Res R:=fBody 3 3 dI
def ba:FS:=(sIf (eBl (aK neO (af (eSDef 2 (ax 8) (ax 6))) (ae 6)))
  (cT (av (.bl false)))
  bD)
def aR:FS:=(mD (pA (ax 7)) (ao 8)
  ba)
def aP:FS:=(sSeq (a9 6 (cx bI (aa (ae 1) (aa (af (aq dgD (ae 2) (ae 4))) (aa (ae 5) aj)))))
  (sSeq (a9 7 (cA (pA (aq ixD (ae 0) @f)) [none,none,none,some 4,some 5] @m (vg (eBl (aK eqO (ae 0) (ae 3))) (eBl (aK eqO (ae 1) (ae 4)))) (ax 2)))
  (sSeq (sIf (bOr (eBl (aq gtD (af (aH eW (aa (ae 7) aj))) @f)) (eBl (aK neO (af (aK eqO (ae 7) (af (gJ aF)))) (af (aK isO (ae 6) (af (av .non)))))))
  (cT (av (.bl false)))
  bD)
  aR)))
def cv:FS:=(mD (pA (aq ixD (ae 0) @g)) (ao 5)
  aP)
def bX:FS:=(a9 3 (aq bQ (ae 3) @f))
def bC:FS:=(sSeq (a9 4 (aq ixD (af (aH nL (aa (ae 2) aj))) (ae 3)))
  (sSeq cv
  bX))
def c7:FS:=(bE (eBl (aq ltO (ae 3) @A))
  bC 100000)
def eK:FS:=(cT (aK eqO (af (aH sO (aa (af (nU 2)) aj))) @A))
def ij:FS:=(sSeq (a9 2 (nJ (av (.int 0)) (aH cF (aa (af (cA (pA (aq ixD (ae 1) @f)) [none,none,none] @m dR (ax 0))) aj))))
  (sSeq (a9 3 (av (.int 0)))
  (sSeq c7
  eK)))
def cP:List D->Res R:=fBody 2 7 ij
def dq:FS:=(sSeq (a9 2 (gJ (ah (av (.bl false)) (ah (av (.bl false)) (ah (av (.bl true)) aF)))))
  (sSeq (sAlt (oN bB @p)
  (sTryL 3 (oN bB @p)
  (f7 (cx dF @p)) [(4,false)] 2 [true,false,true])
  (sTryL 3 (oN aA @p)
  (f7 (cx dF @p)) [(4,false)] 2 [false,true,true]))
  (cT (jC 2))))
def aD:List D->Res R:=fBody 2 3 dq
def FH:FS:=(sSeq (a9 1 (cx dH (aa (ae 0) (aa (af (av (.int 5))) aj))))
  (sSeq (a9 2 (du (ah (aq ixD (ae 1) @g) (ah (aq ixD (af (cx bo (aa (ae 1) (aa (af (av (.int 8))) aj)))) @g) aF))))
  (sSeq (a9 3 (cx bN (aa (ae 0) (aa (ae 1) (aa (af (av (.int 2))) aj)))))
  (sSeq (a9 4 (cx aY (aa (af (cx az (aa (ae 0) (aa @f aj)))) (aa (af (av (.int 40))) aj))))
  (sSeq (a9 5 (du (ah (aq ixD (ae 1) @g) (ah (gJ aF) aF))))
  (sSeq (sIf (eBl (aK neO (af (aq dS (ae 4) (af (av (.int 4))))) @f))
  (a9 5 (ax 1))
  bD)
  (sSeq (sIf (eBl (aK neO (af (cx aD (aa (ae 3) (aa (ae 5) aj)))) (af (gJ (ah (Hj (cx cP (aa (ae 3) (aa (ae 5) aj)))) (ah (av (.bl false)) (ah (av (.bl true)) aF)))))))
  (cT (av (.bl false)))
  bD)
  (sSeq (a9 6 (aq ixD (af (cA (pA (gJ (ah (av (.str [113])) (ah (av (.str [113,113])) (ah (av (.str [113,113,113])) (ah (av (.str [113,113,113,113])) aF)))))) [none,some 1] (ao 0) (eBl (aK qE (ae 0) (af (aq ixD (ae 1) @g)))) (ax 0))) @g))
  (sSeq (a9 7 (du (ah (aH cF (aa (af (aH sortedT (aa (af (aq bQ (af (aq ixD (ae 1) @g)) (af (du (ah (ax 6) aF))))) aj))) aj)) (ah (aq ixD (ae 3) @f) aF))))
  (sSeq (sIf (bOr (eBl (aK neO (af (cx aD (aa (ae 7) (aa (ae 5) aj)))) (af (gJ (ah (av (.bl false)) (ah (av (.bl true)) (ah (av (.bl true)) aF))))))) (eBl (aK neO (af (cx aD (aa (ae 3) (aa (af (du (ah (aq ixD (ae 7) @g) (ah (gJ aF) aF)))) aj)))) (af (gJ (ah (av (.bl false)) (ah (av (.bl true)) (ah (av (.bl true)) aF))))))))
  (cT (av (.bl false)))
  bD)
  (cT (aK eqO (af (cx aD (aa (ae 2) (aa (ae 1) aj)))) (af (gJ (ah (av (.bl false)) (ah (av (.bl false)) (ah (av (.bl true)) aF)))))))))))))))))
def Ci:List D->Res R:=fBody 1 7 FH
end LW
namespace LW
open PV
variable{α:Type}
theorem FJ{Q:List α->Prop}(h:∀a,Q [a]):∀us,us.length=1->Q us
 |[a],_=>h a
theorem xb{Q:List α->Prop}(h:∀a b,Q [a,b]):∀us,us.length=2->Q us
 |[a,b],_=>h a b
theorem FK{Q:List α->Prop}(h:∀a b c,Q [a,b,c]):∀us,us.length=3->Q us
 |[a,b,c],_=>h a b c
theorem FL{Q:List α->Prop}(h:∀a b c d,Q [a,b,c,d]):∀us,us.length=4->Q us
 |[a,b,c,d],_=>h a b c d
theorem Jl(h:QE X e f):QI X tg e (or2 (Dr f) (eU f)):=vD (vn h) (zx h)
def top(i:Nat):Stmt:=PySem.Challenge.pw_netfinder_k77_nets_not_thinned.main.body.getD i (.Pass ⟨0,0,0,0⟩)
noncomputable def zL:List Str:=["ValueError","all","isinstance","len","list","max","min","range","set","sorted","tuple","zip"]
noncomputable def dL:List (Str×Nat):=[("states_of",11),("goes_to",12),("first_marking",14),("can_go",15),("moved",16),("give",18),("look_at",19),("held",20),("has_run",22),("thinned",23),("_law_cell_at",25),("_law_mixed",26),("_law_names",27),("_law_step",28),("_law_run",29),("_law_fold",30),("_law_place",31),("_law_scaled",32),("_law_places",33),("_law_moves",34),("_law_net",35),("_law_tidied",36),("_law_bent",37),("_law_bent_chart",38),("_law_is_run",39),("_law_asked",40)]
structure Zs(K:W.Frag)(mg:Str->Option Wp):Prop where
 z:Al (λx=>mg x=none) zL
 d:Ad (λx i=>Def K mg x (top i)) dL
theorem J2:Str.ofString "the chart and the net have not the same moves" = S [116,104,101,32,99,104,97,114,116,32,97,110,100,32,116,104,101,32,110,101,116,32,104,97,118,101,32,110,111,116,32,116,104,101,32,115,97,109,101,32,109,111,118,101,115]:=by decide +kernel
theorem J3:Str.ofString "the net's run is not the chart" = S [116,104,101,32,110,101,116,39,115,32,114,117,110,32,105,115,32,110,111,116,32,116,104,101,32,99,104,97,114,116]:=by decide +kernel
variable{P:W1}{w:World}{K:W.Frag}{mg:Str->Option Wp}{base:UF}{x:Str}
section
variable(Z:Zs K mg)
include Z
theorem zz(h:zL.contains x=true:=by decide +kernel):mg x=none:=Al.mem Z.z h
theorem zd(i:Nat)(h:dL.contains (x,i)=true:=by decide +kernel):Def K mg x (top i):=Ad.mem Z.d h
seal PV.ao PV.gC PV.bQ PV.Ds PV.aw PV.b8 PV.vg PV.zr PV.bOr PV.dR PV.dgD PV.ah PV.aF PV.qx PV.aq PV.aK PV.eBl PV.aH PV.cA PV.av PV.nJ PV.cx PV.sL PV.eFunW PV.nU PV.gJ PV.ya PV.Dv PV.Hk PV.Du PV.Fc PV.Hj PV.eSDef PV.Hl PV.xa PV.yk PV.du PV.ax PV.jC PV.eqO PV.cN PV.geO PV.gtD PV.cV PV.lE PV.lT PV.Dr PV.eU PV.gF PV.pg PV.inP PV.isO PV.isnO PV.ixD PV.ja PV.lU PV.sJ PV.eW PV.sO PV.sv PV.nL PV.ltO PV.maxD PV.Fh PV.dS PV.lV PV.neO PV.qE PV.af PV.ae PV.or2 PV.aa PV.aj PV.lI PV.gZ PV.BF PV.sAlt PV.E3 PV.f7 PV.mD PV.yn PV.sIf PV.qp PV.bD PV.sI PV.sPutP PV.cT PV.i9 PV.sSeq PV.a9 PV.sTryL PV.bE PV.cY PV.sortedT PV.ti PV.cF PV.oN PV.xIf PV.xOf PV.nQ bootBuiltins compareOp binaryOp Lk cb PV.QE PV.QO PV.QOs PV.QT PV.QW PV.QS PV.QSs PV.QG PV.QGs PV.QI PV.QIL PV.QTs
set_option hygiene false
local macro_rules
 | `(tactic| subst_eqs)=>`(tactic| first | exact oi Z | exact sP Z | exact jb Z | exact vZ Z | exact yw Z | exact Cj Z | exact sQ Z | exact Cm Z | exact kO Z | exact iJ Z | exact jY Z | exact l6 Z | exact l7 Z | exact oj Z | exact pB Z | exact om Z | exact l8 Z | exact kl Z | exact km Z | exact l9 Z | exact pC Z | exact ko Z | exact oq Z | exact ik Z | exact kq Z | assumption)
local macro_rules
 | `(tactic| and_intros)=>`(tactic| repeat' first
  | refine jD ?_
  | exact cE (pv _)
  | exact uW
  | refine a8 ?_ ?_
  | refine lD ?_ ?_
  | refine gY ?_ ?_
  | exact cS
  | refine BG ?_ ?_
  | refine lC ?_
  | refine zu hn rfl (lo rfl) ?_
  | exact Bt (pv _)
  | exact pb
  | exact Bx hn rfl (lo rfl)
  | refine sr BU ?_ ?_
  | refine qo (by subst_eqs) hr.m rfl ?_
  | refine zv ?_
  | refine Ie ?_ ?_ ?_
  | refine EI ?_
  | refine xY ?_ ?_
  | exact Bw
  | refine sr EG ?_ ?_
  | refine zy ?_
  | refine zx ?_
  | exact uX (by decide +kernel) @b
  | exact Bz
  | refine yc rfl ?_ (λ_ _ _ _ _ hn=>?_) (λ_ _ _ _ _=>?_) (λ_ _ _ _ _=>?_)
  | refine sr BD ?_ ?_
  | refine gB (EO hr.units) ?_ ?_ (gc _)
  | refine vn ?_
  | refine vD ?_ ?_
  | exact xV
  | refine fQ BP rfl (zz Z) bt_len ?_
  | refine EC abn rfl ?_ ?_ ?_
  | refine BI ?_
  | exact Ew
  | exact By
  | refine EB rfl ?_
  | refine jE x6 rfl (zz Z) xt ?_
  | refine vv (pv _) ?_
  | refine o9 ?_
  | refine gB (ER hr.units) ?_ ?_ (gc _)
  | refine Iq (hu_of hr) ?_ ?_
  | refine sr BW ?_ ?_
  | exact BQ (pv _)
  | refine Fb ?_ ?_
  | refine sr EE ?_ ?_
  | refine B0 ?_
  | refine Fg ?_ ?_ ?_
  | refine Bv ?_
  | refine Ez ?_ ?_
  | refine gB EU ?_ ?_ (gc _)
  | refine zq (EX hr.units0) ?_ ?_ (gc _)
  | exact uY (pv _)
  | refine vo rfl (zz Z) ?_
  | exact BH
  | refine fQ (EV rfl) rfl (zz Z) E5 ?_
  | refine gB (BZ hr.u65) ?_ ?_ (by with_unfolding_all rfl)
  | refine fQ (vE rfl) rfl (zz Z) nH ?_
  | refine xX 100000 abn ?_ ?_
  | refine vf (EO hr.units) ?_ ?_ (gc _)
  | refine Ey ?_
  | refine Ic ?_ ?_
  | refine BA ?_
  | refine Fl aaH PySem.F.type_tuple_index pe ?_ ?_
  | refine BV rfl (zz Z) ?_
  | refine zq Ii ?_ ?_ (gc _)
  | refine yd hn rfl (lo rfl) rfl ?_ (λ_ _ _ _ _ hn=>?_) (λ_ _ _ _ _=>?_) (λ_ _ _ _ _=>?_)
  | refine Fs aaR PySem.F.type_list_index (pq hr.u65) ?_ ?_
  | refine zt ?_
  | exact xW
  | refine yg ?_ ?_
  | refine jE (yi rfl) rfl (zz Z) uu ?_
  | refine Fe ?_
  | refine BY (pv _) ?_ ?_
  | refine gB (Fn hr.u65) ?_ ?_ (by with_unfolding_all rfl)
  | refine Fw ?_ ?_ ?_ ?_
  | refine BL rfl rfl (zz Z) ?_ ?_
  | refine Ex (EY hr.units0) ?_ ?_ (gc _)
  | refine fQ (EL rfl) rfl (zz Z) E7 ?_
  | refine Cc abn rfl (pv _) ?_ ?_
  | refine Cb (hu_of hr) (pv _) ?_ ?_
  | refine gB ET ?_ ?_ (gc _)
  | refine B5 (by subst_eqs) hr.m rfl ?_
  | refine B8 (by subst_eqs) hr.m rfl ?_
  | refine jE vy rfl (zz Z) uu ?_
  | refine vK rfl (zz Z) ?_
  | refine E1 PySem.F.slot_str_join PySem.F.type_str_join B3 ?_ ?_
  | refine B7 ?_ ?_ ?_
  | refine sr EH ?_ ?_
  | refine E4 ?_ ?_
  | refine fQ (Fi rfl) rfl (zz Z) E6 ?_
  | refine vp rfl (zz Z) ?_
  | refine vf ET ?_ ?_ (gc _)
  | refine Cg (pv _) ?_ ?_ ⟨by rfl,by rfl,by rfl,by rfl⟩
  | exact yv rfl rfl (zz Z) (pv _)
  | refine Cd rfl (Nat.lt_of_le_of_lt (Nat.add_le_add_left @b _) hr.u65) rfl (zz Z) rfl (zz Z) ?_
  | refine EA ?_
  | refine fQ (sN rfl) rfl (zz Z) nH ?_
  | refine E9 ?_
  | refine zp ?_
  | refine QW.qt ?_)
local macro_rules
 | `(tactic| exists $i)=>`(tactic| ((first | refine J0 (st:=.FunctionDef _ _ _ _ _ _ ⟨_,_,_,_,_⟩ _ _ _) (zd Z $i) (show Qv (top $i) from ⟨rfl,rfl,rfl,by decide +kernel,by decide +kernel,by decide +kernel,by decide +kernel⟩) (by first | exact λ_ _ _ _ _ _=>FJ λ_=>rfl | exact λ_ _ _ _ _ _=>xb λ_ _=>rfl | exact λ_ _ _ _ _ _=>FK λ_ _ _=>rfl | exact λ_ _ _ _ _ _=>FL λ_ _ _ _=>rfl) (λ_ _ _ _ _ _ _ hr hn=>?_) | refine Iu (st:=.FunctionDef _ _ _ _ _ _ ⟨_,_,_,_,_⟩ _ _ _) (zd Z $i) (show Qv (top $i) from ⟨rfl,rfl,rfl,by decide +kernel,by decide +kernel,by decide +kernel,by decide +kernel⟩) (by first | exact λ_ _ _ _ _ _=>FJ λ_=>rfl | exact λ_ _ _ _ _ _=>xb λ_ _=>rfl | exact λ_ _ _ _ _ _=>FK λ_ _ _=>rfl | exact λ_ _ _ _ _ _=>FL λ_ _ _ _=>rfl) (λ_ _ _ _ _ _ _ hr hn=>?_) | refine Iw (st:=.FunctionDef _ _ _ _ _ _ ⟨_,_,_,_,_⟩ _ _ _) (zd Z $i) (show Qv (top $i) from ⟨rfl,rfl,rfl,by decide +kernel,by decide +kernel,by decide +kernel,by decide +kernel⟩) (by first | exact λ_ _ _ _ _ _=>FJ λ_=>rfl | exact λ_ _ _ _ _ _=>xb λ_ _=>rfl | exact λ_ _ _ _ _ _=>FK λ_ _ _=>rfl | exact λ_ _ _ _ _ _=>FL λ_ _ _ _=>rfl) (λ_ _ _ _ _ _ _ hr hn=>?_));and_intros))
theorem oi:Ct P w K mg base "states_of" 1 (spF K cD):=by exists 11
theorem sP:Ct P w K mg base "goes_to" 1 (spF K hJ):=by exists 12
theorem jb:Ct P w K mg base "first_marking" 1 (spF K cj):=by exists 14
theorem vZ:Ct P w K mg base "can_go" 1 (spF K jj):=by exists 15
theorem yw:Ct P w K mg base "moved" 2 (spF K lZ):=by exists 16
theorem Cj:Ct P w K mg base "give" 1 (spM K (.d) nX):=by exists 18
theorem sQ:Ct P w K mg base "look_at" 3 (spJ 2 K (.d) dD):=by exists 19
theorem Cm:Ct P w K mg base "held" 4 (spF K kK):=by exists 20
theorem kO:Ct P w K mg base "has_run" 5 (spF K bA):=by exists 22
theorem iJ:Ct P w K mg base "thinned" 6 (spF K dF):=by exists 23
theorem jY:Ct P w K mg base "_law_cell_at" 1 (spF K az):=by exists 25
theorem l6:Ct P w K mg base "_law_mixed" 1 (spF K aY):=by exists 26
theorem l7:Ct P w K mg base "_law_names" 2 (spF K dh):=by exists 27
theorem oj:Ct P w K mg base "_law_step" 1 (spF K bI):=by exists 28
theorem pB:Ct P w K mg base "_law_run" 2 (spF K bo):=by exists 29
theorem om:Ct P w K mg base "_law_fold" 2 (spF K dY):=by exists 30
theorem l8:Ct P w K mg base "_law_place" 2 (spF K dk):=by exists 31
theorem kl:Ct P w K mg base "_law_scaled" 1 (spF K cq):=by exists 32
theorem km:Ct P w K mg base "_law_places" 3 (spF K cO):=by exists 33
theorem l9:Ct P w K mg base "_law_moves" 3 (spF K dn):=by exists 34
theorem pC:Ct P w K mg base "_law_net" 4 (spF K dH):=by exists 35
theorem ko:Ct P w K mg base "_law_tidied" 1 (spF K cu):=by exists 36
theorem oq:Ct P w K mg base "_law_bent" 1 (spF K dZ):=by
 have hn:List.Nodup (["_law_moves_here","_law_arcs","_law_number","_law_count","_law_other","_law_move","_law_spot","_law_arc","_law_rest","_law_gone","_law_ends"]:List Str):=by decide +kernel
 refine x4 (st:=.FunctionDef _ _ _ _ _ _ ⟨_,_,_,_,_⟩ _ _ _) (ps:=psS (top 37)) (zd Z 37) ⟨rfl,rfl,rfl,hn,by decide +kernel,by decide +kernel,by decide +kernel⟩ (by first|exact λ_ _ _ _ _ _=>FJ λ_=>rfl|exact λ_ _ _ _ _ _=>xb λ_ _=>rfl|exact λ_ _ _ _ _ _=>FK λ_ _ _=>rfl|exact λ_ _ _ _ _ _=>FL λ_ _ _ _=>rfl) (λ_ _ _ _ _ _ _ hr=>?_)
 and_intros
theorem ik:Ct P w K mg base "_law_bent_chart" 3 (spF K bN):=by exists 38
theorem kq:Ct P w K mg base "_law_is_run" 2 (spF K cP):=by
 have hn:List.Nodup (["_law_chart","_law_net_here","_law_table","_law_done","_law_state","_law_move","_law_after","_law_ends","_law_other"]:List Str):=by decide +kernel
 refine x4 (st:=.FunctionDef _ _ _ _ _ _ ⟨_,_,_,_,_⟩ _ _ _) (ps:=psS (top 39)) (zd Z 39) ⟨rfl,rfl,rfl,hn,by decide +kernel,by decide +kernel,by decide +kernel⟩ (by first|exact λ_ _ _ _ _ _=>FJ λ_=>rfl|exact λ_ _ _ _ _ _=>xb λ_ _=>rfl|exact λ_ _ _ _ _ _=>FK λ_ _ _=>rfl|exact λ_ _ _ _ _ _=>FL λ_ _ _ _=>rfl) (λ_ _ _ _ _ _ _ hr=>?_)
 and_intros
theorem FN(F:Fun K "law" "law" (top 41) f fd)(Pf:Ct P w K mg base "_law_asked" 7 (spF K aD)):FnOk P w K mg base M5 8 f fd ["_law_script"] (spF K Ci):=by
 refine FF (st:=.FunctionDef _ _ _ _ _ _ ⟨_,_,_,_,_⟩ _ _ _) F (show Qv (top 41) from⟨rfl,rfl,rfl,by decide +kernel,by decide +kernel,by decide +kernel,by decide +kernel⟩) λ_ _ _ _ _ _ hr hn=>?_
 and_intros
end
variable{Kk Ku:WP}
section
variable(Z:Zs K mg)
include Z
omit Z in
theorem Cn:FnScope ["chart","net","got","looked_at","against"] ["chart","net"] (defScope (top 20)):=fs
theorem yx(K6:XCl mg base "OtherMoves" Kk):CtX P w K mg base "held" 4 Kk (spX K Kk hV):=
 qL (zd Z 20) Cn (λ_ _ _ _ _ _=>xb λ_ _=>rfl) λf KW A outer s H E hr=>
  (Fx (gB (ER hr.units) (jD (BG (cE (pv 0)) (jD uW))) (jD (BG (cE (pv 1)) (jD uW))) (gc _)) (qK K6 zh rfl (by rfl) (a8 (jD (uX J2 @b)) cS)))
omit Z in
theorem sR:FnScope ["chart","net"] ["chart","net"] (defScope (top 22)):=fs
theorem d4(Pg:CtX P w K mg base "held" 4 Kk (spX K Kk hV)):CtX P w K mg base "has_run" 5 Kk (spX K Kk aQ):=
 qL (zd Z 22) sR (λ_ _ _ _ _ _=>xb λ_ _=>rfl) λf KW A outer s H E hr=>
  (FC acc_on (Ce (Fy (lW Pg hr.m (by rfl) (a8 (cE (pv 0)) (a8 (cE (pv 1)) cS))))))
omit Z in
theorem kP:FnScope ["chart","net","places","at","fewer"] ["chart","net"] (defScope (top 23)):=fs
theorem pD(LQ:XCl mg base "NoRun" Ku):CtX P w K mg base "thinned" 6 Ku (spX K Ku bB):=
 qL (zd Z 23) kP (λ_ _ _ _ _ _=>xb λ_ _=>rfl) λf KW A outer s H E hr=>
  (Fx (zt (zp (qo (kO Z) hr.m (by rfl) (a8 (cE (pv 0)) (a8 (cE (pv 1)) cS))))) (qK LQ zh rfl (by rfl) (a8 (jD (uX J3 @b)) cS)))
theorem d5(LC:CtX P w K mg base "has_run" 5 Kk (spX K Kk aQ)):CtX P w K mg base "thinned" 6 Kk (spX K Kk aA):=
 qL (zd Z 23) kP (λ_ _ _ _ _ _=>xb λ_ _=>rfl) λf KW A outer s H E hr=>
  (FD acc_on (lW LC hr.m (by rfl) (a8 (cE (pv 0)) (a8 (cE (pv 1)) cS))))
omit Z in
theorem bc:FnScope ["_law_chart","_law_net_here","_law_told","e","_law_others"] ["_law_chart","_law_net_here"] (defScope (top 40)):=fs
theorem ma(Nb:CtX P w K mg base "thinned" 6 Ku (spX K Ku bB))(LD:CtX P w K mg base "thinned" 6 Kk (spX K Kk aA))(MX:mg "NoCase" = some (.ref Lg))(MC:mg "NoChart" = some (.ref La))(Nu:mg "NoNet" = some (.ref Lp))(Nv:mg "NoRun" = some (.ref Ku))(Me:mg "NoStretch" = some (.ref K1))(MY:mg "NoText" = some (.ref Lh))(L7:mg "OtherMoves" = some (.ref Kk))(Mr:mg "TooGreat" = some (.ref K5))(KY:PySem.W.mroIn K Ku (.ref KS)=some true)(KI:PySem.W.mroIn K Kk (.ref KS)=some true)(KL:PySem.W.kitOne K (.ref Ku) (.type "ValueError")=some true)(KD:PySem.W.kitOne K (.ref Kk) (.type "ValueError")=some true)(Km:PySem.W.kitAny K (.ref Ku) [.ref Lg,.ref La,.ref Lp,.ref K1,.ref Lh,.ref K5]=some false)(Kl:PySem.W.kitAny K (.ref Kk) [.ref Lg,.ref La,.ref Lp,.ref K1,.ref Lh,.ref K5]=some false)(K9:PySem.W.kitOne K (.ref Ku) (.ref Ku)=some true)(KO:PySem.W.kitOne K (.ref Ku) (.ref Kk)=some false)(KP:PySem.W.kitOne K (.ref Kk) (.ref Ku)=some false)(KH:PySem.W.kitOne K (.ref Kk) (.ref Kk)=some true)(Lu:Asks K Ku)(KU:Asks K Kk)(Lb:XCl mg base "NetError" KS):Ct P w K mg base "_law_asked" 7 (spF K aD):=
 x4 (zd Z 40) bc (λ_ _ _ _ _ _=>xb λ_ _=>rfl) λf KW A outer s H E hr=>
  (lD (zu (i:=2) bc.nd rfl (lo rfl) (zy (gY xV (gY xV (gY xV pb)))))
  (lD (FE (qQ (i:=3) (j:=2) Lb KY (by rfl) (lC (o9 (qo (iJ Z) hr.m (by rfl) (a8 (cE (pv 0)) (a8 (cE (pv 1)) cS))))) (qM (lW Nb hr.m (by rfl) (a8 (cE (pv 0)) (a8 (cE (pv 1)) cS)))) (λa o vs h1 h2=>(vW (l:=4) bc.nd rfl (Or.inl rfl) (zT WJ h1 h2 Lu (pv 3) (by rfl) (zz Z) (cH (by rfl) MX (cH (by rfl) MC (cH (by rfl) Nu (cH (by rfl) Me (cH (by rfl) MY (cH (by rfl) Mr zU)))))) (by show(6:Nat)<=100;decide) Km)
  (vV (vU (j:=2) bc.nd rfl (Or.inl rfl) (iI (yp WJ h1 h2 Lu (pv 3) (by rfl) (zz Z) (by rfl) Nv K9) (iI (yp WJ h1 h2 Lu (pv 3) (by rfl) (zz Z) (by rfl) L7 KO) (iI (zO (zS WJ h1 h2 Lu (pv 3) (by rfl) (zz Z) (by rfl) (zz Z) (by decide +kernel) KL) (zP (zQ (zR (pv 4))))) zW)))
  vT)) @b)) rfl rfl rfl @b rfl bc.nd rfl rfl rfl)
  (qQ (i:=3) (j:=2) Lb KI (by rfl) (lC (o9 (qo (iJ Z) hr.m (by rfl) (a8 (cE (pv 0)) (a8 (cE (pv 1)) cS))))) (qM (lW LD hr.m (by rfl) (a8 (cE (pv 0)) (a8 (cE (pv 1)) cS)))) (λa o vs h1 h2=>(vW (l:=4) bc.nd rfl (Or.inl rfl) (zT WJ h1 h2 KU (pv 3) (by rfl) (zz Z) (cH (by rfl) MX (cH (by rfl) MC (cH (by rfl) Nu (cH (by rfl) Me (cH (by rfl) MY (cH (by rfl) Mr zU)))))) (by show(6:Nat)<=100;decide) Kl)
  (vV (vU (j:=2) bc.nd rfl (Or.inl rfl) (iI (yp WJ h1 h2 KU (pv 3) (by rfl) (zz Z) (by rfl) Nv KP) (iI (yp WJ h1 h2 KU (pv 3) (by rfl) (zz Z) (by rfl) L7 KH) (iI (zO (zS WJ h1 h2 KU (pv 3) (by rfl) (zz Z) (by rfl) (zz Z) (by decide +kernel) KD) (zP (zQ (zR (pv 4))))) zW)))
  vT)) @b)) rfl rfl rfl @b rfl bc.nd rfl rfl rfl))
  (lC (zv (uY (pv 2))))))
end
end LW
namespace PV
class Cont (α β:Type) where
 run:α->Res β
def Res.bnd{α β:Type}[f:Cont α β](x:Res α):Res β:=x.bind f.run
variable{α:Type}
theorem KZ{β:Type}(a:α)(f:α->Res β):Res.bnd (Res.ok a) (f:=⟨f⟩)=f a:=rfl
theorem bBad{β:Type}(f:α->Res β):Res.bnd (Res.bad:Res α) (f:=⟨f⟩)=.bad:=rfl
section
variable(env:PV.Env)(i n:Nat)(d:D)(f g:FX)(c c':FT)(fo Uu fo'':FO)(fs:FOs)(fd:FDs)(s t:FS)(op op':D->D->Res R)(F:List D->Res R)(a:FG)(as:O8)(fi fj:FI)(fp Ks:FP)(T:String)
theorem Rh:av d env=.ok ((.f,d),env):=rfl
theorem Nw:ax i env=match env[i]? with|some (some r)=>.ok ((.f,r.2),env.set i (some (fz r.1,r.2)))|_=>.bad:=rfl
theorem Tt:fz .f=.f:=rfl
theorem Tu(c:O):fz (.l c)=.f:=rfl
theorem Tw(cs:List O):fz (.t cs)=.f:=rfl
theorem Ph(p:WP):qh (.pin p .f)=true:=rfl
theorem Ov(p:WP):qh (.pin p .d)=true:=rfl
theorem Pj:jC i env=match env[i]? with|some (some r)=>.ok (r,env.set i none)|_=>.bad:=rfl
theorem Ri:af f env=Res.bnd (f env) (f:=⟨λp=>.ok (.val p.1.2,p.2)⟩):=rfl
theorem Rj:ae i env=match env[i]? with|some (some _)=>.ok (.var i,env)|_=>.bad:=rfl
theorem Pk:aj env=.ok ([],env):=rfl
theorem Ox:aa fo fs env=Res.bnd (fo env) (f:=⟨λp=>Res.bnd (fs p.2) (f:=⟨λq=>.ok (p.1::q.1,q.2)⟩)⟩):=rfl
theorem Pm:aF env=.ok ([],env):=rfl
theorem Oy:ah f fd env=Res.bnd (f env) (f:=⟨λp=>Res.bnd (fd p.2) (f:=⟨λq=>.ok (p.1.2::q.1,q.2)⟩)⟩):=rfl
theorem Rk:LK env (.val d)=.ok d:=rfl
theorem Rl:LK env (.var i)=match env[i]? with|some (some r)=>if qh r.1 then .ok r.2 else .bad|_=>.bad:=rfl
theorem Pn:tf env (.val d)=.ok d:=rfl
theorem Po:tf env (.var i)=match env[i]? with|some (some r)=>.ok r.2|_=>.bad:=rfl
theorem Pp:mC env []=.ok []:=rfl
theorem Pq(o:Opd)(os:List Opd):mC env (o::os)=Res.bnd (LK env o) (f:=⟨λd=>Res.bnd (mC env os) (f:=⟨λds=>.ok (d::ds)⟩)⟩):=rfl
theorem Oz:fZ env []=.ok []:=rfl
theorem OA(o:Opd)(os:List Opd):fZ env (o::os)=Res.bnd (tf env o) (f:=⟨λd=>Res.bnd (fZ env os) (f:=⟨λds=>.ok (d::ds)⟩)⟩):=rfl
theorem Pr:qh .f=true:=rfl
theorem Pt:qh (.l .f)=true:=rfl
theorem Pu:qh .d=true:=rfl
theorem Ro:aq op fo Uu env=Res.bnd (fo env) (f:=⟨λp=>Res.bnd (Uu p.2) (f:=⟨λq=>Res.bnd (LK q.2 p.1) (f:=⟨λa=>Res.bnd (LK q.2 q.1) (f:=⟨λb=>Res.bnd (op a b) (f:=⟨λr=>.ok (r,q.2)⟩)⟩)⟩)⟩)⟩):=rfl
theorem Pw:aK op fo Uu env=Res.bnd (fo env) (f:=⟨λp=>Res.bnd (Uu p.2) (f:=⟨λq=>Res.bnd (tf q.2 p.1) (f:=⟨λa=>Res.bnd (tf q.2 q.1) (f:=⟨λb=>Res.bnd (op a b) (f:=⟨λr=>.ok (r,q.2)⟩)⟩)⟩)⟩)⟩):=rfl
theorem Tx:eBl f env=Res.bnd (f env) (f:=⟨λp=>match p.1.2 with | .bl k=>.ok (k,p.2)|_=>.bad⟩):=rfl
theorem Rp:vg c c' env=Res.bnd (c env) (f:=⟨λp=>if p.1 then c' p.2 else .ok (false,p.2)⟩):=rfl
theorem Tz:bOr c c' env=Res.bnd (c env) (f:=⟨λp=>if p.1 then .ok (true,p.2) else c' p.2⟩):=rfl
theorem Rq:zr c env=Res.bnd (c env) (f:=⟨λp=>.ok (!p.1,p.2)⟩):=rfl
theorem Rr:Hj f env=Res.bnd (f env) (f:=⟨λp=>match p.1.2 with | .bl k=>.ok ((.f,.bl (!k)),p.2)|_=>.bad⟩):=rfl
theorem Px:aH F fs env=Res.bnd (fs env) (f:=⟨λp=>Res.bnd (mC p.2 p.1) (f:=⟨λds=>Res.bnd (F ds) (f:=⟨λr=>.ok (r,p.2)⟩)⟩)⟩):=rfl
theorem Rt:cx F fs env=Res.bnd (fs env) (f:=⟨λp=>Res.bnd (fZ p.2 p.1) (f:=⟨λds=>Res.bnd (F ds) (f:=⟨λr=>.ok (r,if ay r.1 r.2 then p.2 else p.2.map frz)⟩)⟩)⟩):=rfl
theorem Ru:du fd env=Res.bnd (fd env) (f:=⟨λp=>if p.1.length<=1000 then .ok ((.f,.tup p.1),p.2) else .bad⟩):=rfl
theorem Rv:gJ fd env=Res.bnd (fd env) (f:=⟨λp=>if p.1.length<=1000 then .ok ((.l .f,.lst p.1),p.2) else .bad⟩):=rfl
theorem Py:lI env=.ok (none,env):=rfl
theorem Pz:gZ f env=Res.bnd (f env) (f:=⟨λp=>match p.1.2 with | .int i=>.ok (some i,p.2)|_=>.bad⟩):=rfl
theorem Rw:qx i f env=if vq env i then(Res.bnd (f env) (f:=⟨λ(p:R×PV.Env)=>match p.2[i]? with
 |some (some (.l .f,.lst ds))=>if ds.length<sizeLine then .ok ((.f,.non),p.2.set i (some (.l .f,.lst (ds++[p.1.2])))) else .bad
 |_=>.bad⟩)) else .bad:=id rfl
theorem PD:vq env i=match env[i]? with|some (some (_,.lst _))=>true|_=>false:=rfl
theorem PF:ya f g env=Res.bnd (f env) (f:=⟨λp=>Res.bnd (g p.2) (f:=⟨λq=>match(ny p.1.2).bind cK,q.1.2 with|some ns,.int d=>.ok ((.f,.int (NX.maxD ns d)),q.2)|_,_=>.bad⟩)⟩):=rfl
theorem Rx(gg:List Nat->List D->Res R):Hk gg fo fs env=Res.bnd (fo env) (f:=⟨λp=>match LK p.2 p.1 with
 | .ok (.str l)=>Res.bnd (fs p.2) (f:=⟨λq=>Res.bnd (mC q.2 q.1) (f:=⟨λds=>Res.bnd (gg l ds) (f:=⟨λr=>.ok (r,q.2)⟩)⟩)⟩)
 |_=>.bad⟩):=id rfl
theorem PH(ix:List (Option Nat)):cA fi ix a c f env=Res.bnd (fi env) (f:=⟨λp=>Res.bnd (b5 a c f p.1 (cW ix p.2)) (f:=⟨λds=>if ds.length<=sizeLine then .ok ((.l .f,.lst ds),if flatDs ds then p.2 else p.2.map frz) else .bad⟩)⟩):=rfl
theorem Nd:cW [] env=[]:=rfl
theorem Nf(ix:List (Option Nat)):cW (none::ix) env=none::cW ix env:=rfl
theorem Ng(ix:List (Option Nat)):cW (some i::ix) env=(match env[i]? with|some (some r)=>some (O.f,r.2)|_=>none)::cW ix env:=rfl
theorem FQ:dR env=.ok (true,env):=rfl
theorem qS(ds:List D):b5 a c f (d::ds) env=Res.bnd (a d env) (f:=⟨λe=>Res.bnd (c e) (f:=⟨λp=>if p.1 then(Res.bnd (f p.2) (f:=⟨λq=>Res.bnd (b5 a c f ds q.2) (f:=⟨λrs=>.ok (q.1.2::rs)⟩)⟩)) else b5 a c f ds p.2⟩)⟩):=rfl
theorem FR:Dr f env=Res.bnd (f env) (f:=⟨λp=>match p.1.2 with | .lst ds=>.ok (ds,p.2)|_=>.bad⟩):=rfl
theorem wa:eU f env=Res.bnd (f env) (f:=⟨λp=>match p.1.2 with | .tup ds=>.ok (ds,p.2)|_=>.bad⟩):=rfl
theorem wb:or2 fi fj env=match fi env with | .ok a=>.ok a|_=>fj env:=by
 unfold or2;cases fi env <;> rfl
theorem Ry:or2 (Dr f) (eU f) env=Res.bnd (f env) (f:=⟨λp=>match p.1.2 with
 | .lst ds=>.ok (ds,p.2)
 | .tup ds=>.ok (ds,p.2)
 |_=>.bad⟩):=by
 rw[wb,FR,wa];cases f env with
 |ok p=>
  obtain⟨⟨o,d⟩,e⟩:=p;cases d <;> rfl
 |exc c=>rfl
 |bad=>rfl
theorem PJ:or2 (gF i) (eU (ax i)) env=match env[i]? with
 |some (some (_,.lst ds))=>.ok (ds,env)
 |some (some (o,.tup ds))=>.ok (ds,env.set i (some (fz o,.tup ds)))
 |_=>.bad:=by
 rw[wb,wa,Nw];unfold gF;cases env[i]? with
 |none=>rfl
 |some r=>
  cases r with
  |none=>rfl
  |some r=>
   obtain⟨o,d⟩:=r;cases d <;> rfl
theorem MD:cV fo env=Res.bnd (fo env) (f:=⟨λp=>Res.bnd (LK p.2 p.1) (f:=⟨λd=>match d with
 | .int j=>if -4611686018427387904<=j/\j<4611686018427387904 then .ok ((List.range j.toNat).map λ(k:Nat)=>D.int (k:Int),p.2) else .bad
 |_=>.bad⟩)⟩):=id rfl
theorem NL:lE fs env=Res.bnd (fs env) (f:=⟨λp=>Res.bnd (mC p.2 p.1) (f:=⟨λd=>match d with
 |[.int i,.int j]=>if(-4611686018427387904<=i/\i<4611686018427387904)/\-4611686018427387904<=j/\j<4611686018427387904 then .ok ((List.range (j-i).toNat).map λ(k:Nat)=>D.int (i+(k:Int)),p.2) else .bad
 |_=>.bad⟩)⟩):=id rfl
theorem me(k1 k2:Bool):su k1 k2 fs env=Res.bnd (fs env) (f:=⟨λp=>match p.1 with
 |[.val d1,.val d2]=>Res.bnd (iF k1 d1) (f:=⟨λa=>Res.bnd (iF k2 d2) (f:=⟨λb=>.ok ((a.zip b).map λz=>D.tup [z.1,z.2],p.2)⟩)⟩)
 |_=>.bad⟩):=id rfl
theorem LR:ao i d env=if i<env.length then .ok (env.set i (some (.f,d))) else .bad:=rfl
theorem PL:b8 [] env=.ok env:=rfl
theorem LA(ds:List D):aw a as (d::ds) env=Res.bnd (a d env) (f:=⟨λe=>as ds e⟩):=rfl
theorem Nh(ds:List D):gC n as (.tup ds) env=if ds.length=n then as ds env else .bad:=rfl
theorem K8:sSeq s t env=Res.bnd (s env) (f:=⟨λo=>match o with | .nx e=>t e|o=>.ok o⟩):=rfl
theorem PM:bD env=.ok (.nx env):=rfl
theorem OB:a9 i f env=Res.bnd (f env) (f:=⟨λp=>if i<p.2.length then .ok (.nx (p.2.set i (some p.1))) else .bad⟩):=rfl
theorem PN:f7 f env=Res.bnd (f env) (f:=⟨λp=>.ok (.nx p.2)⟩):=rfl
theorem Rz:cT f env=Res.bnd (f env) (f:=⟨λp=>.ok (.rt p.1)⟩):=rfl
theorem TB:sIf c s t env=Res.bnd (c env) (f:=⟨λp=>if p.1 then s p.2 else t p.2⟩):=rfl
theorem RB:mD fi a s env=Res.bnd (fi env) (f:=⟨λp=>cU a s p.1 p.2⟩):=rfl
theorem PQ:cU a s [] env=.ok (.nx env):=rfl
theorem bJ(ds:List D):cU a s (d::ds) env=Res.bnd (a d env) (f:=⟨λe=>Res.bnd (s e) (f:=⟨λo=>match o with
 | .nx e=>cU a s ds e
 | .ct e=>cU a s ds e
 | .bk e=>.ok (.nx e)
 | .rt r=>.ok (.rt r)⟩)⟩):=id rfl
theorem bY:bE c s (n+1) env=Res.bnd (c env) (f:=⟨λp=>if p.1 then(Res.bnd (s p.2) (f:=⟨λo=>match o with
  | .nx e=>bE c s n e
  | .ct e=>bE c s n e
  | .bk e=>.ok (.nx e)
  | .rt r=>.ok (.rt r)⟩)) else .ok (.nx p.2)⟩):=id rfl
theorem RC:E3 f a env=Res.bnd (f env) (f:=⟨λp=>Res.bnd (a p.1.2 p.2) (f:=⟨λe=>.ok (.nx e)⟩)⟩):=rfl
theorem aM(ds:List D)(nn:Nat)(h:ds.length=n):fBody n nn s ds=Res.bnd (s (ds.map (λd=>some (O.f,d))++List.replicate nn none)) (f:=⟨λo=>match o with
 | .rt r=>.ok r
 | .nx _=>.ok (.f,.non)
 |_=>.bad⟩):=by
 unfold fBody;rw[WV h];all_goals cases s (ds.map (λd=>some (O.f,d))++List.replicate nn none) with
 |ok o=>cases o <;> rfl
 |exc c=>rfl
 |bad=>rfl
end
theorem line_le(h:n<=16777216):n<=sizeLine:=by rw[line_eq];exact h
section
variable(a b:Int)(x y:List Nat)(p q:Bool)(ds es:List D)
theorem Iy:eqO (.int a) (.int b)=.ok (.f,.bl (a==b)):=by simp![eqO,plainD,Kv,Yf,Zb]
theorem Iz:eqO (.str x) (.str y)=.ok (.f,.bl (x==y)):=by simp![eqO,plainD,Kv,Yf,Zb]
theorem IA:neO (.int a) (.int b)=.ok (.f,.bl (!(a==b))):=by simp![neO,plainD,Kv,Yf,Zb]
theorem FU:ti (.int a) (.int b)=.ok (.f,.int (a-b)):=rfl
theorem Co:cN (.int a) (.int b)=if 0<b/\b<1073741824 then .ok (.f,.int (a / b)) else .bad:=rfl
theorem FV:dS (.int a) (.int b)=if 0<b then .ok (.f,.int (a%b)) else .bad:=rfl
theorem FW:BF (.int a) (.int b)=if 0<=b/\b<=1000000/\a.natAbs<2 ^ 64 then .ok (.f,.int (a ^ b.toNat)) else .bad:=rfl
theorem IB:ltO (.int a) (.int b)=.ok (.f,.bl (decide (a<b))):=rfl
theorem IC:gtD (.int a) (.int b)=.ok (.f,.bl (decide (b<a))):=rfl
theorem ID:geO (.int a) (.int b)=.ok (.f,.bl (decide (b<=a))):=rfl
theorem FY:eW [.lst ds]=.ok (.f,.int ds.length):=rfl
theorem FZ:eW [.tup ds]=.ok (.f,.int ds.length):=rfl
theorem Cp:sv [.lst ds]=.ok (.l .f,.lst ds):=rfl
theorem yy:cF [.lst ds]=.ok (.f,.tup ds):=rfl
theorem IE:ixD (.lst ds) (.int a)=match LI ds a with|some d=>.ok (.f,d)|none=>.bad:=rfl
theorem F0:ixD (.tup ds) (.int a)=match LI ds a with|some d=>.ok (.f,d)|none=>.bad:=rfl
theorem IF:ixD (.str x) (.int a)=match LI x a with|some c=>.ok (.f,.str [c])|none=>.bad:=rfl
theorem F1:maxD [.int a,.int b]=.ok (.f,.int (if a<b then b else a)):=rfl
theorem zY(bs:List Bool):Ds [.lst (bs.map D.bl)]=.ok (.f,.bl (bs.all id)):=by
 unfold Ds;show(match nu (bs.map D.bl) with|some bs=>_|none=>_)=_;rw[vz]
theorem Uv(d:α)(l:List α):LI (d::l) 0=some d:=by
 have:=cR (xs:=d::l) (j:=0) (v:=d) rfl;simpa using this
theorem R8(c d:α)(l:List α):LI (c::d::l) 1=some d:=by
 have:=cR (xs:=c::d::l) (j:=1) (v:=d) rfl;simpa using this
end
theorem KC(l:List Int):flatDs (l.map D.int)=true:=by
 rw[bL,YB,Xr];intro b _;rfl
theorem qT(l:List Bool):flatDs (l.map D.bl)=true:=by
 rw[bL,YB,Xr];intro b _;rfl
theorem flat_strs(l:List (List Nat)):flatDs (l.map D.str)=true:=by
 rw[bL,YB,Xr];intro b _;rfl
theorem pE(d:D):ay .f d=flatD d:=by rw[ay]
theorem yz(ds:List D):ay (.l .f) (.lst ds)=flatDs ds:=by rw[ay,lG]
theorem jk(i:Int):flatD (.int i)=true:=by rw[flatD];all_goals simp
theorem pF(i:Bool):flatD (.bl i)=true:=by rw[flatD];all_goals simp
theorem bO(ds:List D):flatD (.tup ds)=flatDs ds:=by rw[flatD]
theorem fU(n:Nat)(l:List Int):plainDs n (l.map D.int)=true:=by
 induction l with
 |nil=>rfl
 |cons a l ih=>rw[Xa,plainDs,ih,plainD];all_goals simp
theorem fV(n:Nat)(l:List (List Nat)):plainDs n (l.map D.str)=true:=by
 induction l with
 |nil=>rfl
 |cons a l ih=>rw[Xa,plainDs,ih,plainD];all_goals simp
theorem eqDs_ints:∀a b:List Int,iw (a.map D.int) (b.map D.int)=(a==b)
 |[],[]=>by simp[iw]
 |[],_::_=>by simp[iw]
 |_::_,[]=>by simp[iw]
 |a::r,b::t=>by
  rw[Xa,Xa,iw,Kv,eqDs_ints r t,Xo];simp
theorem yA(a:Int)(l:List Int):tj (.int a) (l.map D.int)=decide (a∈l):=by
 unfold tj;rw[YC,Xo,XM,W3];constructor
 .rintro⟨x,hx,e⟩;have e:Kv (.int x) (.int a)=true:=e;rw[Kv,Xx]at e;rw[<-e];exact hx
 .intro h;refine⟨a,h,?_⟩;show Kv (.int a) (.int a)=true;rw[Kv,X4]
theorem yB(a:List Nat)(l:List (List Nat)):tj (.str a) (l.map D.str)=decide (a∈l):=by
 unfold tj;rw[YC,Xo,XM,W3];constructor
 .rintro⟨x,hx,e⟩;have e:Kv (.str x) (.str a)=true:=e;rw[Kv,Xx]at e;rw[<-e];exact hx
 .intro h;refine⟨a,h,?_⟩;show Kv (.str a) (.str a)=true;rw[Kv,X4]
theorem zZ(a:Int)(l:List Int):Nr (.int a) (.lst (l.map D.int))=.ok (.f,.bl (decide (a∈l))):=by
 unfold Nr;dsimp only;rw[fU,yA,plainD];all_goals simp
theorem Cq(a:Int)(l:List Int):tm (.int a) (.lst (l.map D.int))=.ok (.f,.bl (!decide (a∈l))):=by
 unfold tm;rw[zZ];rfl
variable{a:FG}{f:FX}
theorem mf(I:PV.Env->Prop)(l:List α)(h:∀x∈l,∀env,I env->∃Ko,a (e x) env=.ok Ko/\∃KA,c Ko=.ok (p x,KA)/\if p x then ∃o Lf,f KA=.ok ((o,r x),Lf)/\I Lf else I KA):∀env,I env->b5 a c f (l.map e) env=.ok ((l.filter p).map r):=by
 induction l with
 |nil=>intro env _;rfl
 |cons x l ih=>
  intro env hI;obtain⟨Ko,h1,KA,h2,h3⟩:=h x WJ env hI;have ih:=ih λy hy=>h y (WK _ hy)
  rw[Xa,qS,h1,KZ,h2,KZ];cases hp:p x with
  |true=>
   rw[hp]at h3;obtain⟨o,Lf,h4,h5⟩:=h3;rw[WV rfl,h4,KZ,ih Lf h5,KZ,aaO hp];rfl
  |false=>
   rw[hp]at h3;rw[W6 WT,ih KA h3,aaN (by rw[hp];exact WT)]
theorem bu(I:PV.Env->Prop)(l:List α)(h:∀x∈l,∀env,I env->∃Ko,a (e x) env=.ok Ko/\∃o Lf,f Ko=.ok ((o,r x),Lf)/\I Lf):∀env,I env->b5 a dR f (l.map e) env=.ok (l.map r):=by
 induction l with
 |nil=>intro env _;rfl
 |cons x l ih=>
  intro env hI;obtain⟨Ko,h1,o,Lf,h4,h5⟩:=h x WJ env hI;have ih:=ih λy hy=>h y (WK _ hy)
  rw[Xa,qS,h1,KZ,FQ,KZ,WV rfl,h4,KZ,ih Lf h5];rfl
theorem Cr(P:Nat->PV.Env->Prop)(ds:List D)(h:∀i d env,ds[i]?=some d->P i env->∃Ko,a d env=.ok Ko/\∃KA,(g Ko=.ok (.nx KA)\/g Ko=.ok (.ct KA))/\P (i+1) KA):
  ∀env,P 0 env->∃env',cU a g ds env=.ok (.nx env')/\P ds.length env':=by
 have key:∀(l:List D) (k:Nat) (env:PV.Env),(∀i d,l[i]?=some d->ds[k+i]?=some d)->P k env->∃env',cU a g l env=.ok (.nx env')/\P (k+l.length) env':=by
  intro l;induction l with
  |nil=>exact λk env _ hp=>⟨env,rfl,hp⟩
  |cons d l ih=>
   intro k env hd hp;obtain⟨Ko,h1,KA,h2,h3⟩:=h k d env (hd 0 d rfl) hp;obtain⟨env',h4,h5⟩:=ih (k+1) KA (λi d e=>by have:=hd (i+1) d (by simpa using e);rw[show k+1+i=k+(i+1) by lia];exact this) h3;refine⟨env',?_,by rw[WX,show k+(l.length+1)=k+1+l.length by lia];exact h5⟩;rw[bJ,h1,KZ];rcases h2 with h2|h2
   .rw[h2,KZ];exact h4
   .rw[h2,KZ];exact h4
 intro env hp;obtain⟨env',h1,h2⟩:=key ds 0 env (λi d e=>by rw[Zi];exact e) hp;exact⟨env',h1,by rw[Zi]at h2;exact h2⟩
section
variable(env:PV.Env)(fo:FO)(fp Ks:FP)(a b:Int)(ds:List D)(x:List Nat)
theorem RD:xa fo fp Ks env=Res.bnd (fo env) (f:=⟨λp=>Res.bnd (fp p.2) (f:=⟨λq=>Res.bnd (Ks q.2) (f:=⟨λt=>Res.bnd (LK t.2 p.1) (f:=⟨λd=>Res.bnd (Td d q.1 t.1) (f:=⟨λr=>.ok (r,t.2)⟩)⟩)⟩)⟩)⟩):=rfl
theorem RE:Fc fo env=Res.bnd (fo env) (f:=⟨λp=>Res.bnd (LK p.2 p.1) (f:=⟨λd=>match d with
 | .int i=>.ok ((.f,.int (-i)),p.2)
 |_=>.bad⟩)⟩):=id rfl
theorem F2(lo hi:Option Int):Td (.lst ds) lo hi=.ok (.l .f,.lst (gD ds lo hi)):=rfl
theorem F3(lo hi:Option Int)(h:HT.sIx ds.length 0 lo=0/\HT.sIx ds.length ds.length hi=ds.length):gD ds lo hi=ds:=by
 unfold gD;rw[h.1,h.2,aav,Nat.sub_zero,YT (WU _)]
theorem wc:Dt (.int a) (.int b)=if eE a||eE b then .ok (.f,.int (a*b)) else .bad:=rfl
end
section
variable(env:PV.Env)(fo:FO)(fs:FOs)(f g:FX)(a b c:Int)(ds es:List D)(x y:List Nat)
theorem RF(gg:List D->List D->Res R):Du gg fo fs env=Res.bnd (fo env) (f:=⟨λp=>Res.bnd (LK p.2 p.1) (f:=⟨λd=>match d with
 | .tup _=>Res.bnd (fs p.2) (f:=⟨λq=>Res.bnd (LK q.2 p.1) (f:=⟨λd2=>match d2 with
  | .tup l=>Res.bnd (mC q.2 q.1) (f:=⟨λds=>Res.bnd (gg l ds) (f:=⟨λr=>.ok (r,q.2)⟩)⟩)
  |_=>.bad⟩)⟩)
 |_=>.bad⟩)⟩):=id rfl
theorem NM:lT fs env=Res.bnd (fs env) (f:=⟨λp=>Res.bnd (mC p.2 p.1) (f:=⟨λd=>match d with
 |[.int i,.int j,.int c]=>if jP i j c then .ok ((List.range (Builtin.Range.rangeSize i j c).toNat).map λ(k:Nat)=>D.int (i+(k:Int)*c),p.2) else .bad
 |_=>.bad⟩)⟩):=id rfl
theorem Jm(d:D):(∃l,iF true d=.ok l/\iF false d=.bad/\ny d=some l)\/(∃l,iF true d=.bad/\iF false d=.ok l/\ny d=some l)\/(iF true d=.bad/\iF false d=.bad/\ny d=none):=by
 cases d with
 |lst l=>exact .inl ⟨l,rfl,rfl,rfl⟩
 |tup l=>exact .inr (.inl ⟨l,rfl,rfl,rfl⟩)
 |_=>exact .inr (.inr ⟨rfl,rfl,rfl⟩)
def yC(k1 k2:Bool)(e:PV.Env)(d1 d2:D):Res (List D×PV.Env):=(iF k1 d1).bind λa=>(iF k2 d2).bind λb=>.ok ((a.zip b).map λz=>D.tup [z.1,z.2],e)
def IG(e:PV.Env)(d1 d2:D):Res (List D×PV.Env):=match ny d1,ny d2 with|some a,some b=>.ok ((a.zip b).map λz=>D.tup [z.1,z.2],e)|_,_=>.bad
noncomputable def Qw(a b:Res (List D×PV.Env)):Res (List D×PV.Env):=match a with | .ok a=>.ok a|_=>b
noncomputable def xc(g:D->D->Res (List D×PV.Env))(os:List Opd):Res (List D×PV.Env):=match os with|[.val d1,.val d2]=>g d1 d2|_=>.bad
theorem pG(g h:D->D->Res (List D×PV.Env))(os:List Opd):Qw (xc g os) (xc h os)=xc (λa b=>Qw (g a b) (h a b)) os:=by
 unfold xc;split <;> rfl
theorem Cs(e:PV.Env)(a b:D):Qw (yC true true e a b) (Qw (yC true false e a b) (Qw (yC false true e a b) (yC false false e a b)))=IG e a b:=by
 unfold yC IG;rcases Jm a with⟨l,h1,h2,h3⟩|⟨l,h1,h2,h3⟩|⟨h1,h2,h3⟩ <;> rcases Jm b with⟨m,i1,i2,i3⟩|⟨m,i1,i2,i3⟩|⟨i1,i2,i3⟩ <;> rw[h1,h2,h3,i1,i2,i3] <;> rfl
theorem PR:pg fs env=Res.bnd (fs env) (f:=⟨λp=>match p.1 with
 |[.val d1,.val d2]=>(match ny d1,ny d2 with|some a,some b=>.ok ((a.zip b).map λz=>D.tup [z.1,z.2],p.2)|_,_=>.bad)
 |_=>.bad⟩):=by
 unfold pg;rw[wb,wb,wb,me,me,me,me];cases fs env with
 |ok p=>
  show Qw (xc (yC true true p.2) p.1) (Qw (xc (yC true false p.2) p.1) (Qw (xc (yC false true p.2) p.1) (xc (yC false false p.2) p.1)))=xc (IG p.2) p.1;rw[pG,pG,pG];exact Yp (λg=>xc g p.1) (funext λa=>funext λb=>Cs p.2 a b)
 |_=>rfl
theorem PU:ny (.lst ds)=some ds:=rfl
theorem PY:ny (.tup ds)=some ds:=rfl
theorem PZ(i:Nat):sI i f g env=Res.bnd (g env) (f:=⟨λ(p:R×PV.Env)=>Res.bnd (f p.2) (f:=⟨λ(q:R×PV.Env)=>match p.2[i]?,q.2[i]? with
 |some (some _),some (some (.l .f,.lst ds))=>(match q.1.2 with
  | .int k=>(match ixN ds.length k with
   |some j=>.ok (.nx (q.2.set i (some (.l .f,.lst (ds.set j p.1.2)))))
   |none=>.bad)
  |_=>.bad)
 |_,_=>.bad⟩)⟩):=id rfl
theorem Cu:lV (.int a) (.int b)=Dt (.int a) (.int b):=rfl
theorem OC:nJ f g env=Res.bnd (f env) (f:=⟨λp=>Res.bnd (g p.2) (f:=⟨λq=>if bR false p.1.2 then .ok ((.d,.dct false [p.1.2] [q.1.2]),q.2) else .bad⟩)⟩):=rfl
theorem F4(d:D):inP d (.lst ds)=Nr d (.lst ds):=rfl
theorem Cv(d:D):qE d (.lst ds)=tm d (.lst ds):=rfl
theorem F5:bR false (.int a)=true:=rfl
theorem F6:bR false (.str x)=true:=rfl
theorem F7:Fh [.int a,.int b]=.ok (.f,.int (if b<a then b else a)):=rfl
theorem Cw:bQ (.int a) (.int b)=.ok (.f,.int (a+b)):=rfl
theorem Cy:bQ (.str x) (.str y)=if x.length+y.length<=sizeLine then .ok (.f,.str (x++y)) else .bad:=rfl
theorem pH:bQ (.lst ds) (.lst es)=if ds.length+es.length<=sizeLine then .ok (.l .f,.lst (ds++es)) else .bad:=rfl
theorem Cz:bQ (.tup ds) (.tup es)=if ds.length+es.length<=sizeLine\/ds=[] then .ok (.f,.tup (ds++es)) else .bad:=by
 unfold bQ;cases ds with
 |nil=>rw[WV (.inr rfl)];rfl
 |cons d ds=>
  dsimp only;unfold addD;dsimp only;by_cases h:(d::ds).length+es.length<=sizeLine
  .rw[WV ⟨nofun,h⟩,WV (.inl h)]
  .rw[W6 (λz=>h z.2),W6 (λz=>z.elim h nofun)]
end
section
variable(env:PV.Env)(f g:FX)(ds ks:List D)(i:Nat)
end
section
variable(env:PV.Env)(f:FX)(fs:FOs)(ds:List D)(i:Nat)
theorem Jn:JX i env=match env[i]? with
 |some (some (ow,.lst ds))=>if isLf ow then(match ds.getLast? with
  |some d=>.ok ((.f,d),env.set i (some (ow,.lst ds.dropLast)))
  |none=>.bad) else .bad
 |_=>.bad:=id rfl
theorem fC:i9 i f env=Res.bnd (f env) (f:=⟨λ(p:R×PV.Env)=>match p.2[i]? with
 |some (some (.pin q c,d))=>.ok (.rt (.t [p.1.1,.pin q c],.tup [p.1.2,d]))
 |_=>.bad⟩):=by
 first
  |exact id rfl
  |(unfold i9;rfl)
theorem yD(np nn:Nat)(c:O)(g:FS)(p:WP)(d0:D)(h:ds.length+1=np):jR np nn c g p (d0::ds)=Res.bnd (g (some (.pin p c,d0)::(ds.map (λd=>some (O.f,d))++List.replicate nn none))) (f:=⟨λo=>match o with
  | .rt r=>.ok r
  |_=>.bad⟩):=by
 unfold jR;dsimp only;rw[WV h];rfl
end
noncomputable def pv:=(ZB @KZ (ZB @bBad (ZB @Rh (ZB @Nw (ZB @Pj (ZB @Ri (ZB @Rj (ZB @Pk (ZB @Ox (ZB @Pm (ZB @Oy (ZB @Rk (ZB @Rl (ZB @Pn (ZB @Po (ZB @Pp (ZB @Pq (ZB @Oz (ZB @OA (ZB @Pr (ZB @Pt (ZB @Pu (ZB @Ro (ZB @Pw (ZB @Tx (ZB @Rp (ZB @Tz (ZB @Rq (ZB @Rr (ZB @Px (ZB @Rt (ZB @Ru (ZB @Rv (ZB @RD (ZB @RE (ZB @Py (ZB @Pz (ZB @Rw (ZB @PD (ZB @PF (ZB @Rx (ZB @PH (ZB @Nd (ZB @Nf (ZB @Ng (ZB @Ry (ZB @PJ (ZB @MD (ZB @NL (ZB @LR (ZB @PL (ZB @LA (ZB @Nh (ZB @K8 (ZB @PM (ZB @OB (ZB @PN (ZB @Rz (ZB @TB (ZB @RB (ZB @PQ (ZB @RC (ZB @List.getElem?_cons_zero.{0} (ZB @List.getElem?_cons_succ.{0} (ZB @List.set_cons_zero.{0} (ZB @List.set_cons_succ.{0} (ZB @List.length_cons.{0} (ZB @List.length_nil.{0} (ZB @List.map_cons.{0,0} (ZB @List.map_nil.{0,0} (ZB @List.replicate_succ.{0} (ZB @List.replicate_zero.{0} (ZB @List.cons_append.{0} (ZB @List.nil_append.{0} (ZB @Nat.zero_add (ZB @RF (ZB @NM (ZB @PR (ZB @PU (ZB @PY (ZB @PZ (ZB @OC (ZB @Tt (ZB @Tu (ZB @Tw (ZB @Ph @Ov))))))))))))))))))))))))))))))))))))))))))))))))))))))))))))))))))))))))))))))))))))))
noncomputable def op:=(ZB @Iy (ZB @Iz (ZB @IA (ZB @FU (ZB @IB (ZB @IC (ZB @ID (ZB @FY (ZB @FZ (ZB @Cp (ZB @yy (ZB @IE (ZB @F0 (ZB @IF (ZB @F2 (ZB @F1 (ZB @Uv (ZB @R8 (ZB @Cq (ZB @zY (ZB @pE (ZB @yz (ZB @jk (ZB @pF (ZB @KC (ZB @qT (ZB @PV.flat_strs (ZB @bO (ZB @F7 (ZB @Cw (ZB @Cu (ZB @F4 (ZB @Cv (ZB @F5 @F6))))))))))))))))))))))))))))))))))
theorem dV(n:Nat)(w:PV.Env):(∃d,LK w (.var n)=.ok d)\/LK w (.var n)=.bad:=by
 unfold LK;dsimp only;split
 .split
  .exact .inl ⟨_,rfl⟩
  .exact .inr rfl
 .exact .inr rfl
section
variable(w:PV.Env)(op:D->D->Res R)(F:List D->Res R)(f g h:FX)(n n' n'':Nat)(x y:D)
end
section
variable(a b c d e g h i j k l m:Option R)(z:PV.Env)(r:R)(o:O)(x:D){ρ:Type}
end
end PV
namespace LW
abbrev fq(d:PV.D):Option PV.R:=some (.f,d)
abbrev fI(i:Int):Option PV.R:=some (.f,.int i)
abbrev fL(l:List PV.D):Option PV.R:=some (.l .f,.lst l)
open PV
variable{α:Type}{a:FG}{g:FS}
theorem for_list{e:α->D}(l:List α)(P:Nat->PV.Env->Prop)
  (h:∀k x env,l[k]?=some x->P k env->∃Ko,a (e x) env=.ok Ko/\∃KA,g Ko=.ok (.nx KA)/\P (k+1) KA):∀env,P 0 env->∃env',cU a g (l.map e) env=.ok (.nx env')/\P l.length env':=by
 intro env h0;have:=Cr (a:=a) (g:=g) P (l.map e) (λi d env hi hp=>by
  rw[W2,Xi]at hi;obtain⟨x,hx,rfl⟩:=hi;obtain⟨Ko,h1,KA,h2,h3⟩:=h i x env hx hp;exact⟨Ko,h1,KA,.inl h2,h3⟩) env h0
 rwa [WN]at this
theorem ml(n:Nat)(P:Nat->PV.Env->Prop)(h:∀k env,k<n->P k env->∃Ko,a (e k) env=.ok Ko/\∃KA,g Ko=.ok (.nx KA)/\P (k+1) KA):∀env,P 0 env->∃env',cU a g ((List.range n).map e) env=.ok (.nx env')/\P n env':=by
 intro env h0;have:=for_list (a:=a) (g:=g) (e:=e) (List.range n) P (λk x env hk hp=>by
  obtain⟨h1,h2⟩:=WS.mp hk;rw[Xk]at h1;rw[aau]at h2;subst h2;exact h k env h1 hp) env h0
 rwa [Xk]at this
abbrev LNN:=List (List Nat)
variable{β:Type}
theorem aU{l:List α}(f:α->β):(l.map f).length=l.length:=WN f
theorem cz:(false=true)=False:=Xt
variable{i:Nat}
theorem iK{l:List α}{a:α}(h:l[i]?=some a):∃h:i<l.length,l[i]=a:=WS.mp h
theorem iL{l:List α}(h:i<l.length):l[i]?=some l[i]:=WM h
theorem c8{a:α}:(a::l).map f=f a::l.map f:=Xa
theorem f9{a:α}(h:a∈[b]):a=b:=W5.mp h
theorem mE{f:α->β}{l:List α}{b:β}(h:b∈l.map f):∃a,a∈l/\f a=b:=YJ.mp h
theorem jl{a:α}{t:List α}(h:a∈s++t):a∈s\/a∈t:=Xv.mp h
theorem gK{t:List α}:(s++t).length=s.length+t.length:=Xs
theorem ai{t:FS}(h:s env=.ok (.nx env')):sSeq s t env=t env':=by rw[K8,h,KZ]
theorem bg{ds:List D}(h:ds.length<=16777216):ds.length<=sizeLine:=line_le h
theorem jZ{l:List Int}{k:Nat}(h:k<l.length):LI (l.map D.int) (k:Int)=some (.int (l.getD k 0)):=cR (by rw[W2,W8,iL h];rfl)
theorem F8{l:LNN}{k:Nat}(h:k<l.length):LI (l.map D.str) (k:Int)=some (.str l[k]):=cR (by rw[W2,iL h];rfl)
theorem at2(a b c:α):LI [a,b,c] (2:Int)=some c:=rfl
theorem cQ:∀l:LNN,dB (l.map D.str)=some l
 |[]=>rfl
 |a::l=>by
  rw[c8,dB,cQ l];rfl
theorem j3(x y:D)(t1 t2:Option R)(aZ:PV.Env):gC 2 (aw (ao 0) (aw (ao 1) b8)) (.tup [x,y]) (t1::t2::aZ)=.ok (fq x::fq y::aZ):=by
 rw[Nh,WV @t,LA,LR,WV @t,KZ,LA,LR,WV @t,KZ];rfl
theorem dJ(lt:α->α->Bool)(l:List α):(aB lt l).length=l.length:=(cB lt l).length_eq
theorem we(l:LNN)(h:l.length<64):cY [.lst (l.map D.str)]=.ok (.l .f,.lst ((aB MP l).map D.str)):=by
 unfold cY;dsimp only;rw[WV (by rw[aU];exact h)];unfold jM;cases l with
 |nil=>rfl
 |cons a l=>
  have e:cK ((a::l).map D.str)=none:=rfl;rw[e,cQ]
noncomputable def Mz:List Nat:=[97,98,99,100,101,102,103,104,105,106,107,108,109,110,111,112,113,114,115,116,117,118,119,120,121,122]
theorem F9(j:Nat)(h:j<26):Mz[j]?=some (97+j):=by
 have:∀j:_root_.Fin 26,Mz[j.1]?=some (97+j.1):=by decide
 exact this ⟨j,h⟩
theorem Ga(j:Int)(h0:0<=j)(h:j<26):LI Mz j=some (97+j.toNat):=by
 obtain⟨n,rfl⟩:=Xg h0;exact cR (F9 n @a)
theorem c9(x b:Int)(h:0<b):0<=x%b/\x%b<b:=⟨Int.emod_nonneg _ @a,Int.emod_lt_of_pos _ h⟩
theorem J4(n:Nat)(h:n<=200):BF (.int 10) (.int (n:Int))=.ok (.f,.int (10 ^ n)):=by
 rw[FW,WV @a,YN]
theorem gL(x b:Int)(h:0<b):dS (.int x) (.int b)=.ok (.f,.int (x%b)):=by rw[FV,WV h]
theorem d7(x b:Int)(h:0<b)(h2:b<1073741824):cN (.int x) (.int b)=.ok (.f,.int (x / b)):=by rw[Co,WV ⟨h,h2⟩]
theorem J5(x y:List Nat)(h:x.length+y.length<=1000):bQ (.str x) (.str y)=.ok (.f,.str (x++y)):=by rw[Cy,WV (line_le @a)]
theorem jm(l:List α)(k:Nat):gD l none (some (k:Int))=l.take k:=by
 unfold gD;rw[HT.pR,HT.k7,aav,Nat.sub_zero];by_cases h:k<=l.length
 .rw[aam h]
 .rw[Nat.min_eq_right @a,YT (WU _),YT @a]
theorem qU(l:List α)(k:Nat):gD l (some (k:Int)) none=l.drop k:=by
 unfold gD;rw[HT.pR,HT.k7];by_cases h:k<=l.length
 .rw[aam h,YT (by rw[Yo];exact WU _)]
 .rw[Nat.min_eq_right @a,aa7 (WU _),aa7 @a,List.take_nil]
theorem cw(f:Nat->α)(n:Nat)(h:∀i j,i<n->j<n->f i=f j->i=j):((List.range n).map f).Nodup:=by
 rw[Zp,Zc];refine List.pairwise_lt_range.imp_of_mem λ{a b} ha hb hl e=>?_
 have:=h a b (Xp.mp ha) (Xp.mp hb) e;lia
theorem J6(j:Int)(h0:0<=j)(h:j<=1000)(fo:FO)(env env':PV.Env)(o:Opd)(e1:fo env=.ok (o,env'))(e2:LK env' o=.ok (.int j)):cV fo env=.ok ((List.range j.toNat).map λ(k:Nat)=>D.int (k:Int),env'):=by
 rw[MD,e1,KZ];dsimp only;rw[e2,KZ];dsimp only;rw[WV @a]
theorem CA(l:List α)(a b:Nat)(h:a<=b)(hb:b<=l.length):gD l (some (a:Int)) (some (b:Int))=(l.drop a).take (b-a):=by
 unfold gD;rw[HT.k7,HT.k7,aam hb,aam (Xz h hb)]
theorem ou(x:Int)(h:-1000000<=x)(h2:x<=1000000):eE x=true:=by
 unfold eE;rw[W3];lia
theorem wg(d:D)(h:plainD 40 d=true):neO d d=.ok (.f,.bl false):=by
 unfold neO;rw[h,lM d 40 h];rfl
theorem yE(l:List Int):plainD 40 (.tup (l.map D.int))=true:=by
 rw[plainD,fU]
theorem wj(n k:Nat)(h:k<n):ixN n (k:Int)=some k:=by
 unfold ixN;rw[WV @a,WV @a];rfl
theorem isT(ds:List D):Jh "tuple" (.tup ds)=true:=rfl
theorem ox{g:FS}(P:Nat->PV.Env->Prop)(fin:PV.Env->Prop)(h:∀k env,P k env->(∃Ko,c env=.ok (false,Ko)/\fin Ko)\/(∃Ko,c env=.ok (true,Ko)/\∃KA k',g Ko=.ok (.nx KA)/\k'<k/\P k' KA)):
  ∀n k env,k<n->P k env->∃env',bE c g n env=.ok (.nx env')/\fin env'
 | 0,k,env,hk,_=>absurd hk (Nat.not_lt_zero _)
 |n+1,k,env,hk,hp=>by
  rcases h k env hp with⟨Ko,h1,h2⟩|⟨Ko,h1,KA,k',h2,h3,h4⟩
  .exact⟨Ko,by rw[bY,h1,KZ];rfl,h2⟩
  .obtain⟨env',e,hf⟩:=ox P fin h n k' KA @a h4;refine⟨env',?_,hf⟩;rw[bY,h1,KZ];dsimp only;rw[WV rfl,h2,KZ];exact e
theorem pI(f:α->β)(l:List α)(lo hi:Option Int):gD (l.map f) lo hi=(gD l lo hi).map f:=by
 unfold gD;rw[aU,<-List.map_drop,<-aaS]
theorem iM{l:List α}(h:l.length<=100000):l.length<sizeLine:=W9 (Zd _) (line_le @a)
end LW
namespace LW
open PV
section
variable(env:PV.Env)(f:FX)(fs:FOs)(fo:FO)
theorem CB(i:Nat)(c:O)(F:WP->List D->Res R):eFunW c F i fs env=Res.bnd (fs env) (f:=⟨λp=>match p.1 with
 | .var j::os=>if j=i then(match p.2[i]? with
  |some (some (ow,d0))=>if nK c ow then Res.bnd (fZ (p.2.set i none) os) (f:=⟨λds=>Res.bnd (iH F c d0 ds) (f:=⟨λx=>if ay x.1.1 x.1.2&&ay c x.2 then .ok (x.1,(p.2.set i none).set i (some (ow,x.2))) else .ok (x.1,((p.2.set i none).map frz).set i (some (ow,x.2)))⟩)⟩) else .bad
  |_=>.bad) else .bad
 |_=>.bad⟩):=id rfl
theorem sS(r:R):frz (some r)=fq r.2:=rfl
theorem tq:frz none=none:=rfl
theorem qV(gg:List D->List D->Res R):Dv gg fo fs env=Res.bnd (fo env) (f:=⟨λp=>Res.bnd (LK p.2 p.1) (f:=⟨λd=>match d with
 | .lst _=>Res.bnd (fs p.2) (f:=⟨λq=>Res.bnd (LK q.2 p.1) (f:=⟨λd2=>match d2 with
  | .lst l=>Res.bnd (mC q.2 q.1) (f:=⟨λds=>Res.bnd (gg l ds) (f:=⟨λr=>.ok (r,q.2)⟩)⟩)
  |_=>.bad⟩)⟩)
 |_=>.bad⟩)⟩):=id rfl
end
theorem o_isnT(ds:List D):isnO (.tup ds) .non=.ok (.f,.bl true):=rfl
theorem kQ:isnO .non .non=.ok (.f,.bl false):=rfl
abbrev KG:=Int×List Nat×Int
noncomputable def eA(a:KG):D:=.tup [.int a.1,.str a.2.1,.int a.2.2]
theorem jo:∀(n:Nat) {l:List Int},l.Nodup->(∀x∈l,0<=x/\x<(n:Int))->l.length<=n
 | 0,l,_,hb=>by
  cases l with
  |nil=>exact WU _
  |cons a l=>have:=hb a WJ;lia
 |n+1,l,nd,hb=>by
  have h1:=jo n (l:=l.erase (n:Int)) (nd.erase _) λx hx=>by
   have h2:=(nd.mem_erase_iff.mp hx)
   have h3:=hb x h2.2;have h4:=h2.1;lia
  have:=List.length_erase_le (a:=(n:Int)) (l:=l);have h5:l.length<=(l.erase (n:Int)).length+1:=by
   by_cases hm:(n:Int)∈l
   .rw[ZJ hm];have:=Ze hm;lia
   .rw[List.erase_of_not_mem hm];lia
  lia
def Ky(nY:LNN)(ap:List KG):D:=.tup [.tup @h,.lst (ap.map eA)]
def gH(a:KG)(t1 t2 t3:Option R)(aZ:PV.Env):gC 3 (aw (ao 0) (aw (ao 1) (aw (ao 2) b8))) (eA a) (t1::t2::t3::aZ)=.ok (fI a.1::fq (.str a.2.1)::fI a.2.2::aZ):=by
 unfold eA;rw[Nh,WV @t,LA,LR,WV @t,KZ,LA,LR,WV @t,KZ,LA,LR,WV @t,KZ];rfl
variable{α:Type}
theorem mn{f:α->D}{p:α->Bool}{l:List α}(h:l.length<=16777216):((l.filter p).map f).length<=sizeLine:=by
 rw[aU];exact line_le (Xz (List.length_filter_le _ _) h)
theorem z6(l:List Int):(ny (.lst (l.map D.int))).bind cK=some l:=sx l
noncomputable def j4(a:KG):Int:=if a.1<a.2.2 then a.2.2 else a.1
def aI(ap:List KG):Int:=1+NX.maxD (ap.map j4) 0
theorem qW{f:α->D}{l:List α}(h:∀a,flatD (f a)=true):flatDs (l.map f)=true:=by
 rw[bL,YB,Xr];intro a _;exact h a
theorem pJ(nY:LNN)(ap:List KG)(hl:ap.length<=16777216):cD [Ky nY ap]=.ok (.f,.int (aI ap)):=by
 unfold cD jS;rw[aM (h:=by rfl)];simp?[Ky];rw[bu (r:=λa:KG=>D.int (j4 a)) (λenv=>∃t1 t2 t3,env=[t1,t2,t3]) ap ?_ _ ⟨_,_,_,rfl⟩]
 .rw[KZ,WV (bg (by rw[aU];exact hl)),KZ,qW λa=>jk _];simp?;have e:(some (ap.map λa=>D.int (j4 a))).bind cK=some (ap.map j4):=by
   have:=z6 (ap.map j4);rw[Xq]at this;exact this
  rw[e];rfl
 .rintro a _ env ⟨t1,t2,t3,rfl⟩;refine⟨_,gH a t1 t2 t3 _,?_⟩;simp?;exact⟨_,_,rfl,_,_,_,rfl⟩
theorem CC(a:KG):flatD (eA a)=true:=rfl
theorem mq(as:List KG):flatDs (as.map eA)=true:=by
 rw[bL,YB,Xr];exact λp _=>CC p
theorem Jo(w:LNN)(m:List Nat)(h:w.length<=1000):bQ (.tup (w.map D.str)) (.tup [.str m])=.ok (.f,.tup ((w++[m]).map D.str)):=by
 rw[Cz,WV (.inl (line_le (by rw[aU,WX,X2];lia))),Xd];rfl
noncomputable def ak(a:KG):List Key:=[.inl a.1,.inr (S a.2.1),.inl a.2.2]
def aJ(a b:KG):Bool:=iu (ak a) (ak b)
theorem S_inj(h:S a=S b):a=b:=by
 have:=Yp (λs:Str=>s.cps.toList) h;simpa only[cJ] using this
theorem IH(a:KG):kT (ak a)=eA a:=by
 unfold kT ak eA;simp![c8,XD,kD,cJ]
theorem wm{α:Type}(f:α->β)(lt:β->β->Bool)(x:α):∀l:List α,ins lt (f x) (l.map f)=(ins (λa b=>lt (f a) (f b)) x l).map f
 |[]=>rfl
 |y::ys=>by
  rw[c8,ins,ins];cases lt (f y) (f x) with
  |true=>rw[WV rfl,WV rfl,wm f lt x ys,c8]
  |false=>rw[W6 WT,W6 WT,c8,c8]
theorem oy{α:Type}(f:α->β)(lt:β->β->Bool):∀l:List α,aB lt (l.map f)=(aB (λa b=>lt (f a) (f b)) l).map f
 |[]=>rfl
 |x::l=>by
  show ins lt (f x) (aB lt (l.map f))=_;rw[oy f lt l,wm];rfl
theorem wo(as:List KG):as.map eA=(as.map ak).map kT:=by
 rw[Xq];exact Yg λa _=>(IH a).symm
theorem Gb(a b:KG):Kv (eA a) (eA b)=decide (a=b):=by
 obtain⟨x,y,z⟩:=a;obtain⟨x',y',z'⟩:=b;unfold eA;simp![Kv,iw];rw[Xo];simp
theorem fD:∀(l:List Int) (b:Int),b<=l.foldl max b/\(∀x∈l,x<=l.foldl max b)/\(l.foldl max b=b\/l.foldl max b∈l)
 |[],b=>⟨Int.le_refl _,λ_ h=>(nomatch h),.inl rfl⟩
 |a::l,b=>by
  obtain⟨h1,h2,h3⟩:=fD l (max b a);rw[ZN];refine⟨by lia,λx hx=>?_,?_⟩
  .rcases WY.mp hx with rfl|hx
   .lia
   .exact h2 x hx
  .rcases h3 with h3|h3
   .rw[h3];by_cases h:b<=a
    .exact .inr (by rw[Int.max_eq_right h];exact WJ)
    .exact .inl (Int.max_eq_left @a)
   .exact .inr (WK _ h3)
variable{ns:List Int}{x:Int}
theorem mr(h:x∈ns):x<=dO ns:=(fD ns _).2.1 x h
theorem qX(h:ns≠[]):dO ns∈ns:=by
 cases ns with
 |nil=>exact absurd rfl h
 |cons a l=>
  rcases(fD (a::l) a).2.2 with e|e
  .show List.foldl max a (a::l)∈a::l;rw[e];exact WJ
  .exact e
theorem CD(h:x∈ns):x<=NX.maxD ns d:=by
 unfold NX.maxD;rw[W6 (List.ne_nil_of_mem h)];exact mr h
theorem wq(ns:List Int)(d:Int):(ns=[]/\NX.maxD ns d=d)\/NX.maxD ns d∈ns:=by
 unfold NX.maxD;by_cases h:ns=[]
 .exact .inl ⟨h,WV h⟩
 .rw[W6 h];exact .inr (qX h)
theorem j5(a:KG):a.1<=j4 a/\a.2.2<=j4 a/\(j4 a=a.1\/j4 a=a.2.2):=by
 unfold j4;split
 .exact⟨by lia,by lia,.inr rfl⟩
 .exact⟨by lia,by lia,.inl rfl⟩
variable{ap:List KG}{a:KG}
theorem oz(h:a∈ap):a.1<aI ap/\a.2.2<aI ap:=by
 have h1:=CD (d:=0) (YJ.mpr ⟨a,h,rfl⟩:j4 a∈ap.map j4);obtain⟨h2,h3,_⟩:=j5 a;unfold aI;lia
theorem sT(h:∀a∈ap,0<=a.1/\0<=a.2.2):1<=aI ap:=by
 unfold aI;rcases wq (ap.map j4) 0 with⟨_,e⟩|e
 .lia
 .obtain⟨a,ha,e2⟩:=mE e;have:=h a ha;obtain⟨h1,h2,_⟩:=j5 a;lia
theorem il(lt:α->α->Bool){a:α}:a∈aB lt l<->a∈l:=(cB lt l).mem_iff
structure Ra(nY:LNN)(as:List KG)(mZ:Nat):Prop where
 mm:1<=mZ/\mZ<=12
 len:as.length<=60
 bd:∀a∈as,(0<=a.1/\a.1<(mZ:Int))/\0<=a.2.2/\a.2.2<(mZ:Int)
 nm:∀a∈as,a.2.1∈nY
 rc:∀j:Nat,1<=j->j<mZ->∃a∈as,a.2.2=(j:Int)/\∃b:Nat,b<j/\a.1=(b:Int)
variable{mZ:Nat}
theorem oA(hm:1<=mZ)(h:∀a∈ap,(0<=a.1/\a.1<(mZ:Int))/\0<=a.2.2/\a.2.2<(mZ:Int)):1<=aI ap/\aI ap<=(mZ:Int):=by
 refine⟨sT λa ha=>?_,?_⟩
 .have:=h a ha;lia
 .unfold aI;rcases wq (ap.map j4) 0 with⟨_,e⟩|e
  .lia
  .obtain⟨a,ha,e2⟩:=mE e;have:=h a ha;obtain⟨h1,h2,h3⟩:=j5 a;lia
variable{nY:LNN}
theorem Ra.sort(r:Ra nY as mZ):Ra nY (aB aJ as) mZ:=by
 have mem:∀{a:KG},a∈aB aJ as<->a∈as:=il aJ;refine⟨r.mm,by rw[dJ];exact r.len,λa ha=>r.bd a (mem.mp ha),λa ha=>r.nm a (mem.mp ha),λj h1 h2=>?_⟩;obtain⟨a,ha,q⟩:=r.rc j h1 h2;exact⟨a,mem.mpr ha,q⟩
theorem pK(as:List KG)(h:as.length<64):cY [.lst (as.map eA)]=.ok (.l .f,.lst ((aB aJ as).map eA)):=by
 have key:jM (as.map eA)=some ((aB aJ as).map eA):=by
  cases as with
  |nil=>rfl
  |cons a as=>
   have e1:jK ((a::as).map eA)=some ((a::as).map ak):=by rw[wo,kH]
   have e2:sameKinds (ak a) (as.map ak)=true:=by
    unfold sameKinds;rw[YB,WW,Xr];exact⟨rfl,λb _=>rfl⟩
   unfold jM;rw[e1,c8,c8];dsimp only[eA,cK,dB];rw[WV e2,<-c8,oy ak iu,wo];rfl
 unfold cY;dsimp only;rw[WV (by rw[aU];exact h),key]
variable{j:Nat}
theorem wt{x:α}(h:l[j]?=some y):(l++[x])[j]?=some y:=by
 rw[Xu (iK h).1];exact h
theorem kR{x:α}(h:(l++[x])[j]?=some y):l[j]?=some y\/(j=l.length/\y=x):=by
 by_cases hj:j<l.length
 .rw[Xu hj]at h;exact .inl h
 .rw[XH @a]at h;by_cases e:j-l.length=0
  .rw[e]at h;exact .inr ⟨by lia,by simpa using h.symm⟩
  .rw[YD (by simp;lia)]at h;cases h
theorem kS(n:Nat)(ap:List KG):plainDs (n+3) (ap.map eA)=true:=by
 induction ap with
 |nil=>rfl
 |cons a l ih=>
  rw[c8,plainDs,ih];rfl
theorem yF(T:List KG)(a:KG):tm (eA a) (.lst (T.map eA))=.ok (.f,.bl (!decide (a∈T))):=by
 have e:tj (eA a) (T.map eA)=decide (a∈T):=by
  unfold tj;rw[YC,Xo,XM,W3];constructor
  .rintro⟨x,hx,e⟩;have e:Kv (eA x) (eA a)=true:=e;rw[Gb,W3]at e;rw[<-e];exact hx
  .intro h;refine⟨a,h,?_⟩;show Kv (eA a) (eA a)=true;rw[Gb,W3]
 unfold tm Nr;dsimp only;rw[show plainD 40 (eA a)=true from rfl,kS 37 T,Yf,WV rfl,e];rfl
def cell(ns:List Int)(k:Nat):Int:=ns.getD k 0
theorem j6(ns:List Int)(k:Nat):az [.lst (ns.map D.int),.int (k:Int)]=.ok (.f,.int (cell ns k)):=by
 unfold az gm cell;rw[aM (h:=by rfl)];simp?[aU];by_cases h:k<ns.length
 .have h1:(k:Int)<(ns.length:Int):=by lia
  simp![h1,Y5,pv,seval,jZ h]
 .have h1:¬ (k:Int)<(ns.length:Int):=by lia
  simp![h1,YE,pv,seval,cz,W8,YD (Nat.le_of_not_lt h),YW]
theorem Gd(x y:Int)(h:eE x=true):Dt (.int x) (.int y)=.ok (.f,.int (x*y)):=by rw[wc,h,aci,WV rfl]
theorem Jp(x y:Int)(h:eE y=true):Dt (.int x) (.int y)=.ok (.f,.int (x*y)):=by rw[wc,h,Bool.or_true,WV rfl]
theorem qY(x:Int)(h:0<=x)(h2:x<=4294967296):eE x=true:=by
 unfold eE;rw[W3];lia
noncomputable def wu(c k:Int):Int:=((((c%2147483647+48271*(k+1))*(c%2147483647+48271*(k+1))+69621*k)%2147483647)*(((c%2147483647+48271*(k+1))*(c%2147483647+48271*(k+1))+69621*k)%2147483647)+16807*k+1)%2147483647
theorem j7(c k:Int)(hk:0<=k)(NG:k<=1000):aY [.int c,.int k]=.ok (.f,.int (wu c k)):=by
 have b1:=c9 c 2147483647 @b;have b2:=c9 ((c%2147483647+48271*(k+1))*(c%2147483647+48271*(k+1))+69621*k) 2147483647 @b;unfold aY iX wu;rw[aM (h:=by rfl)];rw[ai (env':=[fI c,fI k,fI (c%2147483647+48271*(k+1))]) (by simp?[gL _ 2147483647 @b,Gd 48271 (k+1) @b])];have hs:eE (c%2147483647+48271*(k+1))=true:=qY _ @a @a;generalize c%2147483647+48271*(k+1)=x at *;rw[ai (env':=[fI c,fI k,fI ((x*x+69621*k)%2147483647)]) (by simp?[gL _ 2147483647 @b,Gd x x hs,Gd 69621 k @b])];generalize (x*x+69621*k)%2147483647=y at *;have hs:eE y=true:=qY _ @a @a;simp?[gL _ 2147483647 @b,Gd y y hs,Gd 16807 k @b]
theorem qZ:∀l:List Nat,joinL [] (l.map λc=>[c])=l
 |[]=>rfl
 |[c]=>rfl
 |c::d::l=>by
  have ih:=qZ (d::l);show[c]++[]++joinL [] ((d::l).map λc=>[c])=_;rw[ih];rfl
theorem wx:∀l:List Nat,((l.map λc=>[c]).map List.length).sum=l.length
 |[]=>rfl
 |c::l=>by
  rw[c8,c8,abV,wx l];show 1+l.length=l.length+1;lia
theorem CF(l:List Nat)(h:l.length<=1000):sJ [] [.lst ((l.map λc=>[c]).map D.str)]=.ok (.f,.str l):=by
 unfold sJ;dsimp only;rw[cQ];dsimp only;rw[WV (by rw[wx,X2,Nat.mul_zero];lia),qZ]
theorem wy(a:List Nat)(l:LNN):Nr (.str a) (.lst (l.map D.str))=.ok (.f,.bl (decide (a∈l))):=by
 unfold Nr;dsimp only;rw[fV,yB,plainD];all_goals simp
def N3(base:List Int)(wd sp:Nat)(tk:Bool)(k:Nat):List Int:=if tk then base.take (k+1) else(base.take wd).set sp ((base.getD sp 0+(k:Int))%26)
def MA(base:List Int)(wd sp:Nat)(tk:Bool)(k:Nat):List Nat:=(N3 base wd sp tk k).map λj=>97+j.toNat
theorem CG(l:List Int)(hb:∀j∈l,0<=j/\j<26):b5 (ao 0) dR (aq ixD (ae 1) (ae 0)) (l.map D.int) [none,fq (.str Mz)]=.ok (((l.map λj=>97+j.toNat).map λc=>[c]).map D.str):=by
 rw[bu (r:=λj:Int=>D.str [97+j.toNat]) (λenv=>∃t,env=[t,fq (.str Mz)]) l ?_ _ ⟨none,rfl⟩]
 .rw[Xq,Xq];rfl
 .rintro j hj env ⟨t,rfl⟩;obtain⟨h0,h1⟩:=hb j hj;refine⟨[fI j,fq (.str Mz)],rfl,.f,[fI j,fq (.str Mz)],?_,_,rfl⟩;simp?[Ga j h0 h1]
theorem II(base:List Int)(hb:∀j∈base,0<=j/\j<26)(wd sp:Nat)(tk:Bool)(k:Nat):∀j∈N3 base wd sp tk k,0<=j/\j<26:=by
 intro j hj;unfold N3 at hj;split at hj
 .exact hb j (Zv hj)
 .rcases aaw hj with h|h
  .exact hb j (Zv h)
  .rw[h];exact c9 _ _ @b
theorem wz(base:List Int)(hl:base.length=8)(wd sp:Nat)(tk:Bool)(k:Nat):(N3 base wd sp tk k).length<=8:=by
 unfold N3;split
 .rw[XA];lia
 .rw[XB,XA];lia
theorem Ge(Ls:Int)(base:List Int)(hl:base.length=8)(hb:∀j∈base,0<=j/\j<26)(wd sp:Nat)(hw:wd<=8)(hs:sp<wd)(tk:Bool)(Uw:(Ls / 64%4==1)=tk)(l:LNN)(VA:l.length<=10)(k:Nat)(t7:Option R):
  ∃u7,cp [fI Ls,fq (.str Mz),fL (base.map D.int),fI (wd:Int),fI (sp:Int),fL (l.map D.str),fI (k:Int),t7]=.ok (.nx [fI Ls,fq (.str Mz),fL (base.map D.int),fI (wd:Int),fI (sp:Int),fL ((l++[MA base wd sp tk k]).map D.str),fI (k:Int),u7]):=by
 have RG:gD (base.map D.int) none (some (wd:Int))=(base.take wd).map D.int:=by rw[jm,aaS]
 have Mn:LI ((base.take wd).map D.int) (sp:Int)=some (.int (base.getD sp 0)):=by
  rw[jZ (by rw[XA];lia)];congr 2
  rw[W8,W8,aay hs]
 have LS:ixN (base.take wd).length (sp:Int)=some sp:=wj _ _ (by rw[XA];lia);have hnl:=wz base hl wd sp tk k;have P0:=CG (N3 base wd sp tk k) (II base hb wd sp tk k);have hj:=CF (MA base wd sp tk k) (by unfold MA;rw[aU];lia);have hz:(l.map D.str).length<sizeLine:=iM (by rw[aU];lia);have hzl:(((MA base wd sp tk k).map λc=>[c]).map D.str).length<=sizeLine:=bg (by unfold MA;rw[aU,aU,aU];lia);have Qx:=PV.flat_strs ((MA base wd sp tk k).map λc=>[c]);have P0:b5 (ao 0) dR (aq ixD (ae 1) (ae 0)) ((N3 base wd sp tk k).map D.int) [none,fq (.str Mz)]=.ok (((MA base wd sp tk k).map λc=>[c]).map D.str):=P0;unfold cp;rw[ai (env':=[fI Ls,fq (.str Mz),fL (base.map D.int),fI (wd:Int),fI (sp:Int),fL (l.map D.str),fI (k:Int),fL ((base.take wd).map D.int)]) (by simp?[RG])];rw[ai (env':=[fI Ls,fq (.str Mz),fL (base.map D.int),fI (wd:Int),fI (sp:Int),fL (l.map D.str),fI (k:Int),fL ((((base.take wd).set sp ((base.getD sp 0+(k:Int))%26)).map D.int))]) (by
  rw[List.map_set];simp?[Mn,gL _ 26 @b,aU,LS])]
 rw[ai (env':=[fI Ls,fq (.str Mz),fL (base.map D.int),fI (wd:Int),fI (sp:Int),fL (l.map D.str),fI (k:Int),fL ((N3 base wd sp tk k).map D.int)]) (by
  unfold N3;cases tk with
  |true=>
   have OD:gD (base.map D.int) none (some ((k:Int)+1))=(base.take (k+1)).map D.int:=by rw[show(k:Int)+1=((k+1:Nat):Int) by lia,jm,aaS]
   simp?[d7 _ 64 @b @b,gL _ 4 @b,Uw,OD]
  |false=>simp?[d7 _ 64 @b @b,gL _ 4 @b,Uw,cz])]
 refine⟨fL ((N3 base wd sp tk k).map D.int),?_⟩;generalize N3 base wd sp tk k=W at *;generalize MA base wd sp tk k=V at *;rw[Xd,c8,XD];generalize (aq ixD (ae 1) (ae 0))=GG at P0 |-;simp?[P0,hzl,Qx,hj,hz]
theorem CI(base:List Int)(hl:base.length=8)(hb:∀j∈base,0<=j/\j<26)(wd sp:Nat)(hw:wd<=8)(hs:sp<wd)(tk:Bool)(k k':Nat)(hk:k<=5)(MB:k'<=5)(e:MA base wd sp tk k=MA base wd sp tk k'):k=k':=by
 unfold MA N3 at e;cases tk with
 |true=>
  have:=Yp List.length e;simp![Zb,aU,XA]at this;lia
 |false=>
  have e2:=Yp (λl=>l[sp]?) e;have K4:sp<(base.take wd).length:=by rw[XA];lia
  simp![cz,YG,W2,XF K4,aal,Z0]at e2;have b1:=c9 (base.getD sp 0+(k:Int)) 26 @b;have b2:=c9 (base.getD sp 0+(k':Int)) 26 @b;generalize base.getD sp 0=z at *;lia
theorem CJ(Ls:Int):∃l:LNN,l.length=5/\l.Nodup/\l.Pairwise (λa b=>MP b a=false)/\dh [.int Ls]=.ok (.l .f,.lst (l.map D.str)):=by
 unfold dh iY;rw[aM (h:=by rfl)];rw[ai (env':=[fI Ls,fq (.str Mz),none,none,none,none,none,none]) (by simp?;rfl)];have hc:b5 (ao 0) dR (aq dS (af (cx aY (aa (ae 1) (aa (ae 0) aj)))) (af (av (.int 26)))) ((List.range 8).map λ(k:Nat)=>D.int (k:Int)) [none,fI Ls]=.ok (((List.range 8).map λ(k:Nat)=>wu Ls (k:Int)%26).map D.int):=by
  rw[bu (r:=λk:Nat=>D.int (wu Ls (k:Int)%26)) (λenv=>∃t,env=[t,fI Ls]) (List.range 8) ?_ _ ⟨none,rfl⟩]
  .rw[Xq];rfl
  .rintro k hk env ⟨t,rfl⟩;have hk:=Xp.mp hk;refine⟨[fI (k:Int),fI Ls],rfl,.f,[fI (k:Int),fI Ls],?_,_,rfl⟩;simp?[j7 Ls (k:Int) @a @a,gL _ 26 @b]
 have Ux:((List.range 8).map λ(k:Nat)=>wu Ls (k:Int)%26).length=8:=rfl;have N8:∀j∈((List.range 8).map λ(k:Nat)=>wu Ls (k:Int)%26),0<=j/\j<26:=by
  intro j hj;obtain⟨k,_,rfl⟩:=mE hj;exact c9 _ _ @b
 generalize ((List.range 8).map λ(k:Nat)=>wu Ls (k:Int)%26)=base at hc Ux N8;have hlen:(base.map D.int).length<=sizeLine:=bg (by rw[aU];lia);have QZ:=KC base;rw[ai (env':=[fI Ls,fq (.str Mz),fL (base.map D.int),none,none,none,none,none]) (by
  generalize (aq dS (af (cx aY (aa (ae 1) (aa (ae 0) aj)))) (af (av (.int 26))))=GG at hc |-;simp?;rw[WV @b];simp?[show(8:Int).toNat=8 from rfl,hc,hlen,QZ])]
 have m8:=c9 Ls 8 @b;obtain⟨wd,ew⟩:=Xg (show 0<=1+Ls%8 by lia);have msp:=c9 (Ls / 8) (wd:Int) @a;obtain⟨sp,es⟩:=Xg msp.1;rw[ai (env':=[fI Ls,fq (.str Mz),fL (base.map D.int),fI (wd:Int),none,none,none,none]) (by simp?[gL _ 8 @b,ew])];rw[ai (env':=[fI Ls,fq (.str Mz),fL (base.map D.int),fI (wd:Int),fI (sp:Int),none,none,none]) (by simp?[d7 _ 8 @b @b,gL _ (wd:Int) @a,es])];rw[ai (env':=[fI Ls,fq (.str Mz),fL (base.map D.int),fI (wd:Int),fI (sp:Int),fL [],none,none]) (by simp?)];obtain⟨tk,Uw⟩:∃tk,(Ls / 64%4==1)=tk:=⟨_,rfl⟩
 obtain⟨env',ef,t6,t7,rfl⟩:=ml (a:=ao 6) (g:=cp) (e:=λk=>D.int (k:Int)) 5 (λi env=>∃(t6 t7:Option R),env=[fI Ls,fq (.str Mz),fL (base.map D.int),fI (wd:Int),fI (sp:Int),fL ((((List.range i).map (MA base wd sp tk)).map D.str)),t6,t7]) (by
  rintro k env hk ⟨t6,t7,rfl⟩;obtain⟨u7,e⟩:=Ge Ls base Ux N8 wd sp @a @a tk Uw ((List.range k).map (MA base wd sp tk)) (by rw[aU,Xk];lia) k t7;rw[show((List.range k).map (MA base wd sp tk))++[MA base wd sp tk k]=(List.range (k+1)).map (MA base wd sp tk) by rw[abb,Xd];rfl]at e;exact⟨_,rfl,_,e,_,_,rfl⟩) _ ⟨none,none,rfl⟩
 rw[List.range_zero,XD,XD]at ef;rw[ai (env':=_) (by
  unfold gq;simp?;rw[WV @b];simp?[show(5:Int).toNat=5 from rfl];exact ef)]
 unfold eZ;have OE:((List.range 5).map (MA base wd sp tk)).length=5:=by rw[aU,Xk]
 have Ol:((List.range 5).map (MA base wd sp tk)).Nodup:=cw _ 5 λi j hi hj e=>CI base Ux N8 wd sp @a @a tk i j @a @a e
 have Wu:∀n∈((List.range 5).map (MA base wd sp tk)),n.length<=8:=by
  intro n hn;obtain⟨k,_,rfl⟩:=mE hn;unfold MA;rw[aU];exact wz base Ux wd sp tk k
 generalize ((List.range 5).map (MA base wd sp tk))=l at OE Ol Wu;by_cases hm:[109,111,118,101,115]∈l
 .have Nl:b5 (ao 0) dR (aq bQ (af (av (.str [115]))) (ae 0)) (l.map D.str) [none]=.ok ((l.map λn=>115::n).map D.str):=by
   rw[bu (r:=λn:List Nat=>D.str (115::n)) (λenv=>∃t,env=[t]) l ?_ _ ⟨none,rfl⟩]
   .rw[Xq];rfl
   .rintro n hn env ⟨t,rfl⟩;have:=Wu n hn;refine⟨[fq (.str n)],rfl,.f,[fq (.str n)],?_,_,rfl⟩;simp?[J5 [115] n (by rw[Xb];lia)]
  have VB:((l.map λn=>115::n).map D.str).length<=sizeLine:=bg (by rw[aU,aU];lia);have hnd2:(l.map λn=>115::n).Nodup:=by
   rw[Zp,Zc];exact(Zp.mp Ol).imp λ{a b} h e=>h (aaM e).2
  have Qx:=PV.flat_strs (l.map λn=>115::n);rw[ai (env':=[fI Ls,fq (.str Mz),fL (base.map D.int),fI (wd:Int),fI (sp:Int),fL ((l.map λn=>115::n).map D.str),t6,t7]) (by
   generalize (aq bQ (af (av (.str [115]))) (ae 0))=GG at Nl |-;simp?[wy,hm,Y5,Nl,VB,Qx])]
  refine⟨aB MP (l.map λn=>115::n),by rw[dJ,aU];exact OE,(cB MP _).nodup_iff.mpr hnd2,df lP _,?_⟩;simp?[we (l.map λn=>115::n) (by rw[aU];lia)]
 .rw[ai (env':=[fI Ls,fq (.str Mz),fL (base.map D.int),fI (wd:Int),fI (sp:Int),fL (l.map D.str),t6,t7]) (by simp?[wy,hm,YE,cz])];refine⟨aB MP l,by rw[dJ];exact OE,(cB MP _).nodup_iff.mpr Ol,df lP _,?_⟩;simp?[we l @a]
theorem Gf(env:PV.Env)(fo:FO)(fp Ks fq:FP):Hl fo fp Ks fq env=Res.bnd (fo env) (f:=⟨λp=>Res.bnd (fp p.2) (f:=⟨λq=>Res.bnd (Ks q.2) (f:=⟨λt=>Res.bnd (fq t.2) (f:=⟨λu=>Res.bnd (LK u.2 p.1) (f:=⟨λd=>Res.bnd (Ft d q.1 t.1 u.1) (f:=⟨λr=>.ok (r,u.2)⟩)⟩)⟩)⟩)⟩)⟩):=rfl
theorem CK(env:PV.Env)(fa fb fc:FX):yk fa fb fc env=Res.bnd (fa env) (f:=⟨λp=>Res.bnd (fb p.2) (f:=⟨λq=>Res.bnd (fc q.2) (f:=⟨λt=>.ok ((.t [.f,q.1.1,t.1.1],.tup [p.1.2,q.1.2,t.1.2]),t.2)⟩)⟩)⟩):=rfl
theorem yG(f:α->β)(l:List α)(lo hi:Option Int)(c:Int):eX (l.map f) lo hi c=(eX l lo hi c).map f:=by
 unfold eX;rw[aU,List.map_filterMap];congr 1
 funext i
 rw[W2]
theorem IJ(ds:List D)(lo hi:Option Int):Ft (.lst ds) lo hi (some 6)=.ok (.l .f,.lst (eX ds lo hi 6)):=rfl
theorem Gg(ns:List Int)(first k:Int)(hk:0<=k/\k<=1000):∃v:Int,dY [.lst (ns.map D.int),.int first,.int k]=.ok (.f,.int v):=by
 unfold dY jW;rw[aM (h:=by rfl)];rw[ai (env':=[fq @n,fI first,fI k,fI (7+k),none]) (by simp![pv,seval,op])];obtain⟨env',ef,v,t4,rfl⟩:=for_list (a:=ao 4) (g:=dv) (e:=D.int) (eX ns (some (first+k)) (some (first+84)) 6) (λj env=>∃(v:Int) (t4:Option R),env=[fq @n,fI first,fI k,fI v,t4]) (by
  rintro j c env hj ⟨v,t4,rfl⟩;refine⟨_,rfl,_,?_,wu (c+v) k,fI c,rfl⟩;unfold dv;simp![pv,seval,op,j7 (c+v) k hk.1 hk.2]) _ ⟨7+k,none,rfl⟩
 rw[ai (env':=_) (by
  unfold ia;simp![pv,seval,op,Gf,IJ,yG];exact ef)]
 unfold gv;exact⟨v,by simp![pv,seval,op]⟩
def Tk(l:List Int)(cnt:Nat):Prop:=l.length=cnt/\∀x∈l,0<=x/\x<=10
variable{l:List Int}{cnt:Nat}
theorem Tk.app(h:Tk l cnt)(hx:0<=x/\x<=10):Tk (l++[x]) (cnt+1):=by
 refine⟨by rw[gK,h.1];rfl,λy hy=>?_⟩;rcases jl hy with hy|hy
 .exact h.2 y hy
 .rw[f9 hy];exact hx
theorem CL(number:Int)(cnt:Nat)(hc:cnt<=10):∃(b:Int) (ts gs:List Int),(0<=b/\b<=10)/\Tk ts cnt/\Tk gs cnt/\dk [.int number,.int (cnt:Int)]=.ok (.t [.f,.l .f,.l .f],.tup @u):=by
 unfold dk iZ;rw[aM (h:=by rfl)];rw[ai (env':=[fI number,fI (cnt:Int),fL [],none,none,none,none,none]) (by simp![pv,seval,op])];rw[ai (env':=[fI number,fI (cnt:Int),fL [],fL [],none,none,none,none]) (by simp![pv,seval,op])];obtain⟨env',ef,ts,gs,t4,t5,t6,t7,h1,h2,rfl⟩:=ml (a:=ao 4) (g:=c5) (e:=λk=>D.int (k:Int)) cnt (λi env=>∃(ts gs:List Int) (t4 t5 t6 t7:Option R),Tk ts i/\Tk gs i/\env=[fI number,fI (cnt:Int),fL (ts.map D.int),fL (gs.map D.int),t4,t5,t6,t7]) (by
  rintro j env hj ⟨ts,gs,t4,t5,t6,t7,h1,h2,rfl⟩;have z1:(ts.map D.int).length<sizeLine:=iM (by rw[aU,h1.1];lia);have z2:(gs.map D.int).length<sizeLine:=iM (by rw[aU,h2.1];lia);have Nx:=j7 number (j:Int) @a @a;generalize wu number (j:Int)=x at Nx;have b1:=c9 x 5 @b;have b2:=c9 (x / 8) 4 @b;refine⟨[fI number,fI (cnt:Int),fL (ts.map D.int),fL (gs.map D.int),fI (j:Int),t5,t6,t7],rfl,_,?_,ts++[(if 0<0-(x%5-2) then 0-(x%5-2) else 0)+x / 8%4 / 3],gs++[(if 0<x%5-2 then x%5-2 else 0)+x / 8%4 / 3],fI (j:Int),fI x,fI (x%5-2),fI (x / 8%4 / 3),h1.app ?_,h2.app ?_,rfl⟩
  .unfold c5;rw[ai (env':=[fI number,fI (cnt:Int),fL (ts.map D.int),fL (gs.map D.int),fI (j:Int),fI x,t6,t7]) (by simp![pv,seval,op,Nx])];rw[ai (env':=[fI number,fI (cnt:Int),fL (ts.map D.int),fL (gs.map D.int),fI (j:Int),fI x,fI (x%5-2),t7]) (by simp![pv,seval,op,gL _ 5 @b])];generalize x%5-2=y;rw[ai (env':=[fI number,fI (cnt:Int),fL (ts.map D.int),fL (gs.map D.int),fI (j:Int),fI x,fI y,fI (x / 8%4 / 3)]) (by simp![pv,seval,op,gL _ 4 @b,d7 _ 8 @b @b,d7 _ 3 @b @b])];generalize x / 8%4 / 3=z;rw[Xd,Xd,c8,c8,XD];rw[ai (env':=[fI number,fI (cnt:Int),fL ((ts.map D.int++[.int ((if 0<0-y then 0-y else 0)+z)])),fL (gs.map D.int),fI (j:Int),fI x,fI y,fI z]) (by simp![pv,seval,op,z1])];simp![pv,seval,op,z2]
  .split <;> lia
  .split <;> lia) _ ⟨[],[],none,none,none,none,⟨rfl,(λ_ h=>nomatch h)⟩,⟨rfl,(λ_ h=>nomatch h)⟩,rfl⟩
 rw[XD]at ef;rw[ai (env':=_) (by
  unfold gw;simp![pv,seval,op];rw[WV @a];simp![pv,seval,op,YN];exact ef)]
 unfold e9;have b:=c9 (number / 16) 4 @b;exact⟨number / 16%4,ts,gs,by lia,h1,h2,by simp![pv,seval,op,CK,d7 _ 16 @b @b,gL _ 4 @b]⟩
abbrev Pl:=Int×List Int×List Int
noncomputable def eP(p:Pl):D:=.tup [.int p.1,.tup (p.2.1.map D.int),.tup (p.2.2.map D.int)]
def LZ(p:Pl)(cnt:Nat):Prop:=p.2.1.length=cnt/\p.2.2.length=cnt
theorem Gh(f:Int)(l:List Int)(h:∀x∈l,0<=x/\x<=10):b5 (ao 0) dR (aq lV (ae 1) (ae 0)) (l.map D.int) [none,fI f]=.ok ((l.map λx=>f*x).map D.int):=by
 rw[bu (r:=λx:Int=>D.int (f*x)) (λenv=>∃t,env=[t,fI f]) l ?_ _ ⟨none,rfl⟩]
 .rw[Xq];rfl
 .rintro x hx env ⟨t,rfl⟩;have:=h x hx;refine⟨[fI x,fI f],rfl,.f,[fI x,fI f],?_,_,rfl⟩;simp![pv,seval,op,Jp f x (ou x @a @a)]
theorem q0(b:Int)(hb:0<=b/\b<=10)(ts gs:List Int)(cnt:Nat)(hc:cnt<=10)(h1:Tk ts cnt)(h2:Tk gs cnt)(Ls:Int):∃p:Pl,LZ p cnt/\cq [.tup @u,.int Ls]=.ok (.f,eP p):=by
 have p50:BF (.int 10) (.int 50)=.ok (.f,.int (10 ^ 50)):=J4 50 @b;have m50:=c9 Ls (10 ^ 50) @b;unfold cq ib;rw[aM (h:=by rfl)];rw[ai (env':=[fq (.tup @u),fI Ls,fI (1+Ls%10 ^ 50),none,none,none]) (by simp![pv,↓reduceIte,Nat.reduceAdd,Nat.reduceLT,Nat.reduceLeDiff,Nat.reduceEqDiff,op,p50,gL _ (10 ^ 50) @b])];have hf:0<1+Ls%10 ^ 50:=by
  generalize Ls%10 ^ 50=q at m50;lia
 generalize 1+Ls%10 ^ 50=f at hf;rw[ai (env':=[fq (.tup @u),fI Ls,fI f,fI b,fq (.lst (ts.map D.int)),fq (.lst (gs.map D.int))]) (by simp![pv,↓reduceIte,Nat.reduceAdd,Nat.reduceLT,Nat.reduceLeDiff,Nat.reduceEqDiff,op])];have c1:=Gh f ts h1.2;have c2:=Gh f gs h2.2;have l1:((ts.map λx=>f*x).map D.int).length<=sizeLine:=bg (by rw[aU,aU,h1.1];lia);have l2:((gs.map λx=>f*x).map D.int).length<=sizeLine:=bg (by rw[aU,aU,h2.1];lia);have f1:=KC (ts.map λx=>f*x);have f2:=KC (gs.map λx=>f*x);refine⟨(f*b+Ls / 7%f,ts.map λx=>f*x,gs.map λx=>f*x),⟨by rw[aU];exact h1.1,by rw[aU];exact h2.1⟩,?_⟩;unfold eP;dsimp only;generalize (ts.map λx=>f*x).map D.int=T1 at *;generalize (gs.map λx=>f*x).map D.int=T2 at *;have Wv:=Jp f b (ou b @a @a);have TC:=gL (Ls / 7) f hf;have hdiv:=d7 Ls 7 @b @b;generalize f*b=fb at Wv |-;generalize (Ls / 7)%f=cf at TC |-;rw[ai (env':=[fq (.tup @u),fI Ls,fI f,fI b,fq (.tup T1),fq (.lst (gs.map D.int))]) (by
  generalize (aq lV (ae 1) (ae 0))=GG at c1 |-;simp![pv,↓reduceIte,Nat.reduceAdd,Nat.reduceLT,Nat.reduceLeDiff,Nat.reduceEqDiff,op,c1,l1,f1])]
 have Wx:∀GG,GG=(aq lV (ae 1) (ae 0))->b5 (ao 0) dR GG (gs.map D.int) [none,fI f]=.ok T2:=λGG h=>by rw[h];exact c2
 rw[show(cT (du (ah (aq bQ (af (aq lV (ae 2) (ae 3))) (af (aq dS (af (aq cN (ae 1) (af (av (.int 7))))) (ae 2)))) (ah (ax 4) (ah (aH cF (aa (af (cA (or2 (gF 5) (eU (ax 5))) [none,some 2] (ao 0) dR (aq lV (ae 1) (ae 0)))) aj)) aF)))))=(λGG=>cT (du (ah (aq bQ (af (aq lV (ae 2) (ae 3))) (af (aq dS (af (aq cN (ae 1) (af (av (.int 7))))) (ae 2)))) (ah (ax 4) (ah (aH cF (aa (af (cA (or2 (gF 5) (eU (ax 5))) [none,some 2] (ao 0) dR GG)) aj)) aF))))) (aq lV (ae 1) (ae 0)) from rfl];generalize eGG:(aq lV (ae 1) (ae 0))=GG;have c2:=Wx GG eGG.symm;clear eGG Wx;simp![pv,↓reduceIte,Nat.reduceAdd,Nat.reduceLT,Nat.reduceLeDiff,Nat.reduceEqDiff,op,Wv,TC,hdiv,c2,l2,f2]
theorem yH(ns:List Int)(first:Nat)(cnt:Nat)(hc:cnt<=10)(ps:List Pl)(Uh:∀p∈ps,LZ p cnt)(hl:ps.length<=100)(k:Nat)(hk:k<=100)(t5 t6 t7:Option R):
  ∃(RH:List Pl) (u5 u6 u7:Option R),(∀p∈RH,LZ p cnt)/\ps.length+1<=RH.length/\RH.length<=ps.length+2/\bU [fq @n,fI (first:Int),fI (cnt:Int),fL (ps.map eP),fI (k:Int),t5,t6,t7]=.ok (.nx [fq @n,fI (first:Int),fI (cnt:Int),fL (RH.map eP),fI (k:Int),u5,u6,u7]):=by
 obtain⟨v,ev⟩:=Gg ns (first:Int) (k:Int) @a;obtain⟨b,ts,gs,hb,h1,h2,ep⟩:=CL v cnt hc;have c1:=j6 ns (first+k);rw[show((first+k:Nat):Int)=(first:Int)+(k:Int) by lia]at c1;have c2:=j6 ns (first+6+k);rw[show((first+6+k:Nat):Int)=(first:Int)+6+(k:Int) by lia]at c2;obtain⟨p1,Uy,e1⟩:=q0 b hb ts gs cnt hc h1 h2 (cell ns (first+k));have m4:=c9 (v / 256) 4 @b;obtain⟨p2,SE,e2⟩:=q0 (v / 256%4) @a gs ts cnt hc h2 h1 (cell ns (first+6+k));have Ma:ay (.t [.f,.l .f,.l .f]) (.tup @u)=true:=by
  have f1:=KC ts;have f2:=KC gs;simp![ay,nq,flatD];rw[<-bL,<-bL,f1,f2];rfl
 have Uz:∀p:Pl,flatD (eP p)=true:=λp=>by
  unfold eP;rw[bO];simp![flatDs,bO,KC,jk];rfl
 have Ui:(ps.map eP).length<sizeLine:=iM (by rw[aU];lia);have O0:(ps.map eP++[eP p1]).length<sizeLine:=iM (by rw[gK,aU,Xb];lia);unfold bU;rw[ai (env':=[fq @n,fI (first:Int),fI (cnt:Int),fL (ps.map eP),fI (k:Int),fI v,t6,t7]) (by simp![pv,seval,op,ev])];rw[ai (env':=[fq @n,fI (first:Int),fI (cnt:Int),fL (ps.map eP),fI (k:Int),fI v,some (.t [.f,.l .f,.l .f],.tup @u),t7]) (by simp![pv,seval,op,ep,Ma])];rw[ai (env':=[fq @n,fI (first:Int),fI (cnt:Int),fL (ps.map eP++[eP p1]),fI (k:Int),fI v,some (.t [.f,.l .f,.l .f],.tup @u),t7]) (by simp![pv,seval,op,c1,e1,Uz,Ui])];by_cases h3:0<v / 64%3
 .refine⟨ps++[p1,p2],fI v,fq (.tup @u),fq (.tup [.int (v / 256%4),.lst (gs.map D.int),.lst (ts.map D.int)]),λp hp=>?_,by rw[gK];simp,by rw[gK];simp,?_⟩
  .rcases jl hp with hp|hp
   .exact Uh p hp
   .rcases WY.mp hp with rfl|hp
    .exact Uy
    .rw[f9 hp];exact SE
  .rw[Xd,c8,c8,XD,show ps.map eP++[eP p1,eP p2]=(ps.map eP++[eP p1])++[eP p2] by rw[XI];rfl];simp![pv,seval,op,d7 _ 64 @b @b,d7 _ 256 @b @b,gL _ 3 @b,gL _ 4 @b,gt_iff_lt,h3,Y5,at2,c2,e2,Uz,O0]
 .refine⟨ps++[p1],fI v,some (.t [.f,.l .f,.l .f],.tup @u),t7,λp hp=>?_,by rw[gK];simp,by rw[gK];simp,?_⟩
  .rcases jl hp with hp|hp
   .exact Uh p hp
   .rw[f9 hp];exact Uy
  .rw[Xd,c8,XD];simp![pv,seval,op,d7 _ 64 @b @b,gL _ 3 @b,gt_iff_lt,h3,YE,cz]
theorem yI(ns:List Int)(first:Nat)(cnt:Nat)(hc:cnt<=10):∃ps:List Pl,(∀p∈ps,LZ p cnt)/\ps≠[]/\ps.length<=8/\cO [.lst (ns.map D.int),.int (first:Int),.int (cnt:Int)]=.ok (.l .f,.lst (ps.map eP)):=by
 have c1:az [.lst (ns.map D.int),.int 1]=.ok (.f,.int (cell ns 1)):=j6 ns 1;have m4:=c9 (cell ns 1 / 4) 4 @b;unfold cO ie;rw[aM (h:=by rfl)];rw[ai (env':=[fq @n,fI (first:Int),fI (cnt:Int),fL [],none,none,none,none]) (by simp![pv,seval,op])];obtain⟨env',ef,ps,t4,t5,t6,t7,h1,h2,h3,rfl⟩:=ml (a:=ao 4) (g:=bU) (e:=λk=>D.int (k:Int)) (1+cell ns 1 / 4%4).toNat (λi env=>∃(ps:List Pl) (t4 t5 t6 t7:Option R),(∀p∈ps,LZ p cnt)/\i<=ps.length/\ps.length<=2*i/\env=[fq @n,fI (first:Int),fI (cnt:Int),fL (ps.map eP),t4,t5,t6,t7]) (by
  rintro k env hk ⟨ps,t4,t5,t6,t7,h1,h2,h3,rfl⟩;obtain⟨RH,u5,u6,u7,h1',U5,h3',e⟩:=yH ns first cnt hc ps h1 @a k @a t5 t6 t7
  exact⟨_,rfl,_,e,RH,_,_,_,_,h1',by lia,by lia,rfl⟩) _ ⟨[],none,none,none,none,(λ_ h=>nomatch h),WU _,WU _,rfl⟩
 rw[XD]at ef;rw[ai (env':=_) (by
  unfold fe;simp![pv,seval,op,c1,d7 _ 4 @b @b,gL _ 4 @b];rw[WV @a];simp![pv,seval,op];exact ef)]
 unfold eF;refine⟨ps,h1,?_,by lia,by simp![pv,seval,op]⟩;intro h;rw[h,X2]at h2;lia
theorem Gi{l:List α}(h:l.Nodup)(lo hi:Option Int):(gD l lo hi).Nodup:=by
 unfold gD;exact(h.sublist (List.drop_sublist _ _)).sublist (aaz _ _)
theorem Gj{l:List α}(h:l.Pairwise r)(lo hi:Option Int):(gD l lo hi).Pairwise r:=by
 unfold gD;exact(h.sublist (List.drop_sublist _ _)).sublist (aaz _ _)
theorem CM(ns:List Int):∃nY:LNN,nY≠[]/\nY.length<=3/\nY.Nodup/\nY.Pairwise (λa b=>MP b a=false)/\dn [.lst (ns.map D.int)]=.ok (.f,.tup @h):=by
 have c0:az [.lst (ns.map D.int),.int 0]=.ok (.f,.int (cell ns 0)):=j6 ns 0;have c1:az [.lst (ns.map D.int),.int 1]=.ok (.f,.int (cell ns 1)):=j6 ns 1;obtain⟨l,hl,Ol,hpw,en⟩:=CJ (cell ns 0);have m3:=c9 (cell ns 1) 3 @b;unfold dn i4;rw[aM (h:=by rfl)];rw[ai (env':=[fq @n,fL (l.map D.str),none,none,none]) (by simp![pv,seval,op,c0,en])];rw[ai (env':=[fq @n,fL (l.map D.str),fI (cell ns 1),none,none]) (by simp![pv,seval,op,c1])];rw[ai (env':=[fq @n,fL (l.map D.str),fI (cell ns 1),fI (1+cell ns 1%3),none]) (by simp![pv,seval,op,gL _ 3 @b])];obtain⟨cnt,ec⟩:=Xg (show 0<=1+cell ns 1%3 by lia);rw[ec];have ms:=c9 (cell ns 1 / 32) (6-(cnt:Int)) @a;obtain⟨st,es⟩:=Xg ms.1;rw[ai (env':=[fq @n,fL (l.map D.str),fI (cell ns 1),fI (cnt:Int),fI (st:Int)]) (by simp![pv,seval,op,d7 _ 32 @b @b,gL _ (6-(cnt:Int)) @a,es])];have RG:=CA l st (st+cnt) @a @a;have hlen:(gD l (some (st:Int)) (some ((st+cnt:Nat):Int))).length=cnt:=by
  rw[RG,XA,Yo];lia
 rw[show((st+cnt:Nat):Int)=(st:Int)+(cnt:Int) by lia]at hlen;refine⟨gD l (some (st:Int)) (some ((st:Int)+(cnt:Int))),?_,by lia,Gi Ol _ _,Gj hpw _ _,?_⟩
 .intro h;rw[h,X2]at hlen;lia
 .simp![pv,seval,op,pI]
def aS(k:Nat):List (Int×Pl)->Option (List Int)
 |[]=>some []
 |z::zs=>if z.1<z.2.2.1.getD k 0 then none else(aS k zs).map λr=>(z.1-z.2.2.1.getD k 0+z.2.2.2.getD k 0)::r
theorem oB(k:Nat):∀{zs:List (Int×Pl)}{r:List Int},aS k zs=some r->r.length=zs.length
 |[],r,h=>by cases h;rfl
 |z::zs,r,h=>by
  rw[aS]at h;split at h
  .cases h
  .rw[Xi]at h;obtain⟨r',h1,rfl⟩:=h;rw[WX,WX,oB k h1]
theorem rg(k:Nat):∀{zs:List (Int×Pl)}{r:List Int}{j:Nat}{z:Int×Pl},aS k zs=some r->zs[j]?=some z->¬ z.1<z.2.2.1.getD k 0/\r[j]?=some (z.1-z.2.2.1.getD k 0+z.2.2.2.getD k 0)
 |[],r,j,z,h,e=>by cases e
 |y::zs,r,j,z,h,e=>by
  rw[aS]at h;split at h
  .cases h
  .rename_i hn;rw[Xi]at h;obtain⟨r',h1,rfl⟩:=h;cases j with
   |zero=>
    rw[ZT]at e;cases e;exact⟨hn,rfl⟩
   |succ j=>
    rw[ZR]at e |-;exact rg k h1 e
theorem Gk(A0 A1 A2:Option R)(k cnt:Nat)(hk:k<cnt)(acc:List Int)(hl:acc.length<=1000)(z:Int×Pl)(hz:LZ z.2 cnt):bS [A0,A1,A2,fI (k:Int),fL (acc.map D.int),fI z.1,fq (eP z.2)]=if z.1<z.2.2.1.getD k 0 then .ok (.rt (.f,.non)) else .ok (.nx [A0,A1,A2,fI (k:Int),fL ((acc++[z.1-z.2.2.1.getD k 0+z.2.2.2.getD k 0]).map D.int),fI z.1,fq (eP z.2)]):=by
 have h1:LI (z.2.2.1.map D.int) (k:Int)=some (.int (z.2.2.1.getD k 0)):=jZ (by rw[hz.1];exact hk);have h2:LI (z.2.2.2.map D.int) (k:Int)=some (.int (z.2.2.2.getD k 0)):=jZ (by rw[hz.2];exact hk);have VB:(acc.map D.int).length<sizeLine:=iM (by rw[aU];lia);unfold bS eP;by_cases h:z.1<z.2.2.1.getD k 0
 .rw[WV h];simp?[h1,h,Y5]
 .rw[W6 h,Xd,c8,XD];simp?[h1,h2,at2,h,YE,cz,VB]
theorem oC(A0 A1 A2:Option R)(k cnt:Nat)(hk:k<cnt):∀(zs:List (Int×Pl)) (acc:List Int) (t5 t6:Option R),acc.length+zs.length<=1000->(∀z∈zs,LZ z.2 cnt)->
  (aS k zs=none/\cU (gC 2 (aw (ao 5) (aw (ao 6) b8))) bS (zs.map λz:Int×Pl=>D.tup [D.int z.1,eP z.2]) [A0,A1,A2,fI (k:Int),fL (acc.map D.int),t5,t6]=.ok (.rt (.f,.non)))\/
  ∃r u5 u6,aS k zs=some r/\cU (gC 2 (aw (ao 5) (aw (ao 6) b8))) bS (zs.map λz:Int×Pl=>D.tup [D.int z.1,eP z.2]) [A0,A1,A2,fI (k:Int),fL (acc.map D.int),t5,t6]=.ok (.nx [A0,A1,A2,fI (k:Int),fL ((acc++r).map D.int),u5,u6])
 |[],acc,t5,t6,_,_=>.inr ⟨[],t5,t6,rfl,by rw[Xe];rfl⟩
 |z::zs,acc,t5,t6,hl,hp=>by
  have h1:=Gk A0 A1 A2 k cnt hk acc (by rw[WX]at hl;lia) z (hp z WJ);have ha:gC 2 (aw (ao 5) (aw (ao 6) b8)) (D.tup [D.int z.1,eP z.2]) [A0,A1,A2,fI (k:Int),fL (acc.map D.int),t5,t6]=.ok [A0,A1,A2,fI (k:Int),fL (acc.map D.int),fI z.1,fq (eP z.2)]:=by simp![pv,seval]
  rw[c8,bJ,ha,KZ,h1,aS];by_cases h:z.1<z.2.2.1.getD k 0
  .left;rw[WV h,WV h];exact⟨rfl,by rw[KZ]⟩
  .rw[W6 h,W6 h,KZ];rcases oC A0 A1 A2 k cnt hk zs (acc++[z.1-z.2.2.1.getD k 0+z.2.2.2.getD k 0]) (fI z.1) (fq (eP z.2)) (by rw[WX]at hl;rw[gK,Xb];lia) (λy hy=>hp y (WK _ hy)) with⟨e1,e2⟩|⟨r,u5,u6,e1,e2⟩
   .left;exact⟨by rw[e1];rfl,e2⟩
   .right;refine⟨_,u5,u6,by rw[e1];rfl,?_⟩;rw[XI]at e2;exact e2
def eN(nY:LNN)(ps:List Pl):D:=.tup [.tup @h,.lst (ps.map eP)]
noncomputable def eM(m:List Int):D:=.tup (m.map D.int)
theorem pL {nY : LNN} {m : List Nat} (h : m ∈ nY) : lU @h [.str m] = .ok (.f, .int ((nY.idxOf m : Nat) : Int)) := by
  first
    | (unfold lU
       dsimp only
       rw [cQ]
       dsimp only
       rw [WV h])
    | (unfold lU
       simp only [cQ, h, Zb])
theorem jq(f:α->D)(g:β->D)(xs:List α)(ys:List β):((xs.map f).zip (ys.map g)).map (λz=>D.tup [z.1,z.2])=(xs.zip ys).map λz=>D.tup [f z.1,g z.2]:=by
 rw[List.zip_map,Xq];rfl
theorem z7(nY:LNN)(ps:List Pl)(hl:ps.length<=100)(hp:∀p∈ps,LZ p nY.length)(m:List Int)(mv:List Nat)(hm:mv∈nY):
  (aS (nY.idxOf mv) (m.zip ps)=none/\bI [eN nY ps,eM m,.str mv]=.ok (.f,.non))\/∃r,aS (nY.idxOf mv) (m.zip ps)=some r/\bI [eN nY ps,eM m,.str mv]=.ok (.f,eM r):=by
 have LS:=pL hm;have hk:=Yn hm;generalize nY.idxOf mv=k at LS hk;unfold bI jV eN eM;rw[aM (h:=by rfl)];rw[ai (env':=[fq (.tup [.tup @h,.lst (ps.map eP)]),fq (.tup (m.map D.int)),fq (.str mv),fI (k:Int),none,none,none]) (by simp?[LS])];rw[ai (env':=[fq (.tup [.tup @h,.lst (ps.map eP)]),fq (.tup (m.map D.int)),fq (.str mv),fI (k:Int),fL [],none,none]) (by simp?)];rcases oC (fq (.tup [.tup @h,.lst (ps.map eP)])) (fq (.tup (m.map D.int))) (fq (.str mv)) k nY.length hk (m.zip ps) [] none none (by rw[X2,Zl];lia) (λz hz=>hp _ (Za (show(z.1,z.2)∈m.zip ps from hz)).2) with⟨e1,e2⟩|⟨r,u5,u6,e1,e2⟩
 .left;refine⟨e1,?_⟩;rw[XD]at e2;unfold dX;simp?[jq,e2]
 .right;refine⟨r,e1,?_⟩;rw[XD,Zj]at e2;unfold dX gu;simp?[jq,e2]
theorem eqDs_ints:∀a b:List Int,iw (a.map D.int) (b.map D.int)=decide (a=b)
 |[],[]=>rfl
 |[],_::_=>rfl
 |_::_,[]=>rfl
 |x::a,y::b=>by
  rw[c8,c8,iw,eqDs_ints a b,Kv,Xo];simp
theorem pM(a b:List Int):Kv (eM a) (eM b)=decide (a=b):=by
 unfold eM;rw[Kv,eqDs_ints]
theorem fE(a:List Int):plainD 40 (eM a)=true:=yE a
theorem mw(l:List (List Int)):plainDs 40 (l.map eM)=true:=by
 induction l with
 |nil=>rfl
 |cons a l ih=>
  rw[c8,plainDs,ih,aaQ];exact fE a
theorem Wy[DecidableEq α](he:∀a b,Kv (e a) (e b)=decide (a=b))(hp:∀l:List α,plainDs 40 (l.map e)=true)(hq:∀a,plainD 40 (e a)=true)(l:List α)(a:α)(h:a∈l):∃i:Nat,l[i]?=some a/\ja (l.map e) [e a]=.ok (.f,.int (i:Int)):=by
 have e1:(l.map e).any (λd=>Kv d (e a))=true:=by
  rw[YC,XM];exact⟨a,h,by show Kv (e a) (e a)=true;rw[he,Xc rfl]⟩
 have e2:(l.map e).findIdx (λd=>Kv d (e a))=l.findIdx λx=>decide (x=a):=by
  rw[aaY];congr 1
  funext x
  exact he x a
 have h3:(l.findIdx λx=>decide (x=a))<l.length:=ZV ⟨a,h,Xc rfl⟩;have h4:=aaa (p:=λx=>decide (x=a)) (xs:=l) (w:=h3);refine⟨l.findIdx λx=>decide (x=a),by rw[iL h3];congr 1;simpa using h4,?_⟩;unfold ja;dsimp only;rw[hq,hp,e1,e2];rfl
theorem j8{α:Type}[DecidableEq α](a:α):∀l:List α,a∉l->((l++[a]).findIdx λx=>decide (x=a))=l.length
 |[],_=>by simp
 |x::l,h=>by
  rw[WY,not_or]at h;rw[YI,List.findIdx_cons,j8 a l h.2,Xn (λe=>h.1 e.symm)];rfl
theorem IK[DecidableEq α](he:∀a b,Kv (e a) (e b)=decide (a=b))(hp:∀l:List α,plainDs 40 (l.map e)=true)(hq:∀a,plainD 40 (e a)=true)(l:List α)(a:α)(h:a∉l):ja (l.map e++[e a]) [e a]=.ok (.f,.int (l.length:Int)):=by
 have e0:l.map e++[e a]=(l++[a]).map e:=by rw[Xd];rfl
 have e1:((l++[a]).map e).any (λd=>Kv d (e a))=true:=by
  rw[YC,XM];exact⟨a,WQ _ (W5.mpr rfl),by show Kv (e a) (e a)=true;rw[he,Xc rfl]⟩
 have e2:((l++[a]).map e).findIdx (λd=>Kv d (e a))=l.length:=by
  rw[aaY];rw[<-j8 a l h];congr 1
  funext x
  exact he x a
 unfold ja;dsimp only;rw[e0,hq,hp,e1,e2];rfl
theorem J7[DecidableEq α](he:∀a b,Kv (e a) (e b)=decide (a=b))(hp:∀l:List α,plainDs 40 (l.map e)=true)(hq:∀a,plainD 40 (e a)=true)(l:List α)(a:α):tm (e a) (.lst (l.map e))=.ok (.f,.bl (!decide (a∈l))):=by
 have e1:tj (e a) (l.map e)=decide (a∈l):=by
  unfold tj;rw[YC,Xo,XM,W3];constructor
  .rintro⟨x,hx,e1⟩;have e1:Kv (e x) (e a)=true:=e1;rw[he,W3]at e1;rw[<-e1];exact hx
  .intro h;refine⟨a,h,?_⟩;show Kv (e a) (e a)=true;rw[he,W3]
 unfold tm Nr;dsimp only;rw[hq,hp,Yf,WV rfl,e1];rfl
structure Rm(nY:LNN)(ps:List Pl)(S:List (List Int))(A:List KG)(m:Nat):Prop where
 nd:S.Nodup
 z:S[0]?=some (ps.map (·.1))
 ln:∀s∈S,s.length=ps.length
 le:S.length<=8
 ab:∀a∈A,a.2.1∈nY/\∃i j:Nat,i<m/\a.1=(i:Int)/\a.2.2=(j:Int)/\∃s t,S[i]?=some s/\S[j]?=some t/\aS (nY.idxOf a.2.1) (s.zip ps)=some t
 rc:∀j:Nat,1<=j->j<S.length->∃a∈A,a.2.2=(j:Int)/\∃b:Nat,b<j/\a.1=(b:Int)
variable{ps:List Pl}{A:List KG}
theorem Rm.more{S:List (List Int)}{m:Nat}(r:Rm nY ps S A m)(h:m<=m'):Rm nY ps S A m':=⟨r.nd,r.z,r.ln,r.le,λa ha=>by
 obtain⟨h1,i,j,h2,h3⟩:=r.ab a ha;exact⟨h1,i,j,by lia,h3⟩,r.rc⟩
variable{d i:Nat}{mv:List Nat}
theorem Rm.old{S:List (List Int)}(r:Rm nY ps S A (d+1))(hn:mv∈nY){t:List Int}(hs:S[d]?=some s)(ht:S[i]?=some t)(hf:aS (nY.idxOf mv) (s.zip ps)=some t):Rm nY ps S (A++[((d:Int),mv,(i:Int))]) (d+1):=by
 refine⟨r.nd,r.z,r.ln,r.le,λa ha=>?_,λj j1 j2=>?_⟩
 .rcases jl ha with ha|ha
  .exact r.ab a ha
  .rw[f9 ha];exact⟨hn,d,i,by lia,rfl,rfl,s,t,hs,ht,hf⟩
 .obtain⟨a,ha,q⟩:=r.rc j j1 j2;exact⟨a,WR _ ha,q⟩
theorem Rm.new{S:List (List Int)}(r:Rm nY ps S A (d+1))(hn:mv∈nY){t:List Int}(hs:S[d]?=some s)(ht:t∉S)(hf:aS (nY.idxOf mv) (s.zip ps)=some t)(h8:S.length<8):Rm nY ps (S++[t]) (A++[((d:Int),mv,(S.length:Int))]) (d+1):=by
 have hd:=(iK hs).1;have hl:(S++[t]).length=S.length+1:=by rw[gK];rfl
 have up:∀{i:Nat}{x:List Int},S[i]?=some x->(S++[t])[i]?=some x:=λ{i x} h=>by
  rw[Xu (iK h).1];exact h
 refine⟨Xl.mpr ⟨r.nd,Xf.mpr ⟨XU,XN⟩,λx hx y hy=>?_⟩,up r.z,λx hx=>?_,by lia,λa ha=>?_,λj j1 j2=>?_⟩
 .rw[f9 hy];rintro rfl;exact ht hx
 .rcases jl hx with hx|hx
  .exact r.ln x hx
  .rw[f9 hx,oB _ hf,Zl,r.ln s (Xm hs),Nat.min_self]
 .rcases jl ha with ha|ha
  .obtain⟨h1,i,j,h2,h3,h4,x,y,h5,h6,h7⟩:=r.ab a ha;exact⟨h1,i,j,h2,h3,h4,x,y,up h5,up h6,h7⟩
  .rw[f9 ha];exact⟨hn,d,S.length,by lia,rfl,rfl,s,t,up hs,by rw[XH (WU _),aas];rfl,hf⟩
 .by_cases e:j=S.length
  .subst e;exact⟨_,WQ _ (W5.mpr rfl),rfl,d,hd,rfl⟩
  .obtain⟨a,ha,q⟩:=r.rc j j1 @a;exact⟨a,WR _ ha,q⟩
theorem kU(t:List Int):flatD (eM t)=true:=by
 unfold eM;rw[bO,KC]
def Fu(nY:LNN)(ps:List Pl)(S:List (List Int))(A:List KG)(d j:Nat):Prop:=∀i k:Nat,(i<d\/(i=d/\k<j))->∀mv,nY[k]?=some mv->∀s t,S[i]?=some s->aS (nY.idxOf mv) (s.zip ps)=some t->∃m:Nat,S[m]?=some t/\((i:Int),mv,(m:Int))∈A
theorem Fu.next{S:List (List Int)}(fu:Fu nY ps S A d j)(hd:S[d]?=some s0)(up:∀(i:Nat) (x:List Int),S[i]?=some x->S'[i]?=some x)(ua:∀a∈A,a∈A')(hj:nY[j]?=some mv)(new:∀t,aS (nY.idxOf mv) (s0.zip ps)=some t->∃m:Nat,S'[m]?=some t/\((d:Int),mv,(m:Int))∈A'):Fu nY ps S' A' d (j+1):=by
 intro i k h mv' hk s t hs hf;have UA:=(iK hd).1;have Na:i<S.length:=by lia
 have VC:S[i]?=some s:=by
  have:=up i _ (iL Na);rw[hs]at this;rw[iL Na,this]
 by_cases h2:i<d\/(i=d/\k<j)
 .obtain⟨m,h3,h4⟩:=fu i k h2 mv' hk s t VC hf;exact⟨m,up _ _ h3,ua _ h4⟩
 .have e1:i=d:=by lia
  have e2:k=j:=by lia
  subst e1 e2;rw[hj]at hk;cases hk;rw[hd]at VC;cases VC;exact new t hf
theorem Fu.row{S:List (List Int)}(fu:Fu nY ps S A d nY.length):Fu nY ps S A (d+1) 0:=λi k h mv hk s t hs hf=>fu i k (by
 have:=(iK hk).1;lia) mv hk s t hs hf
def N4(k:Nat)(p:Pl):Int:=p.2.1.getD k 0
def UB(k:Nat)(p:Pl):Int:=p.2.2.getD k 0
def Gm(k:Nat)(zs:List (Int×Pl)):Bool:=zs.all λz=>decide (N4 k z.2<=z.1)
theorem rh(k:Nat):∀zs:List (Int×Pl),aS k zs=if Gm k zs then some (zs.map λz=>z.1-N4 k z.2+UB k z.2) else none
 |[]=>rfl
 |z::zs=>by
  rw[aS,rh k zs];unfold Gm;rw[Zo];by_cases h:z.1<z.2.2.1.getD k 0
  .have h2:decide (N4 k z.2<=z.1)=false:=Xn (by unfold N4;lia);rw[WV h,h2,Zx,W6 WT]
  .have h2:decide (N4 k z.2<=z.1)=true:=Xc (by unfold N4;lia);rw[W6 h,h2,aaT];cases(zs.all λz=>decide (N4 k z.2<=z.1)) with
   |true=>rw[WV rfl,WV rfl];rfl
   |false=>rw[W6 WT,W6 WT];rfl
theorem CN(nY:LNN)(ps:List Pl)(hl:ps.length<=100):cj [eN nY ps]=.ok (.f,eM (ps.map (·.1))):=by
 have hc:b5 (ao 0) dR (aq ixD (ae 0) @g) (ps.map eP) [none]=.ok ((ps.map (·.1)).map D.int):=by
  rw[Xq];refine bu (λenv=>∃t,env=[t]) _ ?_ _ ⟨_,rfl⟩;rintro p _ env ⟨t,rfl⟩;refine⟨[fq (eP p)],by simp![pv,seval],?_⟩;unfold eP;simp?[Uv];exact⟨_,_,rfl,_,rfl⟩
 have Qk:((ps.map (·.1)).map D.int).length<=sizeLine:=line_le (by rw[aU,aU];lia);unfold cj eY eN;rw[aM (h:=by rfl)];simp?[R8,hc,Qk,KC];rfl
variable{p:Pl}
theorem Gn{k:Nat}(h:LZ p cnt)(hk:k<cnt):LI (p.2.1.map D.int) (k:Int)=some (.int (N4 k p)):=jZ (by rw[h.1];exact hk)
theorem IL{k:Nat}(h:LZ p cnt)(hk:k<cnt):LI (p.2.2.map D.int) (k:Int)=some (.int (UB k p)):=jZ (by rw[h.2];exact hk)
theorem yJ(nY:LNN)(ps:List Pl)(hl:ps.length<=100)(hp:∀p∈ps,LZ p nY.length)(m:List Int)(mv:List Nat)(hm:mv∈nY):jj [eN nY ps,eM m,.str mv]=.ok (.f,.bl (Gm (nY.idxOf mv) (m.zip ps))):=by
 have LS:=pL hm;have hk:=Yn hm;generalize nY.idxOf mv=k at LS hk;have hc:b5 (gC 2 (aw (ao 0) (aw (ao 1) b8))) dR (aq geO (ae 0) (af (aq ixD (af (aq ixD (ae 1) @f)) (ae 2)))) ((m.zip ps).map λz=>D.tup [.int z.1,eP z.2]) [none,none,fI (k:Int)]=.ok (((m.zip ps).map λz=>decide (N4 k z.2<=z.1)).map D.bl):=by
  rw[Xq];refine bu (λenv=>∃t u,env=[t,u,fI (k:Int)]) _ ?_ _ ⟨_,_,rfl⟩;rintro⟨x,p⟩ hz env ⟨t,u,rfl⟩;have e1:=Gn (hp p (Za hz).2) hk;refine⟨_,j3 _ _ _ _ _,?_⟩;unfold eP;simp?[R8,e1];exact⟨_,_,rfl,_,_,rfl⟩
 have Qk:(((m.zip ps).map λz=>decide (N4 k z.2<=z.1)).map D.bl).length<=sizeLine:=line_le (by rw[aU,aU,Zl];lia);unfold jj qR eN eM;rw[aM (h:=by rfl)];rw[ai (env':=[fq (.tup [.tup @h,.lst (ps.map eP)]),fq (.tup (m.map D.int)),fq (.str mv),fI (k:Int)]) (by simp?[Uv,LS])];simp?[R8,jq,hc,Qk,qT,zY];unfold Gm;rw[YB];rfl
def eO:Option (List Int)->D
 |none=>.non
 |some r=>eM r
theorem wA(o:Option (List Int)):flatD (eO o)=true:=by
 cases o with
 |none=>rfl
 |some r=>exact kU r
theorem CO(nY:LNN)(ps:List Pl)(hl:ps.length<=100)(hp:∀p∈ps,LZ p nY.length)(m:List Int)(mv:List Nat)(hm:mv∈nY):lZ [eN nY ps,eM m,.str mv]=.ok (.f,eO (aS (nY.idxOf mv) (m.zip ps))):=by
 have hg:=yJ nY ps hl hp m mv hm;have LS:=pL hm;have hk:=Yn hm;rw[rh];generalize nY.idxOf mv=k at LS hk hg;have hc:b5 (gC 2 (aw (ao 0) (aw (ao 1) b8))) dR (aq bQ (af (aq ti (ae 0) (af (aq ixD (af (aq ixD (ae 1) @f)) (ae 2))))) (af (aq ixD (af (aq ixD (ae 1) (af (av (.int 2))))) (ae 2)))) ((m.zip ps).map λz=>D.tup [.int z.1,eP z.2]) [none,none,fI (k:Int)]=.ok (((m.zip ps).map λz=>z.1-N4 k z.2+UB k z.2).map D.int):=by
  rw[Xq];refine bu (λenv=>∃t u,env=[t,u,fI (k:Int)]) _ ?_ _ ⟨_,_,rfl⟩;rintro⟨x,p⟩ hz env ⟨t,u,rfl⟩;have e1:=Gn (hp p (Za hz).2) hk;have e2:=IL (hp p (Za hz).2) hk;refine⟨_,j3 _ _ _ _ _,?_⟩;unfold eP;simp?[R8,at2,e1,e2];exact⟨_,_,rfl,_,_,rfl⟩
 have Qk:(((m.zip ps).map λz=>z.1-N4 k z.2+UB k z.2).map D.int).length<=sizeLine:=line_le (by rw[aU,aU,Zl];lia);unfold lZ vX;rw[aM (h:=by rfl)];cases hz:Gm k (m.zip ps) with
 |false=>
  rw[hz]at hg;simp![pv,seval,hg,pE,pF,X8,cz];rfl
 |true=>
  rw[hz]at hg;unfold eN eM at hg |-;rw[ai (env':=[fq (.tup [.tup @h,.lst (ps.map eP)]),fq (.tup (m.map D.int)),fq (.str mv),none]) (by simp![pv,seval,hg,pE,pF,Yb,cz])];rw[ai (env':=[fq (.tup [.tup @h,.lst (ps.map eP)]),fq (.tup (m.map D.int)),fq (.str mv),fI (k:Int)]) (by simp?[Uv,LS])];simp?[R8,jq,hc,Qk,KC];rfl
abbrev Rn:=List (List Int)×List KG
noncomputable def pos(S:List (List Int))(t:List Int):Nat:=S.findIdx λx=>decide (x=t)
def j9(nY:LNN)(ps:List Pl)(d:Nat)(mv:List Nat)(r:Rn):Option Rn:=match aS (nY.idxOf mv) ((r.1.getD d []).zip ps) with
 |none=>some r
 |some t=>if t∈r.1 then some (r.1,r.2++[((d:Int),mv,(pos r.1 t:Int))]) else if r.1.length=8 then none else some (r.1++[t],r.2++[((d:Int),mv,(r.1.length:Int))])
def wB(nY:LNN)(ps:List Pl)(d:Nat):LNN->Rn->Option Rn
 |[],r=>some r
 |mv::l,r=>(j9 nY ps d mv r).bind (wB nY ps d l)
def z8(nY:LNN)(ps:List Pl):Nat->Nat->Rn->Option Rn
 | 0,_,r=>some r
 |f+1,d,r=>if d<r.1.length then(wB nY ps d nY r).bind (z8 nY ps f (d+1)) else some r
theorem J8[DecidableEq α](he:∀a b,Kv (e a) (e b)=decide (a=b))(hp:∀l:List α,plainDs 40 (l.map e)=true)(hq:∀a,plainD 40 (e a)=true)(l:List α)(a:α)(h:a∈l):ja (l.map e) [e a]=.ok (.f,.int ((l.findIdx λx=>decide (x=a):Nat):Int)):=by
 have e1:(l.map e).any (λd=>Kv d (e a))=true:=by
  rw[YC,XM];exact⟨a,h,by show Kv (e a) (e a)=true;rw[he,Xc rfl]⟩
 have e2:(l.map e).findIdx (λd=>Kv d (e a))=l.findIdx λx=>decide (x=a):=by
  rw[aaY];congr 1
  funext x
  exact he x a
 unfold ja;dsimp only;rw[hq,hp,e1,e2];rfl
theorem Gp(nY:LNN)(ps:List Pl)(hl:ps.length<=100)(hp:∀p∈ps,LZ p nY.length)(S:List (List Int))(A:List KG)(hA:A.length<=1000)(hS:S.length<=8)(d:Nat)(hd:d<S.length)(mv:List Nat)(hn:mv∈nY)(t6:Option R):
  match j9 nY ps d mv (S,A) with
  |some (S',A')=>∃u6,br [fq @e,fI 8,fL (S.map eM),fL (A.map eA),fI ((d:Nat):Int),fq (.str mv),t6]=.ok (.nx [fq @e,fI 8,fL (S'.map eM),fL (A'.map eA),fI ((d:Nat):Int),fq (.str mv),u6])
  |none=>br [fq @e,fI 8,fL (S.map eM),fL (A.map eA),fI ((d:Nat):Int),fq (.str mv),t6]=.ok (.rt (.f,.non)):=by
 have Of:S[d]?=some S[d]:=iL hd;have OP:S.getD d []=S[d]:=by rw[W8,Of];rfl
 have Mn:LI (S.map eM) (d:Int)=some (eM S[d]):=cR (by rw[W2,Of];rfl);have hzA:(A.map eA).length<sizeLine:=iM (by rw[aU];lia);have hzS:(S.map eM).length<sizeLine:=iM (by rw[aU];lia);have UC:flatD .non=true:=rfl;unfold j9;dsimp only;rw[OP];unfold br;rcases z7 nY ps hl hp S[d] mv hn with⟨hf,e⟩|⟨t,hf,e⟩
 .rw[hf];dsimp only;refine⟨fq .non,?_⟩;rw[ai (env':=[fq @e,fI 8,fL (S.map eM),fL (A.map eA),fI ((d:Nat):Int),fq (.str mv),fq .non]) (by simp?[Mn,e,UC])];simp?[kQ,cz]
 .rw[hf];dsimp only;have hft:=kU t;have RI:=J7 pM mw fE S t;have VD:isnO (eM t) .non=.ok (.f,.bl true):=id rfl;rw[ai (env':=[fq @e,fI 8,fL (S.map eM),fL (A.map eA),fI ((d:Nat):Int),fq (.str mv),fq (eM t)]) (by simp?[Mn,e,hft])];by_cases hm:t∈S
  .rw[WV hm];have LS:=J8 pM mw fE S t hm;dsimp only;refine⟨fq (eM t),?_⟩;unfold pos;rw[Xd];simp?[VD,RI,hm,Y5,Yb,cz,qV,LS,hzA];rfl
  .rw[W6 hm];by_cases h9:S.length=8
   .rw[WV h9];dsimp only;have he:((S.length:Int)==8)=true:=by rw[h9];rfl
    simp?[VD,RI,hm,YE,X8,aU,he]
   .rw[W6 h9];dsimp only;have he:((S.length:Int)==8)=false:=by
     rw[XQ];lia
    have LS:=IK pM mw fE S t hm;refine⟨fq (eM t),?_⟩;rw[Xd,Xd,c8,XD];have hzS':S.length<sizeLine:=iM @a;have hzA':A.length<sizeLine:=iM @a;simp?[VD,RI,hm,YE,X8,cz,aU,he,qV,LS,hzA',hzS'];rfl
variable{r:Rn}
theorem wC(h:j9 nY ps d mv r=some r')(h8:r.1.length<=8):r.1.length<=r'.1.length/\r'.1.length<=8/\r'.2.length<=r.2.length+1:=by
 unfold j9 at h;split at h
 .cases h;lia
 .split at h
  .cases h;refine⟨WU _,h8,?_⟩;rw[gK];exact WU _
  .split at h
   .cases h
   .cases h;dsimp only;rw[gK,gK,Xb,Xb];lia
theorem CP{nY:LNN}{ps:List Pl}{d:Nat}:∀(l:LNN) {r r':Rn},wB nY ps d l r=some r'->r.1.length<=8->r.1.length<=r'.1.length/\r'.1.length<=8/\r'.2.length<=r.2.length+l.length
 |[],r,r',h,h8=>by
  cases h;exact⟨WU _,h8,WU _⟩
 |mv::l,r,r',h,h8=>by
  unfold wB at h;obtain⟨r1,h1,h2⟩:=XJ.mp h;have b1:=wC h1 h8;have b2:=CP l h2 b1.2.1;rw[WX];lia
theorem z9(nY:LNN)(ps:List Pl)(hl:ps.length<=100)(hp:∀p∈ps,LZ p nY.length)(d:Nat):∀(l:LNN),(∀mv∈l,mv∈nY)->∀(r:Rn),r.2.length+l.length<=1000->r.1.length<=8->d<r.1.length->∀t5 t6:Option R,
  match wB nY ps d l r with
  |some r'=>∃u5 u6,cU (ao 5) br (l.map D.str) @d=.ok (.nx [fq @e,fI 8,fL (r'.1.map eM),fL (r'.2.map eA),fI ((d:Nat):Int),u5,u6])
  |none=>cU (ao 5) br (l.map D.str) @d=.ok (.rt (.f,.non))
 |[],_,r,_,_,_,t5,t6=>⟨t5,t6,rfl⟩
 |mv::l,hm,r,hA,h8,hd,t5,t6=>by
  have h1:=Gp nY ps hl hp r.1 r.2 @a h8 d hd mv (hm mv WJ) t6;have ha:ao 5 (.str mv) @d=.ok [fq @e,fI 8,fL (r.1.map eM),fL (r.2.map eA),fI ((d:Nat):Int),fq (.str mv),t6]:=rfl;unfold wB;cases hs:j9 nY ps d mv r with
  |none=>
   have QN:j9 nY ps d mv (r.1,r.2)=none:=hs;rw[QN]at h1;dsimp only[Option.bind]at h1 |-;rw[c8,bJ,ha,KZ,h1,KZ]
  |some r1=>
   have QN:j9 nY ps d mv (r.1,r.2)=some r1:=hs;have b:=wC hs h8;rw[QN]at h1;obtain⟨u6,h1⟩:=h1;rw[WX]at hA;have ih:=z9 nY ps hl hp d l (λx hx=>hm x (WK _ hx)) r1 @a b.2.1 @a (fq (.str mv)) u6;dsimp only[Option.bind];cases hr:wB nY ps d l r1 with
   |none=>
    rw[hr]at ih;dsimp only at ih |-;rw[c8,bJ,ha,KZ,h1,KZ];exact ih
   |some r2=>
    rw[hr]at ih;dsimp only at ih |-;obtain⟨v5,v6,ih⟩:=ih;refine⟨v5,v6,?_⟩;rw[c8,bJ,ha,KZ,h1,KZ];exact ih
theorem Gq(nY:LNN)(hn:nY.length<=3)(ps:List Pl)(hl:ps.length<=100)(hp:∀p∈ps,LZ p nY.length):∀(f F d:Nat) (r:Rn),r.1.length<=8->d<=r.1.length->r.2.length<=3*d->9<=f+d->f<=F->∀t5 t6:Option R,
  match z8 nY ps f d r with
  |some r'=>r'.2.length<=24/\∃u4 u5 u6,bE (eBl (aq ltO (ae 4) @A)) bM F @d=.ok (.nx [fq @e,fI 8,fL (r'.1.map eM),fL (r'.2.map eA),u4,u5,u6])
  |none=>bE (eBl (aq ltO (ae 4) @A)) bM F @d=.ok (.rt (.f,.non))
 | 0,F,d,r,h8,hd,hA,hf,hF,t5,t6=>by lia
 |f+1,0,d,r,h8,hd,hA,hf,hF,t5,t6=>by lia
 |f+1,F+1,d,r,h8,hd,hA,hf,hF,t5,t6=>by
  unfold z8;by_cases K4:d<r.1.length
  .rw[WV K4];have h1:=z9 nY ps hl hp d nY (λ_ h=>h) r @a h8 K4 t5 t6;have hc:(eBl (aq ltO (ae 4) @A)) @d=.ok (true,@d):=by
    have:(d:Int)<(r.1.length:Int):=by lia
    simp?[aU,this,Y5]
   have go:∀q:Res Out,cU (ao 5) br @h @d=q->e8 @d=q:=λq h=>by
    unfold e8;unfold eN at h |-;simp?;exact h
   cases hr:wB nY ps d nY r with
   |none=>
    rw[hr]at h1;dsimp only[Option.bind]at h1 |-;rw[bY,hc,KZ];dsimp only;rw[WV rfl];unfold bM;rw[K8,go _ h1,KZ];rfl
   |some r1=>
    rw[hr]at h1;dsimp only[Option.bind]at h1 |-;obtain⟨u5,u6,h1⟩:=h1;have b:=CP nY hr h8;have e2:bM @d=.ok (.nx [fq @e,fI 8,fL (r1.1.map eM),fL (r1.2.map eA),fI ((d+1:Nat):Int),u5,u6]):=by
     unfold bM;rw[ai (go _ h1)];unfold hX;simp?[aan,Zf]
    have ih:=Gq nY hn ps hl hp f F (d+1) r1 b.2.1 @a @a @a @a u5 u6;cases hq:z8 nY ps f (d+1) r1 with
    |none=>
     rw[hq]at ih;dsimp only at ih |-;rw[bY,hc,KZ];dsimp only;rw[WV rfl,e2,KZ];exact ih
    |some r2=>
     rw[hq]at ih;dsimp only at ih |-;obtain⟨hb,v4,v5,v6,ih⟩:=ih;refine⟨hb,v4,v5,v6,?_⟩;rw[bY,hc,KZ];dsimp only;rw[WV rfl,e2,KZ];exact ih
  .rw[W6 K4];dsimp only;refine⟨by lia,fI ((d:Nat):Int),t5,t6,?_⟩;have hc:(eBl (aq ltO (ae 4) @A)) @d=.ok (false,@d):=by
    have:¬ (d:Int)<(r.1.length:Int):=by lia
    simp?[aU,this,YE]
   rw[bY,hc,KZ];rfl
abbrev gy(nY:LNN)(ps:List Pl):Option Rn:=z8 nY ps 9 0 ([ps.map (·.1)],[])
theorem wF(nY:LNN)(hn:nY.length<=3)(ps:List Pl)(hl:ps.length<=100)(hp:∀p∈ps,LZ p nY.length):
  bo [eN nY ps,.int 8]=.ok (.f,match gy nY ps with
   |some r=>.tup [.lst ((aB aJ r.2).map eA),.lst (r.1.map eM)]
   |none=>.non):=by
 unfold bo kM;rw[aM (h:=by rfl)];have hc:b5 @m dR (ax 0) (ps.map eP) [none,none,none]=.ok ((ps.map (·.1)).map D.int):=by
  rw[bu (r:=λp:Pl=>D.int p.1) (λenv=>∃t u w,env=[t,u,w]) ps ?_ _ ⟨none,none,none,rfl⟩]
  .rw[Xq];rfl
  .rintro p _ env ⟨t,u,w,rfl⟩;exact⟨[fI p.1,fq (.tup (p.2.1.map D.int)),fq (.tup (p.2.2.map D.int))],by unfold eP;simp![pv,seval],.f,_,rfl,_,_,_,rfl⟩
 have hlen:((ps.map (·.1)).map D.int).length<=sizeLine:=bg (by rw[aU,aU];lia);have Qx:=KC (ps.map (·.1));rw[ai (env':=[fq @e,fI 8,fL [eM (ps.map (·.1))],none,none,none,none]) (by
  unfold eN eM;simp?[hc,hlen,Qx])]
 rw[ai (env':=[fq @e,fI 8,fL [eM (ps.map (·.1))],fL [],none,none,none]) (by simp?)];rw[ai (env':=[fq @e,fI 8,fL [eM (ps.map (·.1))],fL [],fI 0,none,none]) (by simp?)];have w:=Gq nY hn ps hl hp 9 100000 0 ([ps.map (·.1)],[]) (by show 1<=8;decide) (Xw _) (WU _) @b @b none none;unfold gy;cases hr:z8 nY ps 9 0 ([ps.map (·.1)],[]) with
 |some r=>
  rw[hr]at w;obtain⟨hA,u4,u5,u6,w⟩:=w;rw[ai (env':=_) (by
   unfold di;exact w)]
  unfold hZ;simp?[pK r.2 @a]
 |none=>
  rw[hr]at w;have w2:di [fq @e,fI 8,fL [eM (ps.map (·.1))],fL [],fI 0,none,none]=.ok (.rt (.f,.non)):=by
   unfold di;exact w
  rw[K8,w2];simp![pv,seval]
theorem Aa{S:List (List Int)}{t:List Int}(h:t∈S):S[pos S t]?=some t:=by
 have h3:(S.findIdx λx=>decide (x=t))<S.length:=ZV ⟨t,h,Xc rfl⟩;have h4:=aaa (p:=λx=>decide (x=t)) (xs:=S) (w:=h3);unfold pos;rw[iL h3];congr 1
 simpa using h4
def Zr(nY:LNN)(ps:List Pl):Prop:=∃S A m,Rm nY ps S A m/\S.length=8
section
theorem CQ(rm:Rm nY ps r.1 r.2 (d+1))(hd:d<r.1.length)(hj:nY[j]?=some mv)(fu:Fu nY ps r.1 r.2 d j):
  match j9 nY ps d mv r with
  |some r'=>Rm nY ps r'.1 r'.2 (d+1)/\Fu nY ps r'.1 r'.2 d (j+1)
  |none=>Zr nY ps:=by
 have hn:=Xm hj;have Of:r.1[d]?=some r.1[d]:=iL hd;have OP:r.1.getD d []=r.1[d]:=by rw[W8,Of];rfl
 unfold j9;rw[OP];cases hf:aS (nY.idxOf mv) (r.1[d].zip ps) with
 |none=>exact⟨rm,fu.next Of (λ_ _ h=>h) (λ_ h=>h) hj λt h=>by rw[hf]at h;cases h⟩
 |some t=>
  dsimp only;by_cases hm:t∈r.1
  .rw[WV hm];exact⟨rm.old hn Of (Aa hm) hf,fu.next Of (λ_ _ h=>h) (λ_ h=>WR _ h) hj λt' h=>by rw[hf]at h;cases h;exact⟨_,Aa hm,WQ _ (W5.mpr rfl)⟩⟩
  .rw[W6 hm];by_cases h9:r.1.length=8
   .rw[WV h9];exact⟨_,_,_,rm,h9⟩
   .rw[W6 h9];have:=rm.le;exact⟨rm.new hn Of hm hf @a,fu.next Of (λi x h=>by rw[Xu (iK h).1];exact h) (λ_ h=>WR _ h) hj λt' h=>by rw[hf]at h;cases h;exact⟨r.1.length,by rw[XH (WU _),aas];rfl,WQ _ (W5.mpr rfl)⟩⟩
theorem Ab{d:Nat}:∀(l:LNN) (j:Nat) (r:Rn),nY.drop j=l->Rm nY ps r.1 r.2 (d+1)->d<r.1.length->Fu nY ps r.1 r.2 d j->
  match wB nY ps d l r with
  |some r'=>Rm nY ps r'.1 r'.2 (d+1)/\Fu nY ps r'.1 r'.2 d (j+l.length)
  |none=>Zr nY ps
 |[],j,r,_,rm,_,fu=>⟨rm,fu⟩
 |mv::l,j,r,hl,rm,hd,fu=>by
  have hj:nY[j]?=some mv:=by
   have:(nY.drop j)[0]?=some mv:=by rw[hl];rfl
   rw[List.getElem?_drop]at this;exact this
  have QV:nY.drop (j+1)=l:=by
   rw[<-List.tail_drop,hl];rfl
  have h1:=CQ rm hd hj fu;unfold wB;cases hs:j9 nY ps d mv r with
  |none=>
   rw[hs]at h1;exact h1
  |some r1=>
   rw[hs]at h1;have b:=wC hs rm.le;have ih:=Ab l (j+1) r1 QV h1.1 @a h1.2;rw[WX,show j+(l.length+1)=j+1+l.length by lia];exact ih
theorem Ac(hn:nY.length<=3):∀(f d:Nat) (r:Rn),Rm nY ps r.1 r.2 d->d<=r.1.length->r.2.length<=3*d->Fu nY ps r.1 r.2 d 0->9<=f+d->
  match z8 nY ps f d r with
  |some r'=>(∃m,Rm nY ps r'.1 r'.2 m)/\Fu nY ps r'.1 r'.2 r'.1.length 0/\r'.2.length<=24
  |none=>Zr nY ps
 | 0,d,r,rm,hd,_,_,hf=>by
  have:=rm.le;lia
 |f+1,d,r,rm,hd,hA,fu,hf=>by
  have h8:=rm.le;unfold z8;by_cases K4:d<r.1.length
  .rw[WV K4];have h1:=Ab nY 0 r rfl (rm.more (Zg d)) K4 fu;cases hs:wB nY ps d nY r with
   |none=>
    rw[hs]at h1;exact h1
   |some r1=>
    rw[hs,Zi]at h1;have b:=CP nY hs h8;exact Ac hn f (d+1) r1 h1.1 @a @a h1.2.row @a
  .rw[W6 K4];have:d=r.1.length:=by lia
   exact⟨⟨d,rm⟩,this▸fu,by lia⟩
theorem rm0:Rm nY ps [ps.map (·.1)] [] 0:=⟨Xf.mpr ⟨XU,XN⟩,rfl,λx hx=>by rw[f9 hx,aU],by simp,(λ_ h=>nomatch h),λj j1 j2=>by rw[Xb]at j2;lia⟩
theorem iq(hn:nY.length<=3):
  match gy nY ps with
  |some r'=>(∃m,Rm nY ps r'.1 r'.2 m)/\Fu nY ps r'.1 r'.2 r'.1.length 0/\r'.2.length<=24
  |none=>Zr nY ps:=Ac hn 9 0 ([ps.map (·.1)],[]) rm0 (Xw _) (WU _) (λi k h=>by lia) @b
end
section
variable{RH:List Pl}{h:List Int->List Int}{Sf:List (List Int)}
noncomputable def hR(h:List Int->List Int)(r:Rn):Rn:=(r.1.map h,r.2)
end
theorem flat_P(p:Pl):flatD (eP p)=true:=by
 unfold eP;rw[bO];simp![flatDs,bO,KC,jk];rfl
theorem CS(ps:List Pl):flatDs (ps.map eP)=true:=by
 rw[bL,YB,Xr];exact λp _=>flat_P p
theorem mx{α:Type}[DecidableEq α]:∀(l m:List α),l.Nodup->(∀x∈l,x∈m)->l.length<=m.length
 |[],m,_,_=>Xw _
 |a::l,m,nd,h=>by
  rw[Xf]at nd;have ha:=h a WJ;have:=mx l (m.erase a) nd.2 λx hx=>(List.mem_erase_of_ne (λe=>nd.1 (by rw[<-e];exact hx))).mpr (h x (WK _ hx))
  rw[ZJ ha]at this;have:=Ze ha;rw[WX];lia
noncomputable def eL(nY:LNN)(b:Int):Pl:=(b,nY.map λ_=>1,nY.map λ_=>0)
theorem rj(nY:LNN)(c:Int){k:Nat}(h:k<nY.length):(nY.map λ_=>c).getD k 0=c:=by
 rw[W8,W2,iL h];rfl
theorem wG{b:Int}{k:Nat}(hk:k<nY.length){s t:List Int}(hs:s.length=(ps++[eL nY b]).length)(hf:aS k (s.zip (ps++[eL nY b]))=some t):1<=s.getD ps.length 0/\t.getD ps.length 0=s.getD ps.length 0-1:=by
 rw[gK,Xb]at hs;have K4:ps.length<s.length:=by lia
 have e:(s.zip (ps++[eL nY b]))[ps.length]?=some (s[ps.length],eL nY b):=by
  rw[Zy];exact⟨iL K4,by rw[XH (WU _),aas];rfl⟩
 obtain⟨h1,h2⟩:=rg k hf e;have e1:(eL nY b).2.1.getD k 0=1:=rj nY 1 hk;have e2:(eL nY b).2.2.getD k 0=0:=rj nY 0 hk;dsimp only at h1 h2;rw[e1]at h1;rw[e1,e2]at h2;have e3:s.getD ps.length 0=s[ps.length]:=by rw[W8,iL K4];rfl
 rw[e3,W8,h2];exact⟨by lia,by show _=_;simp⟩
theorem yK{S:List (List Int)}{m:Nat}(r:Rm nY (ps++[eL nY 1]) S A m):S.length<=1+nY.length:=by
 have hz:=r.z;cases hS:S with
 |nil=>exact Xw _
 |cons s0 tl=>
  rw[hS,ZT,Z0]at hz;have h0:s0.getD ps.length 0=1:=by
   rw[hz,W8,W2,XH (WU _),aas];rfl
  have key:∀j:Nat,1<=j->∀s,S[j]?=some s->s.getD ps.length 0=0/\∃mv∈nY,aS (nY.idxOf mv) (s0.zip (ps++[eL nY 1]))=some s:=by
   intro j;induction j using Nat.strongRecOn with
   |_ j ih=>
    intro hj s hs;obtain⟨a,ha,e1,b,hb,e2⟩:=r.rc j hj (iK hs).1;obtain⟨hn,i',j',_,e3,e4,x,y,hx,hy,hf⟩:=r.ab a ha;have:i'=b:=by lia
    subst this;have:j'=j:=by lia
    subst this;rw[hs]at hy;cases hy;have hd:=wG (Yn hn) (r.ln x (Xm hx)) hf;cases i' with
    |zero=>
     rw[hS,ZT,Z0]at hx;subst hx;exact⟨by lia,_,hn,hf⟩
    |succ i'=>
     have:=(ih (i'+1) hb @a x hx).1;lia
  have nd:=r.nd;rw[hS]at nd;have:=mx tl (nY.filterMap λmv=>aS (nY.idxOf mv) (s0.zip (ps++[eL nY 1]))) (Xf.mp nd).2 λs hs=>by
   obtain⟨i,hi⟩:=X3.mp hs;obtain⟨_,mv,Mj,hf⟩:=key (i+1) @a s (by rw[hS,ZR];exact hi);exact YF.mpr ⟨mv,Mj,hf⟩
  have h2:=List.length_filterMap_le (λmv=>aS (nY.idxOf mv) (s0.zip (ps++[eL nY 1]))) nY;rw[WX];lia
theorem oD(nY:LNN)(c:Int):b5 (ao 0) dR (av (.int c)) @h [none]=.ok ((nY.map λ_=>c).map D.int):=by
 rw[bu (r:=λ_:List Nat=>D.int c) (λenv=>∃t,env=[t]) nY ?_ _ ⟨none,rfl⟩]
 .rw[Xq];rfl
 .rintro n _ env ⟨t,rfl⟩;exact⟨[fq (.str n)],rfl,.f,_,rfl,_,rfl⟩
theorem J9(ps:List Pl)(hl:ps.length<=100)(d:D):bQ (.lst (ps.map eP)) (.lst [d])=.ok (.l .f,.lst (ps.map eP++[d])):=by
 rw[pH,WV (line_le (by rw[aU,Xb];lia))]
structure Nt(nY:LNN)(ps:List Pl)(r:Rn):Prop where
 n0:nY≠[]
 n3:nY.length<=3
 nn:nY.Nodup
 p0:ps≠[]
 p9:ps.length<=12
 po:∀p∈ps,LZ p nY.length
 e:gy nY ps=some r
theorem wH(nY:LNN)(hn:nY.length<=3)(ps:List Pl)(hl:ps.length<=100)(hp:∀p∈ps,LZ p nY.length):
  (∃r,gy nY ps=some r/\bo [eN nY ps,.int 8]=.ok (.f,.tup [.lst ((aB aJ r.2).map eA),.lst (r.1.map eM)]))\/(gy nY ps=none/\bo [eN nY ps,.int 8]=.ok (.f,.non)/\Zr nY ps):=by
 have h:=wF nY hn ps hl hp;have z:=iq (ps:=ps) hn;cases e:gy nY ps with
 |some r=>
  rw[e]at h;exact .inl ⟨r,rfl,h⟩
 |none=>
  rw[e]at h z;exact .inr ⟨rfl,h,z⟩
theorem IM(ns:List Int)(first:Nat):∃nY ps r,Nt nY ps r/\ps.length<=9/\dH [.lst (ns.map D.int),.int (first:Int)]=.ok (.f,eN nY ps):=by
 obtain⟨nY,n0,n3,nn,nw,en⟩:=CM ns;obtain⟨ps,VE,Vy,hp8,ep⟩:=yI ns first nY.length @a
 have Uz:=CS ps;have NR:flatD (.tup @h)=true:=by rw[bO,PV.flat_strs]
 have UC:flatD .non=true:=rfl;have P2:∀(x y:List D),flatDs [.lst x,.lst y]=false:=λ_ _=>rfl
 unfold dH kN;rw[aM (h:=by rfl)];rw[ai (env':=[fq @n,fI (first:Int),fq (.tup @h),none,none,none,none]) (by simp?[en,NR])];rw[ai (env':=[fq @n,fI (first:Int),fq (.tup @h),fI (nY.length:Int),none,none,none]) (by simp?[aU])];rw[ai (env':=[fq @n,fI (first:Int),fq (.tup @h),fI (nY.length:Int),fL (ps.map eP),none,none]) (by simp?[ep,Uz])];rcases wH nY n3 ps @a VE with⟨r,e,er⟩|⟨_,er,_⟩
 .refine⟨nY,ps,r,⟨n0,n3,nn,Vy,by lia,VE,e⟩,by lia,?_⟩;unfold eN at er |-;simp?[er,P2,cz,o_isnT,sS,tq]
 .unfold eN at er;rw[ai (env':=[fq @n,fI (first:Int),fq (.tup @h),fI (nY.length:Int),fq (.lst (ps.map eP)),none,none]) (by simp?[er,UC,kQ,cz])];have c1:=oD nY 1;have c0:=oD nY 0;have l1:((nY.map λ_=>(1:Int)).map D.int).length<=sizeLine:=bg (by rw[aU,aU];lia);have l0:((nY.map λ_=>(0:Int)).map D.int).length<=sizeLine:=bg (by rw[aU,aU];lia);have f1:=KC (nY.map λ_=>(1:Int));have f0:=KC (nY.map λ_=>(0:Int));rw[ai (env':=[fq @n,fI (first:Int),fq (.tup @h),fI (nY.length:Int),fq (.lst (ps.map eP)),fq (.tup ((nY.map λ_=>(1:Int)).map D.int)),none]) (by simp?[c1,l1,f1])];rw[ai (env':=[fq @n,fI (first:Int),fq (.tup @h),fI (nY.length:Int),fq (.lst (ps.map eP)),fq (.tup ((nY.map λ_=>(1:Int)).map D.int)),fq (.tup ((nY.map λ_=>(0:Int)).map D.int))]) (by simp?[c0,l0,f0])];have Qy:∀b:Int,(ps++[eL nY b]).map eP=ps.map eP++[.tup [.int b,.tup ((nY.map λ_=>(1:Int)).map D.int),.tup ((nY.map λ_=>(0:Int)).map D.int)]]:=λb=>by
   rw[Xd];rfl
  have P4:∀b:Int,∀p∈ps++[eL nY b],LZ p nY.length:=λb p hp=>by
   rcases jl hp with hp|hp
   .exact VE p hp
   .rw[f9 hp];exact⟨aU _,aU _⟩
  have Mq:∀b:Int,(ps++[eL nY b]).length<=9:=λb=>by
   rw[gK,Xb];lia
  have TF:∀b:Int,ps++[eL nY b]≠[]:=λb h=>by simp at h
  have VF:=λd=>J9 ps @a d
  have lo:((ps.map eP).length)<=100:=by rw[aU];lia
  rcases wH nY n3 (ps++[eL nY 2]) (by have:=Mq 2;lia) (P4 2) with⟨r,e,er2⟩|⟨_,er2,_⟩
  .refine⟨nY,ps++[eL nY 2],r,⟨n0,n3,nn,TF 2,by have:=Mq 2;lia,P4 2,e⟩,Mq 2,?_⟩;unfold eN at er2 |-;rw[Qy]at er2 |-;simp?[VF,er2,P2,cz,o_isnT,sS,tq]
  .rcases wH nY n3 (ps++[eL nY 1]) (by have:=Mq 1;lia) (P4 1) with⟨r,e,er3⟩|⟨_,_,S,A,m,r,h8⟩
   .refine⟨nY,ps++[eL nY 1],r,⟨n0,n3,nn,TF 1,by have:=Mq 1;lia,P4 1,e⟩,Mq 1,?_⟩;unfold eN at er2 |-;rw[Qy]at er2 |-;rw[ai (env':=[fq @n,fI (first:Int),fq (.tup @h),fI (nY.length:Int),fq (.lst (ps.map eP)),fq (.tup ((nY.map λ_=>(1:Int)).map D.int)),fq (.tup ((nY.map λ_=>(0:Int)).map D.int))]) (by simp?[VF,er2,UC,kQ,cz])];simp?[VF]
   .have:=yK r;lia
theorem Ae(hn:nY.length<=3)(e:gy nY ps=some r):Ra nY r.2 r.1.length:=by
 have h:=iq (ps:=ps) hn;rw[e]at h;obtain⟨⟨m,rm⟩,_,OM⟩:=h;have h8:=rm.le;have h0:=(iK rm.z).1;refine⟨by lia,by lia,λa ha=>?_,λa ha=>(rm.ab a ha).1,rm.rc⟩;obtain⟨_,i,j,_,e1,e2,s,t,hs,ht,_⟩:=rm.ab a ha;have h1:=(iK hs).1;have h2:=(iK ht).1;lia
theorem Gs(a b:Int):Kv (.int a) (.int b)=decide (a=b):=by
 rw[Kv,Xo];simp
theorem wI(a:Int):plainD 40 (.int a)=true:=rfl
theorem rq(l:List Int):plainDs 40 (l.map D.int)=true:=fU _ _
structure Bd(nY:LNN)(ap:List KG):Prop where
 b:∀a∈ap,(0<=a.1/\a.1<12)/\0<=a.2.2/\a.2.2<12
 n:∀a∈ap,a.2.1∈nY
structure Od(ap:List KG)(O1:List Int)(d:Nat)(pre:List KG):Prop where
 nd:O1.Nodup
 z:O1[0]?=some 0
 bd:∀x∈O1,0<=x/\x<12
 rc:∀j:Nat,1<=j->∀x,O1[j]?=some x->∃a∈ap,a.2.2=x/\∃b:Nat,b<j/\O1[b]?=some a.1
 clo:∀i:Nat,i<d->∀x,O1[i]?=some x->∀a∈ap,a.1=x->a.2.2∈O1
 cur:∀x,O1[d]?=some x->∀a∈pre,a.1=x->a.2.2∈O1
variable{O1:List Int}{pre:List KG}
theorem Od.le(o:Od ap O1 d pre):O1.length<=12:=jo 12 o.nd o.bd
variable{c:Int}
theorem Od.skip(o:Od ap O1 d pre)(hc:O1[d]?=some c)(h:a.1≠c\/a.2.2∈O1):Od ap O1 d (pre++[a]):=by
 refine⟨o.nd,o.z,o.bd,o.rc,o.clo,λx hx b hb e=>?_⟩;rw[hc,Z0]at hx;subst hx;rcases jl hb with hb|hb
 .exact o.cur c hc b hb e
 .rw[W5]at hb;subst hb;exact h.resolve_left λn=>n e
theorem Od.take(o:Od ap O1 d pre)(hc:O1[d]?=some c)(ha:a∈ap)(hb:0<=a.2.2/\a.2.2<12)(h1:a.1=c)(h2:a.2.2∉O1):Od ap (O1++[a.2.2]) d (pre++[a]):=by
 have up:∀{i:Nat}{x:Int},O1[i]?=some x->(O1++[a.2.2])[i]?=some x:=λh=>wt h
 have hd:=(iK hc).1;refine⟨Xl.mpr ⟨o.nd,Xf.mpr ⟨XU,XN⟩,λx hx y hy=>?_⟩,up o.z,λx hx=>?_,λj j1 x hx=>?_,λi hi x hx b hb e=>?_,λx hx b hb e=>?_⟩
 .rw[f9 hy];rintro rfl;exact h2 hx
 .rcases jl hx with hx|hx
  .exact o.bd x hx
  .rw[f9 hx];exact hb
 .rcases kR hx with hx|⟨rfl,rfl⟩
  .obtain⟨b,hb,e1,k,hk,e2⟩:=o.rc j j1 x hx;exact⟨b,hb,e1,k,hk,up e2⟩
  .exact⟨a,ha,rfl,d,hd,by rw[h1];exact up hc⟩
 .rw[Xu @a]at hx;exact WR _ (o.clo i hi x hx b hb e)
 .rw[Xu hd]at hx;rcases jl hb with hb|hb
  .exact WR _ (o.cur x hx b hb e)
  .rw[W5]at hb;subst hb;exact WQ _ (W5.mpr rfl)
theorem Od.next(o:Od ap O1 d L)(hL:∀a∈ap,a∈L):Od ap O1 (d+1) []:=by
 refine⟨o.nd,o.z,o.bd,o.rc,λi hi x hx b hb e=>?_,λx _ b hb=>nomatch hb⟩;by_cases h:i=d
 .subst h;exact o.cur x hx b (hL b hb) e
 .exact o.clo i @a x hx b hb e
theorem Gu(ap:List KG)(O1:List Int)(hO:O1.length<=12)(d:Nat)(c:Int)(hc:O1[d]?=some c)(a:KG):bW [fq @v,fL (O1.map D.int),fI (d:Int),fI a.1,fq (.str a.2.1),fI a.2.2,none,none]=.ok (.nx [fq @v,fL ((if a.1=c/\a.2.2∉O1 then O1++[a.2.2] else O1).map D.int),fI (d:Int),fI a.1,fq (.str a.2.1),fI a.2.2,none,none]):=by
 have Mn:LI (O1.map D.int) (d:Int)=some (.int c):=cR (by rw[W2,hc];rfl);have hz:(O1.map D.int).length<sizeLine:=iM (by rw[aU];lia);unfold bW;by_cases h1:a.1=c
 .have e1:(a.1==c)=true:=Xx.mpr h1;by_cases h2:a.2.2∈O1
  .rw[W6 (λz=>z.2 h2)];simp?[Mn,e1,h2,Y5,Yb,cz]
  .rw[WV ⟨h1,h2⟩,Xd];simp?[Mn,e1,h2,YE,X8,hz]
 .rw[W6 (λz=>h1 z.1)];have e1:(a.1==c)=false:=XQ.mpr h1;simp?[Mn,e1,cz]
theorem CT(ap:List KG)(hl:ap.length<64)(hb:∀a∈ap,0<=a.2.2/\a.2.2<12):∃O1 t3 t4 t5,Od ap O1 O1.length []/\c6 [fq @v,fL [.int 0],fI 0,none,none,none,none,none]=.ok (.nx [fq @v,fL (O1.map D.int),fI (O1.length:Int),t3,t4,t5,none,none]):=by
 have mem:∀{a:KG},a∈aB aJ ap<->a∈ap:=il aJ;have TH:=pK ap hl;generalize aB aJ ap=L at mem TH;obtain⟨env',ew,O1,d,t3,t4,t5,o,hd,rfl⟩:=ox (c:=(eBl (aq ltO (ae 2) (af (aH eW (aa (ae 1) aj)))))) (g:=cI)
  (λk env=>∃O1 d t3 t4 t5,Od ap O1 d []/\d<=O1.length/\k=13-d/\env=[fq @v,fL (O1.map D.int),fI ((d:Nat):Int),t3,t4,t5,none,none]) (λenv=>∃O1 d t3 t4 t5,Od ap O1 d []/\d=O1.length/\env=[fq @v,fL (O1.map D.int),fI ((d:Nat):Int),t3,t4,t5,none,none]) (by
  rintro k env ⟨O1,d,t3,t4,t5,o,hd,rfl,rfl⟩;have h12:=o.le;by_cases K4:d<O1.length
  .refine .inr ⟨[fq @v,fL (O1.map D.int),fI ((d:Nat):Int),t3,t4,t5,none,none],?_,?_⟩
   .have:(d:Int)<(O1.length:Int):=by lia
    simp?[aU,this,Y5]
   .obtain⟨c,hc⟩:∃c,O1[d]?=some c:=⟨O1[d],iL K4⟩
    obtain⟨env',ef,O2,t3',t4',t5',o',OS,rfl⟩:=for_list (a:=gC 3 (aw (ao 3) (aw (ao 4) (aw (ao 5) b8)))) (g:=bW) (e:=eA) L (λj env=>∃O1 t3 t4 t5,Od ap O1 d (L.take j)/\O1[d]?=some c/\env=[fq @v,fL (O1.map D.int),fI ((d:Nat):Int),t3,t4,t5,none,none]) (by
     rintro j a env hj ⟨O1,t3,t4,t5,o,hc,rfl⟩;have TJ:=mem.mp (Xm hj);have ht:L.take (j+1)=L.take j++[a]:=by rw[Zm,hj];rfl
     refine⟨[fq @v,fL (O1.map D.int),fI ((d:Nat):Int),fI a.1,fq (.str a.2.1),fI a.2.2,none,none],by unfold eA;simp![pv,seval],_,Gu ap O1 o.le d c hc a,_,_,_,_,?_,?_,rfl⟩
     .rw[ht];split
      .rename_i h;exact o.take hc TJ (hb a TJ) h.1 h.2
      .rename_i h;exact o.skip hc (by
        by_cases h1:a.1=c
        .exact .inr (Decidable.not_not.mp λh2=>h ⟨h1,h2⟩)
        .exact .inl h1)
     .split
      .exact wt hc
      .exact hc) _ ⟨O1,t3,t4,t5,by rw[Z2];exact o,hc,rfl⟩
    rw[ZF]at o';have hlt':=(iK OS).1;refine⟨_,13-(d+1),?_,by lia,O2,d+1,t3',t4',t5',o'.next λa ha=>mem.mpr ha,by lia,rfl,rfl⟩;unfold cI;rw[ai (env':=_) (by
     unfold fB;simp?[TH];exact ef)]
    unfold eI;simp?[aan,Zf]
  .refine .inl ⟨_,?_,O1,d,t3,t4,t5,o,by lia,rfl⟩;have:¬ (d:Int)<(O1.length:Int):=by lia
   simp?[aU,this,YE]) 100000 13 _ @b ⟨[0],0,none,none,none,⟨Xf.mpr ⟨XU,XN⟩,rfl,λx hx=>by rw[f9 hx];lia,λj j1 x hx=>by
    have:=(iK hx).1;rw[Xb]at this;lia,λi hi=>absurd hi (Nat.not_lt_zero _),λx _ b hb=>nomatch hb⟩,Xw _,rfl,rfl⟩
 subst hd;refine⟨O1,t3,t4,t5,o,?_⟩;unfold c6;exact ew
structure Kp(nY:LNN)(ap:List KG)(O1:List Int)(pre:List KG)(K:List KG):Prop where
 b:∀a∈K,a.2.1∈nY/\(0<=a.1/\a.1<(O1.length:Int))/\0<=a.2.2/\a.2.2<(O1.length:Int)
 h:∀a∈pre,∀i k:Nat,O1[i]?=some a.1->O1[k]?=some a.2.2->((i:Int),a.2.1,(k:Int))∈K
 l:K.length<=pre.length
 nd:K.Nodup
theorem yL(nd:l.Nodup)(h1:l[i]?=some x)(h2:l[j]?=some x):i=j:=by
 obtain⟨a1,e1⟩:=iK h1;obtain⟨a2,e2⟩:=iK h2;have h3:=nd.idxOf_getElem i a1;have h4:=nd.idxOf_getElem j a2;rw[e1]at h3;rw[e2]at h4;exact h3.symm.trans h4
theorem Gv(nY:LNN)(ap:List KG)(O1:List Int)(o:Od ap O1 O1.length [])(pre K:List KG)(kp:Kp nY ap O1 pre K)(Lj:pre.length<=100)(a:KG)(ha:a∈ap)(hn:a.2.1∈nY)(D2 t7:Option R):∃K' u7,Kp nY ap O1 (pre++[a]) K'/\bV [fq @v,fL (O1.map D.int),D2,fI a.1,fq (.str a.2.1),fI a.2.2,fL (K.map eA),t7]=.ok (.nx [fq @v,fL (O1.map D.int),D2,fI a.1,fq (.str a.2.1),fI a.2.2,fL (K'.map eA),u7]):=by
 have My:=zZ a.1 O1;have TK:=kp.l;unfold bV;by_cases h1:a.1∈O1
 .rw[Xc h1]at My;obtain⟨i,hi,ei⟩:=Wy Gs rq wI O1 a.1 h1;have h2:=o.clo i (iK hi).1 _ hi a ha rfl;obtain⟨k,hk,ek⟩:=Wy Gs rq wI O1 a.2.2 h2;have li:=(iK hi).1;have lk:=(iK hk).1;have Qj:=yF K ((i:Int),a.2.1,(k:Int));have hz:(K.map eA).length<sizeLine:=iM (by rw[aU];lia);have ee:eA ((i:Int),a.2.1,(k:Int))=.tup [.int (i:Int),.str a.2.1,.int (k:Int)]:=rfl;rw[ee]at Qj;by_cases hm:((i:Int),a.2.1,(k:Int))∈K
  .rw[Xc hm]at Qj;refine⟨K,fq (.tup [.int (i:Int),.str a.2.1,.int (k:Int)]),⟨kp.b,λb hb i' k' e1 e2=>?_,by rw[gK];lia,kp.nd⟩,?_⟩
   .rcases jl hb with hb|hb
    .exact kp.h b hb i' k' e1 e2
    .rw[W5]at hb;subst hb;rw[yL o.nd e1 hi,yL o.nd e2 hk];exact hm
   .simp?[My,qV,ei,ek,Qj,Yb,cz]
  .rw[Xn hm]at Qj;refine⟨K++[((i:Int),a.2.1,(k:Int))],fq (.tup [.int (i:Int),.str a.2.1,.int (k:Int)]),⟨λb hb=>?_,λb hb i' k' e1 e2=>?_,by rw[gK,gK];simp![Xb];lia,Xl.mpr ⟨kp.nd,by simp,λx hx y hy e=>hm (by rw[<-f9 hy,<-e];exact hx)⟩⟩,?_⟩
   .rcases jl hb with hb|hb
    .exact kp.b b hb
    .rw[f9 hb];exact⟨hn,by dsimp only;lia,by dsimp only;lia,by dsimp only;lia⟩
   .rcases jl hb with hb|hb
    .exact WR _ (kp.h b hb i' k' e1 e2)
    .rw[W5]at hb;subst hb;rw[yL o.nd e1 hi,yL o.nd e2 hk];exact WQ _ (W5.mpr rfl)
   .rw[Xd,c8,XD,ee];simp?[My,qV,ei,ek,Qj,X8,hz]
 .rw[Xn h1]at My;refine⟨K,t7,⟨kp.b,λb hb i' k' e1 e2=>?_,by rw[gK];lia,kp.nd⟩,?_⟩
  .rcases jl hb with hb|hb
   .exact kp.h b hb i' k' e1 e2
   .rw[W5]at hb;subst hb;exact absurd (Xm e1) h1
  .simp?[My,cz]
theorem rA(nY:LNN)(ap:List KG)(hl:ap.length<=60)(bd:Bd nY ap):∃K mZ,Ra nY K mZ/\K.Nodup/\K.length<=ap.length/\cu [.lst (ap.map eA)]=.ok (.l .f,.lst ((aB aJ K).map eA)):=by
 obtain⟨O1,t3,t4,t5,o,ew⟩:=CT ap @a λa ha=>(bd.b a ha).2
 have h12:=o.le;have hz0:=(iK o.z).1;unfold cu ig;rw[aM (h:=by rfl)];rw[ai (env':=[fq @v,fL [.int 0],none,none,none,none,none,none]) (by simp?)];rw[ai (env':=[fq @v,fL [.int 0],fI 0,none,none,none,none,none]) (by simp?)];rw[ai ew];unfold eJ;rw[ai (env':=[fq @v,fL (O1.map D.int),fI (O1.length:Int),t3,t4,t5,fL [],none]) (by simp?)];obtain⟨env',ef,K,u3,u4,u5,u7,kp,rfl⟩:=for_list (a:=gC 3 (aw (ao 3) (aw (ao 4) (aw (ao 5) b8)))) (g:=bV) (e:=eA) ap (λj env=>∃K t3 t4 t5 t7,Kp nY ap O1 (ap.take j) K/\env=[fq @v,fL (O1.map D.int),fI (O1.length:Int),t3,t4,t5,fL (K.map eA),t7]) (by
  rintro j a env hj ⟨K,t3,t4,t5,t7,kp,rfl⟩;have TJ:=Xm hj;have ht:ap.take (j+1)=ap.take j++[a]:=by rw[Zm,hj];rfl
  obtain⟨K',u7,kp',e⟩:=Gv nY ap O1 o (ap.take j) K kp (by rw[XA];lia) a TJ (bd.n a TJ) (fI (O1.length:Int)) t7;exact⟨_,by unfold eA;simp![pv,seval],_,e,K',_,_,_,u7,by rw[ht];exact kp',rfl⟩) _ ⟨[],t3,t4,t5,none,⟨(λ_ h=>nomatch h),(λ_ h=>by rw[Z2]at h;exact nomatch h),Xw _,XN⟩,rfl⟩
 rw[ZF]at kp;have TK:=kp.l;rw[XD]at ef;rw[ai (env':=_) (by
  unfold fA;simp?;exact ef)]
 unfold eG;refine⟨K,O1.length,⟨by lia,by lia,λa ha=>(kp.b a ha).2,λa ha=>(kp.b a ha).1,λj j1 j2=>?_⟩,kp.nd,TK,by simp?[pK K @a]⟩;obtain⟨a,ha,e1,b,TL,e2⟩:=o.rc j j1 _ (iL j2);exact⟨_,kp.h a ha b j e2 (by rw[e1];exact iL j2),rfl,b,TL,rfl⟩
theorem Gw(ap:List KG):eqO @v (.lst [])=.ok (.f,.bl ap.isEmpty):=by
 unfold eqO;rw[plainD,kS 36 ap];cases ap <;> rfl
theorem yM(nY:LNN)(h0:nY≠[])(x:Int):∃m∈nY,ixD (.tup @h) (.int (x%(nY.length:Int)))=.ok (.f,.str m):=by
 have hp:=aah.mpr h0;have hb:=c9 x (nY.length:Int) @a;obtain⟨k,ek⟩:=Xg hb.1;have hk:k<nY.length:=by lia
 refine⟨nY[k],X6 hk,?_⟩;rw[ek,F0,F8 hk]
theorem CU(x y:List D)(h:x.length+y.length<=1000):bQ (.lst x) (.lst y)=.ok (.l .f,.lst (x++y)):=by
 rw[pH,WV (line_le @a)]
theorem Gx(h:l≠[]):PV.maxD [.lst (l.map D.int)]=.ok (.f,.int (dO l)):=by
 unfold PV.maxD;dsimp only;rw[z6];cases l with
 |nil=>exact absurd rfl h
 |cons a l=>rfl
def kh(ap:List KG):List Int:=0::ap.map j4
theorem Gy(nY:LNN)(h0:nY≠[])(hn:nY.length<=3)(ap:List KG)(hl:ap.length<=55)(bd:Bd nY ap)(nb:Int):∃ME,Bd nY ME/\ME.length<=ap.length+1/\dZ [.tup @h,.lst (ap.map eA),.int nb]=.ok (.l .f,.lst (ME.map eA)):=by
 have hc:b5 (ao 0) dR (aH PV.maxD (aa (af (aq ixD (ae 0) @g)) (aa (af (aq ixD (ae 0) (af (av (.int 2))))) aj))) (ap.map eA) [none]=.ok ((ap.map j4).map D.int):=by
  rw[bu (r:=λa:KG=>D.int (j4 a)) (λenv=>∃t,env=[t]) ap ?_ _ ⟨none,rfl⟩]
  .rw[Xq];rfl
  .rintro a _ env ⟨t,rfl⟩;refine⟨[fq (eA a)],rfl,.f,[fq (eA a)],?_,_,rfl⟩;unfold eA;simp![pv,seval,op,at2];rfl
 have Ma:((ap.map j4).map D.int).length<=sizeLine:=bg (by rw[aU,aU];lia);have P2:=KC (ap.map j4);have VG:=CU [.int 0] ((ap.map j4).map D.int) (by rw[aU,aU,Xb];lia);have Nx:PV.maxD [.lst ([.int 0]++(ap.map j4).map D.int)]=.ok (.f,.int (dO (kh ap))):=Gx (l:=kh ap) (by unfold kh;simp);have hM0:0<=dO (kh ap):=mr (ns:=kh ap) (x:=0) (by unfold kh;exact WJ);have hM12:dO (kh ap)<12:=by
  have:=qX (ns:=kh ap) (by unfold kh;simp);unfold kh at this;rcases WY.mp this with e|e
  .unfold kh;lia
  .obtain⟨a,ha,e2⟩:=mE e;have hb:=bd.b a ha;have h3:=(j5 a).2.2;unfold kh;lia
 have Wz:∀a∈ap,a.1<=dO (kh ap)/\a.2.2<=dO (kh ap):=λa ha=>by
  have h1:j4 a<=dO (kh ap):=mr (by unfold kh;exact WK _ (YJ.mpr ⟨a,ha,rfl⟩));have h2:=j5 a;lia
 unfold dZ jX;rw[aM (h:=by rfl)];rw[ai (env':=[fq (.tup @h),fq @v,fI nb,fI (1+dO (kh ap)),none,none,none,none,none,none,none]) (by
  generalize (aH PV.maxD (aa (af (aq ixD (ae 0) @g)) (aa (af (aq ixD (ae 0) (af (av (.int 2))))) aj)))=GG at hc |-;generalize (ap.map j4).map D.int=TT at *;simp![pv,seval,op,hc,Ma,P2];simp![YI,Zj]at VG Nx;simp![pv,seval,op,VG,Nx])]
 have hcb:1<=1+dO (kh ap)/\1+dO (kh ap)<=12:=by lia
 have VH:∀a∈ap,a.1<1+dO (kh ap)/\a.2.2<1+dO (kh ap):=λa ha=>by
  have:=Wz a ha;lia
 generalize 1+dO (kh ap)=c at hcb VH;clear hM0 hM12 Wz Nx VG hc Ma P2;have RJ:0<(if 12<c+1 then 12 else c+1)/\(if 12<c+1 then 12 else c+1)<=12:=by split <;> lia
 have SR:=c9 (nb / 128) (if 12<c+1 then 12 else c+1) RJ.1;have WA:=gL (nb / 128) (if 12<c+1 then 12 else c+1) RJ.1;rw[ai (env':=[fq (.tup @h),fq @v,fI nb,fI c,fI (nb / 128%(if 12<c+1 then 12 else c+1)),none,none,none,none,none,none]) (by simp![pv,seval,op,d7 _ 128 @b @b,WA])];have hot:0<=nb / 128%(if 12<c+1 then 12 else c+1)/\nb / 128%(if 12<c+1 then 12 else c+1)<12:=by lia
 generalize nb / 128%(if 12<c+1 then 12 else c+1)=ot at hot;clear SR WA RJ;obtain⟨mv,Mj,emv⟩:=yM nY h0 (nb / 2048);have hp:=aah.mpr h0;rw[ai (env':=[fq (.tup @h),fq @v,fI nb,fI c,fI ot,fq (.str mv),none,none,none,none,none]) (by simp![pv,seval,op,d7 _ 2048 @b @b,aU,gL _ (nY.length:Int) @a,emv])];have R9:=Gw ap;have m5:=gL nb 5 @b;have mc:=c9 (nb / 8) c @a;have m8:=gL (nb / 8) c @a;have d8:=d7 nb 8 @b @b;have app:∀(l:List KG) (a:KG),l.length<=60->bQ (.lst (l.map eA)) (.lst [eA a])=.ok (.l .f,.lst ((l++[a]).map eA)):=λl a h=>by
  rw[CU _ _ (by rw[aU,Xb];lia),Xd];rfl
 have RK:∀(l:List KG) (a:KG),(∀x∈l,x∈ap)->((0<=a.1/\a.1<12)/\0<=a.2.2/\a.2.2<12)->a.2.1∈nY->Bd nY (l++[a]):=λl a MU hb WB=>by
  refine⟨λx hx=>?_,λx hx=>?_⟩
  .rcases jl hx with hx|hx
   .exact bd.b x (MU x hx)
   .rw[f9 hx];exact hb
  .rcases jl hx with hx|hx
   .exact bd.n x (MU x hx)
   .rw[f9 hx];exact WB
 by_cases h3:ap.isEmpty=true\/(nb%5==3)=true
 .have ha:=app ap (nb / 8%c,mv,ot) @a;refine⟨ap++[(nb / 8%c,mv,ot)],RK ap _ (λx hx=>hx) (by dsimp only;lia) Mj,by rw[gK];exact WU _,?_⟩;rw[show eA (nb / 8%c,mv,ot)=.tup [.int (nb / 8%c),.str mv,.int ot] from rfl]at ha;cases hE:ap.isEmpty with
  |true=>
   rw[hE]at R9;simp![pv,seval,op,R9,m8,d8,ha]
  |false=>
   rw[hE]at R9 h3;have h3:=h3.resolve_left WT;simp![pv,seval,op,R9,m5,h3,m8,d8,ha,cz]
 .have hE:ap.isEmpty=false:=YO.mpr λh=>h3 (.inl h)
  have e3:(nb%5==3)=false:=YO.mpr λh=>h3 (.inr h)
  rw[hE]at R9;have Oi:0<ap.length:=by
   cases ap with
   |nil=>cases hE
   |cons _ _=>exact Nat.succ_pos _
  rw[ai (env':=[fq (.tup @h),fq @v,fI nb,fI c,fI ot,fq (.str mv),none,none,none,none,none]) (by simp![pv,seval,op,R9,m5,e3,cz])];have ms:=c9 (nb / 16384) (ap.length:Int) @a;obtain⟨sp,es⟩:=Xg ms.1;have Mv:sp<ap.length:=by lia
  rw[ai (env':=[fq (.tup @h),fq @v,fI nb,fI c,fI ot,fq (.str mv),fI (sp:Int),none,none,none,none]) (by simp![pv,seval,op,d7 _ 16384 @b @b,aU,gL _ (ap.length:Int) @a,es])];have Mn:LI (ap.map eA) (sp:Int)=some (eA ap[sp]):=cR (by rw[W2,iL Mv];rfl);have QR:=X6 Mv;generalize ap[sp]=a at Mn QR;rw[ai (env':=[fq (.tup @h),fq @v,fI nb,fI c,fI ot,fq (.str mv),fI (sp:Int),fq (eA a),none,none,none]) (by simp![pv,seval,op,Mn])];have TM:gD (ap.map eA) none (some (sp:Int))=(ap.take sp).map eA:=by rw[jm,aaS]
  have OD:gD (ap.map eA) (some ((sp:Int)+1)) none=(ap.drop (sp+1)).map eA:=by rw[show(sp:Int)+1=((sp+1:Nat):Int) by lia,qU,List.map_drop]
  have MU:∀x∈ap.take sp++ap.drop (sp+1),x∈ap:=λx hx=>by
   rcases jl hx with h|h
   .exact Zv h
   .exact Z9 h
  have Vc:(ap.take sp++ap.drop (sp+1)).length<=ap.length:=by
   rw[gK,XA,Yo];lia
  have TQ:=CU ((ap.take sp).map eA) ((ap.drop (sp+1)).map eA) (by rw[aU,aU];rw[gK]at Vc;lia);rw[<-Xd]at TQ;generalize ap.take sp++ap.drop (sp+1)=aZ at *;rw[ai (env':=[fq (.tup @h),fq @v,fI nb,fI c,fI ot,fq (.str mv),fI (sp:Int),fq (eA a),fL (aZ.map eA),none,none]) (by simp![pv,seval,op,TM,OD,TQ])];cases e0:(nb%5==0) with
  |true=>
   refine⟨aZ,⟨λx hx=>bd.b x (MU x hx),λx hx=>bd.n x (MU x hx)⟩,by lia,?_⟩;simp![pv,seval,op,m5,e0]
  |false=>
   rw[ai (env':=[fq (.tup @h),fq @v,fI nb,fI c,fI ot,fq (.str mv),fI (sp:Int),fq (eA a),fL (aZ.map eA),none,none]) (by simp![pv,seval,op,m5,e0,cz])];have hba:=bd.b a QR;have hna:=bd.n a QR;cases e1:(nb%5==1) with
   |true=>
    have ha:=app aZ (a.1,a.2.1,ot) @a;refine⟨aZ++[(a.1,a.2.1,ot)],RK aZ _ MU (by dsimp only;lia) hna,by rw[gK,Xb];lia,?_⟩;rw[show eA (a.1,a.2.1,ot)=.tup [.int a.1,.str a.2.1,.int ot] from rfl]at ha;rw[show eA a=.tup [.int a.1,.str a.2.1,.int a.2.2] from rfl];simp![pv,seval,op,m5,e1,ha]
   |false=>
    rw[ai (env':=[fq (.tup @h),fq @v,fI nb,fI c,fI ot,fq (.str mv),fI (sp:Int),fq (eA a),fL (aZ.map eA),none,none]) (by simp![pv,seval,op,m5,e1,cz])];by_cases h2:(nb%5==2)=true\/(c==1)=true
    .have ha:=app aZ (a.1,mv,a.2.2) @a;refine⟨aZ++[(a.1,mv,a.2.2)],RK aZ _ MU (by dsimp only;lia) Mj,by rw[gK,Xb];lia,?_⟩;rw[show eA (a.1,mv,a.2.2)=.tup [.int a.1,.str mv,.int a.2.2] from rfl]at ha;rw[show eA a=.tup [.int a.1,.str a.2.1,.int a.2.2] from rfl];cases e2:(nb%5==2) with
     |true=>simp![pv,seval,op,m5,e2,at2,ha]
     |false=>
      rw[e2]at h2;have h2:=h2.resolve_left WT;simp![pv,seval,op,m5,e2,h2,at2,ha,cz]
    .have e2:(nb%5==2)=false:=YO.mpr λh=>h2 (.inl h)
     have ec:(c==1)=false:=YO.mpr λh=>h2 (.inr h)
     have hc1:c≠1:=XQ.mp ec;rw[ai (env':=[fq (.tup @h),fq @v,fI nb,fI c,fI ot,fq (.str mv),fI (sp:Int),fq (eA a),fL (aZ.map eA),none,none]) (by simp![pv,seval,op,m5,e2,ec,cz])];have mg:=c9 (nb / 8) (c-1) @a;obtain⟨gn,eg⟩:=Xg (show 0<=1+nb / 8%(c-1) by lia);rw[ai (env':=[fq (.tup @h),fq @v,fI nb,fI c,fI ot,fq (.str mv),fI (sp:Int),fq (eA a),fL (aZ.map eA),fI (gn:Int),none]) (by simp![pv,seval,op,d8,gL _ (c-1) @a,eg])];obtain⟨cn,rfl⟩:=Xg (show 0<=c by lia);have hce:b5 (ao 0) dR (ax 0) ((List.range cn).map λ(k:Nat)=>D.int (k:Int)) [none]=.ok (((List.range cn).map λ(k:Nat)=>(k:Int)).map D.int):=by
      rw[bu (r:=λk:Nat=>D.int (k:Int)) (λenv=>∃t,env=[t]) (List.range cn) ?_ _ ⟨none,rfl⟩]
      .rw[Xq];rfl
      .rintro k _ env ⟨t,rfl⟩;exact⟨[fI (k:Int)],rfl,.f,_,rfl,_,rfl⟩
     have hle:(((List.range cn).map λ(k:Nat)=>(k:Int)).map D.int).length<=sizeLine:=bg (by rw[aU,aU,Xk];lia);have UD:=KC ((List.range cn).map λ(k:Nat)=>(k:Int));have Te:((List.range cn).map λ(k:Nat)=>(k:Int)).length=cn:=by rw[aU,Xk]
     have hev:∀x∈((List.range cn).map λ(k:Nat)=>(k:Int)),0<=x/\x<(cn:Int):=λx hx=>by
      obtain⟨k,hk,rfl⟩:=mE hx;have:=Xp.mp hk;lia
     generalize ((List.range cn).map λ(k:Nat)=>(k:Int))=en at *;rw[ai (env':=[fq (.tup @h),fq @v,fI nb,fI (cn:Int),fI ot,fq (.str mv),fI (sp:Int),fq (eA a),fL (aZ.map eA),fI (gn:Int),fL (en.map D.int)]) (by
      simp![pv,seval,op];rw[WV @a];simp![pv,seval,op,YN,hce,hle,UD])]
     have LS:ixN en.length (gn:Int)=some gn:=wj _ _ @a;have mo:=c9 ot (cn:Int) @a;rw[ai (env':=[fq (.tup @h),fq @v,fI nb,fI (cn:Int),fI ot,fq (.str mv),fI (sp:Int),fq (eA a),fL (aZ.map eA),fI (gn:Int),fL (((en.set gn (ot%(cn:Int))).map D.int))]) (by
      rw[List.map_set];simp![pv,seval,op,gL ot (cn:Int) @a,aU,LS])]
     have Vd:(en.set gn (ot%(cn:Int))).length=cn:=by rw[XB];exact Te
     have WC:∀x∈en.set gn (ot%(cn:Int)),0<=x/\x<(cn:Int):=λx hx=>by
      rcases aaw hx with h|h
      .exact hev x h
      .rw[h];exact mo
     generalize en.set gn (ot%(cn:Int))=MH at Vd WC;have P5:∀s:Int,0<=s->s<(cn:Int)->LI (MH.map D.int) s=some (.int (MH.getD s.toNat 0))/\0<=MH.getD s.toNat 0/\MH.getD s.toNat 0<(cn:Int):=λs hs0 Qm=>by
      obtain⟨k,rfl⟩:=Xg hs0;have hk:k<MH.length:=by lia
      rw[YN];refine⟨jZ hk,?_⟩;rw[W8,iL hk];exact WC _ (X6 hk)
     have Sh:b5 @m dR (du (ah (aq ixD (ae 3) (ae 0)) (ah (ax 1) (ah (aq ixD (ae 3) (ae 2)) aF)))) (ap.map eA) [none,none,none,fq (.lst (MH.map D.int))]=.ok ((ap.map λa=>((MH.getD a.1.toNat 0,a.2.1,MH.getD a.2.2.toNat 0):KG)).map eA):=by
      rw[bu (r:=λa:KG=>eA (MH.getD a.1.toNat 0,a.2.1,MH.getD a.2.2.toNat 0)) (λenv=>∃t u v,env=[t,u,v,fq (.lst (MH.map D.int))]) ap ?_ _ ⟨none,none,none,rfl⟩]
      .rw[Xq];rfl
      .rintro b hb env ⟨t,u,v,rfl⟩;have N8:=bd.b b hb;have OO:=VH b hb;have i1:=(P5 b.1 N8.1.1 OO.1).1;have i2:=(P5 b.2.2 N8.2.1 OO.2).1;refine⟨[fI b.1,fq (.str b.2.1),fI b.2.2,fq (.lst (MH.map D.int))],by unfold eA;simp![pv,seval],.f,[fI b.1,fq (.str b.2.1),fI b.2.2,fq (.lst (MH.map D.int))],?_,_,_,_,rfl⟩;unfold eA;simp![pv,seval,op,i1,i2]
     refine⟨ap.map λa=>((MH.getD a.1.toNat 0,a.2.1,MH.getD a.2.2.toNat 0):KG),⟨λx hx=>?_,λx hx=>?_⟩,by rw[aU];lia,?_⟩
     .obtain⟨b,hb,rfl⟩:=mE hx;have N8:=bd.b b hb;have OO:=VH b hb;have i1:=(P5 b.1 N8.1.1 OO.1).2;have i2:=(P5 b.2.2 N8.2.1 OO.2).2;dsimp only;lia
     .obtain⟨b,hb,rfl⟩:=mE hx;exact bd.n b hb
     .have hlc:((ap.map λa=>((MH.getD a.1.toNat 0,a.2.1,MH.getD a.2.2.toNat 0):KG)).map eA).length<=sizeLine:=bg (by rw[aU,aU];lia);have UE:=mq (ap.map λa=>((MH.getD a.1.toNat 0,a.2.1,MH.getD a.2.2.toNat 0):KG));generalize (du (ah (aq ixD (ae 3) (ae 0)) (ah (ax 1) (ah (aq ixD (ae 3) (ae 2)) aF))))=GG at Sh |-;simp![pv,seval,op,Sh,hlc,UE]
abbrev Gt:=Int×List Int×LNN
noncomputable def wD(w:LNN):D:=.tup (w.map D.str)
def vG(n:Gt):D:=.tup [eM n.2.1,wD n.2.2]
def dG(N:List Gt):D:=.dct false (N.map λn=>D.int n.1) (N.map vG)
theorem CV:∀(N:List Gt) (s:Int),getD (N.map λn=>D.int n.1) (N.map vG) (.int s)=(N.find? λn=>n.1==s).map vG
 |[],s=>rfl
 |z::L,s=>by
  have ih:=CV L s;unfold getD at ih |-;rw[c8,c8,Y2];by_cases e:z.1=s
  .rw[XX (by show Kv (.int s) (.int z.1)=true;rw[Kv,Xx];exact e.symm),XX (by simpa using e)];rfl
  .rw[XY (by show ¬ Kv (.int s) (.int z.1)=true;rw[Kv,Xx];exact λq=>e q.symm),XY (by simpa using e)];exact ih
theorem kW:∀{N:List Gt},(N.map (·.1)).Nodup->∀{n:Gt},n∈N->(N.find? λz=>z.1==n.1)=some n
 |z::N,nd,n,h=>by
  rw[c8,Xf]at nd;rcases WY.mp h with e|h
  .subst e;rw[XX @t]
  .rw[XY (by
    simp![Xx];intro e;exact nd.1 (e▸YJ.mpr ⟨n,h,rfl⟩))]
   exact kW nd.2 h
variable{s:Int}{N:List Gt}{n:Gt}
theorem Hm(h:(N.find? λz=>z.1==s)=some n):dgD (dG N) (.int s)=.ok (.f,vG n):=by
 unfold dgD dG;dsimp only;rw[WV (show bR false (.int s)=true from rfl),CV,h];rfl
theorem IP(N:List Gt)(s:Int):qE (.int s) (dG N)=.ok (.f,.bl (N.find? λz=>z.1==s).isNone):=by
 unfold qE dG;dsimp only;rw[WV (show bR false (.int s)=true from rfl),CV];cases(N.find? λz=>z.1==s) <;> rfl
theorem IQ(h:(N.find? λz=>z.1==s)=none)(m:List Int)(w:LNN):kj (N.map λn=>D.int n.1) (N.map vG) (.int s) (.tup [eM m,wD w])=((N++[(s,m,w)]).map (λn=>D.int n.1),(N++[(s,m,w)]).map vG):=by
 rw[Ye]at h;have e:(N.map λn=>D.int n.1).any (Kv (.int s))=false:=by
  rw[YC,List.any_eq_false];intro x hx;show ¬ Kv (.int s) (.int x.1)=true;rw[Kv,Xx];intro q;exact h x hx (by simp[q])
 unfold kj;rw[e,W6 WT,Xd,Xd];rfl
theorem fF(w:LNN):flatD (wD w)=true:=by
 unfold wD;rw[bO,PV.flat_strs]
theorem CW(n:Gt):flatD (vG n)=true:=by
 unfold vG;rw[bO];simp![flatDs,kU,fF,Yf]
theorem yN(N:List Gt):flatDs (N.map vG)=true:=qW λn=>CW n
theorem CY(i:Nat)(f g:FX)(env:PV.Env):sPutP i f g env=Res.bnd (g env) (f:=⟨λ(p:R×PV.Env)=>Res.bnd (f p.2) (f:=⟨λ(q:R×PV.Env)=>match p.2[i]?,q.2[i]? with
 |some (some _),some (some (.pin pp .d,.dct tk ks vs))=>if bR tk q.1.2&&decide (ks.length<sizeLine) then .ok (.nx (q.2.set i (some (.pin pp .d,.dct tk (kj ks vs q.1.2 p.1.2).1 (kj ks vs q.1.2 p.1.2).2)))) else .bad
 |_,_=>.bad⟩)⟩):=id rfl
def Af(w w':LNN):D:=.tup [.str [111,110,101],wD w,wD w']
def Jq(w w':LNN):D:=.tup [.str [116,119,111],wD w,wD w']
noncomputable def sU(s:Int)(m:List Int)(n:Gt):Bool:=!(n.1==s)&&decide (n.2.1=m)
def iN(N:List Gt)(s:Int)(m:List Int)(w:LNN):D ⊕ List Gt:=match N.find? (sU s m) with
 |some n=>.inl (Af n.2.2 w)
 |none=>match N.find? (λn=>n.1==s) with
  |none=>.inr (N++[(s,m,w)])
  |some n=>if n.2.1=m then .inr N else .inl (Jq n.2.2 w)
theorem IS(a b:List Int):eqO (eM a) (eM b)=.ok (.f,.bl (decide (a=b))):=by
 unfold eqO;rw[fE,fE,pM];rfl
theorem CZ(a b:List Int):neO (eM a) (eM b)=.ok (.f,.bl (!decide (a=b))):=by
 unfold neO;rw[fE,fE,pM];rfl
theorem OQ(a b:D):ixD (.tup [a,b]) (.int 0)=.ok (.f,a):=rfl
theorem VI(a b:D):ixD (.tup [a,b]) (.int 1)=.ok (.f,b):=rfl
theorem C0(N:List Gt)(nd:(N.map (·.1)).Nodup)(s:Int)(m:List Int)(w:LNN)(p:WP)(n:Gt)(hn:n∈N):
  cZ [some (.pin p .f,dG N),fI s,fq (eM m),fq (wD w),fI n.1]=if sU s m n then .ok (.rt (.t [.f,.pin p .f],.tup [Af n.2.2 w,dG N])) else .ok (.nx [some (.pin p .f,dG N),fI s,fq (eM m),fq (wD w),fI n.1]):=by
 have hd:=Hm (kW nd hn);have he:=IS n.2.1 m;have f1:=fF n.2.2;unfold vG at hd;unfold cZ sU;generalize hG:dG N=GG at hd |-;cases h1:(n.1==s) with
 |true=>simp?[h1,Yb,Zx,cz]
 |false=>
  cases h2:decide (n.2.1=m) with
  |false=>simp?[h1,h2,hd,OQ,he,X8,aaT,cz]
  |true=>
   simp?[fC,h1,h2,hd,OQ,VI,he,X8,aaT];rfl
theorem oE(N:List Gt)(nd:(N.map (·.1)).Nodup)(s:Int)(m:List Int)(w:LNN)(p:WP):∀(L:List Gt),(∀n∈L,n∈N)->∀t4:Option R,
  match L.find? (sU s m) with
  |some n=>cU (ao 4) cZ (L.map λn=>D.int n.1) [some (.pin p .f,dG N),fI s,fq (eM m),fq (wD w),t4]=.ok (.rt (.t [.f,.pin p .f],.tup [Af n.2.2 w,dG N]))
  |none=>∃t,(t=t4\/∃k:Int,t=fI k)/\cU (ao 4) cZ (L.map λn=>D.int n.1) [some (.pin p .f,dG N),fI s,fq (eM m),fq (wD w),t4]=.ok (.nx [some (.pin p .f,dG N),fI s,fq (eM m),fq (wD w),t])
 |[],_,t4=>⟨t4,.inl rfl,rfl⟩
 |n::L,h,t4=>by
  have hi:=C0 N nd s m w p n (h n WJ);have ha:ao 4 (.int n.1) [some (.pin p .f,dG N),fI s,fq (eM m),fq (wD w),t4]=.ok [some (.pin p .f,dG N),fI s,fq (eM m),fq (wD w),fI n.1]:=rfl;cases hc:sU s m n with
  |true=>
   rw[XX hc];rw[hc,WV rfl]at hi;show cU _ _ (D.int n.1::L.map _) _=_;rw[bJ,ha,KZ,hi,KZ]
  |false=>
   rw[XY (by rw[hc];exact WT)];rw[hc,W6 WT]at hi;have ih:=oE N nd s m w p L (λn hn=>h n (WK _ hn)) (fI n.1);cases hf:L.find? (sU s m) with
   |some n'=>
    rw[hf]at ih;dsimp only at ih |-;show cU _ _ (D.int n.1::L.map _) _=_;rw[bJ,ha,KZ,hi,KZ];exact ih
   |none=>
    rw[hf]at ih;dsimp only at ih |-;obtain⟨t,ht,e⟩:=ih;refine⟨t,.inr (ht.elim (λz=>⟨n.1,z⟩) id),?_⟩;show cU _ _ (D.int n.1::L.map _) _=_;rw[bJ,ha,KZ,hi,KZ];exact e
def C1(N:List Gt):D ⊕ List Gt->D×D
 | .inl d=>(d,dG N)
 | .inr N'=>(.non,dG N')
theorem Gz(N:List Gt)(nd:(N.map (·.1)).Nodup)(hN:N.length<=100)(s:Int)(m:List Int)(w:LNN)(p:WP):nX p [dG N,.int s,eM m,wD w]=.ok (.t [.f,.pin p .d],.tup [(C1 N (iN N s m w)).1,(C1 N (iN N s m w)).2]):=by
 have fm:=kU m;have fw:=fF w;have Qz:=oE N nd s m w p N (λ_ h=>h) none;unfold nX zX;rw[yD (h:=by rfl)];have e0:(dG N)=.dct false (N.map λn=>D.int n.1) (N.map vG):=rfl;unfold iN;cases hf:N.find? (sU s m) with
 |some n=>
  rw[hf]at Qz;dsimp only at Qz |-;have e:hU [some (.pin p .d,dG N),fI s,fq (eM m),fq (wD w),none]=.ok (.rt (.t [.f,.pin p .d],.tup [Af n.2.2 w,dG N])):=by
   unfold hU;show(cU (ao 4) cZ (N.map λn=>D.int n.1) [some (.pin p .f,dG N),fI s,fq (eM m),fq (wD w),none]).bind (sM 0 p (dG N))=_;rw[Qz];show(if decide (p=p)&&ay .f (Af n.2.2 w) then Res.ok (Out.rt (.t [.f,.pin p .d],.tup [Af n.2.2 w,dG N])) else .bad)=_;have fr:ay .f (Af n.2.2 w)=true:=by
    unfold Af;rw[ay,bO];simp![flatDs,fF,flatD,Yf]
   rw[fr,Xc rfl];rfl
  simp![List.map,List.replicate,YI,Zj];rw[K8,e,KZ];rfl
 |none=>
  rw[hf]at Qz;dsimp only at Qz |-;obtain⟨t,ht,Qz⟩:=Qz;have e:hU [some (.pin p .d,dG N),fI s,fq (eM m),fq (wD w),none]=.ok (.nx [some (.pin p .d,dG N),fI s,fq (eM m),fq (wD w),t]):=by
   unfold hU;show(cU (ao 4) cZ (N.map λn=>D.int n.1) [some (.pin p .f,dG N),fI s,fq (eM m),fq (wD w),none]).bind (sM 0 p (dG N))=_;rw[Qz];show(if ym 0 p [some (.pin p .f,dG N),fI s,fq (eM m),fq (wD w),t]&&cleanE 0 [some (.pin p .f,dG N),fI s,fq (eM m),fq (wD w),t] then Res.ok (Out.nx [some (.pin p .d,dG N),fI s,fq (eM m),fq (wD w),t]) else .bad)=_;have f1:ym 0 p [some (.pin p .f,dG N),fI s,fq (eM m),fq (wD w),t]=true:=by
    show decide (p=p)=true;exact Xc rfl
   have f2:cleanE 0 [some (.pin p .f,dG N),fI s,fq (eM m),fq (wD w),t]=true:=by
    rcases ht with e|⟨k,e⟩ <;> subst e <;> simp![cleanE,List.set_cons_zero,Zo,List.all_nil,ay,fm,fw,flatD,Yf]
   rw[f1,f2];rfl
  simp![List.map,List.replicate,YI,Zj];rw[ai e];have hn:=IP N s;unfold nW;cases hs:N.find? λn=>n.1==s with
  |none=>
   rw[hs]at hn;have hp:=IQ hs m w;have hz:(N.map λn=>D.int n.1).length<sizeLine:=iM (by rw[aU];lia);have e2:sPutP 0 (ax 1) (du (ah (ax 2) (ah (ax 3) aF))) [some (.pin p .d,dG N),fI s,fq (eM m),fq (wD w),t]=.ok (.nx [some (.pin p .d,dG (N++[(s,m,w)])),fI s,fq (eM m),fq (wD w),t]):=by
    rw[CY];unfold dG;simp?[hp,hz,Y5];rfl
   rw[ai (env':=[some (.pin p .d,dG (N++[(s,m,w)])),fI s,fq (eM m),fq (wD w),t]) (by
    generalize dG (N++[(s,m,w)])=G2 at e2 |-;generalize dG N=G1 at e2 hn |-;generalize (sPutP 0 (ax 1) (du (ah (ax 2) (ah (ax 3) aF))))=TT at e2 |-;simp?[hn,Option.isNone_none,e2])]
   show _=Res.ok (O.t [.f,.pin p .d],D.tup [.non,dG (N++[(s,m,w)])]);generalize dG (N++[(s,m,w)])=G2;simp?[fC]
  |some n=>
   rw[hs]at hn;have hd:=Hm hs;unfold vG at hd;have LB:=CZ n.2.1 m;by_cases hm:n.2.1=m
   .rw[Xc hm]at LB;dsimp only;rw[WV hm];show _=Res.ok (O.t [.f,.pin p .d],D.tup [.non,dG N]);generalize dG N=G1 at hd hn |-;rw[ai (env':=[some (.pin p .d,G1),fI s,fq (eM m),fq (wD w),t]) (by simp?[hn,ZU,hd,OQ,LB,Yb,cz])];simp?[fC]
   .rw[Xn hm]at LB;dsimp only;rw[W6 hm];show _=Res.ok (O.t [.f,.pin p .d],D.tup [Jq n.2.2 w,dG N]);generalize dG N=G1 at hd hn |-;rw[K8];simp?[fC,hn,ZU,hd,OQ,VI,LB,X8,cz];rfl
noncomputable def cG(ap:List KG)(s:Int)(m:List Nat):List Int:=(ap.filter λa=>a.1==s&&a.2.1==m).map λa=>a.2.2
theorem wJ(nY:LNN)(ap:List KG)(s:Int)(m:List Nat)(hl:ap.length<=16777216):hJ [Ky nY ap,.int s,.str m]=.ok (.l .f,.lst ((cG ap s m).map D.int)):=by
 unfold hJ nV;rw[aM (h:=by rfl)];simp?[Ky];rw[mf (p:=λa:KG=>a.1==s&&a.2.1==m) (r:=λa:KG=>D.int a.2.2) (λenv=>∃t1 t2 t3,env=[t1,t2,t3,fI s,fq (.str m)]) ap ?_ _ ⟨_,_,_,rfl⟩]
 .rw[KZ,WV (mn hl),KZ];unfold cG;rw[Xq];rfl
 .rintro a _ env ⟨t1,t2,t3,rfl⟩;refine⟨_,gH a t1 t2 t3 _,?_⟩;simp?;cases h1:a.1==s with
  |true=>
   cases h2:a.2.1==m with
   |true=>exact⟨_,rfl,_,_,rfl,_,_,_,rfl⟩
   |false=>exact⟨_,rfl,_,_,_,rfl⟩
  |false=>exact⟨_,rfl,_,_,_,rfl⟩
def GA(w:LNN)(mv:List Nat):D:=.tup [.str [115,116,117,99,107],wD w,.str mv]
def GC(w:LNN)(mv:List Nat):D:=.tup [.str [102,114,101,101],wD w,.str mv]
abbrev So:=Option D×List Gt
def bx(N:List Gt)(s:Int)(m:List Int)(w:LNN):So:=match iN N s m w with
 | .inl d=>(some d,N)
 | .inr N'=>(none,N')
def a7(m:List Int)(w:LNN):List Int->List Gt->So
 |[],N=>(none,N)
 |s::ss,N=>match bx N s m w with
  |(some d,N')=>(some d,N')
  |(none,N')=>a7 m w ss N'
def b9(nY:LNN)(ps:List Pl)(ap:List KG)(n:Gt)(mv:List Nat)(N:List Gt):So:=match aS (nY.idxOf mv) (n.2.1.zip ps),cG ap n.1 mv with
 |none,[]=>(none,N)
 |none,_::_=>(some (GA n.2.2 mv),N)
 |some _,[]=>(some (GC n.2.2 mv),N)
 |some t,s::ss=>a7 t (n.2.2++[mv]) (s::ss) N
def aE(nY:LNN)(ps:List Pl)(ap:List KG)(n:Gt):LNN->List Gt->So
 |[],N=>(none,N)
 |mv::r,N=>match b9 nY ps ap n mv N with
  |(some d,N')=>(some d,N')
  |(none,N')=>aE nY ps ap n r N'
structure Iv(N:List Gt):Prop where
 nd:(N.map (·.1)).Nodup
 bd:∀n∈N,0<=n.1/\n.1<12
 wl:∀(k:Nat) (n:Gt),N[k]?=some n->n.2.2.length<=k
theorem Iv.le(i:Iv N):N.length<=12:=by
 have:=jo 12 i.nd (λx hx=>by
  obtain⟨n,hn,e⟩:=mE hx;rw[<-e];exact i.bd n hn)
 rwa [aU]at this
structure Gr(N N':List Gt)(o:Option D):Prop where
 iv:Iv N'
 ex:∃more,N'=N++more
 fl:flatD (o.getD .non)=true
theorem Gr.refl(i:Iv N):Gr N N none:=⟨i,⟨[],(Xe N).symm⟩,rfl⟩
variable{N':List Gt}{o:Option D}
theorem Gr.trans(a:Gr N N' o)(b:Gr N' N2 o'):Gr N N2 o':=by
 obtain⟨m1,e1⟩:=a.ex;obtain⟨m2,e2⟩:=b.ex;exact⟨b.iv,⟨m1++m2,by rw[e2,e1,XI]⟩,b.fl⟩
theorem Gr.le(a:Gr N N' o):N.length<=N'.length:=by
 obtain⟨m,e⟩:=a.ex;rw[e,gK];lia
theorem yO(l:List Nat)(a b:D)(ha:flatD a=true)(hb:flatD b=true):flatD (.tup [.str l,a,b])=true:=by
 rw[bO];simp![flatDs,ha,hb,flatD,Yf]
variable{w:LNN}
theorem my(i:Iv N)(hs:0<=s/\s<12)(m:List Int)(hw:w.length<=N.length):Gr N (bx N s m w).2 (bx N s m w).1:=by
 unfold bx iN;split
 .rename_i d hd;refine⟨i,⟨[],(Xe N).symm⟩,?_⟩;split at hd
  .cases hd;exact yO _ _ _ (fF _) (fF _)
  .split at hd
   .cases hd
   .split at hd
    .cases hd
    .cases hd;exact yO _ _ _ (fF _) (fF _)
 .rename_i N' hd;split at hd
  .cases hd
  .split at hd
   .rename_i hf;cases hd;rw[Ye]at hf;refine⟨⟨?_,λn hn=>?_,λk n hk=>?_⟩,⟨_,rfl⟩,rfl⟩
    .rw[Xd];refine Xl.mpr ⟨i.nd,Xf.mpr ⟨XU,XN⟩,λx hx y hy e=>?_⟩;obtain⟨n,hn,en⟩:=mE hx;have hy:y=s:=f9 hy;exact hf n hn (by rw[Xx,en,e,hy])
    .rcases jl hn with hn|hn
     .exact i.bd n hn
     .rw[f9 hn];exact hs
    .rcases kR hk with h|⟨e1,e2⟩
     .exact i.wl k n h
     .rw[e2,e1];exact hw
   .split at hd
    .cases hd;exact Gr.refl i
    .cases hd
theorem mz(m:List Int)(w:LNN):∀(ss:List Int) {N:List Gt},Iv N->(∀s∈ss,0<=s/\s<12)->w.length<=N.length->Gr N (a7 m w ss N).2 (a7 m w ss N).1
 |[],N,i,_,_=>Gr.refl i
 |s::ss,N,i,hs,hw=>by
  have g:=my i (hs s WJ) m hw;unfold a7;split
  .rename_i d N' e;rw[e]at g;exact g
  .rename_i N' e;rw[e]at g;exact g.trans (mz m w ss g.iv (λx hx=>hs x (WK _ hx)) (Xz hw g.le))
theorem pN(hb:∀a∈ap,0<=a.2.2/\a.2.2<12)(mv:List Nat)(i:Iv N)(hw:n.2.2.length+1<=N.length):Gr N (b9 nY ps ap n mv N).2 (b9 nY ps ap n mv N).1:=by
 unfold b9;have hg:∀s∈cG ap n.1 mv,0<=s/\s<12:=λs hs=>by
  unfold cG at hs;obtain⟨a,ha,e⟩:=mE hs;rw[<-e];exact hb a (X0.mp ha).1
 split
 .exact Gr.refl i
 .exact⟨i,⟨[],(Xe N).symm⟩,yO _ _ _ (fF _) rfl⟩
 .exact⟨i,⟨[],(Xe N).symm⟩,yO _ _ _ (fF _) rfl⟩
 .rename_i t s ss _ e;rw[e]at hg;exact mz t _ (s::ss) i hg (by rw[gK];exact hw)
theorem fW{nY:LNN}{ps:List Pl}{ap:List KG}(hb:∀a∈ap,0<=a.2.2/\a.2.2<12){n:Gt}:∀(l:LNN) {N:List Gt},Iv N->n.2.2.length+1<=N.length->Gr N (aE nY ps ap n l N).2 (aE nY ps ap n l N).1
 |[],N,i,_=>Gr.refl i
 |mv::l,N,i,hw=>by
  have g:=pN (nY:=nY) (ps:=ps) hb mv i hw;unfold aE;split
  .rename_i d N' e;rw[e]at g;exact g
  .rename_i N' e;rw[e]at g;exact g.trans (fW hb l g.iv (Xz hw g.le))
theorem C2(N:List Gt)(s:Int)(m:List Int)(w:LNN):C1 N (iN N s m w)=((bx N s m w).1.getD .non,dG (bx N s m w).2):=by
 unfold bx;cases iN N s m w <;> rfl
theorem GD(N:List Gt)(i:Iv N)(s:Int)(m:List Int)(w:LNN):iH nX .d (dG N) [.int s,eM m,wD w]=.ok ((.f,(bx N s m w).1.getD .non),dG (bx N s m w).2):=qF (r:=(.f,(bx N s m w).1.getD .non)) λp=>by
 have:=i.le;have h:=Gz N i.nd @a s m w p;rw[C2]at h;exact h
theorem rB(N:List Gt):ay .d (dG N)=true:=by
 unfold dG;rw[ay];exact yN N
theorem Ag(ds:List D):isnO (.tup ds) (.non)=.ok (.f,.bl true):=rfl
theorem kX(N:List Gt)(s:Int)(m:List Int)(w:LNN):(bx N s m w).1=none\/∃ds,(bx N s m w).1=some (.tup ds):=by
 unfold bx iN;split
 .rename_i d hd;right;split at hd
  .cases hd;exact⟨_,rfl⟩
  .split at hd
   .cases hd
   .split at hd
    .cases hd
    .cases hd;exact⟨_,rfl⟩
 .exact .inl rfl
theorem GF(CH NE:D)(p:WP)(N:List Gt)(i:Iv N)(st:Int)(m0:List Int)(w:LNN)(hw:w.length+1<=N.length)(mv:List Nat)(t:List Int)(s:Int)(hs:0<=s/\s<12)(t8 LM:Option R):
  match(bx N s t (w++[mv])).1 with
  |some d=>bG [fq CH,fq NE,some (.pin p .d,dG N),fI st,fq (eM m0),fq (wD w),fq (.str mv),fq (eM t),t8,fI s,LM]=.ok (.rt (.t [.f,.pin p .d],.tup [d,dG (bx N s t (w++[mv])).2]))
  |none=>bG [fq CH,fq NE,some (.pin p .d,dG N),fI st,fq (eM m0),fq (wD w),fq (.str mv),fq (eM t),t8,fI s,LM]=.ok (.nx [fq CH,fq NE,some (.pin p .d,dG (bx N s t (w++[mv])).2),fI st,fq (eM m0),fq (wD w),fq (.str mv),fq (eM t),t8,fI s,fq .non]):=by
 have hle:=i.le;have ha:=Jo w mv @a;have hc:=GD N i s t (w++[mv]);have gr:=my i hs t (w:=w++[mv]) (by rw[gK];exact hw);have cl:=rB (bx N s t (w++[mv])).2;have fl:=gr.fl;have sh:=kX N s t (w++[mv]);revert hc cl fl sh;generalize (bx N s t (w++[mv])).1=o;generalize dG (bx N s t (w++[mv])).2=G2;generalize dG N=G1;intro hc cl fl sh;unfold wD at hc |-;have cf:ay .f (o.getD .non)=true:=by rw[ay];exact fl
 unfold bG;rw[ai (env':=[fq CH,fq NE,some (.pin p .d,G2),fI st,fq (eM m0),fq (.tup (w.map D.str)),fq (.str mv),fq (eM t),t8,fI s,fq (o.getD .non)]) (by
  simp?[CB,ha,hc,cl,cf,Yf];rfl)]
 rcases sh with e|⟨ds,e⟩
 .subst e;simp?[kQ,YW,cz]
 .subst e;simp?[fC,Ag,ZE]
theorem wK(CH NE:D)(p:WP)(st:Int)(m0:List Int)(w:LNN)(mv:List Nat)(t:List Int)(t8:Option R):∀(ss:List Int) (N:List Gt),Iv N->w.length+1<=N.length->(∀s∈ss,0<=s/\s<12)->∀t9 LM:Option R,
  match(a7 t (w++[mv]) ss N).1 with
  |some d=>cU (ao 9) bG (ss.map D.int) [fq CH,fq NE,some (.pin p .d,dG N),fI st,fq (eM m0),fq (wD w),fq (.str mv),fq (eM t),t8,t9,LM]=.ok (.rt (.t [.f,.pin p .d],.tup [d,dG (a7 t (w++[mv]) ss N).2]))
  |none=>∃u9 Ny,cU (ao 9) bG (ss.map D.int) [fq CH,fq NE,some (.pin p .d,dG N),fI st,fq (eM m0),fq (wD w),fq (.str mv),fq (eM t),t8,t9,LM]=.ok (.nx [fq CH,fq NE,some (.pin p .d,dG (a7 t (w++[mv]) ss N).2),fI st,fq (eM m0),fq (wD w),fq (.str mv),fq (eM t),t8,u9,Ny])
 |[],N,_,_,_,t9,LM=>⟨t9,LM,rfl⟩
 |s::ss,N,i,hw,hs,t9,LM=>by
  have h1:=GF CH NE p N i st m0 w hw mv t s (hs s WJ) t8 LM;have gr:=my i (hs s WJ) t (w:=w++[mv]) (by rw[gK];exact hw);have ha:ao 9 (.int s) [fq CH,fq NE,some (.pin p .d,dG N),fI st,fq (eM m0),fq (wD w),fq (.str mv),fq (eM t),t8,t9,LM]=.ok [fq CH,fq NE,some (.pin p .d,dG N),fI st,fq (eM m0),fq (wD w),fq (.str mv),fq (eM t),t8,fI s,LM]:=rfl;unfold a7;cases hg:bx N s t (w++[mv]) with
  |mk o N'=>
   rw[hg]at h1 gr;cases o with
   |some d=>
    dsimp only at h1 |-;rw[c8,bJ,ha,KZ,h1,KZ]
   |none=>
    dsimp only at h1 |-;have ih:=wK CH NE p st m0 w mv t t8 ss N' gr.iv (Xz hw gr.le) (λx hx=>hs x (WK _ hx)) (fI s) (fq .non);cases hgs:(a7 t (w++[mv]) ss N').1 with
    |some d=>
     rw[hgs]at ih;dsimp only at ih |-;rw[c8,bJ,ha,KZ,h1,KZ];exact ih
    |none=>
     rw[hgs]at ih;dsimp only at ih |-;obtain⟨u9,Ny,ih⟩:=ih;refine⟨u9,Ny,?_⟩;rw[c8,bJ,ha,KZ,h1,KZ];exact ih
theorem C3(t:List Int):isO (eM t) .non=.ok (.f,.bl false):=rfl
theorem Ah(t:List Int):isnO (eM t) .non=.ok (.f,.bl true):=rfl
theorem wL:isO .non .non=.ok (.f,.bl true):=rfl
theorem GH(nY:LNN)(ps:List Pl)(hl:ps.length<=100)(hp:∀q∈ps,LZ q nY.length)(ap:List KG)(OM:ap.length<=60)(hb:∀a∈ap,0<=a.2.2/\a.2.2<12)(p:WP)(N:List Gt)(i:Iv N)(n:Gt)(hw:n.2.2.length+1<=N.length)(mv:List Nat)(hm:mv∈nY)(t7 t8 t9 LM:Option R):
  match(b9 nY ps ap n mv N).1 with
  |some d=>bH [fq @k,fq @e,some (.pin p .d,dG N),fI n.1,fq (eM n.2.1),fq (wD n.2.2),fq (.str mv),t7,t8,t9,LM]=.ok (.rt (.t [.f,.pin p .d],.tup [d,dG (b9 nY ps ap n mv N).2]))
  |none=>∃u7 u8 u9 Ny,bH [fq @k,fq @e,some (.pin p .d,dG N),fI n.1,fq (eM n.2.1),fq (wD n.2.2),fq (.str mv),t7,t8,t9,LM]=.ok (.nx [fq @k,fq @e,some (.pin p .d,dG (b9 nY ps ap n mv N).2),fI n.1,fq (eM n.2.1),fq (wD n.2.2),fq (.str mv),u7,u8,u9,Ny]):=by
 have Mj:=CO nY ps hl hp n.2.1 mv hm;have Nz:=wJ nY ap n.1 mv @a;have UG:=wA (aS (nY.idxOf mv) (n.2.1.zip ps));have VJ:=KC (cG ap n.1 mv);have hg:∀s∈cG ap n.1 mv,0<=s/\s<12:=λs hs=>by
  unfold cG at hs;obtain⟨a,ha,e⟩:=mE hs;rw[<-e];exact hb a (X0.mp ha).1
 unfold b9;unfold bH;rw[ai (env':=[fq @k,fq @e,some (.pin p .d,dG N),fI n.1,fq (eM n.2.1),fq (wD n.2.2),fq (.str mv),fq (eO (aS (nY.idxOf mv) (n.2.1.zip ps))),t8,t9,LM]) (by
  generalize eN nY ps=NE at Mj |-;generalize Ky nY ap=CE at Nz |-;simp?[Mj,UG])]
 rw[ai (env':=[fq @k,fq @e,some (.pin p .d,dG N),fI n.1,fq (eM n.2.1),fq (wD n.2.2),fq (.str mv),fq (eO (aS (nY.idxOf mv) (n.2.1.zip ps))),fL ((cG ap n.1 mv).map D.int),t9,LM]) (by
  generalize eN nY ps=NE at Mj |-;generalize Ky nY ap=CE at Nz |-;simp?[Nz,VJ])]
 clear Mj Nz UG;have lp:=λt=>wK @k @e p n.1 n.2.1 n.2.2 mv t (fq (.lst ((cG ap n.1 mv).map D.int))) (cG ap n.1 mv) N i hw hg t9 LM
 generalize eN nY ps=NE at lp |-;generalize Ky nY ap=CE at lp |-;cases aS (nY.idxOf mv) (n.2.1.zip ps) with
 |none=>
  cases hgs:cG ap n.1 mv with
  |nil=>
   dsimp only;refine⟨fq .non,fq (.lst []),t9,LM,?_⟩;have c0:((0:Int)<((0:Nat):Int))=False:=by simp
   unfold eO;generalize dG N=G1;rw[ai (env':=[fq CE,fq NE,some (.pin p .d,G1),fI n.1,fq (eM n.2.1),fq (wD n.2.2),fq (.str mv),fq .non,fL [],t9,LM]) (by simp?[wL,XD,X2,Zf,YE,cz] <;> rfl)];rw[ai (env':=[fq CE,fq NE,some (.pin p .d,G1),fI n.1,fq (eM n.2.1),fq (wD n.2.2),fq (.str mv),fq .non,fL [],t9,LM]) (by simp?[kQ,XD,cz])];unfold dW;simp?
  |cons s ss=>
   dsimp only;unfold eO;generalize dG N=G1;have c0:decide ((0:Int)<((ss.length+1:Nat):Int))=true:=Xc @a;rw[K8];simp?[wL,fC,aU,c0];rfl
 |some t=>
  have RL:=lp t;clear lp;cases hgs:cG ap n.1 mv with
  |nil=>
   dsimp only;show _=Res.ok (Out.rt (O.t [.f,.pin p .d],D.tup [GC n.2.2 mv,dG N]));show(sSeq _ _) [fq CE,fq NE,some (.pin p .d,dG N),fI n.1,fq (eM n.2.1),fq (wD n.2.2),fq (.str mv),fq (eM t),fL [],t9,LM]=_;generalize dG N=G1;rw[ai (env':=[fq CE,fq NE,some (.pin p .d,G1),fI n.1,fq (eM n.2.1),fq (wD n.2.2),fq (.str mv),fq (eM t),fL [],t9,LM]) (by simp?[C3,cz])];rw[K8];simp?[Ah,fC,X2];rfl
  |cons s ss=>
   rw[hgs]at RL;dsimp only;show match(a7 t (n.2.2++[mv]) (s::ss) N).1 with
    |some d=>(sSeq _ _) @j=.ok (.rt (.t [.f,.pin p .d],.tup [d,dG (a7 t (n.2.2++[mv]) (s::ss) N).2]))
    |none=>∃u7 u8 u9 Ny,(sSeq _ _) @j=.ok (.nx [fq CE,fq NE,some (.pin p .d,dG (a7 t (n.2.2++[mv]) (s::ss) N).2),fI n.1,fq (eM n.2.1),fq (wD n.2.2),fq (.str mv),u7,u8,u9,Ny])
   have c0:(((ss.length+1:Nat):Int)==0)=false:=by
    rw[XQ];lia
   rw[ai (env':=@j) (by
    generalize dG N=G1;simp?[C3,cz])]
   rw[ai (env':=@j) (by
    generalize dG N=G1;simp?[Ah,aU,c0,cz])]
   have go:∀env':Res Out,cU (ao 9) bG ((s::ss).map D.int) [fq CE,fq NE,some (.pin p .d,dG N),fI n.1,fq (eM n.2.1),fq (wD n.2.2),fq (.str mv),fq (eM t),fq (.lst ((s::ss).map D.int)),t9,LM]=env'->dW @j=env':=λenv' h=>by
    unfold dW;generalize dG N=G1 at h |-;generalize ((s::ss).map D.int)=LL at h |-;simp?;exact h
   cases Nz:(a7 t (n.2.2++[mv]) (s::ss) N).1 with
   |some d=>
    rw[Nz]at RL;exact go _ RL
   |none=>
    rw[Nz]at RL;obtain⟨u9,Ny,RL⟩:=RL;exact⟨_,_,u9,Ny,go _ RL⟩
structure Nc(nY:LNN)(ps:List Pl)(ap:List KG):Prop where
 pl:ps.length<=100
 po:∀q∈ps,LZ q nY.length
 al:ap.length<=60
 ab:∀a∈ap,0<=a.2.2/\a.2.2<12
theorem wM{nY:LNN}{ps:List Pl}{ap:List KG}(c:Nc nY ps ap)(p:WP)(n:Gt):∀(l:LNN),(∀mv∈l,mv∈nY)->∀(N:List Gt),Iv N->n.2.2.length+1<=N.length->∀t6 t7 t8 t9 LM:Option R,
  match(aE nY ps ap n l N).1 with
  |some d=>cU (ao 6) bH (l.map D.str) [fq @k,fq @e,some (.pin p .d,dG N),fI n.1,fq (eM n.2.1),fq (wD n.2.2),t6,t7,t8,t9,LM]=.ok (.rt (.t [.f,.pin p .d],.tup [d,dG (aE nY ps ap n l N).2]))
  |none=>∃u6 u7 u8 u9 Ny,cU (ao 6) bH (l.map D.str) [fq @k,fq @e,some (.pin p .d,dG N),fI n.1,fq (eM n.2.1),fq (wD n.2.2),t6,t7,t8,t9,LM]=.ok (.nx [fq @k,fq @e,some (.pin p .d,dG (aE nY ps ap n l N).2),fI n.1,fq (eM n.2.1),fq (wD n.2.2),u6,u7,u8,u9,Ny])
 |[],_,N,_,_,t6,t7,t8,t9,LM=>⟨t6,t7,t8,t9,LM,rfl⟩
 |mv::l,hm,N,i,hw,t6,t7,t8,t9,LM=>by
  have h1:=GH nY ps c.pl c.po ap c.al c.ab p N i n hw mv (hm mv WJ) t7 t8 t9 LM;have gr:=pN (nY:=nY) (ps:=ps) c.ab mv i hw;have ha:ao 6 (.str mv) [fq @k,fq @e,some (.pin p .d,dG N),fI n.1,fq (eM n.2.1),fq (wD n.2.2),t6,t7,t8,t9,LM]=.ok [fq @k,fq @e,some (.pin p .d,dG N),fI n.1,fq (eM n.2.1),fq (wD n.2.2),fq (.str mv),t7,t8,t9,LM]:=rfl;unfold aE;cases hg:b9 nY ps ap n mv N with
  |mk o N'=>
   rw[hg]at h1 gr;cases o with
   |some d=>
    dsimp only at h1 |-;rw[c8,bJ,ha,KZ,h1,KZ]
   |none=>
    dsimp only at h1 |-;obtain⟨u7,u8,u9,Ny,h1⟩:=h1;have ih:=wM c p n l (λx hx=>hm x (WK _ hx)) N' gr.iv (Xz hw gr.le) (fq (.str mv)) u7 u8 u9 Ny;cases hgs:(aE nY ps ap n l N').1 with
    |some d=>
     rw[hgs]at ih;dsimp only at ih |-;rw[c8,bJ,ha,KZ,h1,KZ];exact ih
    |none=>
     rw[hgs]at ih;dsimp only at ih |-;obtain⟨v6,v7,v8,v9,v10,ih⟩:=ih;refine⟨v6,v7,v8,v9,v10,?_⟩;rw[c8,bJ,ha,KZ,h1,KZ];exact ih
theorem sV(nn:Nat)(c:O)(g:FS)(p:WP)(d0 d1 d2 d3:D):fBodyJ 2 4 nn c g p [d0,d1,d2,d3]=Res.bnd (g ([fq d1,fq d2,some (.pin p c,d0),fq d3]++List.replicate nn none)) (f:=⟨λo=>match o with | .rt r=>.ok r|_=>.bad⟩):=by
 unfold fBodyJ;dsimp only;rw[WV ⟨rfl,(by decide:2<=3)⟩];rfl
theorem wN(c:Nc nY ps ap)(p:WP)(N:List Gt)(i:Iv N)(n:Gt)(hn:n∈N)(hw:n.2.2.length+1<=N.length):
  dD p [dG N,Ky nY ap,eN nY ps,.int n.1]=.ok (.t [.f,.pin p .d],.tup [(aE nY ps ap n nY N).1.getD .non,dG (aE nY ps ap n nY N).2]):=by
 have hd:=Hm (kW i.nd hn);unfold vG at hd;have fm:=kU n.2.1;have fw:=fF n.2.2;have lp:=wM c p n nY (λ_ h=>h) N i hw none none none none none;unfold dD nZ;rw[sV];simp![List.replicate,YI,Zj];rw[ai (env':=[fq @k,fq @e,some (.pin p .d,dG N),fI n.1,fq (eM n.2.1),none,none,none,none,none,none]) (by
  generalize dG N=G1 at hd |-;simp?[hd,OQ,fm])]
 rw[ai (env':=[fq @k,fq @e,some (.pin p .d,dG N),fI n.1,fq (eM n.2.1),fq (wD n.2.2),none,none,none,none,none]) (by
  generalize dG N=G1 at hd |-;simp?[hd,VI,fw])]
 have go:∀r:Res Out,cU (ao 6) bH @h [fq @k,fq @e,some (.pin p .d,dG N),fI n.1,fq (eM n.2.1),fq (wD n.2.2),none,none,none,none,none]=r->gG [fq @k,fq @e,some (.pin p .d,dG N),fI n.1,fq (eM n.2.1),fq (wD n.2.2),none,none,none,none,none]=r:=λr h=>by
  unfold gG;generalize dG N=G1 at h |-;unfold Ky at h |-;generalize eN nY ps=NE at h |-;simp?;exact h
 cases Nz:(aE nY ps ap n nY N).1 with
 |some d=>
  rw[Nz]at lp;rw[K8,go _ lp,KZ];rfl
 |none=>
  rw[Nz]at lp;obtain⟨u6,u7,u8,u9,Ny,lp⟩:=lp;rw[ai (go _ lp)];unfold iV;generalize dG (aE nY ps ap n nY N).2=G2;generalize eN nY ps=NE;generalize Ky nY ap=CE;simp?[fC,YW]
theorem GI(c:Nc nY ps ap)(N:List Gt)(i:Iv N)(n:Gt)(hn:n∈N)(hw:n.2.2.length+1<=N.length):iH dD .d (dG N) [Ky nY ap,eN nY ps,.int n.1]=.ok ((.f,(aE nY ps ap n nY N).1.getD .non),dG (aE nY ps ap n nY N).2):=
 qF (r:=(.f,(aE nY ps ap n nY N).1.getD .non)) λp=>wN c p N i n hn hw
def bK(nY:LNN)(ps:List Pl)(ap:List KG):Nat->Nat->List Gt->So
 | 0,_,N=>(none,N)
 |f+1,k,N=>match N[k]? with
  |none=>(none,N)
  |some n=>match aE nY ps ap n nY N with
   |(some d,N')=>(some d,N')
   |(none,N')=>bK nY ps ap f (k+1) N'
variable{env:PV.Env}
theorem GJ{c:O}{fs:FOs}{x:R×D}(h:fs env=.ok ([o0,o1,.var i,o2],e))(hi:e[i]?=some (some (ow,d0)))(ho:nK c ow=true)(hd:fZ (e.set i none) [o0,o1,o2]=.ok ds)(hc:iH F c d0 ds=.ok x)(Ma:(ay x.1.1 x.1.2&&ay c x.2)=true):
  sL 2 c F i fs env=.ok (x.1,(e.set i none).set i (some (ow,x.2))):=by
 unfold sL;rw[h];show(match([o0,o1,Opd.var i,o2]:List Opd)[2]? with
  |some (.var j')=>if j'=i then(match e[i]? with
   |some (some (ow,d0))=>if nK c ow then(fZ (e.set i none) (([o0,o1,Opd.var i,o2]:List Opd).eraseIdx 2)).bind λds=>(iH F c d0 ds).bind λx=>if ay x.1.1 x.1.2&&ay c x.2 then .ok (x.1,(e.set i none).set i (some (ow,x.2))) else .ok (x.1,((e.set i none).map frz).set i (some (ow,x.2))) else .bad
   |_=>.bad) else .bad
  |_=>.bad)=_
 show(if i=i then(match e[i]? with
   |some (some (ow,d0))=>if nK c ow then(fZ (e.set i none) [o0,o1,o2]).bind λds=>(iH F c d0 ds).bind λx=>if ay x.1.1 x.1.2&&ay c x.2 then .ok (x.1,(e.set i none).set i (some (ow,x.2))) else .ok (x.1,((e.set i none).map frz).set i (some (ow,x.2))) else .bad
   |_=>.bad) else .bad)=_
 rw[WV rfl,hi];dsimp only;rw[WV ho,hd];show((iH F c d0 ds).bind λx=>if ay x.1.1 x.1.2&&ay c x.2 then .ok (x.1,(e.set i none).set i (some (ow,x.2))) else .ok (x.1,((e.set i none).map frz).set i (some (ow,x.2))))=_;rw[hc];show(if ay x.1.1 x.1.2&&ay c x.2 then Res.ok (x.1,(e.set i none).set i (some (ow,x.2))) else .ok (x.1,((e.set i none).map frz).set i (some (ow,x.2))))=_;rw[WV Ma]
theorem sW(nY:LNN)(ps:List Pl)(ap:List KG)(n:Gt)(mv:List Nat)(N:List Gt):∀d,(b9 nY ps ap n mv N).1=some d->∃ds,d=.tup ds:=by
 have gs:∀(m:List Int) (w:LNN) (ss:List Int) (N:List Gt) d,(a7 m w ss N).1=some d->∃ds,d=.tup ds:=by
  intro m w ss;induction ss with
  |nil=>intro N d h;cases h
  |cons s ss ih=>
   intro N d h;unfold a7 at h;rcases kX N s m w with e|⟨ds,e⟩
   .split at h
    .rename_i d' N' e';rw[e']at e;cases e
    .exact ih _ d h
   .split at h
    .rename_i d' N' e';rw[e']at e;cases e;cases h;exact⟨ds,rfl⟩
    .rename_i N' e';rw[e']at e;cases e
 intro d h;unfold b9 at h;split at h
 .cases h
 .cases h;exact⟨_,rfl⟩
 .cases h;exact⟨_,rfl⟩
 .exact gs _ _ _ _ d h
theorem ka(nY:LNN)(ps:List Pl)(ap:List KG)(n:Gt):∀(l:LNN) (N:List Gt) d,(aE nY ps ap n l N).1=some d->∃ds,d=.tup ds
 |[],N,d,h=>by cases h
 |mv::l,N,d,h=>by
  unfold aE at h;split at h
  .rename_i d' N' e;cases h;exact sW nY ps ap n mv N d (by rw[e])
  .exact ka nY ps ap n l _ d h
theorem C4(N:List Gt):nL [dG N]=.ok (.l .f,.lst (N.map λn=>D.int n.1)):=rfl
theorem GK(c:Nc nY ps ap)(N:List Gt)(i:Iv N)(k:Nat)(n:Gt)(hk:N[k]?=some n)(t4:Option R):
  match(aE nY ps ap n nY N).1 with
  |some d=>dE [fq @k,fq @e,some (.d,dG N),fI (k:Int),t4]=.ok (.rt (.f,d))
  |none=>dE [fq @k,fq @e,some (.d,dG N),fI (k:Int),t4]=.ok (.nx [fq @k,fq @e,some (.d,dG (aE nY ps ap n nY N).2),fI ((k+1:Nat):Int),fq .non]):=by
 have hn:n∈N:=Xm hk;have TK:=(iK hk).1;have QJ:=i.wl k n hk;have hw:n.2.2.length+1<=N.length:=by lia
 have gr:=fW (nY:=nY) (ps:=ps) c.ab nY i hw (n:=n);have hc:=GI c N i n hn hw;have cl:=rB (aE nY ps ap n nY N).2;have sh:=ka nY ps ap n nY N;have cf:ay .f ((aE nY ps ap n nY N).1.getD .non)=true:=by rw[ay];exact gr.fl
 have Mn:LI (N.map λn=>D.int n.1) (k:Int)=some (.int n.1):=cR (by rw[W2,hk];rfl);have TR:=C4 N;revert hc cl sh cf;generalize (aE nY ps ap n nY N).1=o;generalize dG (aE nY ps ap n nY N).2=G2;intro hc cl sh cf;unfold dE;have e1:sL 2 (.d) dD 2 (aa (ae 0) (aa (ae 1) (aa (ae 2) (aa (af (aq ixD (af (aH nL (aa (ae 2) aj))) (ae 3))) aj)))) [fq @k,fq @e,some (.d,dG N),fI (k:Int),t4]=.ok ((.f,o.getD .non),[fq @k,fq @e,some (.d,G2),fI (k:Int),t4]):=by
  generalize dG N=G1 at TR hc |-;generalize eN nY ps=NE at hc |-;generalize Ky nY ap=CE at hc |-;rw[GJ (o0:=.var 0) (o1:=.var 1) (o2:=.val (.int n.1)) (e:=[fq CE,fq NE,some (.d,G1),fI (k:Int),t4]) (ow:=.d) (d0:=G1) (ds:=[CE,NE,.int n.1]) (by simp?[TR,Mn]) rfl rfl rfl hc (by
   show(ay .f (o.getD .non)&&ay .d G2)=true;rw[cf,cl];rfl)]
  rfl
 rw[ai (env':=[fq @k,fq @e,some (.d,G2),fI (k:Int),fq (o.getD .non)]) (by
  generalize dG N=G1 at e1 |-;generalize eN nY ps=NE at e1 |-;generalize Ky nY ap=CE at e1 |-;rw[OB,e1,KZ];rfl)]
 generalize eN nY ps=NE;generalize Ky nY ap=CE;cases o with
 |some d=>
  obtain⟨ds,rfl⟩:=sh d rfl;dsimp only;rw[K8];simp?[Ag,ZE]
 |none=>
  dsimp only;rw[ai (env':=[fq CE,fq NE,some (.d,G2),fI (k:Int),fq .non]) (by simp?[kQ,YW,cz])];simp?[aan,Zf]
theorem GL(N:List Gt):eW [dG N]=.ok (.f,.int (N.length:Int)):=by
 show Res.ok (O.f,D.int (((N.map λn=>D.int n.1).length:Nat):Int))=_;rw[aU]
section
variable{f k:Nat}{d:D}
theorem fX(h:N[k]?=none):bK nY ps ap (f+1) k N=(none,N):=by rw[bK,h]
theorem ir(h:N[k]?=some n)(hm:aE nY ps ap n nY N=(some d,N')):bK nY ps ap (f+1) k N=(some d,N'):=by
 rw[bK,h];dsimp only;rw[hm]
theorem iO(h:N[k]?=some n)(hm:aE nY ps ap n nY N=(none,N')):bK nY ps ap (f+1) k N=bK nY ps ap f (k+1) N':=by
 rw[bK,h];dsimp only;rw[hm]
end
theorem held_w{nY:LNN}{ps:List Pl}{ap:List KG}(c:Nc nY ps ap):∀(f F k:Nat) (N:List Gt),Iv N->k<=N.length->13<=f+k->f<=F->∀t4:Option R,
  match(bK nY ps ap f k N).1 with
  |some d=>bE (eBl (aq ltO (ae 3) @A)) dE F [fq @k,fq @e,some (.d,dG N),fI (k:Int),t4]=.ok (.rt (.f,d))
  |none=>∃u4,bE (eBl (aq ltO (ae 3) @A)) dE F [fq @k,fq @e,some (.d,dG N),fI (k:Int),t4]=.ok (.nx [fq @k,fq @e,some (.d,dG (bK nY ps ap f k N).2),fI ((bK nY ps ap f k N).2.length:Int),u4])
 | 0,F,k,N,i,hk,hf,_,t4=>by
  have:=i.le;lia
 |f+1,0,k,N,i,hk,hf,hF,t4=>by lia
 |f+1,F+1,k,N,i,hk,hf,hF,t4=>by
  have hlen:=GL N;by_cases K4:k<N.length
  .have Ms:N[k]?=some N[k]:=iL K4;have h1:=GK c N i k N[k] Ms t4;have QJ:=i.wl k _ Ms;have gr:=fW (nY:=nY) (ps:=ps) c.ab nY i (n:=N[k]) @a;have hc:(eBl (aq ltO (ae 3) @A)) [fq @k,fq @e,some (.d,dG N),fI (k:Int),t4]=.ok (true,[fq @k,fq @e,some (.d,dG N),fI (k:Int),t4]):=by
    have:(k:Int)<(N.length:Int):=by lia
    generalize dG N=G1 at hlen |-;generalize eN nY ps=NE;generalize Ky nY ap=CE;simp?[hlen,this,Y5]
   cases hg:aE nY ps ap N[k] nY N with
   |mk o N'=>
    rw[hg]at h1 gr;cases o with
    |some d=>
     rw[ir Ms hg];dsimp only at h1 |-;rw[bY,hc,KZ];dsimp only;rw[WV rfl,h1,KZ]
    |none=>
     rw[iO Ms hg];dsimp only at h1 gr |-;have hl:=gr.le;have ih:=held_w c f F (k+1) N' gr.iv @a @a @a (fq .non);cases hgs:(bK nY ps ap f (k+1) N').1 with
     |some d=>
      rw[hgs]at ih;dsimp only at ih |-;rw[bY,hc,KZ];dsimp only;rw[WV rfl,h1,KZ];exact ih
     |none=>
      rw[hgs]at ih;dsimp only at ih |-;obtain⟨w4,ih⟩:=ih;refine⟨w4,?_⟩;rw[bY,hc,KZ];dsimp only;rw[WV rfl,h1,KZ];exact ih
  .have Ms:N[k]?=none:=YD @a;have ek:k=N.length:=by lia
   rw[fX Ms];dsimp only;refine⟨t4,?_⟩;have hc:(eBl (aq ltO (ae 3) @A)) [fq @k,fq @e,some (.d,dG N),fI (k:Int),t4]=.ok (false,[fq @k,fq @e,some (.d,dG N),fI (k:Int),t4]):=by
    have:¬ (k:Int)<(N.length:Int):=by lia
    generalize dG N=G1 at hlen |-;generalize eN nY ps=NE;generalize Ky nY ap=CE;simp?[hlen,this,YE]
   rw[bY,hc,KZ];dsimp only;rw[W6 WT,ek]
noncomputable def N0(ps:List Pl):List Gt:=[(0,ps.map (·.1),[])]
theorem UH(ps:List Pl):Iv (N0 ps):=by
 refine⟨?_,λn hn=>?_,λk n hk=>?_⟩
 .show[(0:Int)].Nodup;exact Xf.mpr ⟨XU,XN⟩
 .rw[f9 hn];exact⟨Int.le_refl 0,(by decide:(0:Int)<12)⟩
 .cases k with
  |zero=>
   cases hk;exact WU _
  |succ k=>simp[N0]at hk
abbrev walk(nY:LNN)(ps:List Pl)(ap:List KG):So:=bK nY ps ap 13 0 (N0 ps)
def mk(N:List Gt)(s:Int):List Int:=((N.find? λz=>z.1==s).map (·.2.1)).getD []
theorem C5(h:(N.find? λz=>z.1==s)=some n):mk N s=n.2.1:=by
 unfold mk;rw[h];rfl
theorem yP(h:s∈N.map (·.1)):∃n,(N.find? λz=>z.1==s)=some n:=by
 cases hf:N.find? λz=>z.1==s with
 |none=>
  rw[Ye]at hf;obtain⟨z,hz,e⟩:=mE h;exact absurd (Xx.mpr e) (hf z hz)
 |some n=>exact⟨n,rfl⟩
def GN(l:List (List Int)):D:=.tup [.str [115,97,109,101],.lst (l.map eM)]
theorem GO(N:List Gt)(k:Nat)(all:∀s:Nat,s<k->(s:Int)∈N.map (·.1)):b5 (ao 0) dR (aq ixD (af (aq dgD (ae 1) (ae 0))) @g) ((List.range k).map λ(s:Nat)=>D.int (s:Int)) [none,fq (dG N)]=.ok (((List.range k).map λ(s:Nat)=>mk N (s:Int)).map eM):=by
 rw[bu (r:=λs:Nat=>eM (mk N (s:Int))) (λenv=>∃t,env=[t,fq (dG N)]) (List.range k) ?_ _ ⟨none,rfl⟩]
 .rw[Xq];rfl
 .rintro s hs env ⟨t,rfl⟩;obtain⟨n,hn⟩:=yP (all s (Xp.mp hs));have hd:=Hm hn;unfold vG at hd;rw[C5 hn];generalize dG N=G1 at hd |-;exact⟨[fI (s:Int),fq G1],rfl,.f,[fI (s:Int),fq G1],by simp?[hd,OQ],_,rfl⟩
theorem GP(c:Nc nY ps ap)(Mf:0<=aI ap/\aI ap<=12)(all:(walk nY ps ap).1=none->∀s:Nat,s<(aI ap).toNat->(s:Int)∈(walk nY ps ap).2.map (·.1)):
  kK [Ky nY ap,eN nY ps]=.ok (.f,((walk nY ps ap).1).getD (GN ((List.range (aI ap).toNat).map λ(s:Nat)=>mk (walk nY ps ap).2 (s:Int)))):=by
 have Lj:=c.pl;have OM:=c.al;have Sa:=CN nY ps @a;have fm:=kU (ps.map (·.1));have TH:=pJ nY ap @a;have hw:=held_w c 13 100000 0 (N0 ps) (UH ps) (Xw _) @a @a none;have LB:neO (.tup @h) (.tup @h)=.ok (.f,.bl false):=wg _ (by rw[plainD];exact fV _ _);have OF:ixD @k (.int 0)=.ok (.f,.tup @h):=rfl;have Lq:ixD @e (.int 0)=.ok (.f,.tup @h):=rfl;unfold kK vY;rw[aM (h:=by rfl)];rw[ai (env':=[fq @k,fq @e,none,none,none]) (by
  generalize eN nY ps=NE at Lq |-;generalize Ky nY ap=CE at OF |-;simp?[OF,Lq,LB,cz])]
 rw[ai (env':=[fq @k,fq @e,some (.d,dG (N0 ps)),none,none]) (by
  generalize eN nY ps=NE at Sa |-;generalize Ky nY ap=CE;simp?[Sa,fm];rfl)]
 rw[ai (env':=[fq @k,fq @e,some (.d,dG (N0 ps)),fI ((0:Nat):Int),none]) (by
  generalize dG (N0 ps)=G0;simp? <;> rfl)]
 unfold walk at all |-;cases Nz:(bK nY ps ap 13 0 (N0 ps)).1 with
 |some d=>
  rw[Nz]at hw;dsimp only at hw;rw[K8];unfold l5;rw[hw,KZ];rfl
 |none=>
  rw[Nz]at hw;obtain⟨u4,hw⟩:=hw;have UI:=GO (bK nY ps ap 13 0 (N0 ps)).2 (aI ap).toNat (all Nz)
  rw[ai (env':=_) (by
   unfold l5;exact hw)]
  unfold og;have TU:(((List.range (aI ap).toNat).map λ(s:Nat)=>mk (bK nY ps ap 13 0 (N0 ps)).2 (s:Int)).map eM).length<=sizeLine:=bg (by
   rw[aU,aU,Xk];lia)
  generalize ((List.range (aI ap).toNat).map λ(s:Nat)=>mk (bK nY ps ap 13 0 (N0 ps)).2 (s:Int))=RR at UI TU |-;generalize dG (bK nY ps ap 13 0 (N0 ps)).2=G2 at UI |-;generalize eN nY ps=NE;generalize Ky nY ap=CE at TH |-;have hr:=J6 (aI ap) Mf.1 @a (af (cx cD (aa (ae 0) aj))) [fq CE,fq NE,some (.d,G2),fI (((bK nY ps ap 13 0 (N0 ps)).2.length:Int)),u4] [fq CE,fq NE,some (.d,G2),fI (((bK nY ps ap 13 0 (N0 ps)).2.length:Int)),u4] (.val (.int (aI ap))) (by simp?[TH]) rfl;generalize cV (af (cx cD (aa (ae 0) aj)))=IT at hr |-;generalize (aq ixD (af (aq dgD (ae 1) (ae 0))) @g)=GG at UI |-;simp?[hr,UI,TU];rfl
theorem bZ:s∈cG ap x mv<->((x,mv,s):KG)∈ap:=by
 unfold cG;rw[YJ];constructor
 .rintro⟨a,ha,e⟩;obtain⟨h1,h2⟩:=X0.mp ha;rw[WW,Xx,Xx]at h2;obtain⟨a1,a2,a3⟩:=a;obtain⟨e1,e2⟩:=h2;cases e1;cases e2;cases e;exact h1
 .intro h;exact⟨(x,mv,s),X0.mpr ⟨h,by simp⟩,rfl⟩
theorem yQ{m:List Int}(h:(bx N s m w).1=none):s∈(bx N s m w).2.map (·.1):=by
 unfold bx iN at h |-;cases hf:N.find? (sU s m) with
 |some n=>
  rw[hf]at h;cases h
 |none=>
  rw[hf]at h;dsimp only at h |-;cases hs:N.find? λn=>n.1==s with
  |none=>
   dsimp only;rw[Xd];exact WQ _ (W5.mpr rfl)
  |some n=>
   rw[hs]at h;dsimp only at h |-;by_cases hm:n.2.1=m
   .rw[WV hm];have h1:=ZQ hs;have h1:n.1=s:=by simpa using h1
    exact YJ.mpr ⟨n,Yx hs,h1⟩
   .rw[W6 hm]at h;cases h
theorem Gr.up(g:Gr N N' o)(h:s∈N.map (·.1)):s∈N'.map (·.1):=by
 obtain⟨m,e⟩:=g.ex;rw[e,Xd];exact WR _ h
theorem oF(m:List Int)(w:LNN):∀(ss:List Int) (N:List Gt),Iv N->(∀s∈ss,0<=s/\s<12)->w.length<=N.length->(a7 m w ss N).1=none->∀s∈ss,s∈(a7 m w ss N).2.map (·.1)
 |[],N,_,_,_,_=>λ_ h=>nomatch h
 |s::ss,N,i,hs,hw,h=>by
  have gr:=my i (hs s WJ) m hw;have gh:=yQ (N:=N) (s:=s) (m:=m) (w:=w);unfold a7 at h |-;cases hg:bx N s m w with
  |mk o N'=>
   rw[hg]at gr gh h;cases o with
   |some d=>cases h
   |none=>
    dsimp only at gr gh h |-;have g2:=mz m w ss gr.iv (λx hx=>hs x (WK _ hx)) (Xz hw gr.le);have ih:=oF m w ss N' gr.iv (λx hx=>hs x (WK _ hx)) (Xz hw gr.le) h;intro x hx;rcases WY.mp hx with e|hx
    .rw[e];exact g2.up (gh rfl)
    .exact ih x hx
theorem wO(hb:∀a∈ap,0<=a.2.2/\a.2.2<12):∀s∈cG ap x mv,0<=s/\s<12:=λs hs=>hb _ (bZ.mp hs)
theorem oG{nY:LNN}{ps:List Pl}{ap:List KG}(hb:∀a∈ap,0<=a.2.2/\a.2.2<12){n:Gt}:∀(l:LNN) (N:List Gt),Iv N->n.2.2.length+1<=N.length->(aE nY ps ap n l N).1=none->∀mv∈l,∀s∈cG ap n.1 mv,s∈(aE nY ps ap n l N).2.map (·.1)
 |[],N,_,_,_=>λ_ h=>nomatch h
 |mv::l,N,i,hw,h=>by
  have gr:=pN (nY:=nY) (ps:=ps) hb mv i hw;have mh:(b9 nY ps ap n mv N).1=none->∀s∈cG ap n.1 mv,s∈(b9 nY ps ap n mv N).2.map (·.1):=λh=>by
   unfold b9 at h |-;have hg:=wO hb (x:=n.1) (mv:=mv);cases hf:aS (nY.idxOf mv) (n.2.1.zip ps) with
   |none=>
    rw[hf]at h;cases hgs:cG ap n.1 mv with
    |nil=>exact λ_ h=>nomatch h
    |cons s ss=>rw[hgs]at h;cases h
   |some t=>
    rw[hf]at h;cases hgs:cG ap n.1 mv with
    |nil=>rw[hgs]at h;cases h
    |cons s ss=>
     rw[hgs]at h hg;exact oF t (n.2.2++[mv]) (s::ss) N i hg (by rw[gK];exact hw) h
  unfold aE at h |-;cases hg:b9 nY ps ap n mv N with
  |mk o N'=>
   rw[hg]at gr mh h;cases o with
   |some d=>cases h
   |none=>
    dsimp only at gr mh h |-;have g2:=fW (nY:=nY) (ps:=ps) hb l gr.iv (n:=n) (Xz hw gr.le);have ih:=oG hb l N' gr.iv (Xz hw gr.le) h;intro x hx s hs;rcases WY.mp hx with e|hx
    .rw[e]at hs;exact g2.up (mh rfl s hs)
    .exact ih x hx s hs
def Cl(nY:LNN)(ap:List KG)(N:List Gt)(k:Nat):Prop:=∀(j:Nat) (n:Gt),j<k->N[j]?=some n->∀mv∈nY,∀s∈cG ap n.1 mv,s∈N.map (·.1)
theorem rD{nY:LNN}{ps:List Pl}{ap:List KG}(hb:∀a∈ap,0<=a.2.2/\a.2.2<12):∀(f k:Nat) (N:List Gt),Iv N->k<=N.length->13<=f+k->Cl nY ap N k->(bK nY ps ap f k N).1=none->Gr N (bK nY ps ap f k N).2 none/\Cl nY ap (bK nY ps ap f k N).2 (bK nY ps ap f k N).2.length
 | 0,k,N,i,hk,hf,_,_=>by
  have:=i.le;lia
 |f+1,k,N,i,hk,hf,cl,h=>by
  by_cases K4:k<N.length
  .have Ms:N[k]?=some N[k]:=iL K4;have QJ:=i.wl k _ Ms;have gr:=fW (nY:=nY) (ps:=ps) hb nY i (n:=N[k]) @a;have mh:=oG (nY:=nY) (ps:=ps) hb (n:=N[k]) nY N i @a;cases hg:aE nY ps ap N[k] nY N with
   |mk o N'=>
    rw[hg]at gr mh;cases o with
    |some d=>rw[ir Ms hg]at h;cases h
    |none=>
     rw[iO Ms hg]at h |-;dsimp only at gr mh;have hl:=gr.le;obtain⟨more,em⟩:=gr.ex;have cl':Cl nY ap N' (k+1):=λj n hj hn mv Mj s hs=>by
      have MG:N[j]?=some n:=by rw[em,Xu @a]at hn;exact hn
      by_cases ej:j=k
      .subst ej;rw[Ms]at MG;cases MG;exact mh rfl mv Mj s hs
      .exact gr.up (cl j n @a MG mv Mj s hs)
     obtain⟨g2,c2⟩:=rD hb f (k+1) N' gr.iv @a @a cl' h;exact⟨gr.trans g2,c2⟩
  .have Ms:N[k]?=none:=YD @a;have ek:k=N.length:=by lia
   rw[fX Ms];exact⟨Gr.refl i,ek▸cl⟩
section
variable{P:Int->Prop}
theorem GQ{m:List Int}(h:∀n∈N,P n.1)(hs:P s):∀n∈(bx N s m w).2,P n.1:=by
 unfold bx iN;cases N.find? (sU s m) with
 |some n=>exact h
 |none=>
  dsimp only;cases N.find? λn=>n.1==s with
  |none=>
   intro n hn;rcases jl hn with hn|hn
   .exact h n hn
   .rw[f9 hn];exact hs
  |some n=>
   dsimp only;by_cases hm:n.2.1=m
   .rw[WV hm];exact h
   .rw[W6 hm];exact h
theorem wQ(m:List Int)(w:LNN):∀(ss:List Int) (N:List Gt),(∀n∈N,P n.1)->(∀s∈ss,P s)->∀n∈(a7 m w ss N).2,P n.1
 |[],N,h,_=>h
 |s::ss,N,h,hs=>by
  have g:=GQ (m:=m) (w:=w) h (hs s WJ);unfold a7;cases hg:bx N s m w with
  |mk o N'=>
   rw[hg]at g;cases o with
   |some d=>exact g
   |none=>exact wQ m w ss N' g λx hx=>hs x (WK _ hx)
theorem wR{nY:LNN}{ps:List Pl}{ap:List KG}(ha:∀a∈ap,P a.2.2){n:Gt}:∀(l:LNN) (N:List Gt),(∀n∈N,P n.1)->∀n'∈(aE nY ps ap n l N).2,P n'.1
 |[],N,h=>h
 |mv::l,N,h=>by
  have g:∀n'∈(b9 nY ps ap n mv N).2,P n'.1:=by
   unfold b9;split
   .exact h
   .exact h
   .exact h
   .rename_i t s ss _ e;exact wQ t _ (s::ss) N h λx hx=>ha _ (bZ.mp (by rw[e];exact hx))
  unfold aE;cases hg:b9 nY ps ap n mv N with
  |mk o N'=>
   rw[hg]at g;cases o with
   |some d=>exact g
   |none=>exact wR ha l N' g
theorem Ai{nY:LNN}{ps:List Pl}{ap:List KG}(ha:∀a∈ap,P a.2.2):∀(f k:Nat) (N:List Gt),(∀n∈N,P n.1)->∀n∈(bK nY ps ap f k N).2,P n.1
 | 0,k,N,h=>h
 |f+1,k,N,h=>by
  cases hk:N[k]? with
  |none=>rw[fX hk];exact h
  |some n=>
   have g:=wR (nY:=nY) (ps:=ps) ha (n:=n) nY N h;cases hg:aE nY ps ap n nY N with
   |mk o N'=>
    rw[hg]at g;cases o with
    |some d=>rw[ir hk hg];exact g
    |none=>rw[iO hk hg];exact Ai ha f (k+1) N' g
end
theorem walk_all(r:Ra nY ap mZ)(h:(walk nY ps ap).1=none):
  (walk nY ps ap).2.length<=12/\((walk nY ps ap).2.length:Int)=aI ap/\∀s:Nat,s<(walk nY ps ap).2.length->(s:Int)∈(walk nY ps ap).2.map (·.1):=by
 have hm:=r.mm;have hb:∀a∈ap,0<=a.2.2/\a.2.2<12:=λa ha=>by
  have:=r.bd a ha;lia
 have Mf:=oA hm.1 r.bd;obtain⟨g,cl⟩:=rD (nY:=nY) (ps:=ps) hb 13 0 (N0 ps) (UH ps) (Xw _) @a (λj n hj=>by lia) h;have kp:=Ai (P:=λs=>0<=s/\s<aI ap) (nY:=nY) (ps:=ps) (ap:=ap) (λa ha=>⟨(hb a ha).1,(oz ha).2⟩) 13 0 (N0 ps) (λn hn=>by
  rw[f9 hn];exact⟨Int.le_refl 0,by show(0:Int)<_;lia⟩)
 unfold walk at h |-;generalize bK nY ps ap 13 0 (N0 ps)=W at h g cl kp |-;have z0:(0:Int)∈W.2.map (·.1):=g.up (W5.mpr rfl);have key:∀j:Nat,j<mZ->(j:Int)∈W.2.map (·.1):=by
  intro j;induction j using Nat.strongRecOn with
  |_ j ih=>
   intro hj;cases j with
   |zero=>exact z0
   |succ j=>
    obtain⟨a,ha,e1,b,TL,e2⟩:=r.rc (j+1) @a hj;obtain⟨n,hn,en⟩:=mE (ih b TL @a);obtain⟨x,hx,ex⟩:=Yh hn;have:=cl x n hx (by rw[iL hx,ex]) a.2.1 (r.nm a ha) a.2.2 (bZ.mpr (by rw[en,<-e2];exact ha));rw[e1]at this;exact this
 have len:(W.2.length:Int)=aI ap:=by
  have l1:W.2.length<=(aI ap).toNat:=by
   have:=jo (aI ap).toNat g.iv.nd (λx hx=>by
    obtain⟨n,hn,e⟩:=mE hx;rw[<-e];have:=kp n hn;lia)
   rwa [aU]at this
  have l2:(aI ap).toNat<=W.2.length:=by
   have:=mx ((List.range (aI ap).toNat).map λ(s:Nat)=>(s:Int)) (W.2.map (·.1)) (cw _ _ λi j _ _ e=>by lia) (λx hx=>by
    obtain⟨s,hs,e⟩:=mE hx;rw[<-e];exact key s (by have:=Xp.mp hs;lia))
   rwa [aU,Xk,aU]at this
  lia
 exact⟨g.iv.le,len,λs hs=>key s @a⟩
def Ow(S:List (List Int))(N:List Gt):Prop:=∀n∈N,∃j:Nat,n.1=(j:Int)/\S[j]?=some n.2.1
theorem yR{S:List (List Int)}(nd:S.Nodup)(o:Ow S N){t:List Int}(hj:S[j]?=some t)(w:LNN):(bx N (j:Int) t w).1=none/\Ow S (bx N (j:Int) t w).2:=by
 have hf:N.find? (sU (j:Int) t)=none:=by
  rw[Ye];intro n hn h;unfold sU at h;rw[WW,W3]at h;obtain⟨i,e1,e2⟩:=o n hn;rw[h.2]at e2;obtain⟨h1,h2⟩:=iK e2;obtain⟨h3,h4⟩:=iK hj;have:i=j:=by
   have pw:=Y4.mp nd;rcases aaF i j with hl|hl|hl
   .exact absurd (h2.trans h4.symm) (pw i j h1 h3 hl)
   .exact hl
   .exact absurd (h4.trans h2.symm) (pw j i h3 h1 hl)
  rw[e1,this]at h;simp at h
 unfold bx iN;rw[hf];dsimp only;cases hs:N.find? λn=>n.1==(j:Int) with
 |none=>
  refine⟨rfl,λn hn=>?_⟩;rcases jl hn with hn|hn
  .exact o n hn
  .rw[f9 hn];exact⟨j,rfl,hj⟩
 |some n=>
  dsimp only;have h1:=ZQ hs;have h1:n.1=(j:Int):=by simpa using h1
  obtain⟨i,e1,e2⟩:=o n (Yx hs);have:i=j:=by lia
  rw[this,hj]at e2;have e3:n.2.1=t:=(Xj e2).symm;rw[WV e3];exact⟨rfl,o⟩
theorem oH{S:List (List Int)}(nd:S.Nodup){t:List Int}(w:LNN):∀(ss:List Int) (N:List Gt),Ow S N->(∀s∈ss,∃j:Nat,s=(j:Int)/\S[j]?=some t)->(a7 t w ss N).1=none/\Ow S (a7 t w ss N).2
 |[],N,o,_=>⟨rfl,o⟩
 |s::ss,N,o,h=>by
  obtain⟨j,e,hj⟩:=h s WJ;subst e;obtain⟨g1,g2⟩:=yR nd o hj w;unfold a7;cases hg:bx N (j:Int) t w with
  |mk q N'=>
   rw[hg]at g1 g2;dsimp only at g1;subst g1;exact oH nd w ss N' g2 λx hx=>h x (WK _ hx)
structure Or(nY:LNN)(ps:List Pl)(S:List (List Int))(ap:List KG):Prop where
 nd:S.Nodup
 z:S[0]?=some (ps.map (·.1))
 ab:∀(x s:Int) (mv:List Nat),((x,mv,s):KG)∈ap->∃i j:Nat,x=(i:Int)/\s=(j:Int)/\∃a b,S[i]?=some a/\S[j]?=some b/\aS (nY.idxOf mv) (a.zip ps)=some b
 fu:∀(i:Nat) (mv:List Nat) (a t:List Int),mv∈nY->S[i]?=some a->aS (nY.idxOf mv) (a.zip ps)=some t->∃m:Nat,(((i:Int),mv,(m:Int)):KG)∈ap
theorem yS{S:List (List Int)}(r:Or nY ps S ap)(hn:∃j:Nat,n.1=(j:Int)/\S[j]?=some n.2.1)(mv:List Nat)(hm:mv∈nY)(o:Ow S N):(b9 nY ps ap n mv N).1=none/\Ow S (b9 nY ps ap n mv N).2:=by
 obtain⟨i,e1,e2⟩:=hn;have ar:∀s∈cG ap n.1 mv,∃(j:Nat) (t:List Int),s=(j:Int)/\S[j]?=some t/\aS (nY.idxOf mv) (n.2.1.zip ps)=some t:=λs hs=>by
  obtain⟨i',j,h1,h2,a,b,h3,h4,h5⟩:=r.ab _ _ _ (bZ.mp hs);have:i'=i:=by lia
  rw[this,e2]at h3;rw[<-Xj h3]at h5;exact⟨j,b,h2,h4,h5⟩
 unfold b9;cases hf:aS (nY.idxOf mv) (n.2.1.zip ps) with
 |none=>
  cases hg:cG ap n.1 mv with
  |nil=>exact⟨rfl,o⟩
  |cons s ss=>
   exfalso;rw[hg,hf]at ar;obtain⟨j,t,_,_,h⟩:=ar s WJ;cases h
 |some t=>
  cases hg:cG ap n.1 mv with
  |nil=>
   exfalso;obtain⟨m,hm⟩:=r.fu i mv n.2.1 t hm e2 hf;have:=bZ.mpr hm;rw[<-e1,hg]at this;cases this
  |cons s ss=>
   rw[hg,hf]at ar;refine oH r.nd _ (s::ss) N o λx hx=>?_
   obtain⟨j,t',h1,h2,h3⟩:=ar x hx;rw[<-Xj h3]at h2;exact⟨j,h1,h2⟩
theorem oI{nY:LNN}{ps:List Pl}{S:List (List Int)}{ap:List KG}(r:Or nY ps S ap){n:Gt}(hn:∃j:Nat,n.1=(j:Int)/\S[j]?=some n.2.1):∀(l:LNN),(∀mv∈l,mv∈nY)->∀N,Ow S N->(aE nY ps ap n l N).1=none/\Ow S (aE nY ps ap n l N).2
 |[],_,N,o=>⟨rfl,o⟩
 |mv::l,hl,N,o=>by
  obtain⟨g1,g2⟩:=yS r hn mv (hl mv WJ) o;unfold aE;cases hg:b9 nY ps ap n mv N with
  |mk q N'=>
   rw[hg]at g1 g2;dsimp only at g1;subst g1;exact oI r hn l (λx hx=>hl x (WK _ hx)) N' g2
theorem rE{nY:LNN}{ps:List Pl}{S:List (List Int)}{ap:List KG}(r:Or nY ps S ap):∀(f k:Nat) (N:List Gt),Ow S N->(bK nY ps ap f k N).1=none
 | 0,k,N,o=>rfl
 |f+1,k,N,o=>by
  cases hk:N[k]? with
  |none=>rw[fX hk]
  |some n=>
   obtain⟨g1,g2⟩:=oI r (o n (Xm hk)) nY (λ_ h=>h) N o;cases hg:aE nY ps ap n nY N with
   |mk q N'=>
    rw[hg]at g1 g2;dsimp only at g1;subst g1;rw[iO hk hg];exact rE r f (k+1) N' g2
theorem rF{S:List (List Int)}(r:Or nY ps S ap):(walk nY ps ap).1=none:=
 rE r 13 0 (N0 ps) λn hn=>by
  rw[f9 hn];exact⟨0,rfl,r.z⟩
theorem GR(hn:nY.length<=3)(e:gy nY ps=some r):Or nY ps r.1 (aB aJ r.2):=by
 have h:=iq (ps:=ps) hn;rw[e]at h;obtain⟨⟨m,rm⟩,fu,_⟩:=h;refine⟨rm.nd,rm.z,λx s mv h=>?_,λi mv a t hm hs hf=>?_⟩
 .obtain⟨_,i,j,_,h1,h2,a,b,h3,h4,h5⟩:=rm.ab _ ((il aJ).mp h);exact⟨i,j,h1,h2,a,b,h3,h4,h5⟩
 .obtain⟨k,hk,e⟩:=Yh hm;obtain⟨m,h1,h2⟩:=fu i k (.inl (iK hs).1) mv (by rw[iL hk,e]) a t hs hf;exact⟨m,(il aJ).mpr h2⟩
def Dj(N:List Gt):Prop:=∀n∈N,∀n'∈N,n.2.1=n'.2.1->n.1=n'.1
def Has(N:List Gt)(s:Int)(m:List Int):Prop:=∃n∈N,n.1=s/\n.2.1=m
theorem C6{m:List Int}(h:(bx N s m w).1=none)(dj:Dj N):Dj (bx N s m w).2/\Has (bx N s m w).2 s m/\∀n∈N,n∈(bx N s m w).2:=by
 unfold bx iN at h |-;cases hf:N.find? (sU s m) with
 |some n=>
  rw[hf]at h;cases h
 |none=>
  rw[hf]at h;rw[Ye]at hf;have no:∀n∈N,n.2.1=m->n.1=s:=λn hn e=>by
   have:=hf n hn;unfold sU at this;rw[e,Xc rfl,aaQ]at this;simpa using this
  dsimp only at h |-;cases hs:N.find? λn=>n.1==s with
  |none=>
   dsimp only;refine⟨λn hn n' Mw e=>?_,⟨(s,m,w),WQ _ (W5.mpr rfl),rfl,rfl⟩,λn hn=>WR _ hn⟩;rcases jl hn with h1|h1 <;> rcases jl Mw with h2|h2
   .exact dj n h1 n' h2 e
   .rw[f9 h2]at e |-;exact no n h1 e
   .rw[f9 h1]at e |-;exact(no n' h2 e.symm).symm
   .rw[f9 h1,f9 h2]
  |some n=>
   rw[hs]at h;dsimp only at h |-;have h1:=ZQ hs;have h1:n.1=s:=by simpa using h1
   by_cases hm:n.2.1=m
   .rw[WV hm];exact⟨dj,⟨n,Yx hs,h1,hm⟩,λ_ h=>h⟩
   .rw[W6 hm]at h;cases h
theorem Has.up{m:List Int}(h:Has N s m)(u:∀n∈N,n∈N'):Has N' s m:=by
 obtain⟨n,hn,e⟩:=h;exact⟨n,u n hn,e⟩
theorem rH(m:List Int)(w:LNN):∀(ss:List Int) (N:List Gt),(a7 m w ss N).1=none->Dj N->Dj (a7 m w ss N).2/\(∀s∈ss,Has (a7 m w ss N).2 s m)/\∀n∈N,n∈(a7 m w ss N).2
 |[],N,_,dj=>⟨dj,(λ_ h=>nomatch h),λ_ h=>h⟩
 |s::ss,N,h,dj=>by
  have g:=C6 (N:=N) (s:=s) (m:=m) (w:=w);unfold a7 at h |-;cases hg:bx N s m w with
  |mk o N'=>
   rw[hg]at g h;cases o with
   |some d=>cases h
   |none=>
    dsimp only at g h |-;obtain⟨g1,g2,g3⟩:=g rfl dj;obtain⟨i1,i2,i3⟩:=rH m w ss N' h g1;refine⟨i1,λx hx=>?_,λn hn=>i3 n (g3 n hn)⟩;rcases WY.mp hx with rfl|hx
    .exact g2.up i3
    .exact i2 x hx
section
structure Mk(nY:LNN)(ps:List Pl)(ap:List KG)(N:List Gt)(n:Gt)(mv:List Nat):Prop where
 a:∀s∈cG ap n.1 mv,∃t,aS (nY.idxOf mv) (n.2.1.zip ps)=some t/\Has N s t
 b:∀t,aS (nY.idxOf mv) (n.2.1.zip ps)=some t->∃s,s∈cG ap n.1 mv
theorem Mk.up{N N':List Gt}{n:Gt}{mv:List Nat}(k:Mk nY ps ap N n mv)(u:∀n∈N,n∈N'):Mk nY ps ap N' n mv:=⟨λs hs=>by
 obtain⟨t,h1,h2⟩:=k.a s hs;exact⟨t,h1,h2.up u⟩,k.b⟩
theorem C7(h:(b9 nY ps ap n mv N).1=none)(dj:Dj N):Dj (b9 nY ps ap n mv N).2/\Mk nY ps ap (b9 nY ps ap n mv N).2 n mv/\∀x∈N,x∈(b9 nY ps ap n mv N).2:=by
 unfold b9 at h |-;cases hf:aS (nY.idxOf mv) (n.2.1.zip ps) with
 |none=>
  rw[hf]at h;cases hgs:cG ap n.1 mv with
  |nil=>exact⟨dj,⟨(λs hs=>by rw[hgs]at hs;cases hs),(λt ht=>by rw[hf]at ht;cases ht)⟩,λ_ h=>h⟩
  |cons s ss=>rw[hgs]at h;cases h
 |some t=>
  rw[hf]at h;cases hgs:cG ap n.1 mv with
  |nil=>rw[hgs]at h;cases h
  |cons s ss=>
   rw[hgs]at h;obtain⟨g1,g2,g3⟩:=rH t (n.2.2++[mv]) (s::ss) N h dj;exact⟨g1,⟨λx hx=>⟨t,hf,g2 x (by rw[hgs]at hx;exact hx)⟩,λ_ _=>⟨s,by rw[hgs];exact WJ⟩⟩,g3⟩
theorem rJ{n:Gt}:∀(l:LNN) (N:List Gt),(aE nY ps ap n l N).1=none->Dj N->Dj (aE nY ps ap n l N).2/\(∀mv∈l,Mk nY ps ap (aE nY ps ap n l N).2 n mv)/\∀x∈N,x∈(aE nY ps ap n l N).2
 |[],N,_,dj=>⟨dj,(λ_ h=>nomatch h),λ_ h=>h⟩
 |mv::l,N,h,dj=>by
  have g:=C7 (nY:=nY) (ps:=ps) (ap:=ap) (n:=n) (mv:=mv) (N:=N);unfold aE at h |-;cases hg:b9 nY ps ap n mv N with
  |mk o N'=>
   rw[hg]at g h;cases o with
   |some d=>cases h
   |none=>
    dsimp only at g h |-;obtain⟨g1,g2,g3⟩:=g rfl dj;obtain⟨i1,i2,i3⟩:=rJ l N' h g1;refine⟨i1,λx hx=>?_,λn hn=>i3 n (g3 n hn)⟩;rcases WY.mp hx with rfl|hx
    .exact g2.up i3
    .exact i2 x hx
def Ck(nY:LNN)(ps:List Pl)(ap:List KG)(N:List Gt)(k:Nat):Prop:=∀(j:Nat) (n:Gt),j<k->N[j]?=some n->∀mv∈nY,Mk nY ps ap N n mv
theorem wU(hb:∀a∈ap,0<=a.2.2/\a.2.2<12):∀(f k:Nat) (N:List Gt),Iv N->k<=N.length->13<=f+k->Dj N->Ck nY ps ap N k->(bK nY ps ap f k N).1=none->Iv (bK nY ps ap f k N).2/\Dj (bK nY ps ap f k N).2/\Ck nY ps ap (bK nY ps ap f k N).2 (bK nY ps ap f k N).2.length/\∀x∈N,x∈(bK nY ps ap f k N).2
 | 0,k,N,i,hk,hf,_,_,_=>by
  have:=i.le;lia
 |f+1,k,N,i,hk,hf,dj,ck,h=>by
  by_cases K4:k<N.length
  .have Ms:N[k]?=some N[k]:=iL K4;have QJ:=i.wl k _ Ms;have gr:=fW (nY:=nY) (ps:=ps) hb nY i (n:=N[k]) @a;have md:=rJ (nY:=nY) (ps:=ps) (ap:=ap) (n:=N[k]) nY N;cases hg:aE nY ps ap N[k] nY N with
   |mk o N'=>
    rw[hg]at gr md;cases o with
    |some d=>rw[ir Ms hg]at h;cases h
    |none=>
     rw[iO Ms hg]at h |-;dsimp only at gr md;obtain⟨g1,g2,g3⟩:=md rfl dj;have hl:=gr.le;obtain⟨more,em⟩:=gr.ex;obtain⟨i0,i1,i2,i3⟩:=wU hb f (k+1) N' gr.iv @a @a g1 (λj n hj hn mv Mj=>by
      have MG:N[j]?=some n:=by rw[em,Xu @a]at hn;exact hn
      by_cases ej:j=k
      .subst ej;rw[Ms]at MG;cases MG;exact g2 mv Mj
      .exact(ck j n @a MG mv Mj).up g3) h
     exact⟨i0,i1,i2,λx hx=>i3 x (g3 x hx)⟩
  .have Ms:N[k]?=none:=YD @a;have ek:k=N.length:=by lia
   rw[fX Ms];exact⟨i,dj,ek▸ck,λ_ h=>h⟩
theorem C8(r:Ra nY ap mZ)(h:(walk nY ps ap).1=none):∃S,Or nY ps S ap:=by
 have hm:=r.mm;have hb:∀a∈ap,0<=a.2.2/\a.2.2<12:=λa ha=>by
  have:=r.bd a ha;lia
 obtain⟨_,w2,w3⟩:=walk_all r h;obtain⟨iv,dj,ck,up⟩:=wU (nY:=nY) (ps:=ps) hb 13 0 (N0 ps) (UH ps) (Xw _) @a (λn hn n' Mw _=>by rw[f9 hn,f9 Mw]) (λj n hj=>by lia) h;unfold walk at h w2 w3;generalize bK nY ps ap 13 0 (N0 ps)=W at h w2 w3 iv dj ck up;have ent:∀{s:Int}{m:List Int},Has W.2 s m->mk W.2 s=m:=λ{s m} h=>by
  obtain⟨n,hn,e1,e2⟩:=h;rw[<-e1,C5 (kW iv.nd hn),e2]
 have get:∀s:Nat,s<W.2.length->∃n∈W.2,n.1=(s:Int)/\mk W.2 (s:Int)=n.2.1:=λs hs=>by
  obtain⟨n,hn,e⟩:=mE (w3 s hs);exact⟨n,hn,e,ent ⟨n,hn,e,rfl⟩⟩
 have at_:∀s:Nat,s<W.2.length->((List.range W.2.length).map λ(s:Nat)=>mk W.2 (s:Int))[s]?=some (mk W.2 (s:Int)):=λs hs=>by
  rw[W2,List.getElem?_range hs];rfl
 have z:((0:Int),ps.map (·.1),([]:LNN))∈W.2:=up _ (W5.mpr rfl);refine⟨(List.range W.2.length).map λ(s:Nat)=>mk W.2 (s:Int),cw _ _ λi j hi hj e=>?_,?_,λx s mv ha=>?_,λi mv a t Mj hi hf=>?_⟩
 .obtain⟨n,hn,e1,e2⟩:=get i hi;obtain⟨n',Mw,OL,NT⟩:=get j hj;have:=dj n hn n' Mw (by rw[<-e2,<-NT];exact e);lia
 .rw[at_ 0 (Ze z)];congr 1
  exact ent ⟨_,z,rfl,rfl⟩
 .have bd:=r.bd _ ha;have lt:=oz ha;dsimp only at bd lt;obtain⟨i,rfl⟩:=Xg bd.1.1;obtain⟨j,rfl⟩:=Xg bd.2.1;obtain⟨n,hn,e1,e2⟩:=get i @a;obtain⟨k,hk,ek⟩:=Yh hn;obtain⟨t,ht,hs⟩:=(ck k n hk (by rw[iL hk,ek]) mv (r.nm _ ha)).a j (bZ.mpr (by rw[e1];exact ha));exact⟨i,j,rfl,rfl,_,_,at_ i @a,at_ j @a,by rw[e2,ent hs];exact ht⟩
 .have Na:=(iK hi).1;rw[aU,Xk]at Na;rw[at_ i Na]at hi;obtain⟨n,hn,e1,e2⟩:=get i Na;obtain⟨k,hk,ek⟩:=Yh hn;rw[<-Xj hi,e2]at hf;obtain⟨s,hs⟩:=(ck k n hk (by rw[iL hk,ek]) mv Mj).b t hf;have hs:=bZ.mp hs;have bd:=r.bd _ hs;dsimp only at bd;obtain⟨j,rfl⟩:=Xg bd.2.1;exact⟨j,by rw[<-e1];exact hs⟩
end
variable{P:List Pl}
section
end
noncomputable def okb(nY:LNN)(ap:List KG)(P:List Pl):Bool:=(walk nY P ap).1.isNone
theorem yT(hn:nY.length<=3)(e:gy nY ps=some r):okb nY (aB aJ r.2) ps=true:=by
 unfold okb;rw[rF (GR hn e)];rfl
noncomputable def pO:List Nat:=[115,97,109,101]
def Df(d:D):Prop:=∃l a b,d=.tup [.str l,a,b]/\l≠pO
theorem C9{m:List Int}:∀d,(bx N s m w).1=some d->Df d:=by
 unfold bx iN;intro d h;split at h
 .rename_i d' hd;cases h;split at hd
  .cases hd;exact⟨_,_,_,rfl,by decide⟩
  .split at hd
   .cases hd
   .split at hd
    .cases hd
    .cases hd;exact⟨_,_,_,rfl,by decide⟩
 .cases h
theorem rK(m:List Int)(w:LNN):∀(ss:List Int) (N:List Gt) d,(a7 m w ss N).1=some d->Df d
 |[],N,d,h=>by cases h
 |s::ss,N,d,h=>by
  unfold a7 at h;split at h
  .rename_i d' N' e;cases h;exact C9 (N:=N) (s:=s) (m:=m) (w:=w) d (by rw[e])
  .exact rK m w ss _ d h
theorem rL(nY:LNN)(ps:List Pl)(ap:List KG)(n:Gt):∀(l:LNN) (N:List Gt) d,(aE nY ps ap n l N).1=some d->Df d
 |[],N,d,h=>by cases h
 |mv::l,N,d,h=>by
  unfold aE at h;split at h
  .rename_i d' N' e;cases h;have h:(b9 nY ps ap n mv N).1=some d:=by rw[e]
   unfold b9 at h;split at h
   .cases h
   .cases h;exact⟨_,_,_,rfl,by decide⟩
   .cases h;exact⟨_,_,_,rfl,by decide⟩
   .exact rK _ _ _ _ d h
  .exact rL nY ps ap n l _ d h
theorem wV(nY:LNN)(ps:List Pl)(ap:List KG):∀(f k:Nat) (N:List Gt) d,(bK nY ps ap f k N).1=some d->Df d
 | 0,k,N,d,h=>by cases h
 |f+1,k,N,d,h=>by
  cases hk:N[k]? with
  |none=>rw[fX hk]at h;cases h
  |some n=>
   cases hg:aE nY ps ap n nY N with
   |mk o N'=>
    cases o with
    |some d'=>
     rw[ir hk hg]at h;cases h;exact rL nY ps ap n nY N d (by rw[hg])
    |none=>
     rw[iO hk hg]at h;exact wV nY ps ap f (k+1) N' d h
theorem Ra.nc(r:Ra nY ap mZ)(hl:ps.length<=100)(hp:∀q∈ps,LZ q nY.length):Nc nY ps ap:=⟨hl,hp,r.len,λa ha=>by
 have:=r.bd a ha;have:=r.mm;lia⟩
theorem kc(ra:Ra nY ap mZ)(hl:P.length<=100)(hp:∀q∈P,LZ q nY.length):bA [Ky nY ap,eN nY P]=.ok (.f,.bl (okb nY ap P)):=by
 have c:=ra.nc hl hp;have hm:=ra.mm;have Mf:=oA hm.1 ra.bd;have hh:=GP c ⟨by lia,by lia⟩ λh s hs=>(walk_all ra h).2.2 s (by have:=(walk_all ra h).2.1;lia)
 have e:∀l:List Nat,eqO (.str l) (.str [115,97,109,101])=.ok (.f,.bl (decide (l=pO))):=λl=>by
  have z:(l==pO)=decide (l=pO):=by
   rw[Xo];simp
  show Res.ok (O.f,D.bl (l==pO))=_;rw[z]
 unfold bA jT okb;rw[aM (h:=by rfl)];generalize eN nY P=NE at hh |-;generalize Ky nY ap=CE at hh |-;cases hw:(walk nY P ap).1 with
 |some d=>
  rw[hw]at hh;obtain⟨l,a,b,rfl,LB⟩:=wV nY P ap 13 0 (N0 P) d hw;have a0:LI [D.str l,a,b] (0:Int)=some (.str l):=rfl;have el:=e l;rw[Xn LB]at el;rw[ZE]at hh;cases hfd:flatD (.tup [.str l,a,b]) with
  |true=>simp?[hh,hfd,a0,el,ZU]
  |false=>simp?[hh,hfd,a0,el,ZU,sS,cz]
 |none=>
  rw[hw,YW]at hh;unfold GN at hh;have a0:∀x y:D,LI (x::y::[]) (0:Int)=some x:=λ_ _=>rfl
  have el:=e pO;rw[Xc rfl]at el;unfold pO at el;simp?[hh,a0,el,Option.isNone_none]
theorem GS(P:List Pl)(k:Nat)(hl:P.length<=100):bQ (.lst (gD (P.map eP) none (some (k:Int)))) (.lst (gD (P.map eP) (some ((k:Int)+1)) none))=.ok (.l .f,.lst ((P.eraseIdx k).map eP)):=by
 have e:(k:Int)+1=((k+1:Nat):Int):=by lia
 rw[pI,pI,jm,e,qU,pH,WV (line_le (by rw[aU,aU,XA,Yo];lia)),List.eraseIdx_eq_take_drop_succ,Xd]
noncomputable def GU:Nat->List D
 | 0=>[]
 |k+1=>.int (k:Int)::GU k
theorem wW:∀n:Nat,(List.range n).map (λ(k:Nat)=>D.int (((n:Int)-1)+(k:Int) * -1))=GU n
 | 0=>rfl
 |n+1=>by
  rw[GU,aa6,c8,Xq,<-wW n];congr 1
  .congr 1
   lia
  .refine Yg λk _=>?_
   show D.int _=D.int _;congr 1
   lia
def dT(N:List Gt):D:=.dct false (N.map λn=>D.int n.1) (N.map λn=>eM n.2.1)
theorem Dc:∀(N:List Gt) (s:Int),getD (N.map λn=>D.int n.1) (N.map λn=>eM n.2.1) (.int s)=(N.find? λn=>n.1==s).map λn=>eM n.2.1
 |[],s=>rfl
 |z::L,s=>by
  have ih:=Dc L s;unfold getD at ih |-;rw[c8,c8,Y2];by_cases e:z.1=s
  .rw[XX (by show Kv (.int s) (.int z.1)=true;rw[Kv,Xx];exact e.symm),XX (by simpa using e)];rfl
  .rw[XY (by show ¬ Kv (.int s) (.int z.1)=true;rw[Kv,Xx];exact λq=>e q.symm),XY (by simpa using e)];exact ih
theorem Ka(h:(N.find? λz=>z.1==s)=some n):dgD (dT N) (.int s)=.ok (.f,eM n.2.1):=by
 unfold dgD dT;dsimp only;rw[WV (show bR false (.int s)=true from rfl),Dc,h];rfl
theorem IU(h:(N.find? λz=>z.1==s)=none)(m:List Int):kj (N.map λn=>D.int n.1) (N.map λn=>eM n.2.1) (.int s) (eM m)=((N++[((s,m,[]):Gt)]).map (λn=>D.int n.1),(N++[((s,m,[]):Gt)]).map λn=>eM n.2.1):=by
 rw[Ye]at h;have e:(N.map λn=>D.int n.1).any (Kv (.int s))=false:=by
  rw[YC,List.any_eq_false];intro x hx;show ¬ Kv (.int s) (.int x.1)=true;rw[Kv,Xx];intro q;exact h x hx (by simp[q])
 unfold kj;rw[e,W6 WT,Xd,Xd];rfl
theorem Aj(N:List Gt):eW [dT N]=.ok (.f,.int (N.length:Int)):=by
 show Res.ok (O.f,D.int (((N.map λn=>D.int n.1).length:Nat):Int))=_;rw[aU]
theorem GV(N:List Gt):nL [dT N]=.ok (.l .f,.lst (N.map λn=>D.int n.1)):=rfl
section
structure Tv(nY:LNN)(ps:List Pl)(ap:List KG)(N:List Gt):Prop where
 iv:Iv N
 ow:∀S,Or nY ps S ap->Ow S N
 z:Has N 0 (ps.map (·.1))
def Ak(nY:LNN)(ps:List Pl)(ap:List KG):Prop:=∀S,¬ Or nY ps S ap
theorem Or.arc{S:List (List Int)}(o:Or nY ps S ap){a:List Int}(hi:S[i]?=some a)(h:s∈cG ap (i:Int) mv):∃(j:Nat) (t:List Int),s=(j:Int)/\S[j]?=some t/\aS (nY.idxOf mv) (a.zip ps)=some t:=by
 obtain⟨i',j,h1,h2,a',b,h3,h4,h5⟩:=o.ab _ _ _ (bZ.mp h);have:i'=i:=by lia
 subst this;rw[hi]at h3;cases h3;exact⟨j,b,h2,h4,h5⟩
theorem IV{S:List (List Int)}(nd:S.Nodup){t:List Int}(h1:S[i]?=some t)(h2:S[j]?=some t):i=j:=by
 obtain⟨a1,a2⟩:=iK h1;obtain⟨b1,b2⟩:=iK h2;have pw:=Y4.mp nd;rcases aaF i j with hl|hl|hl
 .exact absurd (a2.trans b2.symm) (pw i j a1 b1 hl)
 .exact hl
 .exact absurd (b2.trans a2.symm) (pw j i b1 a1 hl)
theorem De(nd:ap.Nodup)(x:Int)(mv:List Nat):(cG ap x mv).Nodup:=by
 unfold cG;refine Zc.mpr ((nd.filter _).imp_of_mem λ{a b} ha hb LB e=>LB ?_);have h1:=(X0.mp ha).2;have h2:=(X0.mp hb).2;rw[WW,Xx,Xx]at h1 h2;obtain⟨a1,a2,a3⟩:=a;obtain⟨b1,b2,b3⟩:=b;dsimp only at h1 h2 e;rw[h1.1,h1.2,h2.1,h2.2,e]
theorem Dg(nd:ap.Nodup)(v:Tv nY ps ap N)(hn:n∈N)(h:1<(cG ap n.1 mv).length):Ak nY ps ap:=by
 intro S o;obtain⟨i,e1,e2⟩:=v.ow S o n hn;have gn:=De nd n.1 mv;rw[e1]at gn h;have ar:=λs=>o.arc e2 (mv:=mv) (s:=s)
 cases hg:cG ap (i:Int) mv with
 |nil=>rw[hg]at h;exact absurd h @b
 |cons s ss=>
  cases ss with
  |nil=>rw[hg]at h;exact absurd h (Yv 1)
  |cons s2 ss=>
   rw[hg]at gn ar;obtain⟨j,t,h1,h2,h3⟩:=ar s WJ;obtain⟨j2,t2,k1,k2,k3⟩:=ar s2 (WK _ WJ);rw[h3]at k3;cases k3;have:=IV o.nd h2 k2;rw[Xf]at gn;exact gn.1 (by rw[h1,this,<-k1];exact WJ)
theorem Dh(v:Tv nY ps ap N)(hn:n∈N)(hm:mv∈nY){t:List Int}(h:cG ap n.1 mv=[])(hf:aS (nY.idxOf mv) (n.2.1.zip ps)=some t):Ak nY ps ap:=by
 intro S o;obtain⟨i,e1,e2⟩:=v.ow S o n hn;obtain⟨m,hm⟩:=o.fu i mv n.2.1 t hm e2 hf;have:=bZ.mpr hm;rw[<-e1,h]at this;cases this
theorem yU(v:Tv nY ps ap N)(hn:n∈N)(h:s∈cG ap n.1 mv)(hf:aS (nY.idxOf mv) (n.2.1.zip ps)=none):Ak nY ps ap:=by
 intro S o;obtain⟨i,e1,e2⟩:=v.ow S o n hn;rw[e1]at h;obtain⟨j,t,_,_,h3⟩:=o.arc e2 h;rw[hf]at h3;cases h3
theorem Or.to{S:List (List Int)}(o:Or nY ps S ap)(v:Tv nY ps ap N)(hn:n∈N){t:List Int}(h:s∈cG ap n.1 mv)(hf:aS (nY.idxOf mv) (n.2.1.zip ps)=some t):∃j:Nat,s=(j:Int)/\S[j]?=some t:=by
 obtain⟨i,e1,e2⟩:=v.ow S o n hn;rw[e1]at h;obtain⟨j,t',h1,h2,h3⟩:=o.arc e2 h;rw[hf]at h3;cases h3;exact⟨j,h1,h2⟩
theorem GW(v:Tv nY ps ap N)(hn:n∈N){t:List Int}(h:s∈cG ap n.1 mv)(hf:aS (nY.idxOf mv) (n.2.1.zip ps)=some t)(Mw:n'∈N)(e:n'.1=s)(ne:n'.2.1≠t):Ak nY ps ap:=by
 intro S o;obtain⟨j,h1,h2⟩:=o.to v hn h hf;obtain⟨i,e1,e2⟩:=v.ow S o n' Mw;have:i=j:=by lia
 subst this;rw[h2]at e2;exact ne (Xj e2).symm
theorem Tv.put(v:Tv nY ps ap N)(hn:n∈N){t:List Int}(h:s∈cG ap n.1 mv)(hb:0<=s/\s<12)(hf:aS (nY.idxOf mv) (n.2.1.zip ps)=some t)(hs:(N.find? λz=>z.1==s)=none):Tv nY ps ap (N++[(s,t,[])]):=by
 refine⟨⟨?_,λx hx=>?_,λk x hk=>?_⟩,λS o x hx=>?_,?_⟩
 .rw[Xd,Xl];refine⟨v.iv.nd,Xf.mpr ⟨XU,XN⟩,λa ha b hb e=>?_⟩;obtain⟨x,hx,ex⟩:=mE ha;rw[Ye]at hs;have hb:b=s:=by simpa using hb
  exact hs x hx (by rw[Xx,ex,e,hb])
 .rcases jl hx with hx|hx
  .exact v.iv.bd x hx
  .rw[f9 hx];exact hb
 .rcases acn k N.length with hl|hl
  .rw[Xu hl]at hk;exact v.iv.wl k x hk
  .rw[XH hl]at hk;have:=Xm hk;rw[f9 this];exact Xw _
 .rcases jl hx with hx|hx
  .exact v.ow S o x hx
  .rw[f9 hx];exact o.to v hn h hf
 .exact v.z.up λx hx=>WR _ hx
theorem IW(r:Ra nY ap mZ)(v:Tv nY ps ap N)(ck:Ck nY ps ap N N.length)(dj:Dj N):∃S,Or nY ps S ap:=by
 have hm:=r.mm;have iv:=v.iv;have ent:∀{s:Int}{m:List Int},Has N s m->mk N s=m:=λ{s m} h=>by
  obtain⟨n,hn,e1,e2⟩:=h;rw[<-e1,C5 (kW iv.nd hn),e2]
 have VL:∀n∈N,∀mv∈nY,Mk nY ps ap N n mv:=λn hn mv Mj=>by
  obtain⟨k,hk,ek⟩:=Yh hn;exact ck k n hk (by rw[iL hk,ek]) mv Mj
 have get:∀s:Nat,s<mZ->∃n∈N,n.1=(s:Int)/\mk N (s:Int)=n.2.1:=by
  intro j;induction j using Nat.strongRecOn with
  |_ j ih=>
   intro hj;cases j with
   |zero=>
    obtain⟨n,hn,e1,e2⟩:=v.z;exact⟨n,hn,e1,ent ⟨n,hn,e1,rfl⟩⟩
   |succ j=>
    obtain⟨a,ha,e1,b,TL,e2⟩:=r.rc (j+1) @a hj;obtain⟨n,hn,en,_⟩:=ih b TL @a;obtain⟨t,_,n',Mw,f1,_⟩:=(VL n hn a.2.1 (r.nm a ha)).a a.2.2 (bZ.mpr (by rw[en,<-e2];exact ha));exact⟨n',Mw,f1.trans e1,ent ⟨n',Mw,f1.trans e1,rfl⟩⟩
 have at_:∀s:Nat,s<mZ->((List.range mZ).map λ(s:Nat)=>mk N (s:Int))[s]?=some (mk N (s:Int)):=λs hs=>by
  rw[W2,List.getElem?_range hs];rfl
 refine⟨(List.range mZ).map λ(s:Nat)=>mk N (s:Int),cw _ _ λi j hi hj e=>?_,?_,λx s mv ha=>?_,λi mv a t Mj hi hf=>?_⟩
 .obtain⟨n,hn,e1,e2⟩:=get i hi;obtain⟨n',Mw,OL,NT⟩:=get j hj;have:=dj n hn n' Mw (by rw[<-e2,<-NT];exact e);lia
 .rw[at_ 0 @a];congr 1
  exact ent v.z
 .have bd:=r.bd _ ha;dsimp only at bd;obtain⟨i,rfl⟩:=Xg bd.1.1;obtain⟨j,rfl⟩:=Xg bd.2.1;obtain⟨n,hn,e1,e2⟩:=get i @a;obtain⟨t,ht,hs⟩:=(VL n hn mv (r.nm _ ha)).a j (bZ.mpr (by rw[e1];exact ha));exact⟨i,j,rfl,rfl,_,_,at_ i @a,at_ j @a,by rw[e2,ent hs];exact ht⟩
 .have Na:=(iK hi).1;rw[aU,Xk]at Na;rw[at_ i Na]at hi;obtain⟨n,hn,e1,e2⟩:=get i Na;rw[<-Xj hi,e2]at hf;obtain⟨s,hs⟩:=(VL n hn mv Mj).b t hf;have hs:=bZ.mp hs;have bd:=r.bd _ hs;dsimp only at bd;obtain⟨j,rfl⟩:=Xg bd.2.1;exact⟨j,by rw[<-e1];exact hs⟩
end
theorem dst_len:∀(l acc:List (List Int)),acc.Nodup->((dst (acc.map eM) (l.map eM)).length=acc.length+l.length<->l.Nodup/\∀x∈l,x∉acc)/\(dst (acc.map eM) (l.map eM)).length<=acc.length+l.length
 |[],acc,_=>by
  rw[XD,dst,aU];exact⟨⟨λ_=>⟨XN,λ_ h=>nomatch h⟩,λ_=>rfl⟩,WU _⟩
 |x::l,acc,nd=>by
  have e:(acc.map eM).any (Kv (eM x))=decide (x∈acc):=by
   rw[YC,Xo,XM,W3];constructor
   .rintro⟨b,hb,h⟩;have h:Kv (eM x) (eM b)=true:=h;rw[pM,W3]at h;rw[h];exact hb
   .intro h;refine⟨x,h,?_⟩;show Kv (eM x) (eM x)=true;rw[pM,Xc rfl]
  rw[c8,dst,e,WX];by_cases h:x∈acc
  .rw[Xc h,WV rfl];have ih:=(dst_len l acc nd).2;refine⟨⟨λq=>by lia,λq=>absurd h (q.2 x WJ)⟩,by lia⟩
  .rw[Xn h,W6 WT,<-c8];obtain⟨ih,Sz⟩:=dst_len l (x::acc) (Xf.mpr ⟨h,nd⟩);rw[WX]at ih Sz;refine⟨⟨λq=>?_,λq=>?_⟩,by lia⟩
   .obtain⟨q1,q2⟩:=ih.mp @a;refine⟨Xf.mpr ⟨λhx=>q2 x hx WJ,q1⟩,λy hy=>?_⟩;rcases WY.mp hy with rfl|hy
    .exact h
    .exact λz=>q2 y hy (WK _ z)
   .obtain⟨q1,q2⟩:=q;rw[Xf]at q1;have:=ih.mpr ⟨q1.2,λy hy z=>by
     rcases WY.mp z with rfl|z
     .exact q1.1 hy
     .exact q2 y (WK _ hy) z⟩
    lia
theorem Di{t:List Int}(hl:N.length<=1000)(e0 e1 e3 e4 e5 e7:Option R):eSDef 2 (ax 8) (ax 6) [e0,e1,some (.d,dT N),e3,e4,e5,fq (eM t),e7,fI s]=match N.find? (λz:Gt=>z.1==s) with
  |some n=>.ok ((.f,eM n.2.1),[e0,e1,some (.d,dT N),e3,e4,e5,fq (eM t),e7,fI s])
  |none=>.ok ((.f,eM t),[e0,e1,some (.d,dT (N++[((s,t,[]):Gt)])),e3,e4,e5,fq (eM t),e7,fI s]):=by
 have q:(bR false (.int s)&&decide ((N.map λn:Gt=>D.int n.1).length<sizeLine))=true:=by
  rw[show bR false (.int s)=true from rfl,aaT];exact Xc (W9 (m:=1001) (by rw[aU];lia) (line_le @a))
 show(if(bR false (.int s)&&decide ((N.map λn:Gt=>D.int n.1).length<sizeLine))=true then(match getD (N.map λn:Gt=>D.int n.1) (N.map λn:Gt=>eM n.2.1) (.int s) with
    |some d=>Res.ok ((O.f,d),[e0,e1,some (.d,dT N),e3,e4,e5,fq (eM t),e7,fI s])
    |none=>.ok ((.f,eM t),[e0,e1,some (.d,.dct false (kj (N.map λn:Gt=>D.int n.1) (N.map λn:Gt=>eM n.2.1) (.int s) (eM t)).1 (kj (N.map λn:Gt=>D.int n.1) (N.map λn:Gt=>eM n.2.1) (.int s) (eM t)).2),e3,e4,e5,fq (eM t),e7,fI s])) else .bad)=_
 rw[WV q,Dc];cases h:N.find? λz=>z.1==s with
 |some n=>rfl
 |none=>
  dsimp only[Option.map_none];rw[IU h];rfl
theorem Kb{t:List Int}(hl:N.length<=1000)(e0 e1 e3 e4 e5 e7:Option R):ba [e0,e1,some (.d,dT N),e3,e4,e5,fq (eM t),e7,fI s]=match N.find? (λz:Gt=>z.1==s) with
  |some n=>if n.2.1=t then .ok (.nx [e0,e1,some (.d,dT N),e3,e4,e5,fq (eM t),e7,fI s]) else .ok (.rt (.f,.bl false))
  |none=>.ok (.nx [e0,e1,some (.d,dT (N++[((s,t,[]):Gt)])),e3,e4,e5,fq (eM t),e7,fI s]):=by
 have hs:=Di (s:=s) (t:=t) hl e0 e1 e3 e4 e5 e7;unfold ba;generalize (eSDef 2 (ax 8) (ax 6))=SD at hs |-;cases h:N.find? λz=>z.1==s with
 |none=>
  rw[h]at hs;have LB:=CZ t t;rw[Xc rfl,Yb]at LB;dsimp only at hs |-;generalize dT (N++[((s,t,[]):Gt)])=G2 at hs |-;generalize dT N=G1 at hs |-;generalize eM t=MT at hs LB |-;simp?[hs,LB,cz]
 |some n=>
  rw[h]at hs;have LB:=CZ n.2.1 t;dsimp only at hs |-;generalize dT N=G1 at hs |-;generalize eM n.2.1=M2 at hs LB |-;generalize eM t=MT at hs LB |-;by_cases hm:n.2.1=t
  .rw[WV hm];rw[Xc hm,Yb]at LB;simp?[hs,LB,cz]
  .rw[W6 hm];rw[Xn hm,X8]at LB;simp?[hs,LB]
theorem Dk(l:List Int):eqO (.lst (l.map D.int)) (.lst [])=.ok (.f,.bl l.isEmpty):=by
 unfold eqO;rw[plainD,fU];cases l <;> rfl
theorem wX(ap:List KG)(s:Int)(m:List Nat):b5 @m (vg (eBl (aK eqO (ae 0) (ae 3))) (eBl (aK eqO (ae 1) (ae 4)))) (ax 2) (ap.map eA) [none,none,none,fI s,fq (.str m)]=.ok ((cG ap s m).map D.int):=by
 rw[mf (p:=λa:KG=>a.1==s&&a.2.1==m) (r:=λa:KG=>D.int a.2.2) (λenv=>∃t1 t2 t3,env=[t1,t2,t3,fI s,fq (.str m)]) ap ?_ _ ⟨_,_,_,rfl⟩]
 .unfold cG;rw[Xq];rfl
 .rintro a _ env ⟨t1,t2,t3,rfl⟩;refine⟨_,gH a t1 t2 t3 _,?_⟩;simp?;cases h1:a.1==s with
  |true=>
   cases h2:a.2.1==m with
   |true=>exact⟨_,rfl,_,_,rfl,_,_,_,rfl⟩
   |false=>exact⟨_,rfl,_,_,_,rfl⟩
  |false=>exact⟨_,rfl,_,_,_,rfl⟩
theorem Jr(B:FS)(CE NE G1 AF:D)(e3 e4 e5 t8:Option R)(LL:List D)(hl:decide ((1:Int)<(LL.length:Int))=b1)(he:eqO (.lst LL) (.lst [])=.ok (.f,.bl b2))(hi:isO AF .non=.ok (.f,.bl b3)):
  (sSeq (sIf (bOr (eBl (aq gtD (af (aH eW (aa (ae 7) aj))) @f)) (eBl (aK neO (af (aK eqO (ae 7) (af (gJ aF)))) (af (aK isO (ae 6) (af (av .non))))))) (cT (av (.bl false))) bD) B) [fq CE,fq NE,some (.d,G1),e3,e4,e5,fq AF,fL LL,t8]=if b1||(b2 != b3) then .ok (.rt (.f,.bl false)) else B [fq CE,fq NE,some (.d,G1),e3,e4,e5,fq AF,fL LL,t8]:=by
 have hn:neO (.bl b2) (.bl b3)=.ok (.f,.bl (b2 != b3)):=by cases b2 <;> cases b3 <;> rfl
 generalize (b2 != b3)=b4 at hn |-;cases b1 with
 |true=>
  rw[K8];simp?[hl,aci]
 |false=>
  cases b4 with
  |true=>
   rw[K8];simp?[hl,he,hi,hn,abP,cz]
  |false=>
   rw[ai (env':=[fq CE,fq NE,some (.d,G1),e3,e4,e5,fq AF,fL LL,t8]) (by
    simp?[hl,he,hi,hn,cz])]
   rfl
section
theorem Kc(c:Nc nY ps ap)(nd:ap.Nodup)(v:Tv nY ps ap N)(hn:n∈N)(hm:mv∈nY)(k:Int)(t6 t7 t8:Option R):
  (aP [fq @k,fq @e,some (.d,dT N),fI k,fI n.1,fq (.str mv),t6,t7,t8]=.ok (.rt (.f,.bl false))/\Ak nY ps ap)\/∃N' u6 u7 u8,Tv nY ps ap N'/\(∃more,N'=N++more)/\Mk nY ps ap N' n mv/\aP [fq @k,fq @e,some (.d,dT N),fI k,fI n.1,fq (.str mv),t6,t7,t8]=.ok (.nx [fq @k,fq @e,some (.d,dT N'),fI k,fI n.1,fq (.str mv),u6,u7,u8]):=by
 have Mf:bI [eN nY ps,eM n.2.1,.str mv]=.ok (.f,eO (aS (nY.idxOf mv) (n.2.1.zip ps))):=by
  rcases z7 nY ps c.pl c.po n.2.1 mv hm with⟨h,e⟩|⟨r,h,e⟩
  .rw[h,e];rfl
  .rw[h,e];rfl
 have VM:=Ka (kW v.iv.nd hn);have UJ:=wX ap n.1 mv;have Ma:((cG ap n.1 mv).map D.int).length<=sizeLine:=by
  unfold cG;rw[Xq];exact mn (by have:=c.al;lia)
 have UG:=wA (aS (nY.idxOf mv) (n.2.1.zip ps));have VJ:=KC (cG ap n.1 mv);have OG:ixD @k (.int 1)=.ok (.f,.lst (ap.map eA)):=rfl;have hle:=v.iv.le;have hbd:=wO c.ab (x:=n.1) (mv:=mv);unfold aP;generalize hAA:@m=AA at UJ |-;generalize hBB:(vg (eBl (aK eqO (ae 0) (ae 3))) (eBl (aK eqO (ae 1) (ae 4))))=BB at UJ |-;clear hAA hBB;have s1:∀T:FS,sSeq (a9 6 (cx bI (aa (ae 1) (aa (af (aq dgD (ae 2) (ae 4))) (aa (ae 5) aj))))) T [fq @k,fq @e,some (.d,dT N),fI k,fI n.1,fq (.str mv),t6,t7,t8]=T [fq @k,fq @e,some (.d,dT N),fI k,fI n.1,fq (.str mv),fq (eO (aS (nY.idxOf mv) (n.2.1.zip ps))),t7,t8]:=λT=>by
  rw[ai (env':=[fq @k,fq @e,some (.d,dT N),fI k,fI n.1,fq (.str mv),fq (eO (aS (nY.idxOf mv) (n.2.1.zip ps))),t7,t8]) (by
   generalize eN nY ps=NE at Mf |-;generalize Ky nY ap=CE;generalize dT N=G1 at VM |-;simp?[VM,Mf,UG])]
 rw[s1];clear s1 Mf VM;rw[ai (env':=[fq @k,fq @e,some (.d,dT N),fI k,fI n.1,fq (.str mv),fq (eO (aS (nY.idxOf mv) (n.2.1.zip ps))),fL ((cG ap n.1 mv).map D.int),t8]) (by
  generalize eN nY ps=NE;generalize Ky nY ap=CE at OG |-;generalize dT N=G1;simp?[OG,UJ,Ma,VJ])]
 clear UJ Ma;have RM:=Dk (cG ap n.1 mv);have VA:((cG ap n.1 mv).map D.int).length=(cG ap n.1 mv).length:=aU _;have VN:isO (eO (aS (nY.idxOf mv) (n.2.1.zip ps))) .non=.ok (.f,.bl (aS (nY.idxOf mv) (n.2.1.zip ps)).isNone):=by
  cases aS (nY.idxOf mv) (n.2.1.zip ps) with
  |none=>exact wL
  |some t=>exact C3 t
 by_cases h1:1<(cG ap n.1 mv).length
 .left;refine⟨?_,Dg nd v hn h1⟩;rw[Jr _ _ _ _ _ _ _ _ _ _ (Xc @a) RM VN];rfl
 .have ic:=Jr aR @k @e (dT N) _ (fI k) (fI n.1) (fq (.str mv)) t8 _ (Xn @a) RM VN;rw[ic];clear ic RM VN VA;cases hf:aS (nY.idxOf mv) (n.2.1.zip ps) with
  |none=>
   cases hg:cG ap n.1 mv with
   |nil=>
    right;refine⟨N,fq .non,fq (.lst []),t8,v,⟨[],(Xe N).symm⟩,⟨λs hs=>by rw[hg]at hs;(cases hs),λt ht=>by rw[hf]at ht;(cases ht)⟩,?_⟩;show aR [fq @k,fq @e,some (.d,dT N),fI k,fI n.1,fq (.str mv),fq .non,fL [],t8]=_;unfold aR;generalize eN nY ps=NE;generalize Ky nY ap=CE;generalize dT N=G1;generalize ba=B1;simp?
   |cons s ss=>
    left;exact⟨rfl,yU v hn (by rw[hg];exact WJ) hf⟩
  |some t=>
   cases hg:cG ap n.1 mv with
   |nil=>
    left;exact⟨rfl,Dh v hn hm hg hf⟩
   |cons s ss=>
    have hss:ss=[]:=by
     rw[hg,WX]at h1;exact List.length_eq_zero_iff.mp @a
    subst hss;have hs:s∈cG ap n.1 mv:=by rw[hg];exact W5.mpr rfl
    have e1:=Kb (N:=N) (s:=s) (t:=t) @a (fq @k) (fq @e) (fI k) (fI n.1) (fq (.str mv)) (fq (.lst [.int s]));have ha:ao 8 (.int s) [fq @k,fq @e,some (.d,dT N),fI k,fI n.1,fq (.str mv),fq (eM t),fq (.lst [.int s]),t8]=.ok [fq @k,fq @e,some (.d,dT N),fI k,fI n.1,fq (.str mv),fq (eM t),fq (.lst [.int s]),fI s]:=rfl;have go:aR [fq @k,fq @e,some (.d,dT N),fI k,fI n.1,fq (.str mv),fq (eM t),fL [.int s],t8]=cU (ao 8) ba [.int s] [fq @k,fq @e,some (.d,dT N),fI k,fI n.1,fq (.str mv),fq (eM t),fq (.lst [.int s]),t8]:=by
     unfold aR;generalize eN nY ps=NE;generalize Ky nY ap=CE;generalize dT N=G1;generalize eM t=MT;generalize ba=B1;generalize hLL:[D.int s]=LL;simp?
    have g2:(if(false||([s].isEmpty != (some t).isNone))=true then Res.ok (Out.rt (O.f,D.bl false)) else aR [fq @k,fq @e,some (.d,dT N),fI k,fI n.1,fq (.str mv),fq (eO (some t)),fL ([s].map D.int),t8])=aR [fq @k,fq @e,some (.d,dT N),fI k,fI n.1,fq (.str mv),fq (eM t),fL [.int s],t8]:=rfl;rw[g2];rw[go,bJ,ha,KZ,e1];cases Sa:N.find? λz=>z.1==s with
    |none=>
     right;refine⟨N++[(s,t,[])],_,_,_,v.put hn hs (hbd s hs) hf Sa,⟨_,rfl⟩,⟨λx hx=>?_,λ_ _=>⟨s,hs⟩⟩,rfl⟩;rw[hg,W5]at hx;subst hx;exact⟨t,hf,(x,t,[]),WQ _ (W5.mpr rfl),rfl,rfl⟩
    |some n'=>
     have Mw:=Yx Sa;have e':n'.1=s:=by simpa using ZQ Sa
     dsimp only;by_cases hq:n'.2.1=t
     .right;rw[WV hq];refine⟨N,_,_,_,v,⟨[],(Xe N).symm⟩,⟨λx hx=>?_,λ_ _=>⟨s,hs⟩⟩,rfl⟩;rw[hg,W5]at hx;subst hx;exact⟨t,hf,n',Mw,e',hq⟩
     .left;rw[W6 hq];exact⟨rfl,GW v hn hs hf Mw e' hq⟩
theorem GX(c:Nc nY ps ap)(nd:ap.Nodup){n:Gt}(k:Int):∀(l:LNN),(∀mv∈l,mv∈nY)->∀(N:List Gt),Tv nY ps ap N->n∈N->∀t5 t6 t7 t8:Option R,
  (cU (ao 5) aP (l.map D.str) [fq @k,fq @e,some (.d,dT N),fI k,fI n.1,t5,t6,t7,t8]=.ok (.rt (.f,.bl false))/\Ak nY ps ap)\/∃N' u5 u6 u7 u8,Tv nY ps ap N'/\(∃more,N'=N++more)/\(∀mv∈l,Mk nY ps ap N' n mv)/\cU (ao 5) aP (l.map D.str) [fq @k,fq @e,some (.d,dT N),fI k,fI n.1,t5,t6,t7,t8]=.ok (.nx [fq @k,fq @e,some (.d,dT N'),fI k,fI n.1,u5,u6,u7,u8])
 |[],_,N,v,_,t5,t6,t7,t8=>.inr ⟨N,t5,t6,t7,t8,v,⟨[],(Xe N).symm⟩,(λ_ h=>nomatch h),rfl⟩
 |mv::l,hl,N,v,hn,t5,t6,t7,t8=>by
  have ha:ao 5 (.str mv) [fq @k,fq @e,some (.d,dT N),fI k,fI n.1,t5,t6,t7,t8]=.ok [fq @k,fq @e,some (.d,dT N),fI k,fI n.1,fq (.str mv),t6,t7,t8]:=rfl;rw[c8,bJ,ha,KZ];rcases Kc c nd v hn (hl mv WJ) k t6 t7 t8 with⟨e,no⟩|⟨N',u6,u7,u8,v',⟨more,em⟩,mk',e⟩
  .left;rw[e,KZ];exact⟨rfl,no⟩
  .have up:∀x∈N,x∈N':=λx hx=>by rw[em];exact WR _ hx
   rw[e,KZ];dsimp only;rcases GX c nd k l (λx hx=>hl x (WK _ hx)) N' v' (up n hn) (fq (.str mv)) u6 u7 u8 with⟨e2,no⟩|⟨N2,w5,w6,w7,w8,v2,⟨more2,em2⟩,mk2,e2⟩
   .left;exact⟨e2,no⟩
   .right;refine⟨N2,w5,w6,w7,w8,v2,⟨more++more2,by rw[em2,em,XI]⟩,λx hx=>?_,e2⟩;rcases WY.mp hx with rfl|hx
    .exact mk'.up λy hy=>by rw[em2];exact WR _ hy
    .exact mk2 x hx
theorem Js(c:Nc nY ps ap)(nd:ap.Nodup):∀(f F k:Nat) (N:List Gt),Tv nY ps ap N->k<=N.length->13<=f+k->f<=F->Ck nY ps ap N k->∀t4 t5 t6 t7 t8:Option R,
  (bE (eBl (aq ltO (ae 3) @A)) bC F [fq @k,fq @e,some (.d,dT N),fI (k:Int),t4,t5,t6,t7,t8]=.ok (.rt (.f,.bl false))/\Ak nY ps ap)\/∃N' u4 u5 u6 u7 u8,Tv nY ps ap N'/\Ck nY ps ap N' N'.length/\bE (eBl (aq ltO (ae 3) @A)) bC F [fq @k,fq @e,some (.d,dT N),fI (k:Int),t4,t5,t6,t7,t8]=.ok (.nx [fq @k,fq @e,some (.d,dT N'),fI (N'.length:Int),u4,u5,u6,u7,u8])
 | 0,F,k,N,v,hk,hf,_,_,t4,t5,t6,t7,t8=>by
  have:=v.iv.le;lia
 |f+1,0,k,N,v,hk,hf,hF,_,t4,t5,t6,t7,t8=>by lia
 |f+1,F+1,k,N,v,hk,hf,hF,ck,t4,t5,t6,t7,t8=>by
  have hlen:=Aj N;by_cases K4:k<N.length
  .have Ms:N[k]?=some N[k]:=iL K4;have Mn:LI (N.map λn=>D.int n.1) (k:Int)=some (.int N[k].1):=cR (by rw[W2,Ms];rfl);have TR:=GV N;have hc:(eBl (aq ltO (ae 3) @A)) [fq @k,fq @e,some (.d,dT N),fI (k:Int),t4,t5,t6,t7,t8]=.ok (true,[fq @k,fq @e,some (.d,dT N),fI (k:Int),t4,t5,t6,t7,t8]):=by
    have:(k:Int)<(N.length:Int):=by lia
    generalize dT N=G1 at hlen |-;generalize eN nY ps=NE;generalize Ky nY ap=CE;simp?[hlen,this,Y5]
   have s1:bC [fq @k,fq @e,some (.d,dT N),fI (k:Int),t4,t5,t6,t7,t8]=(sSeq cv bX) [fq @k,fq @e,some (.d,dT N),fI (k:Int),fI (N[k].1),t5,t6,t7,t8]:=by
    unfold bC;rw[ai (env':=[fq @k,fq @e,some (.d,dT N),fI (k:Int),fI (N[k].1),t5,t6,t7,t8]) (by
     generalize dT N=G1 at TR |-;generalize eN nY ps=NE;generalize Ky nY ap=CE;simp?[TR,Mn])]
   have OF:ixD @k (.int 0)=.ok (.f,.tup @h):=rfl;have s2:cv [fq @k,fq @e,some (.d,dT N),fI (k:Int),fI (N[k].1),t5,t6,t7,t8]=cU (ao 5) aP @h [fq @k,fq @e,some (.d,dT N),fI (k:Int),fI (N[k].1),t5,t6,t7,t8]:=by
    unfold cv;generalize dT N=G1;generalize eN nY ps=NE;generalize Ky nY ap=CE at OF |-;generalize aP=BB;simp?[OF]
   rw[bY,hc,KZ];dsimp only;rw[WV rfl,s1,K8,s2];rcases GX c nd (n:=N[k]) (k:Int) nY (λ_ h=>h) N v (X6 K4) t5 t6 t7 t8 with⟨e,no⟩|⟨N',u5,u6,u7,u8,v',⟨more,em⟩,mk',e⟩
   .left;rw[e,KZ];dsimp only;exact⟨rfl,no⟩
   .rw[e,KZ];dsimp only;have up:∀x∈N,x∈N':=λx hx=>by rw[em];exact WR _ hx
    have VA:N.length<=N'.length:=by rw[em,gK];lia
    have s3:bX [fq @k,fq @e,some (.d,dT N'),fI (k:Int),fI (N[k].1),u5,u6,u7,u8]=.ok (.nx [fq @k,fq @e,some (.d,dT N'),fI ((k+1:Nat):Int),fI (N[k].1),u5,u6,u7,u8]):=by
     unfold bX;generalize dT N'=G1;generalize eN nY ps=NE;generalize Ky nY ap=CE;simp?[aan,Zf]
    rw[s3,KZ];dsimp only;exact Js c nd f F (k+1) N' v' @a @a @a (λj n hj hn mv Mj=>by
     have MG:N[j]?=some n:=by rw[em,Xu @a]at hn;exact hn
     by_cases ej:j=k
     .subst ej;rw[Ms]at MG;cases MG;exact mk' mv Mj
     .exact(ck j n @a MG mv Mj).up up) _ _ _ _ _
  .have ek:k=N.length:=by lia
   have hc:(eBl (aq ltO (ae 3) @A)) [fq @k,fq @e,some (.d,dT N),fI (k:Int),t4,t5,t6,t7,t8]=.ok (false,[fq @k,fq @e,some (.d,dT N),fI (k:Int),t4,t5,t6,t7,t8]):=by
    have:¬ (k:Int)<(N.length:Int):=by lia
    generalize dT N=G1 at hlen |-;generalize eN nY ps=NE;generalize Ky nY ap=CE;simp?[hlen,this,YE]
   right;refine⟨N,t4,t5,t6,t7,t8,v,ek▸ck,?_⟩;rw[bY,hc,KZ];dsimp only;rw[W6 WT,ek]
end
theorem keysM:∀r:List Int,keysOfL (r.map D.int)=some (r.map Sum.inl)
 |[]=>rfl
 |x::r=>by
  rw[c8,keysOfL,keysM r];rfl
theorem IX(r:List Int):bR true (eM r)=true:=by
 unfold bR eM;rw[WV rfl];show(keysOfL (r.map D.int)).isSome=true;rw[keysM];rfl
theorem GY(l:List (List Int))(h:l.length<=76):sO [.lst (l.map eM)]=.ok (.f,.int ((dst [] (l.map eM)).length:Int)):=by
 have h1:(l.map eM).all (bR true)=true:=by
  rw[YB,Xr];exact λa _=>IX a
 unfold sO;dsimp only;rw[WV (by rw[h1,aU,aaQ];exact Xc h)]
section
theorem Am(r:Ra nY ap mZ):okb nY ap ps=true<->∃S,Or nY ps S ap:=by
 unfold okb;rw[Option.isNone_iff_eq_none];exact⟨λh=>C8 r h,λ⟨S,o⟩=>rF o⟩
theorem GZ(r:Ra nY ap mZ)(no:Ak nY ps ap):okb nY ap ps=false:=by
 cases h:okb nY ap ps with
 |false=>rfl
 |true=>
  obtain⟨S,o⟩:=(Am r).mp h;exact absurd o (no S)
theorem yV(v:Tv nY ps ap N){S:List (List Int)}(o:Or nY ps S ap):(N.map (·.2.1)).Nodup:=by
 refine Zc.mpr ((Zc.mp v.iv.nd).imp_of_mem λ{a b} ha hb LB e=>LB ?_);obtain⟨i,e1,e2⟩:=v.ow S o a ha;obtain⟨j,f1,f2⟩:=v.ow S o b hb;have e:a.2.1=b.2.1:=e;rw[e]at e2;have:=IV o.nd e2 f2;rw[e1,f1,this]
theorem yW(h:(N.map (·.2.1)).Nodup):Dj N:=λn hn n' Mw e=>by
 obtain⟨i,hi,ei⟩:=Yh hn;obtain⟨j,hj,ej⟩:=Yh Mw;have:i=j:=IV h (t:=n.2.1) (by rw[W2,iL hi,ei];rfl) (by rw[W2,iL hj,ej,e];rfl);subst this;rw[<-ei,<-ej]
theorem yX(r:Ra nY ap mZ)(nd:ap.Nodup)(hl:ps.length<=100)(hp:∀q∈ps,LZ q nY.length):cP [Ky nY ap,eN nY ps]=.ok (.f,.bl (okb nY ap ps)):=by
 have c:=r.nc hl hp;have v0:Tv nY ps ap (N0 ps):=⟨UH ps,λS o n hn=>by rw[f9 hn];exact⟨0,rfl,o.z⟩,⟨_,W5.mpr rfl,rfl,rfl⟩⟩
 have w:=Js c nd 13 100000 0 (N0 ps) v0 (Xw _) @a @a (λj n hj=>by lia) none none none none none;have hc:b5 @m dR (ax 0) (ps.map eP) [none,none,none]=.ok ((ps.map (·.1)).map D.int):=by
  rw[bu (r:=λp:Pl=>D.int p.1) (λenv=>∃t u w,env=[t,u,w]) ps ?_ _ ⟨none,none,none,rfl⟩]
  .rw[Xq];rfl
  .rintro p _ env ⟨t,u,w,rfl⟩;exact⟨[fI p.1,fq (.tup (p.2.1.map D.int)),fq (.tup (p.2.2.map D.int))],by unfold eP;simp![pv,seval],.f,_,rfl,_,_,_,rfl⟩
 have hlen:((ps.map (·.1)).map D.int).length<=sizeLine:=bg (by rw[aU,aU];lia);have Qx:=KC (ps.map (·.1));have NN:ixD @e (.int 1)=.ok (.f,.lst (ps.map eP)):=rfl;unfold cP ij;rw[aM (h:=by rfl)];rw[ai (env':=[fq @k,fq @e,some (.d,dT (N0 ps)),none,none,none,none,none,none]) (by
  show _=Res.ok (Out.nx [fq @k,fq @e,some (.d,.dct false [.int 0] [.tup ((ps.map (·.1)).map D.int)]),none,none,none,none,none,none]);generalize hAA:@m=AA at hc |-;clear hAA;generalize eN nY ps=NE at NN |-;generalize Ky nY ap=CE;generalize (ps.map (·.1)).map D.int=MM at hc hlen Qx |-;simp?[NN,hc,hlen,Qx];try rfl)]
 rw[ai (env':=[fq @k,fq @e,some (.d,dT (N0 ps)),fI ((0:Nat):Int),none,none,none,none,none]) (by
  generalize dT (N0 ps)=G0;simp? <;> rfl)]
 rcases w with⟨e,no⟩|⟨N',u4,u5,u6,u7,u8,v,ck,e⟩
 .rw[GZ r no,K8];unfold c7;rw[e,KZ];rfl
 .have hle:=v.iv.le;rw[ai (env':=_) (by
   unfold c7;exact e)]
  have Qr:=GY (N'.map (·.2.1)) (by rw[aU];lia);have UA:=(dst_len (N'.map (·.2.1)) [] XN).1;rw[XD,X2,Zi,aU]at UA;have hb:(((dst [] ((N'.map (·.2.1)).map eM)).length:Int)==(N'.length:Int))=okb nY ap ps:=by
   rw[Xo,Xx,Am r];constructor
   .intro q;obtain⟨q1,_⟩:=UA.mp @a;exact IW r v ck (yW q1)
   .rintro⟨S,o⟩;have:=UA.mpr ⟨yV v o,λ_ _ h=>nomatch h⟩;lia
  have TU:=Aj N';have VO:∀a b d e f g h i:Option R,nU 2 [a,b,some (.d,dT N'),d,e,f,g,h,i]=.ok ((.l .f,.lst ((N'.map (·.2.1)).map eM)),[a,b,some (.d,dT N'),d,e,f,g,h,i]):=λa b d e f g h i=>by
   rw[Xq];rfl
  unfold eK;generalize ((dst [] ((N'.map (·.2.1)).map eM)).length:Int)=L at Qr hb;generalize dT N'=G2 at TU VO |-;generalize (N'.map (·.2.1)).map eM=MM at Qr VO;generalize eN nY ps=NE;generalize Ky nY ap=CE;simp?[VO,Qr,TU,hb]
theorem Ke(ra:Ra nY ap mZ)(P:List Pl)(hl:P.length<=100)(hp:∀q∈P,LZ q nY.length)(k:Nat)(o2:O)(ho:qh o2=true)(t4:Option R):
  ∃(P':List Pl) (o3:O) (u4:Option R),P'.length<=100/\(∀q∈P',LZ q nY.length)/\qh o3=true/\dg [fq @k,fq @e,some (o2,.lst (P.map eP)),fI (k:Int),t4]=.ok (.nx [fq @k,fq @e,some (o3,.lst (P'.map eP)),fI (k:Int),u4]):=by
 have QV:(P.eraseIdx k).length<=100:=by have:=List.length_eraseIdx_le P k;lia
 have WD:∀q∈P.eraseIdx k,LZ q nY.length:=λq hq=>hp q (List.mem_of_mem_eraseIdx hq)
 have hr:=kc (P:=P.eraseIdx k) ra QV WD;have Lq:ixD @e (.int 0)=.ok (.f,.tup @h):=rfl;have ha:=GS P k hl;unfold dg;rw[show eN nY (P.eraseIdx k)=.tup [.tup @h,.lst ((P.eraseIdx k).map eP)] from rfl]at hr;generalize eN nY ps=NE at Lq |-;generalize Ky nY ap=CE at hr |-;rw[ai (env':=[fq CE,fq NE,some (o2,.lst (P.map eP)),fI (k:Int),fL ((P.eraseIdx k).map eP)]) (by
  simp?[ha,ho])]
 cases hb:okb nY ap (P.eraseIdx k) with
 |true=>
  rw[hb]at hr;refine⟨P.eraseIdx k,.f,fq (.lst ((P.eraseIdx k).map eP)),QV,WD,rfl,?_⟩;simp?[Lq,hr]
 |false=>
  rw[hb]at hr;refine⟨P,o2,fq (.lst ((P.eraseIdx k).map eP)),hl,hp,ho,?_⟩;simp?[Lq,hr,cz]
theorem wY(ra:Ra nY ap mZ):∀(k:Nat) (P:List Pl),P.length<=100->(∀q∈P,LZ q nY.length)->∀(o2:O),qh o2=true->∀t3 t4:Option R,
  ∃(P':List Pl) (o3:O) (u3 u4:Option R),qh o3=true/\cU (ao 3) dg (GU k) [fq @k,fq @e,some (o2,.lst (P.map eP)),t3,t4]=.ok (.nx [fq @k,fq @e,some (o3,.lst (P'.map eP)),u3,u4])
 | 0,P,_,_,o2,ho,t3,t4=>⟨P,o2,t3,t4,ho,rfl⟩
 |k+1,P,hl,hp,o2,ho,t3,t4=>by
  obtain⟨P1,o1,v4,Uj,Uy,ho1,e⟩:=Ke (ps:=ps) ra P hl hp k o2 ho t4;have ha:ao 3 (.int (k:Int)) [fq @k,fq @e,some (o2,.lst (P.map eP)),t3,t4]=.ok [fq @k,fq @e,some (o2,.lst (P.map eP)),fI (k:Int),t4]:=rfl;obtain⟨P',o3,u3,u4,VP,e4⟩:=wY ra k P1 Uj Uy o1 ho1 (fI (k:Int)) v4;refine⟨P',o3,u3,u4,VP,?_⟩;unfold GU;rw[bJ,ha,KZ,e,KZ];exact e4
theorem G9(ra:Ra nY ap mZ)(hl:ps.length<=100)(hp:∀q∈ps,LZ q nY.length)(hok:okb nY ap ps=true):∃P:List Pl,dF [Ky nY ap,eN nY ps]=.ok (.f,eN nY P):=by
 have hr:=kc ra hl hp;rw[hok]at hr;obtain⟨P,o3,u3,u4,VP,e⟩:=wY (ps:=ps) ra ps.length ps hl hp (.l .f) rfl none none;have Lq:ixD @e (.int 0)=.ok (.f,.tup @h):=rfl;have NN:ixD @e (.int 1)=.ok (.f,.lst (ps.map eP)):=rfl;refine⟨P,?_⟩;unfold dF oh;rw[aM (h:=by rfl)];rw[show eN nY P=.tup [.tup @h,.lst (P.map eP)] from rfl];generalize eN nY ps=NE at hr e Lq NN |-;generalize Ky nY ap=CE at hr e |-;rw[ai (env':=[fq CE,fq NE,none,none,none]) (by
  simp?[hr,Yb,cz])]
 rw[ai (env':=[fq CE,fq NE,fL (ps.map eP),none,none]) (by
  simp?[NN])]
 have Mf:jP ((ps.length:Int)-1) (-1) (-1):=by
  unfold jP;lia
 have hsz:(Builtin.Range.rangeSize ((ps.length:Int)-1) (-1) (-1)).toNat=ps.length:=by
  unfold Builtin.Range.rangeSize;split
  .lia
  .split
   .lia
   .lia
 rw[ai (env':=[fq CE,fq NE,some (o3,.lst (P.map eP)),u3,u4]) (by
  unfold jU;simp?[NN,aU,Mf,hsz,Zb];rw[wW];exact e)]
 unfold iW;simp?[Lq,VP]
end
theorem sAlt_t{x:FXE}(q:x env=some e):sAlt x g h env=g env:=by
 unfold sAlt;rw[q]
theorem An{x:FXE}(q:x env=none):sAlt x g h env=h env:=by
 unfold sAlt;rw[q]
theorem RN(F:List D->Bool)(A B:D)(l:PV.Env):oN F @p (fq A::fq B::l)=if F [A,B] then some (fq A::fq B::l) else none:=rfl
variable{B:D}
theorem Dl{A:D}(h:bB [A,B]=true):aD [A,B]=.ok (.l .f,.lst [.bl true,.bl false,.bl true]):=by
 have q:oN bB @p @l=some @l:=by rw[RN,h];rfl
 unfold aD dq;rw[aM (h:=by rfl)];rw[ai (env':=@l) (by simp?)];rw[ai (env':=[fq A,fq B,fL [.bl true,.bl false,.bl true],none,fq (.bl false)]) (by
  rw[sAlt_t q];unfold sTryL;rw[q];rfl)]
 simp?
theorem Dm{A:D}(h:bB [A,B]=false)(h2:aA [A,B]=true):aD [A,B]=.ok (.l .f,.lst [.bl false,.bl true,.bl true]):=by
 have q:oN bB @p @l=none:=by rw[RN,h];rfl
 have q2:oN aA @p @l=some @l:=by rw[RN,h2];rfl
 unfold aD dq;rw[aM (h:=by rfl)];rw[ai (env':=@l) (by simp?)];rw[ai (env':=[fq A,fq B,fL [.bl false,.bl true,.bl true],none,fq (.bl false)]) (by
  rw[An q];unfold sTryL;rw[q2];rfl)]
 simp?
theorem Dn{A d:D}(h:bB [A,B]=false)(h2:aA [A,B]=false)(e:dF [A,B]=.ok (.f,d))(hf:flatD d=false):aD [A,B]=.ok (.f,.lst [.bl false,.bl false,.bl true]):=by
 have q:oN bB @p @l=none:=by rw[RN,h];rfl
 have q2:oN aA @p @l=none:=by rw[RN,h2];rfl
 unfold aD dq;rw[aM (h:=by rfl)];rw[ai (env':=@l) (by simp?)];rw[ai (env':=[fq A,fq B,fq (.lst [.bl false,.bl false,.bl true]),none,none]) (by
  rw[An q];unfold sTryL;rw[q2];dsimp only;simp?[e,hf,sS,tq,cz])]
 simp?
theorem IY{A:D}(h:bA [A,B]=.ok (.f,.bl b)):bB [A,B] = !b:=by
 have e:(zr (eBl (cx bA @p))) [fq A,fq B,none,none,none]=.ok (!b,[fq A,fq B,none,none,none]):=by
  simp?[h]
 show(decide (2=2)&&xIf _ _ [fq A,fq B,none,none,none])=_;unfold xIf;rw[e];cases b <;> rfl
theorem Ha{A:D}(h:bA [A,B]=.bad):bB [A,B]=false:=by
 have e:(zr (eBl (cx bA @p))) [fq A,fq B,none,none,none]=.bad:=by
  simp?[h]
 show(decide (2=2)&&xIf _ _ [fq A,fq B,none,none,none])=_;unfold xIf;rw[e];rfl
theorem Hb{A:D}:aA [A,B]=hV [A,B]:=by
 have e:aQ [A,B]=hV [A,B]:=by
  show(decide (2=2)&&(oN hV @p (fq A::fq B::[])).isSome)=_;rw[RN];cases hV [A,B] <;> rfl
 show(decide (2=2)&&(oN aQ @p (fq A::fq B::[none,none,none])).isSome)=_;rw[RN,e];cases hV [A,B] <;> rfl
theorem Hd{A:D}{a:D}(ha:ixD A (.int 0)=.ok (.f,a))(hb:ixD B (.int 0)=.ok (.f,b))(h:neO a b=.ok (.f,.bl v)):hV [A,B]=v:=by
 have e:(eBl (aK neO (af (aq ixD (ae 0) @g)) (af (aq ixD (ae 1) @g)))) [fq A,fq B,none,none,none]=.ok (v,[fq A,fq B,none,none,none]):=by
  simp?[ha,hb,h]
 show(decide (2=2)&&xIf _ _ [fq A,fq B,none,none,none])=_;unfold xIf;rw[e];cases v <;> rfl
theorem Dp{A:D}{a:D}(ha:ixD A (.int 0)=.ok (.f,a))(hb:ixD B (.int 0)=.ok (.f,b))(h:neO a b=.ok (.f,.bl true)):bA [A,B]=.bad:=by
 have e:kK [A,B]=.bad:=by
  unfold kK vY;rw[aM (h:=by rfl),K8];simp?[ha,hb,h];rfl
 unfold bA jT;rw[aM (h:=by rfl)];simp?[e]
theorem yY(a b:LNN):Kv (.tup (a.map D.str)) (.tup (b.map D.str))=decide (a=b):=by
 have key:∀a b:LNN,iw (a.map D.str) (b.map D.str)=decide (a=b):=by
  intro a;induction a with
  |nil=>intro b;cases b <;> rfl
  |cons x a ih=>
   intro b;cases b with
   |nil=>rfl
   |cons y b=>
    rw[c8,c8,iw,ih b,Kv,Xo];simp
 rw[Kv,key]
theorem rM(a b:LNN):neO (.tup (a.map D.str)) (.tup (b.map D.str))=.ok (.f,.bl (!decide (a=b))):=by
 unfold neO;rw[plainD,plainD,fV,fV,yY];rfl
theorem kg{a:LNN}(h:a≠b)(x y:List D):aD [.tup [.tup (a.map D.str),.lst x],.tup [.tup (b.map D.str),.lst y]]=.ok (.l .f,.lst [.bl false,.bl true,.bl true]):=by
 have LB:=rM a b;rw[Xn h]at LB;have ha:=OQ (.tup (a.map D.str)) (.lst x);have hb:=OQ (.tup (b.map D.str)) (.lst y);exact Dm (Ha (Dp ha hb LB)) (by rw[Hb,Hd ha hb LB];rfl)
theorem rN(r:Ra nY ap mZ)(hl:ps.length<=100)(hp:∀q∈ps,LZ q nY.length):∃o,(o=.f\/o=.l .f)/\aD [Ky nY ap,eN nY ps]=.ok (o,.lst [.bl (!okb nY ap ps),.bl false,.bl true]):=by
 have hr:=kc r hl hp;have x1:=IY hr;cases hb:okb nY ap ps with
 |false=>
  rw[hb]at x1;exact⟨.l .f,.inr rfl,Dl x1⟩
 |true=>
  rw[hb]at x1;obtain⟨P,e⟩:=G9 r hl hp hb;have LB:=rM nY nY;rw[Xc rfl]at LB;exact⟨.f,.inl rfl,Dn x1 (by rw[Hb,Hd (A:=Ky nY ap) (B:=eN nY ps) (OQ _ _) (OQ _ _) LB];rfl) e (by
   unfold eN;rw[bO];simp![flatDs,flatD,Zx,ZA])⟩
theorem oJ(ns:List Int)(n:Nt nY ps r)(hl9:ps.length<=9):∃(K:List KG) (mZ:Nat),Ra nY K mZ/\K.Nodup/\bN [.lst (ns.map D.int),eN nY ps,.int 2]=.ok (.f,Ky nY (aB aJ K)):=by
 have er:=wF nY n.n3 ps @a n.po;rw[n.e]at er;have er:bo [eN nY ps,.int 8]=.ok (.f,.tup [.lst ((aB aJ r.2).map eA),.lst (r.1.map eM)]):=er;have rs:=(Ae n.n3 n.e).sort;have b0:Bd nY (aB aJ r.2):=⟨λa ha=>by have:=rs.bd a ha;have:=rs.mm;lia,rs.nm⟩
 have OM:(aB aJ r.2).length<=30:=by
  have h:=iq (ps:=ps) n.n3;rw[n.e]at h;obtain⟨_,_,h⟩:=h;rw[dJ];lia
 obtain⟨env',ef,ap,o3,t4,t5,ho,hl,bd,rfl⟩:=ml (a:=ao 4) (g:=bP) (e:=λk=>D.int ((2:Int)+(k:Int))) 3 (λi env=>∃(ap:List KG) (o3:O) (t4 t5:Option R),qh o3=true/\ap.length<=30+i/\Bd nY ap/\env=[fq @n,fq @e,fI 2,some (o3,.lst (ap.map eA)),t4,t5]) (by
  rintro k env hk ⟨ap,o3,t4,t5,ho,hl,bd,rfl⟩;have ck:=j6 ns (2+k);have Nx:=j7 (cell ns (2+k)) (((2+k:Nat)):Int) @a @a;rw[show((2+k:Nat):Int)=(2:Int)+(k:Int) by lia]at ck Nx;generalize wu (cell ns (2+k)) ((2:Int)+(k:Int))=x at Nx;refine⟨[fq @n,fq @e,fI 2,some (o3,.lst (ap.map eA)),fI ((2:Int)+(k:Int)),t5],rfl,?_⟩;unfold bP;rw[ai (env':=[fq @n,fq @e,fI 2,some (o3,.lst (ap.map eA)),fI ((2:Int)+(k:Int)),fI x]) (by simp?[ck,Nx])];cases h3:(x / 64%3==0) with
  |false=>
   refine⟨_,?_,ap,o3,fI ((2:Int)+(k:Int)),fI x,ho,by lia,bd,rfl⟩;simp?[d7 _ 64 @b @b,gL _ 3 @b,h3,cz]
  |true=>
   obtain⟨ME,bd',QV,eb⟩:=Gy nY n.n0 n.n3 ap @a bd (x / 192);obtain⟨K,mZ,ra,_,TK,et⟩:=rA nY ME @a bd';have f1:=mq ME;have f2:=mq (aB aJ K);have rk:=ra.sort;refine⟨[fq @n,fq @e,fI 2,fL ((aB aJ K).map eA),fI ((2:Int)+(k:Int)),fI x],?_,aB aJ K,.l .f,fI ((2:Int)+(k:Int)),fI x,rfl,by rw[dJ];lia,⟨λa ha=>by have:=rk.bd a ha;have:=rk.mm;lia,rk.nm⟩,rfl⟩;unfold eN;simp?[d7 _ 64 @b @b,d7 _ 192 @b @b,gL _ 3 @b,h3,eb,et,f1,f2,ho]) _ ⟨aB aJ r.2,.f,none,none,rfl,by lia,b0,rfl⟩
 obtain⟨K,mZ,ra,nd,TK,et⟩:=rA nY ap @a bd;have f2:=mq (aB aJ K);have P2:∀(x y:List D),flatD (.tup [.lst x,.lst y])=false:=λ_ _=>rfl
 have a0:∀x y:D,LI (x::y::[]) (0:Int)=some x:=λ_ _=>rfl
 refine⟨K,mZ,ra,nd,?_⟩;unfold bN dI;rw[aM (h:=by rfl)];rw[ai (env':=[fq @n,fq @e,fI 2,fq (.lst ((aB aJ r.2).map eA)),none,none]) (by
  generalize eN nY ps=NE at er |-;simp?[er,P2,a0,cz,sS,tq])]
 have e1:b6 [fq @n,fq @e,fI 2,fq (.lst ((aB aJ r.2).map eA)),none,none]=.ok (.nx [fq @n,fq @e,fI 2,some (o3,.lst (ap.map eA)),t4,t5]):=by
  unfold b6;generalize eN nY ps=NE at ef |-;simp?;rw[WV @b];try rw[show((2:Int)+(3:Int)-(2:Int)).toNat=3 by rfl]
  simp?;exact ef
 rw[ai e1];unfold cM eN Ky;simp?[a0,et,f2,ho]
theorem yZ(a:List Nat)(l:LNN):qE (.str a) (.tup (l.map D.str))=.ok (.f,.bl (!decide (a∈l))):=by
 have e:Nr (.str a) (.tup (l.map D.str))=Nr (.str a) (.lst (l.map D.str)):=rfl;show tm _ _=_;unfold tm;rw[e,wy];rfl
theorem Dq(l:LNN)(h:l.length<64):sortedT [.tup (l.map D.str)]=.ok (.l .f,.lst ((aB MP l).map D.str)):=by
 unfold sortedT;dsimp only;rw[WV (by rw[aU];exact h),cQ]
noncomputable def qs:LNN:=[[113],[113,113],[113,113,113],[113,113,113,113]]
theorem sX(l nY:LNN)(ps:List Pl):b5 (ao 0) (eBl (aK qE (ae 0) (af (aq ixD (ae 1) @g)))) (ax 0) (l.map D.str) [none,fq @e]=.ok ((l.filter λx=>!decide (x∈nY)).map D.str):=by
 refine mf (p:=λx:List Nat=>!decide (x∈nY)) (λenv=>∃t,env=[t,fq @e]) l ?_ _ ⟨none,rfl⟩;rintro x _ env ⟨t,rfl⟩;have hn:=yZ x nY;have Lq:ixD @e (.int 0)=.ok (.f,.tup @h):=rfl;refine⟨[fq (.str x),fq @e],rfl,[fq (.str x),fq @e],?_,?_⟩
 .generalize eN nY ps=NE at Lq |-;generalize D.tup @h=T at hn Lq |-;simp?[Lq,hn]
 .cases hd:decide (x∈nY) with
  |true=>exact⟨_,rfl⟩
  |false=>exact⟨.f,[fq (.str x),fq @e],rfl,_,rfl⟩
theorem wZ(h3:nY.length<=3):∃nm aZ,(qs.filter λx=>!decide (x∈nY))=nm::aZ/\nm∉nY:=by
 cases h:qs.filter λx=>!decide (x∈nY) with
 |nil=>
  rw[List.filter_eq_nil_iff]at h;have:=mx qs nY @b λx hx=>by
   have:=h x hx;simpa using this
  have e:qs.length=4:=rfl;lia
 |cons nm aZ=>
  refine⟨nm,aZ,rfl,?_⟩;have:=(X0.mp (h▸WJ:nm∈qs.filter λx=>!decide (x∈nY))).2;simpa using this
theorem Se(a b c:Bool):neO (.lst [.bl a,.bl b,.bl c]) (.lst [.bl a,.bl b,.bl c])=.ok (.f,.bl false):=by cases a <;> cases b <;> cases c <;> rfl
theorem w9(ns:List Int)(h63:ns.length<=63):∃o,Ci [.lst (ns.map D.int)]=.ok (o,.bl true):=by
 obtain⟨nY,ps,r,n,h9,en⟩:=IM ns 5;have en:dH [.lst (ns.map D.int),.int 5]=.ok (.f,eN nY ps):=en;have er:=wF nY n.n3 ps @a n.po;rw[n.e]at er;have er:bo [eN nY ps,.int 8]=.ok (.f,.tup [.lst ((aB aJ r.2).map eA),.lst (r.1.map eM)]):=er;obtain⟨K,mZ,ra,nd,eb⟩:=oJ ns n h9;have rs:=ra.sort;have ndS:(aB aJ K).Nodup:=(cB aJ K).nodup_iff.mpr nd;have c1:az [.lst (ns.map D.int),.int 1]=.ok (.f,.int (cell ns 1)):=j6 ns 1;have Nx:=j7 (cell ns 1) 40 @b @b;generalize wu (cell ns 1) 40=x at Nx;have m4:=gL x 4 @b;obtain⟨P,WE,WG,hP⟩:∃P:List Pl,P.length<=100/\(∀q∈P,LZ q nY.length)/\P=if x%4=1 then[] else ps:=by
  by_cases h:x%4=1
  .exact⟨[],by decide,(λ_ h=>nomatch h),by rw[WV h]⟩
  .exact⟨ps,by lia,n.po,by rw[W6 h]⟩
 obtain⟨oa,WH,ea⟩:=rN (ps:=P) rs WE WG;have ei:=yX (ps:=P) rs ndS WE WG;obtain⟨ob,SR,QA⟩:=rN (ps:=ps) (Ae n.n3 n.e).sort @a n.po;rw[yT n.n3 n.e]at QA;have n3:=n.n3;obtain⟨nm,aZ,eq,WB⟩:=wZ n3;have Mv:=sX qs nY ps;rw[eq]at Mv;have RO:((nm::aZ).map D.str).length<=sizeLine:=by
  rw[<-eq];exact mn (by show 4<=16777216;decide)
 have RP:=PV.flat_strs (nm::aZ);have UK:=Jo nY nm @a;have Mf:=Dq (nY++[nm]) (by rw[gK,Xb];lia);have LB:aB MP (nY++[nm])≠nY:=λz=>by
  have:=Yp List.length z;rw[dJ,gK,Xb]at this;lia
 generalize aB MP (nY++[nm])=W at Mf LB;have o1:=kg LB ((aB aJ K).map eA) (P.map eP);have o2:=kg (Yj LB) ((aB aJ K).map eA) [];have a0:∀x y:D,LI (x::y::[]) (0:Int)=some x:=λ_ _=>rfl
 have Lq:ixD @e (.int 0)=.ok (.f,.tup @h):=rfl;have OG:ixD (Ky nY (aB aJ K)) (.int 1)=.ok (.f,.lst ((aB aJ K).map eA)):=rfl;have NR:∀(x:D) (y:List D),flatD (.tup [x,.lst y])=false:=λx y=>by
  rw[bO];simp![flatDs,flatD,Zx,ZA]
 have P2:∀(x y:List D),flatD (.tup [.lst x,.lst y])=false:=λ_ _=>rfl
 have UD:flatD @e=false:=NR _ _;have UE:flatD (Ky nY (aB aJ K))=false:=NR _ _;rw[show(D.tup [.tup @h,.lst ((aB aJ K).map eA)])=Ky nY (aB aJ K) from rfl]at o2;rw[show(D.tup [.tup @h,.lst (P.map eP)])=eN nY P from rfl]at o1;rw[show Ky nY (aB aJ r.2)=.tup [.tup @h,.lst ((aB aJ r.2).map eA)] from rfl]at QA;have Ug:(D.tup [.tup @h,.lst []])=eN nY []:=rfl;have RQ:LI ((nm::aZ).map D.str) (0:Int)=some (.str nm):=cR (j:=0) rfl;generalize (nm::aZ).map D.str=SPD at Mv RO RP RQ;refine⟨.f,?_⟩;unfold Ci FH;rw[aM (h:=by rfl)];generalize D.lst (ns.map D.int)=NS at en eb c1 |-;have Qr:∃V:D,V=eN nY P:=⟨_,rfl⟩
 rw[ai (env':=[fq NS,fq @e,none,none,none,none,none,none]) (by
  generalize eN nY ps=NE at en UD |-;simp?[en,UD,sS,tq,cz])]
 rw[ai (env':=[fq NS,fq @e,fq (.tup [.tup @h,.lst ((aB aJ r.2).map eA)]),none,none,none,none,none]) (by
  generalize eN nY ps=NE at er Lq |-;simp?[er,Lq,P2,a0,sS,tq,cz])]
 generalize (aB aJ r.2).map eA=RA at QA |-;rw[ai (env':=[fq NS,fq @e,fq (.tup [.tup @h,.lst RA]),fq (Ky nY (aB aJ K)),none,none,none,none]) (by
  generalize eN nY ps=NE at eb |-;generalize Ky nY (aB aJ K)=CE at eb UE |-;simp?[eb,UE,sS,tq,cz])]
 rw[ai (env':=[fq NS,fq @e,fq (.tup [.tup @h,.lst RA]),fq (Ky nY (aB aJ K)),fI x,none,none,none]) (by
  generalize eN nY ps=NE;generalize Ky nY (aB aJ K)=CE;simp?[c1,Nx])]
 rw[ai (env':=[fq NS,fq @e,fq (.tup [.tup @h,.lst RA]),fq (Ky nY (aB aJ K)),fI x,fq (eN nY []),none,none]) (by
  rw[<-Ug];generalize eN nY ps=NE at Lq |-;generalize Ky nY (aB aJ K)=CE;simp?[Lq])]
 rw[ai (env':=[fq NS,fq @e,fq (.tup [.tup @h,.lst RA]),fq (Ky nY (aB aJ K)),fI x,fq (eN nY P),none,none]) (by
  by_cases h:x%4=1
  .have VQ:neO (.int (x%4)) (.int 1)=.ok (.f,.bl false):=by rw[h];rfl
   rw[hP,WV h];generalize eN nY []=N0;generalize eN nY ps=NE;generalize Ky nY (aB aJ K)=CE;simp![pv,seval,m4,VQ,cz]
  .have VQ:neO (.int (x%4)) (.int 1)=.ok (.f,.bl true):=by
    show Res.ok (O.f,D.bl (!(x%4==1)))=_;rw[XQ.mpr h];rfl
   rw[hP,W6 h];generalize eN nY []=N0;generalize eN nY ps=NE;generalize Ky nY (aB aJ K)=CE;simp![pv,seval,m4,VQ])]
 clear Ug hP c1 Nx en eb er;generalize hok:okb nY (aB aJ K) P=bk at ea ei;clear hok;have hq:=Se (!bk) false true;have hb3:=Se false true true;have TV:∀a b c:Bool,flatDs [.bl a,.bl b,.bl c]=true:=λ_ _ _=>rfl
 have TY:∀a b c:Bool,flatD (.lst [.bl a,.bl b,.bl c])=false:=λ_ _ _=>rfl
 rw[ai (env':=[fq NS,fq @e,fq (.tup [.tup @h,.lst RA]),fq (Ky nY (aB aJ K)),fI x,fq (eN nY P),none,none]) (by
  generalize eN nY ps=NE;generalize eN nY P=NP at ea ei |-;generalize Ky nY (aB aJ K)=CE at ea ei |-;rcases WH with rfl|rfl
  .simp?[ea,ei,hq,TV,TY,sS,tq,cz]
  .simp?[ea,ei,hq,TV,TY,sS,tq,cz])]
 clear ea ei hq WH;generalize hAA:(eBl (aK qE (ae 0) (af (aq ixD (ae 1) @g))))=AA at Mv |-;clear hAA;have Mv:b5 (ao 0) AA (ax 0) [.str [113],.str [113,113],.str [113,113,113],.str [113,113,113,113]] [none,fq @e]=.ok SPD:=Mv;rw[ai (env':=[fq NS,fq @e,fq (.tup [.tup @h,.lst RA]),fq (Ky nY (aB aJ K)),fI x,fq (eN nY P),fq (.str nm),none]) (by
  generalize eN nY ps=NE at Mv |-;generalize eN nY P=NP;generalize Ky nY (aB aJ K)=CE;simp?[Mv,RO,RP,RQ])]
 clear Mv RO RP RQ;rw[ai (env':=[fq NS,fq @e,fq (.tup [.tup @h,.lst RA]),fq (Ky nY (aB aJ K)),fI x,fq (eN nY P),fq (.str nm),fq (.tup [.tup (W.map D.str),.lst ((aB aJ K).map eA)])]) (by
  generalize eN nY ps=NE at Lq |-;generalize eN nY P=NP;generalize Ky nY (aB aJ K)=CE at OG |-;generalize D.tup @h=TN at Lq UK |-;generalize D.tup ((nY++[nm]).map D.str)=T2 at UK Mf;simp?[Lq,OG,UK,Mf])]
 clear UK Mf;rw[ai (env':=[fq NS,fq @e,fq (.tup [.tup @h,.lst RA]),fq (Ky nY (aB aJ K)),fI x,fq (eN nY P),fq (.str nm),fq (.tup [.tup (W.map D.str),.lst ((aB aJ K).map eA)])]) (by
  generalize eN nY ps=NE at Lq |-;generalize eN nY P=NP at o1 |-;generalize Ky nY (aB aJ K)=CE at o2 |-;generalize D.tup @h=TN at Lq |-;generalize D.tup (W.map D.str)=TW at o1 o2 |-;simp?[o1,o2,a0,hb3,TV,TY,sS,tq,cz])]
 have heq:eqO (.lst [.bl false,.bl false,.bl true]) (.lst [.bl false,.bl false,.bl true])=.ok (.f,.bl true):=rfl;have QA:aD [.tup [.tup @h,.lst RA],eN nY ps]=.ok (ob,.lst [.bl false,.bl false,.bl true]):=QA;generalize eN nY ps=NE at QA |-;generalize eN nY P=NP;generalize Ky nY (aB aJ K)=CE;rcases SR with rfl|rfl
 .simp?[QA,heq,TV,TY,sS,tq,cz]
 .simp?[QA,heq,TV,TY,sS,tq,cz]
end LW
namespace FIN
open PV LW
def He{l:PySem.W.OpenLaw}{w:World}{K:W.Frag}{h:UF}{mg:Str->Option Wp}{fa f:WP}{od an:Option WP}{sl:Array (Option Wp)}{oc kV dc pm cd ct:Wp}(X:K.In h)(G:h.Ns mainGlobals mg)(hfa:mg "law" = some (.ref fa))
  (aL:PySem.W.nsIn K mainGlobals "law" = some (some (.ref f))) (lL:K.lookup f=some ⟨oc,od,.func (PySem.W.fnOf "law" "law" (defArgs (top 41)) (bj (top 41)) (defScope (top 41)) .none kV dc pm an cd ct),sl⟩) (cL:PySem.W.codeIn K cd "law" = true) (kL:PySem.W.keepIn K (.ref f)=true)
  (zs:Al (λx=>PySem.W.nsIn K mainGlobals x=some none) zL) (D:Ad (λx i=>Def K mg x (top i)) dL)
  {KS:WP}(Lb:PySem.W.nsIn K mainGlobals "NetError" = some (some (.ref KS))) {Lg:WP}(Mt:PySem.W.nsIn K mainGlobals "NoCase" = some (some (.ref Lg))) {La:WP}(Md:PySem.W.nsIn K mainGlobals "NoChart" = some (some (.ref La))) {Lp:WP}(MI:PySem.W.nsIn K mainGlobals "NoNet" = some (some (.ref Lp))) {Ku:WP}(LQ:PySem.W.nsIn K mainGlobals "NoRun" = some (some (.ref Ku))) {K1:WP}(LP:PySem.W.nsIn K mainGlobals "NoStretch" = some (some (.ref K1))) {Lh:WP}(Mu:PySem.W.nsIn K mainGlobals "NoText" = some (some (.ref Lh))) {Kk:WP}(K6:PySem.W.nsIn K mainGlobals "OtherMoves" = some (some (.ref Kk))) {K5:WP}(L0:PySem.W.nsIn K mainGlobals "TooGreat" = some (some (.ref K5))) (L1:PySem.W.excIn K KS [.type "ValueError",.type "Exception",.type "BaseException",.type "object"] "ValueError.__new__" = true) (MJ:PySem.W.excIn K Ku [.type "ValueError",.type "Exception",.type "BaseException",.type "object"] "ValueError.__new__" = true) (LF:PySem.W.excIn K Kk [.type "ValueError",.type "Exception",.type "BaseException",.type "object"] "ValueError.__new__" = true) (KY:PySem.W.mroIn K Ku (.ref KS)=some true) (KI:PySem.W.mroIn K Kk (.ref KS)=some true) (KL:PySem.W.kitOne K (.ref Ku) (.type "ValueError")=some true) (KD:PySem.W.kitOne K (.ref Kk) (.type "ValueError")=some true) (Km:PySem.W.kitAny K (.ref Ku) [.ref Lg,.ref La,.ref Lp,.ref K1,.ref Lh,.ref K5]=some false) (Kl:PySem.W.kitAny K (.ref Kk) [.ref Lg,.ref La,.ref Lp,.ref K1,.ref Lh,.ref K5]=some false) (K9:PySem.W.kitOne K (.ref Ku) (.ref Ku)=some true) (KO:PySem.W.kitOne K (.ref Ku) (.ref Kk)=some false) (KP:PySem.W.kitOne K (.ref Kk) (.ref Ku)=some false) (KH:PySem.W.kitOne K (.ref Kk) (.ref Kk)=some true) (Lu:Asks K Ku) (KU:Asks K Kk):
  ∃fd:FuncData,(∀(s:WF) (v:Wp),BindsTo s fd ⟨[v],[]⟩ [("_law_script",v)])/\∀base:UF,K.In base->base.Ns mainGlobals mg->FnOk l.prog w K mg base M5 8 fa fd ["_law_script"] (yb K):=by
 have e:=hfa.symm.trans (Ym X G aL);cases e;have Z:Zs K mg:=⟨zs.imp λ_=>PySem.W.mg_none_of X G,D⟩
 have F:=y9 (st:=(top 41)) lL cL kL;have RS:=Ym X G Lb;have OH:=Ym X G Mt;have NO:=Ym X G Md;have P6:=Ym X G MI;have P7:=Ym X G LQ;have MZ:=Ym X G LP;have OI:=Ym X G Mu;have MK:=Ym X G K6;have Ni:=Ym X G L0;refine⟨PySem.W.fnOf "law" "law" (defArgs (top 41)) (bj (top 41)) (defScope (top 41)) .none kV dc pm an cd ct,λs v=>.of_eq rfl,λbase KB GB=>?_⟩;have Nj:XCl mg base "NetError" KS:=⟨_,_,_,_,Zq,uJ KB GB Lb L1⟩
 have P8:XCl mg base "NoRun" Ku:=⟨_,_,_,_,Zq,uJ KB GB LQ MJ⟩
 have ML:XCl mg base "OtherMoves" Kk:=⟨_,_,_,_,Zq,uJ KB GB K6 LF⟩
 have P9:=yx (P:=l.prog) (w:=w) (K:=K) (mg:=mg) (base:=base) Z ML;have LG:=d4 (P:=l.prog) (w:=w) (K:=K) (mg:=mg) (base:=base) Z P9;have Nk:=pD (P:=l.prog) (w:=w) (K:=K) (mg:=mg) (base:=base) Z P8;have LH:=d5 (P:=l.prog) (w:=w) (K:=K) (mg:=mg) (base:=base) Z LG;have MN:Ct l.prog w K mg base "_law_asked" 7 (spF K aD):=ma Z Nk LH OH NO P6 P7 MZ OI MK Ni KY KI KL KD Km Kl K9 KO KP KH Lu KU Nj;exact(FN Z F MN).imp (E2 w9)
end FIN
namespace PySem.W.Fast
def tw3852340205891110986:=0
def tw17011606361321642021:=0
def tw16017401964172725135:=0
def tw9145049355077454312:=0
def tw2567012286086413362:=0
def tw15009228593606891207:=0
def tw16156563786886908929:=0
def tw6917078940787318943:=0
def tw7595140131437593056:=0
def tw6649859353833517472:=0
def tw5506496818473518100:=0
def tw17568502777904270442:=0
def tw7979478195964115556:=0
def tw3058592177298035545:=0
def tw16302290003964302734:=0
def tw17636835231468150233:=0
def tw5113197766184141962:=0
def tw3709014212134079342:=0
def tw16348138364835292541:=0
def tw9322717352056720365:=0
def tw18436998266913980022:=0
def tw15627026957132928878:=0
def tw17745385201666002700:=0
def tw17222476468386691764:=0
def tw2114535273982057069:=0
def tw7222897411167164256:=0
def tw15323038498120066687:=0
def tw16856646525439822014:=0
def tw18045306429094329794:=0
def tw11263278665758614202:=0
def tw15440610429118425665:=0
def tw16818578753387242919:=0
def tw2315726380652723418:=0
def tw1070983021692607046:=0
def tw6695269011515531152:=0
def tw14914449224449178053:=0
def tw3433217249817309444:=0
def tw3202456815713250334:=0
def tw10776771424230265590:=0
def tw2633137165189339181:=0
def tw1877108198525842078:=0
def tw2610677182133070270:=0
def tw11774701050744246581:=0
def tw6142791552209939769:=0
def tw17907434780592537715:=0
def tw3189896446221106269:=0
def tw1808214268929775069:=0
def tw16478499460256217297:=0
def tw2224131118729888854:=0
def tw9790801939395719494:=0
def tw14184357365936141788:=0
def tw12816915141415948150:=0
def tw12253698661996517197:=0
def tw10057823234013217365:=0
def tw932571446739706801:=0
def tw16756852414851576791:=0
def tw1116951198281630943:=0
def tw17129209849708242840:=0
def tw15992950035368200712:=0
def tw11978738210394010728:=0
def tw2349811882965576054:=0
def tw7639840734084543191:=0
def tw10680293800273401073:=0
def tw17337388131689663258:=0
def tw8542720842779213478:=0
def tw6411518851914971053:=0
def tw1807077040800321972:=0
def tw11430283920086156512:=0
def tw9168871850946852103:=0
def tw719586147732831225:=0
def tw1140263101259400601:=0
def tw10076351786846651251:=0
def tw17649101827967890579:=0
def tw3701972204584769049:=0
def tw18283951036872070766:=0
def tw14927199675832887041:=0
def tw17785616225333659967:=0
def tw10415461509233859532:=0
def tw11210424050835586420:=0
def tw9395211656236316777:=0
def tw1335953702256004540:=0
def tw4586821177091736287:=0
def tw11378070590527116013:=0
def tw5024015596850919797:=0
def tw2860075937382407726:=0
def tw8477179616508887136:=0
def tw500452115907830538:=0
def tw17969893618033435719:=0
def tw3149170488985321012:=0
def tw7844378619435264333:=0
def tw3380415499827903666:=0
def tw9271053267527311134:=0
def tw1773360055412005710:=0
def tw10085288218639441836:=0
def tw112147696769814775:=0
def tw18290769395172529093:=0
def tw5115488890725753146:=0
def tw6851317466928926559:=0
def tw9265743775376974288:=0
def tw6145409162910402872:=0
def tw2480532602066408442:=0
def tw246598554284214790:=0
def tw16475603831840414873:=0
def tw13748641212251746009:=0
def tw12883459323449675462:=0
def tw14617929171670020735:=0
def tw17294939910887293932:=0
def tw157903924516890249:=0
def tw9642997396465196343:=0
def tw121382243247356677:=0
def tw7421356226380177305:=0
def tw6449368189804867668:=0
def tw9772424375011763803:=0
def tw11636816520750639999:=0
def tw14940584406425872271:=0
def tw14428017614209917547:=0
def tw3919455375669389631:=0
def tw12824816625081243654:=0
def tw1506954375509965615:=0
def tw12520310905168680067:=0
def tw10290960881662942031:=0
def tw11298877988010720388:=0
def tw4639097530044770908:=0
def tw17000066722637937993:=0
def tw17771914898855501850:=0
def tw7521251138180503859:=0
def tw2279587215919191615:=0
def tw4508513851753624822:=0
def tw11413070546098739293:=0
def tw1213259355572570823:=0
def tw10655921863485311833:=0
def tw15565315347556326521:=0
def tw16927331263018059970:=0
def tw16000020429663446142:=0
def tw16622845432686143120:=0
def tw3733139268962352933:=0
def tw5748280548223131955:=0
def tw6551150969629533037:=0
def tw7384165999664038854:=0
def tw6182984009020651173:=0
def tw1912216980780644991:=0
def tw18298061563624181899:=0
def tw9662332530735225968:=0
def tw10604020808102767807:=0
def tw13699491891730804208:=0
def tw9808133972012831859:=0
def tw366987578359976893:=0
def tw6159409231774492128:=0
def tw11119706991950692993:=0
def tw16415181265319396198:=0
def tw15642014096387796117:=0
def tw13527337395456179252:=0
def tw3243544139759986842:=0
def tw14539708662727462015:=0
def tw18264719102833779437:=0
def tw10293364616028425811:=0
def tw12699890230798676820:=0
def tw2494766082243226402:=0
def tw9221324193058900654:=0
def tw9789393197964309389:=0
def tw3042781670823200653:=0
def tw16281206832055188796:=0
def tw9677849494733623735:=0
def tw8160476140038045033:=0
def tw11140708958591017341:=0
def tw3201239519866447482:=0
def tw11139157821433937446:=0
def tw14056205119317001268:=0
def tw5426441337587000864:=0
def tw14751738250472428537:=0
def tw6131781251280775554:=0
def tw11185063747106362647:=0
def tw4810986563753057393:=0
def tw8634591117429544153:=0
def tw4666994995035908794:=0
def tw13443977914176105451:=0
def tw14196662429754528870:=0
def tw976653082129555094:=0
def tw5438338576794780929:=0
def tw17968338276390290975:=0
def tw15511605827871884060:=0
def tw12334945537362393751:=0
def tw11380104574959094066:=0
def tw10085124684031849480:=0
def tw7423953059017204705:=0
def tw13051999398301984388:=0
def tw10613679559149304842:=0
def tw16244356125621482606:=0
def tw4069236410841710154:=0
def tw6744556212925219136:=0
def tw7076996926374513509:=0
def tw16515250800849245308:=0
def tw8863539066841503489:=0
def tw5981527299489611112:=0
def tw4978506533727821999:=0
def tw4649330808270341278:=0
def tw4473643445471497188:=0
def tw15972872651021216068:=0
def tw1134714517734357404:=0
def tw11222486112365749310:=0
def tw10368525938933356581:=0
def tw5545204459260736739:=0
def tw3286016365773242047:=0
def tw2733220827364750407:=0
def tw18041678333215597374:=0
def tw16422914840852907256:=0
def tw16005465524146575152:=0
def tw15361563456609079977:=0
def tw14707766703975913418:=0
def tw13027186944463239723:=0
def tw8444940581665651794:=0
def tw8431996489684694807:=0
def tw6101288130147513543:=0
def tw5745861798669220798:=0
def tw5534010910469530481:=0
end PySem.W.Fast
open PySem.W
set_option maxRecDepth 100000 in
set_option maxHeartbeats 0 in
theorem PySem.Challenge.cw_netfinder_k77_nets_not_thinned_holds : PySem.Challenge.rw_netfinder_k77_nets_not_thinned.Holds := by
  w_on; o_law; k_head; (case hw => w_witness2)
  k_fill
  refine PV.walk (l := PySem.Challenge.rw_netfinder_k77_nets_not_thinned) (k := 8) (x := "_law_script") rfl rfl ⟨rfl, by decide, by decide⟩ (λw h Y => PySem.W.kIn_of Y) ?F
  case F =>
    intro w mg fa h KX G Sr
    refine' FIN.He KX G Sr ?aL ?lL ?cL ?kL ?zs ?D ?Lb ?Mt ?Md ?MI ?LQ ?LP ?Mu ?K6 ?L0 ?L1 ?MJ ?LF ?KY ?KI ?KL ?KD ?Km ?Kl ?K9 ?KO ?KP ?KH ?Lu ?KU
    (case aL => k_is); (case lL => k_is); (case cL => k_is); (case kL => k_is)
    (case zs => ((iterate 12 (refine' PV.Al.cons ?a ?_; (case a => k_is))); exact trivial))
    (case D => ((iterate 26 (refine' PV.Ad.cons (PV.E8 KX G ?a ?l ?c ?k) ?_; (case a => k_is); (case l => k_is); (case c => k_is); (case k => k_is))); exact trivial))
    (case Lb => k_is)
    (case Mt => k_is)
    (case Md => k_is)
    (case MI => k_is)
    (case LQ => k_is)
    (case LP => k_is)
    (case Mu => k_is)
    (case K6 => k_is)
    (case L0 => k_is)
    (case L1 => k_exc)
    (case MJ => k_exc)
    (case LF => k_exc)
    (case KY => k_is)
    (case KI => k_is)
    (case KL => kit_is)
    (case KD => kit_is)
    (case Km => kit_is)
    (case Kl => kit_is)
    (case K9 => kit_is)
    (case KO => kit_is)
    (case KP => kit_is)
    (case KH => kit_is)
    (case Lu => (refine' NX.Asks.mk ?a ?b ?c ?d ?e ?f ?g ?h; (case a => k_is); (case b => k_is); (case c => k_is); (case d => k_is); (case e => k_is); (case f => k_is); (case g => k_is); (case h => k_is)))
    (case KU => (refine' NX.Asks.mk ?a ?b ?c ?d ?e ?f ?g ?h; (case a => k_is); (case b => k_is); (case c => k_is); (case d => k_is); (case e => k_is); (case f => k_is); (case g => k_is); (case h => k_is)))
